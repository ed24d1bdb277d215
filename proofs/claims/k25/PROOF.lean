import PyProof.Rows.All
import Wide.All
import OpenK.AllK
import Wide.FinOn
import Lean
import PyProof.EqAt
import PyProof.EqKinds
import PyProof.TupleCall
import PySem.Challenge.RW_daysgate_k25_whole_what_comes_later
set_option Elab.async false
set_option linter.all false
set_option maxRecDepth 100000
local macro_rules | `(tactic| simp? only [$ls,*]) => do
  let b ← ("DE.Rv.list? DE.Rv.plain? DE.Rv.data DE.Rv.int? DE.Rv.str? DE.Rv.bl? DE.Rv.tup? DE.int2 DE.seqD DE.Rv.non? DE.idxD DE.sliceD DE.truthD DE.lenD DE.listD DE.intD DE.maxD DE.minD DE.toSl DE.flR DE.B1.go DE.B2.go DE.Ty.of DE.Ty.go DE.toAr DE.slN DE.runD DE.th_ok DE.of_some DE.slR_s DE.slR_v DE.slR_o DE.slR_b DE.slR_c DE.slX_s DE.slX_v DE.slX_o DE.ownI_s DE.ownI_o DE.kk_f DE.kk_cs DE.kk_nw DE.at_0 DE.at_1 DE.at_2 DE.ixN_app DE.set_app DE.emp_app DE.xR_var DE.xR_con DE.xR_bin DE.xR_neg DE.xR_not DE.xR_one DE.xR_and DE.xR_cmp DE.xR_idx DE.xR_sli DE.xR_lst DE.xR_tup DE.xR_call DE.xR_b1 DE.xR_b2 DE.xR_isc DE.xR_fld DE.xR_met DE.xR_new DE.xR_isi DE.xR_comp DE.yRet DE.yBl DE.yTmp DE.yB1 DE.yB2 DE.yNeg DE.yNot DE.yAnd DE.yC1 DE.yC2 DE.yI1 DE.yI2 DE.yS1 DE.yS2 DE.yS3 DE.yLst DE.yTup DE.yCall DE.yF1 DE.yG1 DE.yG2 DE.yIsc DE.yDat DE.yFld DE.yMt3 DE.yMt2 DE.yMt1 DE.yNew DE.yIsi DE.yComp DE.xT_not DE.xT_one DE.xT_and DE.xT_or DE.xT_cmp DE.xT_val DE.yBo DE.yTn DE.yTa DE.yTo DE.yD1 DE.yD2 DE.yTv DE.xF_yes DE.xF_test DE.xEs_nil DE.xEs_cons DE.yE1 DE.yE2 DE.xAs_nil DE.xAs_cons DE.yA1 DE.yA2 DE.xO_none DE.xO_some DE.yO DE.xI_seq DE.xI_rng DE.xI_rng2 DE.xI_enum DE.ySeq DE.yRng DE.yR1 DE.yR2 DE.yEnum DE.yVal DE.yValt DE.yValL DE.yValLt DE.yValLm DE.yX DE.yXt DE.yAv DE.yAx DE.yAxt DE.yCons DE.xE_s DE.xE_v DE.xE_o DE.xL_s DE.xL_l DE.xL_z DE.xL_o DE.xL_b DE.xS_stuck DE.oGo_some DE.xS_app DE.yApp DE.yApp2 DE.xS_ret DE.yRt DE.xS_set DE.ySet DE.xS_setT DE.yST DE.yNx DE.xS_setI DE.ySI DE.ySI2 DE.ySI3 DE.ySI4 DE.xS_ite DE.yIte DE.xS_for DE.yFor DE.xS_whl DE.xSs_nil DE.xSs_cons DE.yNext DE.yNextr DE.xFo_cons DE.yFo1 DE.yFo2 DE.yFo2r DE.xWh DE.yWh1 DE.yWh2 DE.xP_cons DE.yP1 DE.yP2 DE.yP3 DE.eE_bin DE.eL_bin DE.eA_bin DE.eA_neg DE.eX_and DE.eE_idx DE.eX_idx DE.eA_idx DE.eL_sli DE.eA_lst DE.eE_tup DE.eX_tup DE.eE_call DE.eX_call DE.eA_call DE.eE_b1 DE.eL_b1 DE.eX_b1 DE.eE_b2 DE.eL_fld DE.eE_met DE.eX_met DE.eA_met DE.eX_new DE.eA_new DE.eA_comp DE.eE_var DE.eE_con DE.eL_var DE.eX_var DE.eX_con DE.eA_var DE.eA_con DE.bAdd DE.bAdds DE.bAddtt DE.bSub DE.bMult DE.bDiv DE.bMod DE.bPow DE.cEq DE.cNe DE.cLt DE.cLe DE.cGt DE.cIs DE.cIsN DE.cIn DE.cNi DE.mIn DE.rgoV DE.rgoT DE.setIs_nil DE.setIs_cons DE.g_mapc DE.g_mapn DE.g_lenc DE.g_lenn DE.g_rep0 DE.g_reps DE.g_appc DE.g_appn DE.g_set0 DE.g_sets DE.g_last DE.g_nott DE.g_notf DE.g_omap DE.g_ift DE.g_iff DE.g_fe DE.g_and DE.g_dt DE.g_df reduceIte Int.reduceLT Int.reduceLE Nat.reduceAdd Nat.reduceSub".splitOn " ").toArray.mapM fun n => `(Lean.Parser.Tactic.simpLemma| $(Lean.mkIdent n.toName):ident)
  let c : Array (Lean.TSyntax [`Lean.Parser.Tactic.simpStar, `Lean.Parser.Tactic.simpErase, `Lean.Parser.Tactic.simpLemma]) := b.map (⟨·.raw⟩) ++ ls.getElems
  `(tactic| simp only [$c,*])
namespace L2
open PySem PySem.Spec PyProof.Rows
noncomputable abbrev Key:=Sum Int Str
noncomputable def keyIs:Key→Value→Bool
 | .inl k,v=>Value.isInt k v
 | .inr x,v=>Value.isStrOf x v
noncomputable def keyH (w:World):Key→Int
 | .inl k=>hashInt k
 | .inr x=>hashStr w x
theorem keyIs_shape:∀ {k:Key} {v:Value},keyIs k v=true→(∃ i t,k=Sum.inl i∧v=Value.int i t)∨(∃ x t,k=Sum.inr x∧v=Value.str x t)
 | .inl i,v,h=>by
  obtain ⟨t,e⟩:=Value.isInt_shape (k:=i) (v:=v) h
  exact .inl ⟨i,t,rfl,e⟩
 | .inr x,v,h=>by
  obtain ⟨t,e⟩:=Value.isStrOf_shape (x:=x) (v:=v) h
  exact .inr ⟨x,t,rfl,e⟩
theorem key_ll (a b:Int):decide ((Sum.inl a:Key)=Sum.inl b)=(a == b):=by
 by_cases e:a=b
 ·subst e;simp
 ·have h:¬ (Sum.inl a:Key)=Sum.inl b:=fun q=>e (Sum.inl.inj q)
  rw [decide_eq_false h]
  exact (beq_eq_false_iff_ne.mpr e).symm
theorem key_rr (a b:Str):decide ((Sum.inr a:Key)=Sum.inr b)=decide (a=b):=by
 by_cases e:a=b
 ·subst e;simp
 ·have h:¬ (Sum.inr a:Key)=Sum.inr b:=fun q=>e (Sum.inr.inj q)
  rw [decide_eq_false h,decide_eq_false e]
theorem key_lr (a:Int) (b:Str):decide ((Sum.inl a:Key)=Sum.inr b)=false:=decide_eq_false (fun q=>nomatch q)
theorem key_rl (a:Str) (b:Int):decide ((Sum.inr a:Key)=Sum.inl b)=false:=decide_eq_false (fun q=>nomatch q)
noncomputable def mixKind (prog:Program) (w:World):PySem.KeyKind prog w Key where
 is:=keyIs
 hash:=keyH w
 inj:=fun v a b ha hb=>by
  rcases keyIs_shape ha with ⟨i,t,rfl,rfl⟩ | ⟨x,t,rfl,rfl⟩
  ·rcases keyIs_shape hb with ⟨j,u,rfl,e⟩ | ⟨y,u,rfl,e⟩
   ·injection e with e1 _;rw [e1]
   ·exact nomatch e
  ·rcases keyIs_shape hb with ⟨j,u,rfl,e⟩ | ⟨y,u,rfl,e⟩
   ·exact nomatch e
   ·injection e with e1 _;rw [e1]
 byValue:=fun k v h=>by
  rcases keyIs_shape h with ⟨i,t,rfl,rfl⟩ | ⟨x,t,rfl,rfl⟩<;>rfl
 pyHash:=fun hv h=>by
  rcases keyIs_shape hv with ⟨i,t,rfl,rfl⟩ | ⟨x,t,rfl,rfl⟩
  ·exact wpAny_pyHash_int h
  ·exact wpAny_pyHash_str h
 eqBool:=fun hu hv h=>by
  rcases keyIs_shape hu with ⟨i,t,rfl,rfl⟩ | ⟨x,t,rfl,rfl⟩
  ·rcases keyIs_shape hv with ⟨j,u,rfl,rfl⟩ | ⟨y,u,rfl,rfl⟩
   ·rw [key_ll] at h;exact wpAny_eqBool_int h
   ·rw [key_lr] at h;exact SeqAt.EqAt.int_str i t y u _ _ _ _ h
  ·rcases keyIs_shape hv with ⟨j,u,rfl,rfl⟩ | ⟨y,u,rfl,rfl⟩
   ·rw [key_rl] at h;exact SeqAt.EqAt.str_int x t j u _ _ _ _ h
   ·rw [key_rr] at h;exact wpAny_eqBool_str h
 «strs»:=fun k x t v h=>by
  rcases keyIs_shape h with ⟨i,u,rfl,e⟩ | ⟨y,u,rfl,e⟩
  ·exact nomatch e
  ·injection e with e1 _
   subst e1
   cases v<;>rfl
end L2
namespace L2
open PySem PySem.Spec PyProof.Rows
inductive V where
 | non | bl (b:Bool) | int (i:Int) | str (x:Str) | byt (b:Array UInt8) | flt (b:UInt64) | ref (a:Addr) | ty (n:String)
 deriving DecidableEq
noncomputable def RelV:V→Value→Prop
 | .non,u=>u=Value.none
 | .bl b,u=>u=Value.bool b
 | .int i,u=>∃ t,u=Value.int i t
 | .str x,u=>∃ t,u=Value.str x t
 | .byt b,u=>∃ t,u=Value.bytes b t
 | .flt b,u=>∃ t,u=Value.float b t
 | .ref a,u=>u=Value.ref a
 | .ty n,u=>u=Value.type n
noncomputable abbrev Vals:List V→List Value→Prop:=Paired RelV
theorem Vals.length {xs:List V} {us:List Value} (r:Vals xs us):xs.length=us.length:=Paired.length r
theorem Vals.get:∀ {xs:List V} {us:List Value} {i:Nat} {x:V},Vals xs us→xs[i]?=some x→∃ u,us[i]?=some u∧RelV x u
 | _,_,_,_,.nil,e=>by simp at e
 | _,_,0,_,.cons r _,e=>by simp at e;subst e;exact ⟨_,rfl,r⟩
 | _,_,i+1,x,.cons _ t,e=>by
  obtain ⟨u,h1,h2⟩:=Vals.get (i:=i) (x:=x) t (by simpa using e)
  exact ⟨u,by simpa using h1,h2⟩
theorem Vals.set {x:V} {u:Value} (r:RelV x u):∀ {xs:List V} {us:List Value} (i:Nat),Vals xs us→Vals (xs.set i x) (us.set i u)
 | _,_,_,.nil=>.nil
 | _,_,0,.cons _ t=>.cons r t
 | _,_,i+1,.cons q t=>.cons q (Vals.set r i t)
theorem Vals.append:∀ {xs ys:List V} {us ws:List Value},Vals xs us→Vals ys ws→Vals (xs++ys) (us++ws)
 | _,_,_,_,.nil,s=>s
 | _,_,_,_,.cons r t,s=>.cons r (Vals.append t s)
theorem Vals.take:∀ {xs:List V} {us:List Value} (n:Nat),Vals xs us→Vals (xs.take n) (us.take n)
 | _,_,0,_=>.nil
 | _,_,_+1,.nil=>.nil
 | _,_,n+1,.cons r t=>.cons r (Vals.take n t)
theorem Vals.drop:∀ {xs:List V} {us:List Value} (n:Nat),Vals xs us→Vals (xs.drop n) (us.drop n)
 | _,_,0,r=>r
 | _,_,_+1,.nil=>.nil
 | _,_,n+1,.cons _ t=>Vals.drop n t
noncomputable def RelO:Option V→Option Value→Prop
 | some v,some u=>RelV v u
 | none,none=>True
 | _,_=>False
noncomputable def KV {κ:Type}:List (κ×V)→List (κ×Value)→Prop:=Paired fun (p:κ×V) (q:κ×Value)=>p.1=q.1∧RelV p.2 q.2
noncomputable def kV:Key→V
 | .inl i=>.int i
 | .inr x=>.str x
inductive HO where
 /-- a list -/
 | lst (xs:List V)
 /-- a tuple (never changes) -/
 | tup (xs:List V)
 /-- a dict whose keys are ints and texts;one whose keys are tuples of ints and texts (the empty one is both) -/
 | dK (kvs:List (Key×V)) | dT (kvs:List (List Key×V))
 /-- a set of ints: its members,its size -/
 | set (S:Int→Bool) (n:Nat)
 /-- an instance of the class at C,its dict at dx,its attributes -/
 | ins (C dx:Addr) (fs:List (Str×V))
 /-- the dict of the instance at x -/
 | own (x:Addr)
 /-- the dict of an exception -/
 | xd (fs:List (Str×V))
 /-- a bound method,f of x -/
 | met (f x:Addr)
 /-- a range object lo,lo+1,.. below hi -/
 | rng (lo hi:Int)
 /-- a thing that is known to the object (the script;a dict while a loop walks it): read,never written while it is so -/
 | frz (o:Obj) (u:HO)
 /-- a code object's table -/
 | tbl (ps:Array Value)
 /-- any other thing,by what is true of its one object (a def of one's own: SetO a S n:=HO.ext fun h=>..) -/
 | ext (φ:Heap→Prop)
noncomputable abbrev Hp:=Addr→Option HO
noncomputable def upd (H:Hp) (a:Addr) (o:HO):Hp:=fun b=>if b=a then some o else H b
theorem upd_same {H:Hp} {a:Addr} {o:HO}:upd H a o a=some o:=by unfold upd;rw [if_pos rfl]
theorem upd_ne {H:Hp} {a b:Addr} {o:HO} (h:b≠a):upd H a o b=H b:=by unfold upd;rw [if_neg h]
theorem ne_of_none {H:Hp} {a b:Addr} {o:HO} (h:H a=some o) (h':H b=none):a≠b:=by
 intro e;subst e;rw [h] at h';cases h'
section
variable (P:Program) (w:World)
noncomputable def ObjOk (H:Hp) (h:Heap) (a:Addr):HO→Prop
 | .lst xs=>xs.length≤sizeLine∧∃ (its:List Value) (n:Nat),Vals xs its∧h.get? a=some { cls:=.type "list",data:=.seq its.toArray n }
 | .tup xs=>xs.length≤sizeLine∧∃ its:List Value,Vals xs its∧IsTup h a its.toArray
 | .dK kvs=>kvs.length≤sizeLine∧(a == sysModules)=false∧∃ vs,KV kvs vs∧h.DictOf (mixKind P w) a vs
 | .dT kvs=>kvs.length≤sizeLine∧(a == sysModules)=false∧∃ xs:List (List Key×Addr×Value),
   Paired (fun (p:List Key×V) (q:List Key×Addr×Value)=>p.1=q.1∧H q.2.1=some (.tup (p.1.map kV))∧RelV p.2 q.2.2) kvs xs∧
   ∃ o es ep,h.get? a=some o∧o.ExactDict∧o.data=.dict es ep∧es.toList=xs.map (entryOfKey (tupleKind (mixKind P w)))∧(xs.map (·.1)).Nodup
 | .set S n=>h.SetOf (intKind P w) a S n
 | .ins C dx fs=>H dx=some (.own a)∧fs.length≤1000∧dx≠a∧h.get? a=some (PySem.W.instObj C dx)∧
   ∃ mA,h.Ns1 dx mA∧(∀ f,RelO (fs.lookup f) (mA f))∧PySem.Within mA (fs.map (·.1))
 | .own _=>∃ o,h.get? a=some o
 | .xd fs=>∃ mA,h.Ns1 a mA∧∀ f,RelO (fs.lookup f) (mA f)
 | .rng lo hi=>∃ t u v,h.get? a=some { cls:=.type "range",data:=.fields #[.int lo t,.int hi u,.int 1 v] }
 | .frz o u=>h.get? a=some o∧ObjOk H h a u
 | .tbl ps=>h.get? a=some { cls:=.none,data:=.fields ps }
 | .met f x=>h.get? a=some (PySem.W.methodObj (.ref f) (.ref x))
 | .ext φ=>φ h∧(∃ o,h.get? a=some o)∧∀ h1 h2:Heap,φ h1→(∀ o,h1.get? a=some o→h2.get? a=some o)→φ h2
noncomputable def HOk (H:Hp) (h:Heap):Prop:=∀ a o,H a=some o→ObjOk P w H h a o
end
section
variable {P:Program} {w:World} {H H':Hp} {h h':Heap} {a:Addr} {o:HO}
theorem ObjOk.lt (x:ObjOk P w H h a o):a < h.objs.size:=by
 cases o with
 | lst xs=>obtain ⟨_,_,_,_,e⟩:=x;exact Heap.lt_size e
 | tup xs=>obtain ⟨_,_,_,p⟩:=x;exact p.lt
 | dK kvs=>obtain ⟨_,_,_,_,o,_,_,e,_⟩:=x;exact Heap.lt_size e
 | dT kvs=>obtain ⟨_,_,_,_,o,_,_,e,_⟩:=x;exact Heap.lt_size e
 | set S n=>obtain ⟨o,_,_,_,e,_⟩:=x;exact Heap.lt_size e
 | ins C dx fs=>obtain ⟨_,_,_,e,_⟩:=x;exact Heap.lt_size e
 | own y=>obtain ⟨_,e⟩:=x;exact Heap.lt_size e
 | xd fs=>obtain ⟨_,⟨_,_,_,e,_⟩,_⟩:=x;exact Heap.lt_size e
 | rng lo hi=>obtain ⟨_,_,_,e⟩:=x;exact Heap.lt_size e
 | frz ob u=>obtain ⟨e,_⟩:=x;exact Heap.lt_size e
 | tbl ps=>exact Heap.lt_size (show h.get? a=some _ from x)
 | met f y=>exact Heap.lt_size (show h.get? a=some _ from x)
 | ext φ=>obtain ⟨_,⟨_,e⟩,_⟩:=x;exact Heap.lt_size e
theorem Paired.mapP {α β:Type} {F G:α→β→Prop}:∀ {l₁:List α} {l₂:List β},Paired F l₁ l₂→(∀ a b,F a b→G a b)→Paired G l₁ l₂
 | _,_,.nil,_=>.nil
 | _,_,.cons r t,f=>.cons (f _ _ r) (Paired.mapP t f)
theorem ObjOk.stay (x:ObjOk P w H h a o) (k:∀ b u,(b=a∨H b=some (.own a))→h.get? b=some u→h'.get? b=some u)
  (ho:∀ b,H b=some (.own a)→H' b=some (.own a)) (ht:∀ b xs,H b=some (.tup xs)→H' b=some (.tup xs)):ObjOk P w H' h' a o:=by
 induction o with
 | lst xs=>obtain ⟨z,its,n,r,e⟩:=x;exact ⟨z,its,n,r,k _ _ (.inl rfl) e⟩
 | tup xs=>obtain ⟨z,its,r,ob,e,c⟩:=x;exact ⟨z,its,r,ob,k _ _ (.inl rfl) e,c⟩
 | dK kvs=>obtain ⟨z,y,vs,r,ob,es,ep,e,c⟩:=x;exact ⟨z,y,vs,r,ob,es,ep,k _ _ (.inl rfl) e,c⟩
 | dT kvs=>
  obtain ⟨z,y,xs,r,ob,es,ep,e,c⟩:=x
  exact ⟨z,y,xs,Paired.mapP r fun p q z=>⟨z.1,ht _ _ z.2.1,z.2.2⟩,ob,es,ep,k _ _ (.inl rfl) e,c⟩
 | set S n=>obtain ⟨ob,es,ep,t,e,c⟩:=x;exact ⟨ob,es,ep,t,k _ _ (.inl rfl) e,c⟩
 | ins C dx fs=>
  obtain ⟨d,z,ne,e,mA,⟨od,es,ep,e2,c⟩,r⟩:=x
  exact ⟨ho _ d,z,ne,k _ _ (.inl rfl) e,mA,⟨od,es,ep,k _ _ (.inr d) e2,c⟩,r⟩
 | own y=>obtain ⟨ob,e⟩:=x;exact ⟨ob,k _ _ (.inl rfl) e⟩
 | xd fs=>obtain ⟨mA,⟨od,es,ep,e,c⟩,r⟩:=x;exact ⟨mA,⟨od,es,ep,k _ _ (.inl rfl) e,c⟩,r⟩
 | rng lo hi=>obtain ⟨t,u,v,e⟩:=x;exact ⟨t,u,v,k _ _ (.inl rfl) e⟩
 | frz ob u ih=>obtain ⟨e,q⟩:=x;exact ⟨k _ _ (.inl rfl) e,ih q⟩
 | tbl ps=>
  have e:h.get? a=some { cls:=.none,data:=.fields ps }:=x
  show h'.get? a=some { cls:=.none,data:=.fields ps }
  exact k a _ (.inl rfl) e
 | met f y=>
  have e:h.get? a=some (PySem.W.methodObj (.ref f) (.ref y)):=x
  show h'.get? a=some (PySem.W.methodObj (.ref f) (.ref y))
  exact k a _ (.inl rfl) e
 | ext φ=>obtain ⟨p,⟨o,e⟩,st⟩:=x;exact ⟨st _ _ p fun o q=>k _ _ (.inl rfl) q,⟨o,k _ _ (.inl rfl) e⟩,st⟩
theorem HOk.lt (x:HOk P w H h) (e:H a=some o):a < h.objs.size:=(x a o e).lt
theorem HOk.fresh (x:HOk P w H h) (e:h.objs.size≤a):H a=none:=by
 cases q:H a with
 | none=>rfl
 | some u=>exact absurd (Nat.lt_of_lt_of_le (x.lt q) e) (Nat.lt_irrefl _)
theorem HOk.kept (x:HOk P w H h) (k:∀ b u,h.get? b=some u→h'.get? b=some u):HOk P w H h':=fun a o e=>
 (x a o e).stay (fun b u _ q=>k b u q) (fun _ q=>q) fun _ _ q=>q
theorem HOk.laid (x:HOk P w H h) (k:∀ b u,h.get? b=some u→h'.get? b=some u) (hp:h.objs.size≤a) (new:ObjOk P w (upd H a o) h' a o):HOk P w (upd H a o) h':=fun b u e=>by
 have hn:=x.fresh hp
 by_cases hb:b=a
 ·subst hb;rw [upd_same] at e;cases e;exact new
 ·rw [upd_ne hb] at e
  exact (x b u e).stay (fun c v _ q=>k c v q) (fun c q=>by rw [upd_ne (ne_of_none q hn)];exact q) fun c xs q=>by rw [upd_ne (ne_of_none q hn)];exact q
end
noncomputable def Rd (H:Hp) (a:Addr) (u:HO):Prop:=H a=some u∨∃ o,H a=some (.frz o u)
theorem Rd.ok {P:Program} {w:World} {H:Hp} {h:Heap} {a:Addr} {u:HO} (r:Rd H a u) (x:HOk P w H h):ObjOk P w H h a u:=by
 rcases r with r | ⟨o,r⟩
 ·exact x a u r
 ·obtain ⟨_,q⟩:=x a _ r
  exact q
noncomputable def Mut:Option HO→Prop
 | some (.lst _)=>True
 | some (.dK _)=>True
 | some (.dT _)=>True
 | some (.set _ _)=>True
 | some (.ins _ _ _)=>True
 | some (.ext _)=>True
 | _=>False
section
variable {P:Program} {w:World} {H:Hp} {h h':Heap} {x e:Addr} {o':HO}
theorem HOk.write (ok:HOk P w H h) (mu:Mut (H x)) (he:e=x∨H e=some (.own x)) (k:∀ b u,b≠e→h.get? b=some u→h'.get? b=some u) (heo:∃ u,h'.get? e=some u)
  (new:ObjOk P w (upd H x o') h' x o'):HOk P w (upd H x o') h':=fun b u q=>by
 have nown:∀ c y,H c=some (.own y)→c≠x:=fun c y r z=>by subst z;rw [r] at mu;exact mu
 have ntup:∀ c xs,H c=some (.tup xs)→c≠x:=fun c xs r z=>by subst z;rw [r] at mu;exact mu
 by_cases hb:b=x
 ·subst hb;rw [upd_same] at q;cases q;exact new
 ·rw [upd_ne hb] at q
  by_cases hbe:b=e
  ·have q':H b=some (.own x):=by
    rcases he with z | z
    ·exact absurd (hbe.trans z) hb
    ·rw [hbe];exact z
   rw [q] at q';cases q'
   obtain ⟨v,hv⟩:=heo
   exact ⟨v,by rw [hbe];exact hv⟩
  ·refine (ok b u q).stay (fun c v hc r=>k c v ?_ r) (fun c r=>by rw [upd_ne (nown c b r)];exact r) fun c xs r=>by rw [upd_ne (ntup c xs r)];exact r
   rcases hc with rfl | hc
   ·exact hbe
   ·rintro rfl
    rcases he with z | z
    ·exact nown c b hc z
    ·rw [hc] at z;cases z;exact hb rfl
end
structure Un (fs ex:List Addr) (H H':Hp) (h h':Heap):Prop where
 keep:∀ b o,h.get? b=some o→H b=none→b∉fs→b∉ex→h'.get? b=some o
 slot:∀ b o,h.get? b=some o→H b=none→b∈fs→b∉ex→∃ sl,h'.get? b=some { o with slots:=sl }
 free:∀ b o,h.get? b=some o→H b=none→b∉ex→H' b=none
 there:∀ b o,h.get? b=some o→b∉ex→∃ o',h'.get? b=some o'
 tups:∀ b xs,H b=some (.tup xs)→H' b=some (.tup xs)
 frzs:∀ b o u,H b=some (.frz o u)→H' b=some (.frz o u)
 tbls:∀ b ps,H b=some (.tbl ps)→∃ more,H' b=some (.tbl (ps++more))
section
variable {fs fs' ex ex':List Addr} {H H1 H2:Hp} {h h1 h2 h':Heap} {a x e:Addr} {o:HO}
theorem Un.any (u:Un fs ex H H1 h h1) {b:Addr} {ob:Obj} (q:h.get? b=some ob) (n:H b=none) (hx:b∉ex):∃ sl,h1.get? b=some { ob with slots:=sl }:=by
 by_cases hb:b∈fs
 ·exact u.slot b ob q n hb hx
 ·exact ⟨ob.slots,u.keep b ob q n hb hx⟩
theorem Un.kept (k:∀ b u,h.get? b=some u→h'.get? b=some u):Un fs ex H H h h':=
 ⟨fun b ob q _ _ _=>k b ob q,fun b ob q _ _ _=>⟨ob.slots,k b ob q⟩,fun _ _ _ n _=>n,fun b ob q _=>⟨ob,k b ob q⟩,fun _ _ q=>q,fun _ _ _ q=>q,fun _ ps q=>⟨#[],by rw [q];simp⟩⟩
theorem Un.refl:Un fs ex H H h h:=Un.kept fun _ _ q=>q
theorem Un.laid (k:∀ b u,h.get? b=some u→h'.get? b=some u) (hp:h.objs.size≤a) (hn:H a=none):Un fs ex H (upd H a o) h h' where
 keep:=fun b u q _ _ _=>k b u q
 slot:=fun b u q _ _ _=>⟨u.slots,k b u q⟩
 free:=fun b u q n _=>by rw [upd_ne (Nat.ne_of_lt (Nat.lt_of_lt_of_le (Heap.lt_size q) hp))];exact n
 there:=fun b u q _=>⟨u,k b u q⟩
 tups:=fun b xs q=>by rw [upd_ne (ne_of_none q hn)];exact q
 frzs:=fun b u xs q=>by rw [upd_ne (ne_of_none q hn)];exact q
 tbls:=fun b ps q=>⟨#[],by rw [upd_ne (ne_of_none q hn),q];simp⟩
theorem Un.write (mu:Mut (H x)) (he:e=x∨H e=some (.own x)) (k:∀ b u,b≠e→h.get? b=some u→h'.get? b=some u) (heo:∃ u,h'.get? e=some u):Un fs ex H (upd H x o) h h':=by
 have hx:∀ b,H b=none→b≠x:=fun b n z=>by subst z;rw [n] at mu;exact mu
 have hb:∀ b,H b=none→b≠e:=fun b n z=>by
  subst z
  rcases he with r | r
  ·exact hx b n r
  ·rw [n] at r;cases r
 have hm:∀ b u,H b=some u→¬ Mut (some u)→b≠x:=fun b u q nm z=>by subst z;rw [q] at mu;exact nm mu
 refine ⟨fun b u q n _ _=>k b u (hb b n) q,fun b u q n _ _=>⟨u.slots,k b u (hb b n) q⟩,fun b u q n _=>by rw [upd_ne (hx b n)];exact n,fun b u q _=>?_,
  fun b xs q=>by rw [upd_ne (hm b _ q fun z=>z)];exact q,fun b u xs q=>by rw [upd_ne (hm b _ q fun z=>z)];exact q,fun b ps q=>⟨#[],by rw [upd_ne (hm b _ q fun z=>z),q];simp⟩⟩
 by_cases hbe:b=e
 ·subst hbe;exact heo
 ·exact ⟨u,k b u hbe q⟩
end
noncomputable def trk (h:Heap) (H:Hp):List Addr:=(List.range h.objs.size).filter fun a=>(H a).isSome
noncomputable def hidT (h:Heap) (H:Hp):Heap:=PySem.W.hideAll h (trk h H)
theorem hidT_size (h:Heap) (H:Hp):(hidT h H).objs.size=h.objs.size:=PySem.W.hideAll_size _ _
theorem hidT_get {h:Heap} {H:Hp} {b:Addr} {o:Obj} (e:h.get? b=some o) (n:H b=none):(hidT h H).get? b=some o:=
 PySem.W.hideAll_get _ e fun hm=>by
  have q:(H b).isSome=true:=(List.mem_filter.mp hm).2
  rw [n] at q;simp at q
theorem of_hidT {h:Heap} {H:Hp} {b:Addr} {o:Obj} (e:(hidT h H).get? b=some o):h.get? b=some o∧H b=none:=by
 have e':h.get? b=some o:=PySem.W.of_hideAll (trk h H) e
 refine ⟨e',?_⟩
 cases q:H b with
 | none=>rfl
 | some x=>
  have hm:b∈trk h H:=List.mem_filter.mpr ⟨List.mem_range.mpr (Heap.lt_size e'),by simp [q]⟩
  have z:(hidT h H).get? b=none:=PySem.W.hideAll_none (trk h H) hm
  rw [z] at e;cases e
end L2
namespace L2
open PySem PySem.Spec PyProof.Rows
structure Mod (K:PySem.W.Frag) (mg:Str→Option Value) (base:Heap):Prop where
 kin:K.In base
 glob:base.Ns mainGlobals mg
 blt:∃ mb,base.Ns builtinsNs mb∧∀ x:Str,x≠"__name__"→mb x=bootBuiltins x
 nolimit:base.NoLimit
structure Cx where
 prog:Program
 w:World
 K:PySem.W.Frag
 mg:Str→Option Value
 base:Heap
 A:Around
 N:List Str
 s₀:Shared
 H₀:Hp
 env:Env
 outer:List Env
 stack:List Env
 ex:List Addr
 fn:Str→Bool
 calm:Bool
 pn:List (Addr×Obj)
 xe:Value→Shared→Prop
noncomputable def frs (l:List Env):List Addr:=l.filterMap (·.frame)
noncomputable abbrev Cx.fs (X:Cx):List Addr:=frs X.outer
noncomputable def Vis (sc:Scope) (x:Str):Prop:=sc.names.lookup x=some .local∨sc.names.lookup x=some .cell∨sc.names.lookup x=some .free
noncomputable def Loc (sc:Scope) (x:Str):Prop:=sc.names.lookup x=some .local∨sc.names.lookup x=some .cell
noncomputable def Look (env:Env) (h:Heap) (m:Str→Option Value) (x:Str) (u:Value):Prop:=
 (env.kindOf x=some .local∧m x=some u)∨((env.kindOf x=some .cell∨env.kindOf x=some .free)∧∃ c,env.cells.lookup x=some c∧h.IsCell c (some u))
structure Cx.Ok (X:Cx):Prop where
 mod:Mod X.K X.mg X.base
 kind:X.env.scope.kind=.function
 glob:X.env.globals=mainGlobals
 blt:X.env.builtins=builtinsNs
 above:X.s₀.heap.objs.size≤X.env.locals
 inj:∀ x y c,X.env.cells.lookup x=some c→X.env.cells.lookup y=some c→x=y
 has:∀ x,(X.env.kindOf x=some .cell∨X.env.kindOf x=some .free)→∃ c,X.env.cells.lookup x=some c
 cab:∀ x c,X.fn x=true→X.env.cells.lookup x=some c→X.s₀.heap.objs.size≤c
 hd:X.calm=true→X.A.handled=none
 frames:X.A.frames=some X.stack
 stk:X.stack=X.outer∨(X.stack=X.env::X.outer∧X.env.frame=some X.env.locals)
 exf:∀ b∈X.ex,b≠X.env.locals∧∀ x c,X.env.cells.lookup x=some c→c≠b
 bs:∀ b o,X.base.get? b=some o→X.s₀.heap.get? b=some o∧X.H₀ b=none
 bsz:X.base.objs.size≤X.s₀.heap.objs.size
 noex:∀ b o,X.base.get? b=some o→b∉X.ex
 exfs:∀ b∈X.ex,b∉X.fs
 funs:X.s₀.heap.FunFrames X.base X.outer
 frf:∀ b∈X.fs,X.H₀ b=none
structure Inv (X:Cx) (pins:List (Addr×Obj)) (σ:List (Option V)) (H:Hp) (s:Shared):Prop where
 ok:X.Ok
 os:s.os=X.s₀.os
 bare:AllBare s.gens
 base:Un X.fs X.ex X.H₀ H X.s₀.heap s.heap
 loc:∃ m,s.heap.Ns X.env.locals m∧∀ (i:Nat) (x:Str) (v:V),X.N[i]?=some x→σ[i]?=some (some v)→Vis X.env.scope x→∃ u,RelV v u∧Look X.env s.heap m x u
 cell:∀ x c,X.env.cells.lookup x=some c→∃ v,s.heap.IsCell c v
 free:H X.env.locals=none
 freeC:∀ x c,X.env.cells.lookup x=some c→H c=none
 pin:∀ p∈X.pn++pins,s.heap.get? p.1=some p.2∧H p.1=none∧p.1≠X.env.locals∧p.1∉X.fs∧∀ v,p.2.data≠.cell v
 hok:HOk X.prog X.w H s.heap
 len:σ.length=X.N.length
section
variable {X:Cx} {pins:List (Addr×Obj)} {σ:List (Option V)} {H H':Hp} {s:Shared} {h':Heap}
theorem Cx.Ok.nofr (ok:X.Ok) {b:Addr} {o:Obj} (e:X.base.get? b=some o):b∉X.fs:=fun hb=>by
 have:=(ok.funs.mem hb).1
 rw [e] at this;cases this
theorem Inv.bs (I:Inv X pins σ H s):∀ b o,X.base.get? b=some o→s.heap.get? b=some o∧H b=none:=fun b o e=>
 ⟨I.base.keep b o (I.ok.bs b o e).1 (I.ok.bs b o e).2 (I.ok.nofr e) (I.ok.noex b o e),I.base.free b o (I.ok.bs b o e).1 (I.ok.bs b o e).2 (I.ok.noex b o e)⟩
theorem Inv.bk (I:Inv X pins σ H s):∀ b o,X.base.get? b=some o→s.heap.get? b=some o:=fun b o e=>(I.bs b o e).1
theorem Inv.mod (I:Inv X pins σ H s):Mod X.K X.mg X.base:=I.ok.mod
theorem Inv.kIn (I:Inv X pins σ H s):X.K.In s.heap:=I.ok.mod.kin.keeps I.bk
theorem Inv.lt (I:Inv X pins σ H s):X.env.locals < s.heap.objs.size:=let ⟨_,hn,_⟩:=I.loc;hn.lt
theorem Inv.sz (I:Inv X pins σ H s):X.s₀.heap.objs.size≤s.heap.objs.size:=Nat.le_trans I.ok.above (Nat.le_of_lt I.lt)
theorem Inv.nofs (I:Inv X pins σ H s) {a:Addr} (h:s.heap.objs.size≤a):a∉X.fs:=fun hb=>by
 obtain ⟨_,o,ho,_⟩:=I.ok.funs.mem hb
 exact absurd (Nat.lt_of_lt_of_le (Heap.lt_size ho) (Nat.le_trans I.sz h)) (Nat.lt_irrefl _)
theorem Inv.cne (I:Inv X pins σ H s):∀ x c,X.env.cells.lookup x=some c→c≠X.env.locals:=fun x c e z=>by
 obtain ⟨v,o,ho,hd⟩:=I.cell x c e
 obtain ⟨m,⟨o',es,ep,ho',hd',_⟩,_⟩:=I.loc
 rw [z,ho'] at ho;cases ho;rw [hd'] at hd;cases hd
theorem Inv.funs (I:Inv X pins σ H s):s.heap.FunFrames X.base X.outer:=by
 have all:∀ (l:List Env),(∀ b∈frs l,b∈X.fs)→X.s₀.heap.FunFrames X.base l→s.heap.FunFrames X.base l:=by
  intro l
  induction l with
  | nil=>intro _ _;trivial
  | cons env r ih=>
   intro hs hl
   obtain ⟨hk,⟨L,o,hf,hn,ho,hd⟩,hr⟩:=hl
   have hL:L∈X.fs:=hs L (by unfold frs;rw [List.filterMap_cons,hf];exact List.mem_cons_self)
   obtain ⟨sl,e⟩:=I.base.slot L o ho (I.ok.frf L hL) hL fun z=>I.ok.exfs L z hL
   exact ⟨hk,⟨L,_,hf,hn,e,hd⟩,ih (fun b hb=>hs b (by unfold frs;rw [List.filterMap_cons,hf];exact List.mem_cons_of_mem _ hb)) hr⟩
 exact all X.outer (fun _ hb=>hb) I.ok.funs
theorem Inv.stack (I:Inv X pins σ H s):s.heap.FunFrames X.base X.stack:=by
 rcases I.ok.stk with e | ⟨e,hf⟩
 ·rw [e];exact I.funs
 ·rw [e]
  obtain ⟨m,hn,_⟩:=I.loc
  refine .cons (by rw [I.ok.kind];decide) hf hn ?_ I.funs
  exact Heap.get?_none_of_le (Nat.le_trans I.ok.bsz I.ok.above)
theorem Inv.stkSub (I:Inv X pins σ H s):∀ b∈frs X.stack,b∈X.env.locals::X.fs:=fun b hb=>by
 rcases I.ok.stk with e | ⟨e,hf⟩
 ·rw [e] at hb;exact List.mem_cons_of_mem _ hb
 ·rw [e] at hb
  unfold frs at hb
  rw [List.filterMap_cons,hf] at hb
  exact hb
theorem Inv.stkFree (I:Inv X pins σ H s):∀ b∈frs X.stack,H b=none:=fun b hb=>by
 rcases List.mem_cons.mp (I.stkSub b hb) with e | hb
 ·rw [e];exact I.free
 ·obtain ⟨_,o,ho,_⟩:=I.ok.funs.mem hb
  exact I.base.free b o ho (I.ok.frf b hb) fun z=>I.ok.exfs b z hb
theorem Inv.step {g':Array GenState} {t':Nat} {d':Drawn} {ch:List Addr} (I:Inv X pins σ H s)
  (hch:∀ b∈ch,(b∈X.ex∨X.s₀.heap.objs.size≤b)∧b≠X.env.locals∧(∀ x c,X.env.cells.lookup x=some c→c≠b)∧∀ p∈X.pn++pins,p.1≠b)
  (keep:∀ b o,b≠X.env.locals→b∉X.fs→b∉ch→s.heap.get? b=some o→H b=none→h'.get? b=some o)
  (slot:∀ b o,b≠X.env.locals→b∈X.fs→b∉ch→s.heap.get? b=some o→H b=none→∃ sl,h'.get? b=some { o with slots:=sl }) (free:∀ b o,b∉ch→s.heap.get? b=some o→H b=none→H' b=none)
  (there:∀ b o,b∉ch→s.heap.get? b=some o→∃ o',h'.get? b=some o')
  (tups:∀ b xs,H b=some (.tup xs)→H' b=some (.tup xs)) (frzs:∀ b o u,H b=some (.frz o u)→H' b=some (.frz o u)) (tbls:∀ b ps,H b=some (.tbl ps)→∃ more,H' b=some (.tbl (ps++more)))
  (ns:∀ m,s.heap.Ns X.env.locals m→h'.Ns X.env.locals m) (hok:HOk X.prog X.w H' h') (hg:AllBare g') :
  Inv X pins σ H' { s with heap:=h',gens:=g',drawn:=d',toks:=t' }:=by
 have neL:∀ b o,X.s₀.heap.get? b=some o→b≠X.env.locals:=fun b o e=>Nat.ne_of_lt (Nat.lt_of_lt_of_le (Heap.lt_size e) I.ok.above)
 have neC:∀ b o,X.s₀.heap.get? b=some o→b∉X.ex→b∉ch:=fun b o e hx hb=>by
  rcases (hch b hb).1 with z | z
  ·exact hx z
  ·exact absurd (Nat.lt_of_lt_of_le (Heap.lt_size e) z) (Nat.lt_irrefl _)
 have cellK:∀ x c,X.env.cells.lookup x=some c→∀ v,s.heap.IsCell c v→h'.IsCell c v:=fun x c e v ⟨o,ho,hd⟩=>by
  have nch:c∉ch:=fun z=>(hch c z).2.2.1 x c e rfl
  by_cases hc:c∈X.fs
  ·obtain ⟨sl,q⟩:=slot c o (I.cne x c e) hc nch ho (I.freeC x c e)
   exact ⟨_,q,hd⟩
  ·exact ⟨o,keep c o (I.cne x c e) hc nch ho (I.freeC x c e),hd⟩
 refine ⟨I.ok,I.os,hg,⟨fun b o e n hb hx=>?_,fun b o e n hb hx=>?_,fun b o e n hx=>?_,fun b o e hx=>?_,fun b xs e=>tups b xs (I.base.tups b xs e),fun b o xs e=>frzs b o xs (I.base.frzs b o xs e),fun b ps e=>?_⟩,?_,fun x c e=>?_,?_,fun x c e=>?_,fun p hp=>?_,hok,I.len⟩
 ·exact keep b o (neL b o e) hb (neC b o e hx) (I.base.keep b o e n hb hx) (I.base.free b o e n hx)
 ·obtain ⟨sl,e1⟩:=I.base.slot b o e n hb hx
  obtain ⟨sl',e2⟩:=slot b _ (neL b o e) hb (neC b o e hx) e1 (I.base.free b o e n hx)
  exact ⟨sl',e2⟩
 ·obtain ⟨o',e1⟩:=I.base.there b o e hx
  exact free b o' (neC b o e hx) e1 (I.base.free b o e n hx)
 ·obtain ⟨o',e1⟩:=I.base.there b o e hx
  exact there b o' (neC b o e hx) e1
 ·obtain ⟨m1,e1⟩:=I.base.tbls b ps e
  obtain ⟨m2,e2⟩:=tbls b _ e1
  exact ⟨m1++m2,by rw [e2,Array.append_assoc]⟩
 ·obtain ⟨m,hn,hl⟩:=I.loc
  refine ⟨m,ns m hn,fun i x v e1 e2 e3=>?_⟩
  obtain ⟨u,r,l⟩:=hl i x v e1 e2 e3
  refine ⟨u,r,?_⟩
  rcases l with l | ⟨k,c,e,z⟩
  ·exact .inl l
  ·exact .inr ⟨k,c,e,cellK x c e _ z⟩
 ·obtain ⟨v,z⟩:=I.cell x c e
  exact ⟨v,cellK x c e v z⟩
 ·obtain ⟨m,⟨o,_,_,ho,_⟩,_⟩:=I.loc
  exact free _ o (fun z=>(hch _ z).2.1 rfl) ho I.free
 ·obtain ⟨v,o,ho,hd⟩:=I.cell x c e
  exact free c o (fun z=>(hch c z).2.2.1 x c e rfl) ho (I.freeC x c e)
 ·obtain ⟨e,n,ne,nf,d⟩:=I.pin p hp
  have nch:p.1∉ch:=fun z=>(hch p.1 z).2.2.2 p hp rfl
  exact ⟨keep p.1 p.2 ne nf nch e n,free p.1 p.2 nch e n,ne,nf,d⟩
theorem Inv.un {t':Nat} (I:Inv X pins σ H s) (u:Un X.fs [] H H' s.heap h') (hok:HOk X.prog X.w H' h'):Inv X pins σ H' { s with heap:=h',toks:=t' }:=by
 obtain ⟨m,⟨o,es,ep,ho,r⟩,_⟩:=id I.loc
 obtain ⟨sl,hL⟩:=u.any ho I.free (by simp)
 exact I.step (g':=s.gens) (d':=s.drawn) (ch:=[]) (fun _ z=>nomatch z) (fun b o _ hb _ e n=>u.keep b o e n hb (by simp)) (fun b o _ hb _ e n=>u.slot b o e n hb (by simp)) (fun b o _ e n=>u.free b o e n (by simp)) (fun b o _ e=>u.there b o e (by simp)) u.tups u.frzs u.tbls (fun m' hm=>by
  obtain ⟨o',es',ep',ho',r'⟩:=hm
  rw [ho] at ho';cases ho'
  exact ⟨_,es',ep',hL,r'⟩) hok I.bare
theorem Inv.call {g':Array GenState} {t':Nat} {d':Drawn} {ch:List Addr} (I:Inv X pins σ H s) (u:Un (frs X.stack) ch H H' s.heap h') (hok:HOk X.prog X.w H' h') (hg:AllBare g')
  (hch:∀ b∈ch,(b∈X.ex∨X.s₀.heap.objs.size≤b)∧b≠X.env.locals∧(∀ x c,X.env.cells.lookup x=some c→c≠b)∧∀ p∈X.pn++pins,p.1≠b) :
  Inv X pins σ H' { s with heap:=h',gens:=g',drawn:=d',toks:=t' }:=by
 obtain ⟨m,⟨o,es,ep,ho,r⟩,_⟩:=id I.loc
 obtain ⟨sl,hL⟩:=u.any ho I.free fun z=>(hch _ z).2.1 rfl
 exact I.step (ch:=ch) hch (fun b o hL hb hc e n=>u.keep b o e n (fun z=>(List.mem_cons.mp (I.stkSub b z)).elim hL hb) hc) (fun b o _ _ hc e n=>u.any e n hc) (fun b o hc e n=>u.free b o e n hc) (fun b o hc e=>u.there b o e hc) u.tups u.frzs u.tbls (fun m' hm=>by
  obtain ⟨o',es',ep',ho',r'⟩:=hm
  rw [ho] at ho';cases ho'
  exact ⟨_,es',ep',hL,r'⟩) hok hg
theorem Inv.turned {t':Nat} {it:Addr} (I:Inv X pins σ H s) (k:∀ b o,b≠it→s.heap.get? b=some o→h'.get? b=some o) (hn:H it=none) (hL:it≠X.env.locals)
  (h1:it∈X.ex∨X.s₀.heap.objs.size≤it) (h2:∀ x c,X.env.cells.lookup x=some c→c≠it) (h3:∀ p∈X.pn++pins,p.1≠it):Inv X pins σ H { s with heap:=h',toks:=t' }:=by
 have nit:∀ b u,H b=some u→b≠it:=fun b u e z=>by rw [z,hn] at e;cases e
 refine I.step (g':=s.gens) (d':=s.drawn) (ch:=[it]) (fun b hb=>?_) (fun b o _ _ hc e _=>k b o (fun z=>hc (by simp [z])) e) (fun b o _ _ hc e _=>⟨o.slots,k b o (fun z=>hc (by simp [z])) e⟩) (fun _ _ _ _ n=>n)
  (fun b o hc e=>⟨o,k b o (fun z=>hc (by simp [z])) e⟩) (fun _ _ e=>e) (fun _ _ _ e=>e) (fun b ps e=>⟨#[],by rw [e];simp⟩) (fun m hm=>?_) (fun b u e=>?_) I.bare
 ·have e:b=it:=by simpa using hb
  subst e
  exact ⟨h1,hL,h2,h3⟩
 ·obtain ⟨o,es,ep,ho,r⟩:=hm
  exact ⟨o,es,ep,k _ o (Ne.symm hL) ho,r⟩
 ·refine (I.hok b u e).stay (fun c v hc q=>k c v ?_ q) (fun _ q=>q) fun _ _ q=>q
  rcases hc with z | z
  ·rw [z];exact nit b u e
  ·exact nit c _ z
theorem Inv.tok (I:Inv X pins σ H s) (t:Nat):Inv X pins σ H { s with toks:=t }:=I.un (h':=s.heap) (t':=t) Un.refl I.hok
theorem Inv.kept {t':Nat} (I:Inv X pins σ H s) (k:∀ b u,s.heap.get? b=some u→h'.get? b=some u):Inv X pins σ H { s with heap:=h',toks:=t' }:=I.un (Un.kept k) (I.hok.kept k)
theorem Inv.laid {a:Addr} {o:HO} {t':Nat} (I:Inv X pins σ H s) (k:∀ b u,s.heap.get? b=some u→h'.get? b=some u) (hp:s.heap.objs.size≤a) (new:ObjOk X.prog X.w (upd H a o) h' a o) :
  Inv X pins σ (upd H a o) { s with heap:=h',toks:=t' }:=I.un (Un.laid k hp (I.hok.fresh hp)) (I.hok.laid k hp new)
theorem Inv.write {x e:Addr} {o:HO} {t':Nat} (I:Inv X pins σ H s) (mu:Mut (H x)) (he:e=x∨H e=some (.own x)) (k:∀ b u,b≠e→s.heap.get? b=some u→h'.get? b=some u) (heo:∃ u,h'.get? e=some u)
  (new:ObjOk X.prog X.w (upd H x o) h' x o):Inv X pins σ (upd H x o) { s with heap:=h',toks:=t' }:=I.un (Un.write mu he k heo) (I.hok.write mu he k heo new)
theorem Inv.pins_of {pins':List (Addr×Obj)} (I:Inv X pins σ H s) (h:∀ p∈pins',s.heap.get? p.1=some p.2∧H p.1=none∧p.1≠X.env.locals∧p.1∉X.fs∧∀ v,p.2.data≠.cell v):Inv X pins' σ H s:=
 ⟨I.ok,I.os,I.bare,I.base,I.loc,I.cell,I.free,I.freeC,fun p hp=>(List.mem_append.mp hp).elim (fun z=>I.pin p (List.mem_append_left _ z)) (h p),I.hok,I.len⟩
theorem nodup_ix {N:List Str} (hN:N.Nodup) {i j:Nat} {x:Str} (a:N[i]?=some x) (b:N[j]?=some x):i=j:=by
 obtain ⟨h1,e1⟩:=List.getElem?_eq_some_iff.mp a
 obtain ⟨h2,e2⟩:=List.getElem?_eq_some_iff.mp b
 exact (List.getElem_inj hN).mp (e1.trans e2.symm)
theorem store_ok2 {M:Model} {A:Around} {E:Value→Shared→Prop} {i:Nat} {x:Str} {v:V} {u:Value} {Q:Unit→Shared→Prop} (I:Inv X pins σ H s) (hN:X.N.Nodup) (hi:X.N[i]?=some x) (hx:Loc X.env.scope x) (r:RelV v u)
  (h:∀ s',Inv X pins (σ.set i (some v)) H s'→(∃ a,Heap.SameBut a s.heap s'.heap∧(a=X.env.locals∨X.env.cells.lookup x=some a))→Q () s') (hf:X.fn x=true∨X.env.scope.names.lookup x=some .local:=by first | exact .inl rfl | exact .inr rfl | assumption):wpAny M A (storeName X.env x u) Q E s:=by
 obtain ⟨m,hn,hl⟩:=id I.loc
 have hcls:(X.env.scope.kind == .class||(X.env.scope.kind == .module&&X.env.locals != X.env.globals))=false:=by rw [I.ok.kind];rfl
 have hiσ:i < σ.length:=by rw [I.len];exact (List.getElem?_eq_some_iff.mp hi).1
 have cne:=I.cne
 have tracked:∀ {a:Addr} {h':Heap},(∃ o,s.heap.get? a=some o∧H a=none)→Heap.SameBut a s.heap h'→HOk X.prog X.w H h':=fun {a h'} ha hs b ob e=>by
  obtain ⟨_,_,hfree⟩:=ha
  refine (I.hok b ob e).stay (fun c w' hc q=>(hs.2 c ?_).trans q) (fun _ q=>q) fun _ _ q=>q
  rintro rfl
  rcases hc with rfl | hc
  ·rw [hfree] at e;cases e
  ·rw [hfree] at hc;cases hc
 rcases hx with hk | hk
 ·refine wpAny_storeName_local hk hn (fun h' hn' hs=>?_) hcls
  obtain ⟨oL,_,_,hoL,_⟩:=id hn
  refine h _ ⟨I.ok,I.os,I.bare,⟨fun b o e n hb hx=>?_,fun b o e n hb hx=>?_,I.base.free,fun b o e hx=>?_,I.base.tups,I.base.frzs,I.base.tbls⟩,⟨_,hn',fun j y v' e1 e2 e3=>?_⟩,fun y c e=>?_,I.free,I.freeC,fun p hp=>?_,tracked ⟨oL,hoL,I.free⟩ hs,by simpa using I.len⟩ ⟨_,hs,.inl rfl⟩
  ·exact (hs.2 b (Nat.ne_of_lt (Nat.lt_of_lt_of_le (Heap.lt_size e) I.ok.above))).trans (I.base.keep b o e n hb hx)
  ·obtain ⟨sl,e1⟩:=I.base.slot b o e n hb hx
   exact ⟨sl,(hs.2 b (Nat.ne_of_lt (Nat.lt_of_lt_of_le (Heap.lt_size e) I.ok.above))).trans e1⟩
  ·obtain ⟨o',e1⟩:=I.base.there b o e hx
   exact ⟨o',(hs.2 b (Nat.ne_of_lt (Nat.lt_of_lt_of_le (Heap.lt_size e) I.ok.above))).trans e1⟩
  ·by_cases hj:j=i
   ·subst hj
    rw [hi] at e1;cases e1
    rw [List.getElem?_set_self hiσ] at e2
    cases e2
    exact ⟨u,r,.inl ⟨hk,by simp⟩⟩
   ·rw [List.getElem?_set_ne (Ne.symm hj)] at e2
    obtain ⟨u',r',q⟩:=hl j y v' e1 e2 e3
    refine ⟨u',r',?_⟩
    rcases q with ⟨k,e⟩ | ⟨k,c,e,z⟩
    ·refine .inl ⟨k,?_⟩
     have:y≠x:=fun e=>hj (nodup_ix hN e1 (e▸hi))
     simp [this,e]
    ·exact .inr ⟨k,c,e,z.sameBut hs (cne y c e)⟩
  ·obtain ⟨w',z⟩:=I.cell y c e
   exact ⟨w',z.sameBut hs (cne y c e)⟩
  ·obtain ⟨e,n,ne,nf,d⟩:=I.pin p hp
   exact ⟨(hs.2 p.1 ne).trans e,n,ne,nf,d⟩
 ·have hfn:X.fn x=true:=by
   rcases hf with z | z
   ·exact z
   ·rw [z] at hk;cases hk
  obtain ⟨c,hc⟩:=I.ok.has x (.inl hk)
  obtain ⟨w',z⟩:=I.cell x c hc
  refine wpAny_storeName_cell I.ok.kind hk hc z (fun h' hc' hs=>?_)
  obtain ⟨oc,hoc,hocd⟩:=id z
  refine h { s with heap:=h' } ⟨I.ok,I.os,I.bare,⟨fun b o e n hb hx=>?_,fun b o e n hb hx=>?_,I.base.free,fun b o e hx=>?_,I.base.tups,I.base.frzs,I.base.tbls⟩,⟨m,hn.sameBut hs (Ne.symm (cne x c hc)),fun j y v' e1 e2 e3=>?_⟩,fun y c' e=>?_,I.free,I.freeC,fun p hp=>?_,tracked ⟨oc,hoc,I.freeC x c hc⟩ hs,by simpa using I.len⟩ ⟨c,hs,.inr hc⟩
  ·exact (hs.2 b (Nat.ne_of_lt (Nat.lt_of_lt_of_le (Heap.lt_size e) (I.ok.cab x c hfn hc)))).trans (I.base.keep b o e n hb hx)
  ·obtain ⟨sl,e1⟩:=I.base.slot b o e n hb hx
   exact ⟨sl,(hs.2 b (Nat.ne_of_lt (Nat.lt_of_lt_of_le (Heap.lt_size e) (I.ok.cab x c hfn hc)))).trans e1⟩
  ·obtain ⟨o',e1⟩:=I.base.there b o e hx
   exact ⟨o',(hs.2 b (Nat.ne_of_lt (Nat.lt_of_lt_of_le (Heap.lt_size e) (I.ok.cab x c hfn hc)))).trans e1⟩
  ·by_cases hj:j=i
   ·subst hj
    rw [hi] at e1;cases e1
    rw [List.getElem?_set_self hiσ] at e2
    cases e2
    exact ⟨u,r,.inr ⟨.inl hk,c,hc,hc'⟩⟩
   ·rw [List.getElem?_set_ne (Ne.symm hj)] at e2
    obtain ⟨u',r',q⟩:=hl j y v' e1 e2 e3
    refine ⟨u',r',?_⟩
    rcases q with q | ⟨k,c',e,z'⟩
    ·exact .inl q
    ·refine .inr ⟨k,c',e,z'.sameBut hs ?_⟩
     rintro rfl
     exact hj (nodup_ix hN e1 (I.ok.inj _ _ _ e hc▸hi))
  ·by_cases hcc:c'=c
   ·subst hcc;exact ⟨_,hc'⟩
   ·obtain ⟨w2,z2⟩:=I.cell y c' e
    exact ⟨w2,z2.sameBut hs hcc⟩
  ·obtain ⟨e,n,ne,nf,d⟩:=I.pin p hp
   refine ⟨(hs.2 p.1 ?_).trans e,n,ne,nf,d⟩
   intro q
   rw [q,hoc] at e
   have q':oc=p.2:=Option.some.inj e
   exact d w' (by rw [←q'];exact hocd)
theorem store_ok {M:Model} {A:Around} {E:Value→Shared→Prop} {i:Nat} {x:Str} {v:V} {u:Value} {Q:Unit→Shared→Prop} (I:Inv X pins σ H s) (hN:X.N.Nodup) (hi:X.N[i]?=some x) (hx:Loc X.env.scope x) (r:RelV v u)
  (h:∀ s',Inv X pins (σ.set i (some v)) H s'→Q () s') (hf:X.fn x=true∨X.env.scope.names.lookup x=some .local:=by first | exact .inl rfl | exact .inr rfl | assumption):wpAny M A (storeName X.env x u) Q E s:=
 store_ok2 I hN hi hx r (fun s' I' _=>h s' I') hf
theorem Inv.call' {s':Shared} {ch:List Addr} (I:Inv X pins σ H s) (ho:s'.os=s.os) (u:Un (frs X.stack) ch H H' s.heap s'.heap) (hok:HOk X.prog X.w H' s'.heap) (hg:AllBare s'.gens)
  (hch:∀ b∈ch,(b∈X.ex∨X.s₀.heap.objs.size≤b)∧b≠X.env.locals∧(∀ x c,X.env.cells.lookup x=some c→c≠b)∧∀ p∈X.pn++pins,p.1≠b):Inv X pins σ H' s':=by
 obtain ⟨h',g',d',t',o'⟩:=s'
 have e:o'=s.os:=ho
 subst e
 exact I.call (g':=g') (t':=t') (d':=d') u hok hg hch
end
noncomputable abbrev XK:=Value→Option Addr→Hp→Prop
noncomputable abbrev St:=List (Option V)
noncomputable abbrev VK:=V→Hp→Prop
noncomputable abbrev TE:=St→Hp→VK→Prop
noncomputable abbrev TT:=St→Hp→(Bool→Hp→Prop)→Prop
noncomputable abbrev TA:=St→Hp→(List V→Hp→Prop)→Prop
structure Ends where
 nx:St→Hp→Prop
 rt:VK
 bk:St→Hp→Prop:=fun _ _=>False
 ct:St→Hp→Prop:=fun _ _=>False
noncomputable abbrev TS:=Ends→St→Hp→Prop
noncomputable def EP (X:Cx) (pins:List (Addr×Obj)) (σ:St) (Q:VK) (u:Value) (s':Shared):Prop:=∃ v H',Inv X pins σ H' s'∧RelV v u∧Q v H'
noncomputable def TP (X:Cx) (pins:List (Addr×Obj)) (σ:St) (Q:Bool→Hp→Prop) (b:Bool) (s':Shared):Prop:=∃ H',Inv X pins σ H' s'∧Q b H'
noncomputable def AP (X:Cx) (pins:List (Addr×Obj)) (σ:St) (Q:List V→Hp→Prop) (us:List Value) (s':Shared):Prop:=∃ vs H',Inv X pins σ H' s'∧Vals vs us∧Q vs H'
noncomputable def SP (X:Cx) (pins:List (Addr×Obj)) (D:Ends) (f:Flow) (s':Shared):Prop:=
 match f with
 | .next=>∃ σ' H',Inv X pins σ' H' s'∧D.nx σ' H'
 | .brk=>∃ σ' H',Inv X pins σ' H' s'∧D.bk σ' H'
 | .cont=>∃ σ' H',Inv X pins σ' H' s'∧D.ct σ' H'
 | .ret u=>∃ v σ' H',Inv X pins σ' H' s'∧RelV v u∧D.rt v H'
noncomputable def PE (X:Cx) (e:Expr) (t:TE):Prop:=
 ∀ (pins:List (Addr×Obj)) (s:Shared) (σ:St) (H:Hp) (Q:VK),Inv X pins σ H s→t σ H Q→wpAny (model X.prog X.w) X.A (eval e X.env) (EP X pins σ Q) X.xe s
noncomputable def PT (X:Cx) (e:Expr) (t:TT):Prop:=
 ∀ (pins:List (Addr×Obj)) (s:Shared) (σ:St) (H:Hp) (Q:Bool→Hp→Prop),Inv X pins σ H s→t σ H Q→wpAny (model X.prog X.w) X.A (isTrue e X.env (eval e X.env)) (TP X pins σ Q) X.xe s
noncomputable def PW (X:Cx) (e:Expr) (t:TT):Prop:=
 ∀ (whole:Sem Value) (pins:List (Addr×Obj)) (s:Shared) (σ:St) (H:Hp) (Q:Bool→Hp→Prop),Inv X pins σ H s→t σ H Q→wpAny (model X.prog X.w) X.A (isTrue e X.env whole) (TP X pins σ Q) X.xe s
theorem PW.pt {X:Cx} {e:Expr} {t:TT} (h:PW X e t):PT X e t:=h _
noncomputable def PA (X:Cx) (es:List Expr) (t:TA):Prop:=
 ∀ (pos:Pos) (pins:List (Addr×Obj)) (s:Shared) (σ:St) (H:Hp) (Q:List V→Hp→Prop),Inv X pins σ H s→t σ H Q→wpAny (model X.prog X.w) X.A (spliced (backTo pos (starEach es X.env))) (AP X pins σ Q) X.xe s
noncomputable def PS (X:Cx) (st:Stmt) (t:TS):Prop:=
 ∀ (pins:List (Addr×Obj)) (s:Shared) (σ:St) (H:Hp) (D:Ends),Inv X pins σ H s→t D σ H→wpAny (model X.prog X.w) X.A (exec st X.env) (SP X pins D) X.xe s
noncomputable def PSs (X:Cx) (st:List Stmt) (t:TS):Prop:=
 ∀ (pins:List (Addr×Obj)) (s:Shared) (σ:St) (H:Hp) (D:Ends),Inv X pins σ H s→t D σ H→wpAny (model X.prog X.w) X.A (execs st X.env) (SP X pins D) X.xe s
theorem thn {α:Type} {t:Sem α} {Q Q':α→Shared→Prop} {M:Model} {A:Around} {E:Value→Shared→Prop} {s:Shared} (h:wpAny M A t Q E s) (hQ:∀ a s,Q a s→Q' a s):wpAny M A t Q' E s:=wpAny_mono h hQ fun _ _ x=>x
end L2
namespace L2
open PySem PySem.Spec PyProof.Rows
section
variable {X:Cx}
theorem bin {a b:Expr} {ta tb:TE} (ha:PE X a ta) (hb:PE X b tb) {pins:List (Addr×Obj)} {s:Shared} {σ:St} {H:Hp} {R:V→V→Hp→Prop} (I:Inv X pins σ H s) (h:ta σ H fun x H1=>tb σ H1 fun y H2=>R x y H2)
  {α:Type} {Q:α→Shared→Prop} {f:Value→Value→Sem α}
  (hf:∀ v u s2 x y H2,Inv X pins σ H2 s2→RelV x v→RelV y u→R x y H2→wpAny (model X.prog X.w) X.A (f v u) Q X.xe s2) :
  wpAny (model X.prog X.w) X.A (eval a X.env) (fun v s₁=>wpAny (model X.prog X.w) X.A (eval b X.env) (fun u s₂=>wpAny (model X.prog X.w) X.A (f v u) Q X.xe s₂) X.xe s₁) X.xe s:=by
 refine thn (ha pins s σ H _ I h) fun v s1 ⟨x,H1,I1,r1,q1⟩=>?_
 refine thn (hb pins s1 σ H1 _ I1 q1) fun u s2 ⟨y,H2,I2,r2,q2⟩=>?_
 exact hf v u s2 x y H2 I2 r1 r2 q2
noncomputable def tVar (i:Nat):TE:=fun σ H Q=>∃ v,σ[i]?=some (some v)∧Q v H
noncomputable def tC (v:V):TE:=fun _ H Q=>Q v H
theorem pe_var {i:Nat} {x:Str} {pos:Pos} (hN:X.N[i]?=some x) (hv:Vis X.env.scope x) (hd:(x == ("__debug__" : Str))=false:=by decide) (hcd:(x == ("__classdict__" : Str))=false:=by decide):PE X (.Name x pos) (tVar i):=by
 intro pins s σ H Q I h
 obtain ⟨v,e,h⟩:=h
 obtain ⟨m,hn,hl⟩:=I.loc
 obtain ⟨u,r,l⟩:=hl i x v hN e hv
 have fin:EP X pins σ Q u s:=⟨v,H,I,r,h⟩
 rcases l with ⟨hk,hm⟩ | ⟨hk,c,hc,hcell⟩
 ·exact wpAny_Name (wpAny_loadName_local I.ok.kind hk hn hm fin) hd
 ·rcases hk with hk | hk
  ·exact wpAny_Name (wpAny_loadName_cell I.ok.kind hk hc hcell fin) hd
  ·exact wpAny_Name (wpAny_loadName_free I.ok.kind hk hc hcell fin hcd) hd
theorem pe_int {i j pos}:PE X (.Constant (.int i) j pos) (tC (.int i)):=fun _ _ _ H _ I h=>wpAny_Constant_int ⟨.int i,H,I.tok _,⟨_,rfl⟩,h⟩
theorem pe_bl {b j pos}:PE X (.Constant (.bool b) j pos) (tC (.bl b)):=fun _ _ _ H _ I h=>Constant_bool ⟨.bl b,H,I,rfl,h⟩
theorem pe_non {j pos}:PE X (.Constant .none j pos) (tC .non):=fun _ _ _ H _ I h=>Constant_none ⟨.non,H,I,rfl,h⟩
theorem pe_str {x j pos}:PE X (.Constant (.str x) j pos) (tC (.str x)):=fun _ _ _ H _ I h=>Calls.Constant_str ⟨.str x,H,I.tok _,⟨_,rfl⟩,h⟩
noncomputable def Gl (X:Cx) (x:Str):Prop:=X.env.kindOf x=some .globalImplicit
theorem ld_glob {E:Value→Shared→Prop} {pins:List (Addr×Obj)} {s:Shared} {σ:St} {H:Hp} {x:Str} {u:Value} {pos:Pos} {Q:Value→Shared→Prop} (I:Inv X pins σ H s) (hg:Gl X x) (hm:X.mg x=some u) (h:Q u s)
  (hd:(x == ("__debug__" : Str))=false:=by decide):wpAny (model X.prog X.w) X.A (eval (.Name x pos) X.env) Q E s:=
 Calls.Name_function_global I.ok.kind hg (Calls.loadGlobal_global (by rw [I.ok.glob];exact I.mod.glob.keeps I.bk) hm h) hd
theorem ld_blt {E:Value→Shared→Prop} {pins:List (Addr×Obj)} {s:Shared} {σ:St} {H:Hp} {x:Str} {u:Value} {pos:Pos} {Q:Value→Shared→Prop} (I:Inv X pins σ H s) (hg:Gl X x) (hm:X.mg x=none) (hv:bootBuiltins x=some u) (h:Q u s)
  (hn:x≠"__name__":=by decide) (hd:(x == ("__debug__" : Str))=false:=by decide):wpAny (model X.prog X.w) X.A (eval (.Name x pos) X.env) Q E s:=by
 obtain ⟨mb,h1,h2⟩:=I.mod.blt
 exact Calls.Name_function_global I.ok.kind hg (Calls.loadGlobal_builtin (by rw [I.ok.glob];exact I.mod.glob.keeps I.bk) hm (by rw [I.ok.blt];exact h1.keeps I.bk) ((h2 x hn).trans hv) h) hd
theorem pe_glob {x:Str} {v:V} {u:Value} {pos:Pos} (hg:Gl X x) (hm:X.mg x=some u) (r:RelV v u) (hd:(x == ("__debug__" : Str))=false:=by decide):PE X (.Name x pos) (tC v):=
 fun _ _ _ H _ I h=>ld_glob I hg hm ⟨v,H,I,r,h⟩ hd
theorem pe_bltn {x:Str} {v:V} {u:Value} {pos:Pos} (hg:Gl X x) (hm:X.mg x=none) (hv:bootBuiltins x=some u) (r:RelV v u) (hn:x≠"__name__":=by decide) (hd:(x == ("__debug__" : Str))=false:=by decide):PE X (.Name x pos) (tC v):=
 fun _ _ _ H _ I h=>ld_blt I hg hm hv ⟨v,H,I,r,h⟩ hn hd
variable {a b:Expr} {ta tb:TE} {pos:Pos}
noncomputable def tB (t:TE):TT:=fun σ H Q=>t σ H fun x H1=>∃ c,x=.bl c∧Q c H1
theorem pt_val {e:Expr} {t:TE} (h:PE X e t) (he:∀ whole,isTrue e X.env whole=(do let v←whole;standAt e.pos;holding [v] (truthy v)):=by intro _;rfl):PT X e (tB t):=by
 intro pins s σ H Q I hw
 refine isTrue_plain (thn (h pins s σ H _ I hw) fun v s1 ⟨x,H1,I1,r1,q1⟩=>?_) (he _)
 obtain ⟨d,rfl,q⟩:=q1
 cases r1
 exact wpAny_truthy_bool ⟨H1,I1,q⟩
variable {tA tB':TT} {rest:List Expr}
noncomputable def tNot (t:TT):TT:=fun σ H Q=>t σ H fun c H1=>Q (!c) H1
theorem pw_and1 (ha:PT X a tA):PW X (.BoolOp .And [a] pos) tA:=by
 intro wh pins s σ H Q I h
 refine isTrue_and (thn (ha pins s σ H Q I h) fun c s1 e=>?_)
 cases c with
 | true=>exact isTrue_and_nil e
 | false=>exact e
theorem pw_or1 (ha:PT X a tA):PW X (.BoolOp .Or [a] pos) tA:=by
 intro wh pins s σ H Q I h
 refine isTrue_or (thn (ha pins s σ H Q I h) fun c s1 e=>?_)
 cases c with
 | false=>exact isTrue_or_nil e
 | true=>exact e
theorem pt_not (ha:PT X a tA):PT X (.UnaryOp .Not a pos) (tNot tA):=by
 intro pins s σ H Q I h
 exact isTrue_not (ha pins s σ H (fun c H1=>Q (!c) H1) I h)
noncomputable def tAndV (ta tb:TE):TE:=fun σ H Q=>ta σ H fun x H1=>∃ c,x=.bl c∧if c=true then tb σ H1 Q else Q (.bl false) H1
noncomputable def tOrV (ta tb:TE):TE:=fun σ H Q=>ta σ H fun x H1=>∃ c,x=.bl c∧if c=true then Q (.bl true) H1 else tb σ H1 Q
noncomputable def tNotV (ta:TE):TE:=fun σ H Q=>ta σ H fun x H1=>∃ c,x=.bl c∧Q (.bl (!c)) H1
theorem pe_one {op} {t:TE} (h:PE X a t):PE X (.BoolOp op [a] pos) t:=fun pins s σ H Q I hw=>BoolOp_one (h pins s σ H Q I hw)
theorem pe_and (ha:PE X a ta) (hb:PE X (.BoolOp .And (b::rest) pos) tb):PE X (.BoolOp .And (a::b::rest) pos) (tAndV ta tb):=by
 intro pins s σ H Q I h
 refine BoolOp_and (thn (ha pins s σ H _ I h) fun v s1 ⟨x,H1,I1,r1,q1⟩=>?_)
 obtain ⟨c,rfl,q1⟩:=q1
 cases r1
 refine wpAny_truthy_bool ?_
 cases c with
 | true=>exact hb pins s1 σ H1 Q I1 q1
 | false=>exact ⟨.bl false,H1,I1,rfl,q1⟩
theorem pe_or (ha:PE X a ta) (hb:PE X (.BoolOp .Or (b::rest) pos) tb):PE X (.BoolOp .Or (a::b::rest) pos) (tOrV ta tb):=by
 intro pins s σ H Q I h
 refine BoolOp_or (thn (ha pins s σ H _ I h) fun v s1 ⟨x,H1,I1,r1,q1⟩=>?_)
 obtain ⟨c,rfl,q1⟩:=q1
 cases r1
 refine wpAny_truthy_bool ?_
 cases c with
 | false=>exact hb pins s1 σ H1 Q I1 q1
 | true=>exact ⟨.bl true,H1,I1,rfl,q1⟩
theorem pe_not (ha:PE X a ta):PE X (.UnaryOp .Not a pos) (tNotV ta):=by
 intro pins s σ H Q I h
 refine UnaryOp_ (thn (ha pins s σ H _ I h) fun v s1 ⟨x,H1,I1,r1,q1⟩=>?_)
 obtain ⟨c,rfl,q1⟩:=q1
 cases r1
 exact not_of (wpAny_truthy_bool ⟨.bl (!c),H1,I1,rfl,q1⟩)
noncomputable def tIf (t:TT) (ta tb:TE):TE:=fun σ H Q=>t σ H fun c H1=>if c=true then ta σ H1 Q else tb σ H1 Q
theorem pe_ifExp {c:Expr} (hc:PT X c tA) (ha:PE X a ta) (hb:PE X b tb):PE X (.IfExp c a b pos) (tIf tA ta tb):=by
 intro pins s σ H Q I h
 refine wpAny_IfExp (thn (hc pins s σ H _ I h) fun d s1 ⟨H1,I1,q1⟩=>?_)
 cases d with
 | true=>exact ha pins s1 σ H1 Q I1 q1
 | false=>exact hb pins s1 σ H1 Q I1 q1
end
end L2
namespace L2
open PySem PySem.Spec PyProof.Rows
noncomputable def SqL (K:PySem.W.Frag) (H:Hp) (a:Addr) (xs:List V):Prop:=
 Rd H a (.lst xs)∨
  ∃ (o:Obj) (its:Array Value) (n:Nat),K.lookup a=some o∧o.cls=.type "list"∧o.dict=none∧o.data=.seq its n∧its.size≤sizeLine∧Vals xs its.toList
noncomputable def SqT (K:PySem.W.Frag) (H:Hp) (a:Addr) (xs:List V):Prop:=
 Rd H a (.tup xs)∨
  ∃ (o:Obj) (its:Array Value) (n:Nat),K.lookup a=some o∧o.cls=.type "tuple"∧o.data=.seq its n∧its.size≤sizeLine∧Vals xs its.toList
noncomputable def absV:Value→Option V
 | .none=>some .non
 | .bool b=>some (.bl b)
 | .int i _=>some (.int i)
 | .str x _=>some (.str x)
 | .bytes b _=>some (.byt b)
 | .float b _=>some (.flt b)
 | .ref a=>some (.ref a)
 | .type n=>some (.ty n)
 | _=>none
theorem RelV.abs {x:V} {u:Value} (r:RelV x u):absV u=some x:=by
 cases x with
 | non=>cases r;rfl
 | bl _=>cases r;rfl
 | int _=>obtain ⟨t,rfl⟩:=r;rfl
 | str _=>obtain ⟨t,rfl⟩:=r;rfl
 | byt _=>obtain ⟨t,rfl⟩:=r;rfl
 | flt _=>obtain ⟨t,rfl⟩:=r;rfl
 | ref _=>cases r;rfl
 | ty _=>cases r;rfl
theorem RelV.inj {x y:V} {u:Value} (r:RelV x u) (q:RelV y u):x=y:=Option.some.inj (r.abs.symm.trans q.abs)
theorem Vals.inj:∀ {xs ys:List V} {us:List Value},Vals xs us→Vals ys us→xs=ys
 | _,_,_,.nil,.nil=>rfl
 | _,_,_,.cons r t,.cons r' t'=>by rw [r.inj r',Vals.inj t t']
section
variable {X:Cx} {pins:List (Addr×Obj)} {σ:St} {H:Hp} {s:Shared} {a:Addr} {xs ys:List V}
theorem SqL.of {K:PySem.W.Frag} (h:H a=some (.lst xs)):SqL K H a xs:=.inl (.inl h)
theorem SqT.of {K:PySem.W.Frag} (h:H a=some (.tup xs)):SqT K H a xs:=.inl (.inl h)
theorem Inv.list (I:Inv X pins σ H s) (h:SqL X.K H a xs):∃ its:List Value,Vals xs its∧PlainL s.heap a its.toArray∧xs.length≤sizeLine:=by
 rcases h with h | ⟨o,its,n,hk,hc,hd,hs,hz,r⟩
 ·obtain ⟨z,its,n,r,e⟩:=h.ok I.hok
  exact ⟨its,r,⟨_,n,e,rfl,rfl,rfl⟩,z⟩
 ·refine ⟨its.toList,r,⟨o,n,I.kIn a o hk,hc,hd,by simpa using hs⟩,?_⟩
  have e:=r.length
  simp only [Array.length_toList] at e
  omega
theorem Inv.tuple (I:Inv X pins σ H s) (h:SqT X.K H a xs):∃ its:List Value,Vals xs its∧IsTup s.heap a its.toArray∧xs.length≤sizeLine:=by
 rcases h with h | ⟨o,its,n,hk,hc,hs,hz,r⟩
 ·obtain ⟨z,its,r,p⟩:=h.ok I.hok
  exact ⟨its,r,p,z⟩
 ·refine ⟨its.toList,r,⟨o,I.kIn a o hk,hc,n,by simpa using hs⟩,?_⟩
  have e:=r.length
  simp only [Array.length_toList] at e
  omega
theorem Inv.list_inj (I:Inv X pins σ H s) (h:SqL X.K H a xs) (h':SqL X.K H a ys):xs=ys:=by
 obtain ⟨its,r,⟨o,n,e,_,_,d⟩,_⟩:=I.list h
 obtain ⟨its',r',⟨o',n',e',_,_,d'⟩,_⟩:=I.list h'
 rw [e] at e';cases e'
 rw [d] at d'
 injection d' with d1 _
 have:its=its':=by simpa using congrArg Array.toList d1
 subst this
 exact r.inj r'
theorem Inv.tuple_inj (I:Inv X pins σ H s) (h:SqT X.K H a xs) (h':SqT X.K H a ys):xs=ys:=by
 obtain ⟨its,r,⟨o,e,_,n,d⟩,_⟩:=I.tuple h
 obtain ⟨its',r',⟨o',e',_,n',d'⟩,_⟩:=I.tuple h'
 rw [e] at e';cases e'
 rw [d] at d'
 injection d' with d1 _
 have:its=its':=by simpa using congrArg Array.toList d1
 subst this
 exact r.inj r'
end
noncomputable abbrev Cx.wish (X:Cx) (E:Value→Shared→Prop):Cx:={ X with xe:=E }
noncomputable abbrev Cx.nox (X:Cx):Cx:=X.wish fun _ _=>False
theorem Cx.Ok.wish {X:Cx} (ok:X.Ok) (E:Value→Shared→Prop):(X.wish E).Ok:=
 ⟨ok.mod,ok.kind,ok.glob,ok.blt,ok.above,ok.inj,ok.has,ok.cab,ok.hd,ok.frames,ok.stk,ok.exf,ok.bs,ok.bsz,ok.noex,ok.exfs,ok.funs,ok.frf⟩
theorem Cx.Ok.unwish {X:Cx} {E:Value→Shared→Prop} (ok:(X.wish E).Ok):X.Ok:=
 ⟨ok.mod,ok.kind,ok.glob,ok.blt,ok.above,ok.inj,ok.has,ok.cab,ok.hd,ok.frames,ok.stk,ok.exf,ok.bs,ok.bsz,ok.noex,ok.exfs,ok.funs,ok.frf⟩
section
variable {X:Cx} {pins:List (Addr×Obj)} {σ:St} {H:Hp} {s:Shared} {E:Value→Shared→Prop}
theorem Inv.wish (I:Inv X pins σ H s) (E:Value→Shared→Prop):Inv (X.wish E) pins σ H s:=⟨I.ok.wish E,I.os,I.bare,I.base,I.loc,I.cell,I.free,I.freeC,I.pin,I.hok,I.len⟩
theorem Inv.unwish (I:Inv (X.wish E) pins σ H s):Inv X pins σ H s:=⟨I.ok.unwish,I.os,I.bare,I.base,I.loc,I.cell,I.free,I.freeC,I.pin,I.hok,I.len⟩
theorem SP.unwish {D:Ends} {f:Flow} {s':Shared} (h:SP (X.wish E) pins D f s'):SP X pins D f s':=by
 cases f with
 | next=>obtain ⟨σ',H',I,q⟩:=h;exact ⟨σ',H',I.unwish,q⟩
 | brk=>obtain ⟨σ',H',I,q⟩:=h;exact ⟨σ',H',I.unwish,q⟩
 | cont=>obtain ⟨σ',H',I,q⟩:=h;exact ⟨σ',H',I.unwish,q⟩
 | ret u=>obtain ⟨v,σ',H',I,r,q⟩:=h;exact ⟨v,σ',H',I.unwish,r,q⟩
theorem PSs.nox {st:List Stmt} {t:TS} (h:PSs X.nox st t):PSs X st t:=fun pins s σ H D I hw=>
 wpAny_mono (h pins s σ H D (I.wish _) hw) (fun _ _ q=>q.unwish) fun _ _ z=>False.elim z
end
section
variable {X:Cx} {st:Stmt} {rest:List Stmt} {t u:TS} {e:Expr} {te:TE} {pos:Pos}
noncomputable def tNext:TS:=fun D σ H=>D.nx σ H
noncomputable def tSeq (t u:TS):TS:=fun D σ H=>t { D with nx:=u D } σ H
theorem pss_nil:PSs X [] tNext:=fun _ _ σ H _ I h=>wpAny_execs_nil ⟨σ,H,I,h⟩
theorem pss_cons (h1:PS X st t) (h2:PSs X rest u):PSs X (st::rest) (tSeq t u):=by
 intro pins s σ H D I h
 refine wpAny_execs_cons (thn (h1 pins s σ H { D with nx:=u D } I h) fun f s1 q=>?_)
 cases f with
 | next=>
  obtain ⟨σ',H',I',q⟩:=q
  exact h2 pins s1 σ' H' D I' q
 | ret v=>exact q
 | brk=>exact q
 | cont=>exact q
theorem pss_one (h1:PS X st t):PSs X [st] t:=by
 intro pins s σ H D I h
 refine wpAny_execs_cons (thn (h1 pins s σ H D I h) fun f s1 q=>?_)
 cases f with
 | next=>exact wpAny_execs_nil q
 | ret v=>exact q
 | brk=>exact q
 | cont=>exact q
theorem ps_pass:PS X (.Pass pos) tNext:=fun _ _ σ H _ I h=>wpAny_Pass ⟨σ,H,I,h⟩
theorem Inv.quiet {pins:List (Addr×Obj)} {σ:St} {H:Hp} {s:Shared} (I:Inv X pins σ H s):interactive X.env=false:=by simp [interactive,I.ok.kind]
noncomputable def tDrop (te:TE):TS:=fun D σ H=>te σ H fun _ H1=>D.nx σ H1
theorem ps_expr (he:PE X e te) (hs:swapsWith e none pos.line X.env=pure false:=by rfl):PS X (.Expr e pos) (tDrop te):=by
 intro pins s σ H D I h
 exact wpAny_Expr_any (thn (he pins s σ H _ I h) fun v s1 ⟨x,H1,I1,r1,q1⟩=>⟨σ,H1,I1,q1⟩) I.quiet hs
noncomputable def tRet (te:TE):TS:=fun D σ H=>te σ H D.rt
theorem ps_ret (he:PE X e te):PS X (.Return (some e) pos) (tRet te):=by
 intro pins s σ H D I h
 exact wpAny_Return_some (thn (he pins s σ H _ I h) fun v s1 ⟨x,H1,I1,r1,q1⟩=>⟨x,σ,H1,I1,r1,q1⟩)
noncomputable def tRetN:TS:=fun D _ H=>D.rt .non H
theorem ps_retN:PS X (.Return none pos) tRetN:=fun _ _ σ H _ I h=>wpAny_Return_none ⟨.non,σ,H,I,rfl,h⟩
noncomputable def tIfS (c:TT) (t u:TS):TS:=fun D σ H=>c σ H fun b H1=>if b=true then t D σ H1 else u D σ H1
theorem ps_if {c:Expr} {a b:List Stmt} {tc:TT} (hc:PT X c tc) (ha:PSs X a t) (hb:PSs X b u):PS X (.If c a b pos) (tIfS tc t u):=by
 intro pins s σ H D I h
 refine wpAny_If (thn (hc pins s σ H _ I h) fun d s1 ⟨H1,I1,q1⟩=>?_)
 cases d with
 | true=>exact ha pins s1 σ H1 D I1 q1
 | false=>exact hb pins s1 σ H1 D I1 q1
noncomputable def tNever:TS:=fun _ _ _=>False
theorem ps_never:PS X st tNever:=fun _ _ _ _ _ _ h=>h.elim
end
noncomputable abbrev TG:=V→St→Hp→(St→Hp→Prop)→Prop
noncomputable abbrev TGs:=List V→St→Hp→(St→Hp→Prop)→Prop
noncomputable def PG (X:Cx) (target:Expr) (t:TG):Prop:=
 ∀ (pins:List (Addr×Obj)) (s:Shared) (σ:St) (H:Hp) (v:V) (u:Value) (Q:St→Hp→Prop),Inv X pins σ H s→RelV v u→t v σ H Q→
  wpAny (model X.prog X.w) X.A (assign target X.env u) (fun _ s'=>∃ σ' H',Inv X pins σ' H' s'∧Q σ' H') X.xe s
noncomputable def PGs (X:Cx) (ts:List Expr) (t:TGs):Prop:=
 ∀ (pins:List (Addr×Obj)) (s:Shared) (σ:St) (H:Hp) (vs:List V) (us:List Value) (Q:St→Hp→Prop),Inv X pins σ H s→Vals vs us→t vs σ H Q→
  wpAny (model X.prog X.w) X.A (assignInOrder ((assignEach ts X.env).map (·.2)) us) (fun _ s'=>∃ σ' H',Inv X pins σ' H' s'∧Q σ' H') X.xe s
noncomputable abbrev TSet:=V→V→V→Hp→(Hp→Prop)→Prop
noncomputable def PSet (X:Cx) (t:TSet):Prop:=
 ∀ (pins:List (Addr×Obj)) (s:Shared) (σ:St) (H:Hp) (o i v:V) (ov iv u:Value) (Q:Hp→Prop),Inv X pins σ H s→RelV o ov→RelV i iv→RelV v u→t o i v H Q→
  wpAny (model X.prog X.w) X.A (setItem ov iv u) (fun _ s'=>∃ H',Inv X pins σ H' s'∧Q H') X.xe s
section
variable {X:Cx} {pos:Pos}
noncomputable def gName (i:Nat):TG:=fun v σ H Q=>Q (σ.set i (some v)) H
theorem pg_name {i:Nat} {x:Str} (hN:X.N.Nodup) (hi:X.N[i]?=some x) (hx:Loc X.env.scope x) (hf:X.fn x=true∨X.env.scope.names.lookup x=some .local:=by first | exact .inl rfl | exact .inr rfl | assumption):PG X (.Name x pos) (gName i):=by
 intro pins s σ H v u Q I r h
 exact wpAny_assign_Name (store_ok I hN hi hx r (fun s' I'=>⟨_,H,I',h⟩) hf)
noncomputable def gNil:TGs:=fun vs σ H Q=>vs=[]∧Q σ H
noncomputable def gCons (t:TG) (u:TGs):TGs:=fun vs σ H Q=>∃ v r,vs=v::r∧t v σ H fun σ' H'=>u r σ' H' Q
theorem pgs_nil:PGs X [] gNil:=by
 intro pins s σ H vs us Q I r h
 obtain ⟨e,h⟩:=h
 subst e
 cases r
 exact assignInOrder_nil ⟨σ,H,I,h⟩
theorem pgs_cons {e:Expr} {es:List Expr} {t:TG} {u:TGs} (h1:PG X e t) (h2:PGs X es u)
  (hs:(assignEach (e::es) X.env).map (·.2)=assign e X.env::(assignEach es X.env).map (·.2):=by rfl):PGs X (e::es) (gCons t u):=by
 intro pins s σ H vs us Q I r h
 obtain ⟨v,vr,e1,h⟩:=h
 subst e1
 cases r with
 | cons r rr=>
  rw [hs]
  refine assignInOrder_cons (thn (h1 pins s σ H _ _ _ I r h) fun _ s1 ⟨σ1,H1,I1,q1⟩=>?_)
  exact h2 pins s1 σ1 H1 _ _ Q I1 rr q1
noncomputable def gTup (K:PySem.W.Frag) (n:Nat) (t:TGs):TG:=fun v σ H Q=>∃ a xs,v=.ref a∧SqT K H a xs∧xs.length=n∧t xs σ H Q
theorem pg_tup {es:List Expr} {k:Nat} {t:TGs} {n:Nat} (hc:X.calm=true) (h:PGs X es t)
  (hn:(assignEach es X.env).length=n:=by rfl) (hst:(assignEach es X.env).findIdx? (·.1)=none:=by rfl):PG X (.Tuple es k pos) (gTup X.K n t):=by
 intro pins s σ H v u Q I r hw
 obtain ⟨a,xs,e1,hq,hl,hw⟩:=hw
 subst e1
 cases r
 obtain ⟨its,rv,ht,hz⟩:=I.tuple hq
 refine assign_Tuple_tuple (I.ok.hd hc) ht (by simp [hn,←hl,rv.length]) hst fun h' hx=>?_
 have I1:Inv X pins σ H { s with heap:=h' }:=I.kept (t':=s.toks) fun b o e=>hx b o (Nat.ne_of_lt (Heap.lt_size e)) e
 exact h pins _ σ H xs _ Q I1 (by simpa using rv) hw
noncomputable def gSub (to ti:TE) (t:TSet):TG:=fun v σ H Q=>to σ H fun o H1=>ti σ H1 fun i H2=>t o i v H2 fun H3=>Q σ H3
theorem pg_sub {o i:Expr} {to ti:TE} {t:TSet} (ho:PE X o to) (hi:PE X i ti) (hs:PSet X t)
  (ha:∀ v,assign (.Subscript o i pos) X.env v=(do
   let ov←holding [v] (eval o X.env)
   let iv←holding [v,ov] (eval i X.env)
   standAt pos
   holding [v,ov,iv] (setItem ov iv v)
   release [v,ov,iv] []):=by intro _;rfl):PG X (.Subscript o i pos) (gSub to ti t):=by
 intro pins s σ H v u Q I r h
 rw [ha]
 refine wpAny_bind (wpAny_holding (thn (ho pins s σ H _ I h) fun ov s1 ⟨x,H1,I1,r1,q1⟩=>?_))
 refine wpAny_bind (wpAny_holding (thn (hi pins s1 σ H1 _ I1 q1) fun iv s2 ⟨y,H2,I2,r2,q2⟩=>?_))
 refine wpAny_bind (wpAny_standAt (wpAny_bind (wpAny_holding (thn (hs pins s2 σ H2 x y v ov iv u _ I2 r1 r2 r q2) fun _ s3 ⟨H3,I3,q3⟩=>?_))))
 exact wpAny_release ⟨σ,H3,I3,q3⟩
noncomputable def tAsg (te:TE) (g:TG):TS:=fun D σ H=>te σ H fun x H1=>g x σ H1 D.nx
theorem ps_asg {tg e:Expr} {te:TE} {g:TG} (he:PE X e te) (hg:PG X tg g) (hs:swapsWithSole [tg] e pos.line X.env=pure false:=by rfl) (hw:swappedStores [tg] e X.env=pure none:=by rfl)
  (h1:(assignEach [tg] X.env).map (·.2)=[assign tg X.env]:=by rfl):PS X (.Assign [tg] e pos) (tAsg te g):=by
 intro pins s σ H D I h
 refine wpAny_Assign_stores (thn (he pins s σ H _ I h) fun v s1 ⟨x,H1,I1,r1,q1⟩=>?_) hs hw
 rw [h1]
 exact thn (hg pins s1 σ H1 x v _ I1 r1 q1) fun _ s2 q=>q
theorem ps_set {i:Nat} {x:Str} {e:Expr} {te:TE} {pos':Pos} (hN:X.N.Nodup) (hi:X.N[i]?=some x) (hx:Loc X.env.scope x) (he:PE X e te) (hs:swapsWith e (some (.Name x pos')) pos.line X.env=pure false:=by rfl) (hf:X.fn x=true∨X.env.scope.names.lookup x=some .local:=by first | exact .inl rfl | exact .inr rfl | assumption) :
  PS X (.Assign [.Name x pos'] e pos) (tAsg te (gName i)):=by
 intro pins s σ H D I h
 refine wpAny_Assign_Name (thn (he pins s σ H _ I h) fun v s1 ⟨y,H1,I1,r1,q1⟩=>?_) hs
 exact store_ok I1 hN hi hx r1 (fun s2 I2=>⟨_,H1,I2,q1⟩) hf
end
section
variable {X:Cx} {pos:Pos}
noncomputable def tWhile (c:TT) (tb:TS):TS:=fun D σ H=>∃ W:Nat→St→Hp→Prop,(∃ m,W m σ H)∧∀ m σ H,W m σ H→
 c σ H fun b H1=>if b=true then ∃ N:St→Hp→Prop,(∀ σ' H',N σ' H'→∃ m',m' < m∧W m' σ' H')∧tb { D with nx:=N,ct:=N,bk:=D.nx } σ H1 else D.nx σ H1
theorem ps_while {c:Expr} {body:List Stmt} {tc:TT} {tb:TS} (hp:PassesOwn (model X.prog X.w) X.A X.env X.xe) (hc:PT X c tc) (hb:PSs X body tb):PS X (.While c body [] pos) (tWhile tc tb):=by
 intro pins s σ H D I h
 obtain ⟨W,⟨m0,w0⟩,turn⟩:=h
 refine wpAny_While (codeAny_whileLoop (fun n s'=>∃ σ' H',Inv X pins σ' H' s'∧W n σ' H') ?_ m0 ⟨σ,H,I,w0⟩)
 rintro n s1 ⟨σ1,H1,I1,w1⟩
 refine wpAny_passesOwn hp (thn (hc pins s1 σ1 H1 _ I1 (turn n σ1 H1 w1)) fun b s2 ⟨H2,I2,q2⟩=>?_)
 cases b with
 | true=>
  obtain ⟨N,hN,q2⟩:=q2
  rw [if_pos rfl]
  refine wpAny_passesOwn hp (thn (hb pins s2 σ1 H2 _ I2 q2) fun f s3 q3=>?_)
  cases f with
  | next=>
   obtain ⟨σ3,H3,I3,n3⟩:=q3
   obtain ⟨m',hm,w3⟩:=hN σ3 H3 n3
   exact ⟨m',hm,σ3,H3,I3,w3⟩
  | cont=>
   obtain ⟨σ3,H3,I3,n3⟩:=q3
   obtain ⟨m',hm,w3⟩:=hN σ3 H3 n3
   exact ⟨m',hm,σ3,H3,I3,w3⟩
  | brk=>exact q3
  | ret v=>exact q3
 | false=>
  rw [if_neg Bool.false_ne_true]
  exact wpAny_execs_nil ⟨σ1,H2,I2,q2⟩
end
structure It where
 go:Nat→Hp→Prop
 yld:Nat→Hp→V→Hp→Prop
 stop:Nat→Hp→Prop
noncomputable def FpOk (X:Cx) (pins:List (Addr×Obj)) (H:Hp) (b:Addr):Prop:=
 H b=none∧b≠X.env.locals∧b∉X.fs∧(b∈X.ex∨X.s₀.heap.objs.size≤b)∧(∀ x c,X.env.cells.lookup x=some c→c≠b)∧∀ p∈X.pn++pins,p.1≠b
theorem Inv.fpOk {X:Cx} {pins:List (Addr×Obj)} {σ:St} {H H':Hp} {s:Shared} {b:Addr} (I:Inv X pins σ H s) (hb:s.heap.objs.size≤b) (hn:H' b=none):FpOk X pins H' b:=by
 refine ⟨hn,Nat.ne_of_gt (Nat.lt_of_lt_of_le I.lt hb),I.nofs hb,.inr (Nat.le_trans I.sz hb),fun x c e z=>?_,fun p hp z=>?_⟩
 ·obtain ⟨v,q⟩:=I.cell x c e
  exact absurd (Nat.lt_of_lt_of_le q.lt (by rw [z];exact hb)) (Nat.lt_irrefl _)
 ·exact absurd (Nat.lt_of_lt_of_le (Heap.lt_size (I.pin p hp).1) (by rw [z];exact hb)) (Nat.lt_irrefl _)
structure Turn (P:Program) (w:World) (K:PySem.W.Frag) (tg:Expr) (J:It) (fp:List Addr) (it:Addr) (tn:Nat→Heap→Prop):Prop where
 mem:it∈fp
 obj:∀ i h,tn i h→∀ b∈fp,∃ o,h.get? b=some o∧∀ v,o.data≠.cell v
 keep:∀ i h h',tn i h→(∀ b∈fp,∀ o,h.get? b=some o→h'.get? b=some o)→tn i h'
 item:∀ (X:Cx),X.prog=P→X.w=w→X.K=K→X.calm=true→∀ (i:Nat) (pins:List (Addr×Obj)) (s:Shared) (σ:St) (H:Hp) (E:Value→Shared→Prop),Inv X pins σ H s→(∀ b∈fp,FpOk X pins H b)→tn i s.heap→J.go i H→
  wpAny (model P w) X.A (pyNext (.ref it)) (fun r s1=>∃ u,r=some u∧
   wpAny (model P w) X.A (letOwnedTupleGo tg (.ref it) u) (fun _ s2=>∃ x H',Inv X pins σ H' s2∧RelV x u∧J.yld i H x H'∧tn (i+1) s2.heap∧∀ b∈fp,H' b=none) E s1) E s
 done:∀ (X:Cx),X.prog=P→X.w=w→X.K=K→X.calm=true→∀ (i:Nat) (pins:List (Addr×Obj)) (s:Shared) (σ:St) (H:Hp) (E:Value→Shared→Prop),Inv X pins σ H s→(∀ b∈fp,FpOk X pins H b)→tn i s.heap→J.stop i H→
  wpAny (model P w) X.A (pyNext (.ref it)) (fun r s1=>r=none∧Inv X pins σ H s1) E s
 self:∀ (A:Around) (i:Nat) (s:Shared) (Q:Value→Shared→Prop) (E:Value→Shared→Prop),tn i s.heap→Q (.ref it) s→wpAny (model P w) A (pyIter (.ref it)) Q E s
noncomputable abbrev TI:=St→Hp→(It→Hp→Prop)→Prop
noncomputable def PIE (X:Cx) (pins:List (Addr×Obj)) (σ:St) (tg:Expr) (R:It→Hp→Prop) (itv:Value) (s2:Shared):Prop:=
 ∃ (it:Addr) (fp:List Addr) (tn:Nat→Heap→Prop) (J:It) (H':Hp),itv=.ref it∧Inv X pins σ H' s2∧Turn X.prog X.w X.K tg J fp it tn∧tn 0 s2.heap∧(∀ b∈fp,FpOk X pins H' b)∧R J H'
noncomputable def PI (X:Cx) (tg iter:Expr) (wi:TI):Prop:=
 ∀ (pins:List (Addr×Obj)) (s:Shared) (σ:St) (H:Hp) (R:It→Hp→Prop),Inv X pins σ H s→wi σ H R→
  wpAny (model X.prog X.w) X.A (eval iter X.env) (fun v s1=>wpAny (model X.prog X.w) X.A (pyIter v) (PIE X pins σ tg R) X.xe s1) X.xe s
theorem go_of {M:Model} {A:Around} {E:Value→Shared→Prop} {s:Shared} {tg:Expr} {it:Addr} {u:Value} {o:Obj} {n:String} {vs:Array Value} {Q:Unit→Shared→Prop} (ho:s.heap.get? it=some o) (hc:o.cls=.type n) (hd:o.data=.fields vs)
  (hn:["enumerate","zip","dict_itemiterator","dict_reverseitemiterator","odict_iterator","itertools.zip_longest","itertools.pairwise"].contains n=false) (hQ:Q () s):wpAny M A (letOwnedTupleGo tg (.ref it) u) Q E s:=by
 unfold letOwnedTupleGo
 cases tg<;>first
  | exact wpAny_pure hQ
  | (cases u<;>first
    | exact wpAny_pure hQ
    | (refine wpAny_bind (wpAny_load ho ?_)
       rw [hc,hd]
       show wpAny M A (if (["enumerate","zip","dict_itemiterator","dict_reverseitemiterator","odict_iterator","itertools.zip_longest","itertools.pairwise"].contains n&&vs[0]? == some (rawInt _))=true then _ else _) Q E s
       rw [if_neg (by intro h;rw [hn,Bool.false_and] at h;cases h)]
       exact wpAny_pure hQ))
noncomputable def Itl (K:PySem.W.Frag) (a:Addr):It:=
 ⟨fun i H=>∃ xs x,SqL K H a xs∧xs[i]?=some x,fun i H x H'=>H'=H∧∀ xs,SqL K H a xs→xs[i]?=some x,fun i H=>∃ xs,SqL K H a xs∧xs.length≤i⟩
noncomputable def Itt (K:PySem.W.Frag) (a:Addr):It:=
 ⟨fun i H=>∃ xs x,SqT K H a xs∧xs[i]?=some x,fun i H x H'=>H'=H∧∀ xs,SqT K H a xs→xs[i]?=some x,fun i H=>∃ xs,SqT K H a xs∧xs.length≤i⟩
noncomputable def Itr (lo:Int) (n:Nat):It:=⟨fun i _=>i < n,fun i H x H'=>H'=H∧x=.int (lo+i),fun i _=>n≤i⟩
theorem turn_list {P:Program} {w:World} {K:PySem.W.Frag} {tg:Expr} (a it:Addr):Turn P w K tg (Itl K a) [it] it (fun i h=>h.IsListIter it a i) where
 mem:=by simp
 obj:=fun i h st b hb=>by
  have e:b=it:=by simpa using hb
  subst e
  obtain ⟨o,e,c,d⟩:=st
  exact ⟨o,e,fun v z=>by rw [d] at z;cases z⟩
 keep:=fun i h h' st k=>st.at fun o e=>k it (by simp) o e
 item:=by
  intro X hP hw hK hc i pins s σ H E I hf st hg
  subst hP hw hK
  obtain ⟨xs,x,hq,hx⟩:=hg
  obtain ⟨its,rv,p,hz⟩:=I.list hq
  obtain ⟨u,hu,ru⟩:=rv.get hx
  obtain ⟨f0,f1,f2,f3,f4,f5⟩:=hf it (by simp)
  refine wpAny_pyNext_list_item st p.isList (x:=u) (by simpa using hu) fun h' st' sb=>?_
  have I1:Inv X pins σ H { s with heap:=h' }:=I.turned (t':=s.toks) (fun b o hb e=>(sb.2 b hb).trans e) f0 f1 f3 f4 f5
  obtain ⟨o,e,c,d⟩:=id st'
  exact ⟨u,rfl,go_of (s:={ s with heap:=h' }) e c d (by decide) ⟨x,H,I1,ru,⟨rfl,fun ys hy=>by rw [I.list_inj hy hq];exact hx⟩,st',fun b hb=>(hf b hb).1⟩⟩
 done:=by
  intro X hP hw hK hc i pins s σ H E I hf st hg
  subst hP hw hK
  obtain ⟨xs,hq,hx⟩:=hg
  obtain ⟨its,rv,p,hz⟩:=I.list hq
  obtain ⟨f0,f1,f2,f3,f4,f5⟩:=hf it (by simp)
  have hl:=rv.length
  exact wpAny_pyNext_list_end (I.ok.hd hc) st p.isList (by simp;omega) fun h' eb=>⟨rfl,I.turned (t':=s.toks) (fun b o hb e=>eb b o hb e) f0 f1 f3 f4 f5⟩
 self:=fun _ _ _ _ _ st h=>wpAny_pyIter_listiter st h
theorem turn_tuple {P:Program} {w:World} {K:PySem.W.Frag} {tg:Expr} (a it:Addr):Turn P w K tg (Itt K a) [it] it (fun i h=>h.IsTupleIter it a i) where
 mem:=by simp
 obj:=fun i h st b hb=>by
  have e:b=it:=by simpa using hb
  subst e
  obtain ⟨o,e,c,d⟩:=st
  exact ⟨o,e,fun v z=>by rw [d] at z;cases z⟩
 keep:=fun i h h' st k=>st.at fun o e=>k it (by simp) o e
 item:=by
  intro X hP hw hK hc i pins s σ H E I hf st hg
  subst hP hw hK
  obtain ⟨xs,x,hq,hx⟩:=hg
  obtain ⟨its,rv,p,hz⟩:=I.tuple hq
  obtain ⟨u,hu,ru⟩:=rv.get hx
  obtain ⟨f0,f1,f2,f3,f4,f5⟩:=hf it (by simp)
  refine wpAny_pyNext_tuple_item st (show s.heap.IsTuple a its.toArray from p) (x:=u) (by simpa using hu) fun h' st' sb=>?_
  have I1:Inv X pins σ H { s with heap:=h' }:=I.turned (t':=s.toks) (fun b o hb e=>(sb.2 b hb).trans e) f0 f1 f3 f4 f5
  obtain ⟨o,e,c,d⟩:=id st'
  exact ⟨u,rfl,go_of (s:={ s with heap:=h' }) e c d (by decide) ⟨x,H,I1,ru,⟨rfl,fun ys hy=>by rw [I.tuple_inj hy hq];exact hx⟩,st',fun b hb=>(hf b hb).1⟩⟩
 done:=by
  intro X hP hw hK hc i pins s σ H E I hf st hg
  subst hP hw hK
  obtain ⟨xs,hq,hx⟩:=hg
  obtain ⟨its,rv,p,hz⟩:=I.tuple hq
  obtain ⟨f0,f1,f2,f3,f4,f5⟩:=hf it (by simp)
  have hl:=rv.length
  exact wpAny_pyNext_tuple_end (I.ok.hd hc) st (show s.heap.IsTuple a its.toArray from p) (by simp;omega) fun h' eb=>⟨rfl,I.turned (t':=s.toks) (fun b o hb e=>eb b o hb e) f0 f1 f3 f4 f5⟩
 self:=fun _ _ _ _ _ st h=>wpAny_pyIter_tupleiter st h
theorem turn_range {P:Program} {w:World} {K:PySem.W.Frag} {tg:Expr} (it:Addr) (lo:Int) (n:Nat):Turn P w K tg (Itr lo n) [it] it (fun i h=>IsRangeIter h it (lo+(i:Nat) * 1) ((n:Int) - (i:Nat)) 1) where
 mem:=by simp
 obj:=fun i h st b hb=>by
  have e:b=it:=by simpa using hb
  subst e
  exact ⟨_,st,fun v z=>by
   have z':Data.fields _=Data.cell v:=z
   cases z'⟩
 keep:=fun i h h' st k=>k it (by simp) _ st
 item:=by
  intro X hP hw hK hc i pins s σ H E I hf st hg
  subst hP hw hK
  obtain ⟨f0,f1,f2,f3,f4,f5⟩:=hf it (by simp)
  have W:=Walks.range (prog:=X.prog) (w:=X.w) (I.ok.hd hc) it lo 1 n
  refine W.item i s _ _ hg st fun v h' tk hv st' kk=>?_
  obtain ⟨t,rfl⟩:=hv
  have I1:Inv X pins σ H { s with heap:=h',toks:=tk }:=I.turned (fun b o hb e=>kk b o (by simpa using hb) e) f0 f1 f3 f4 f5
  refine ⟨_,rfl,go_of (s:={ s with heap:=h',toks:=tk }) (n:="range_iterator") st' rfl rfl (by decide) ⟨.int (lo+i),H,I1,⟨t,?_⟩,⟨rfl,rfl⟩,st',fun b hb=>(hf b hb).1⟩⟩
  rw [Int.mul_one]
 done:=by
  intro X hP hw hK hc i pins s σ H E I hf st hg
  subst hP hw hK
  obtain ⟨f0,f1,f2,f3,f4,f5⟩:=hf it (by simp)
  exact wpAny_pyNext_range_end (I.ok.hd hc) st (by have:n≤i:=hg;omega) fun h' eb=>⟨rfl,I.turned (t':=s.toks) (fun b o hb e=>eb b o hb e) f0 f1 f3 f4 f5⟩
 self:=fun _ _ _ _ _ st h=>wpAny_pyIter_rangeiter st h
end L2
namespace L2
open PySem PySem.Spec PyProof.Rows
section
variable {X:Cx} {tg:Expr}
theorem range_it {pins:List (Addr×Obj)} {σ:St} {H:Hp} {s:Shared} {R:It→Hp→Prop} {E:Value→Shared→Prop} {lo hi:Int} {t u v:Tok} {tk:Nat} (I:Inv X pins σ H s) (h1:-(2 ^ 62)≤lo) (h2:lo < 2 ^ 62) (h3:-(2 ^ 62)≤hi) (h4:hi < 2 ^ 62)
  (q:R (Itr lo (hi - lo).toNat) H):wpAny (model X.prog X.w) X.A (pyIter (.ref s.heap.objs.size)) (PIE X pins σ tg R) E { s with heap:=s.heap.push { cls:=.type "range",data:=.fields #[.int lo t,.int hi u,.int 1 v] },toks:=tk }:=by
 refine wpAny_pyIter_range (IsRange.new ..) (small_one h1 h2 h3 h4) ?_
 have I1:Inv X pins σ H { s with heap:=s.heap.push { cls:=.type "range",data:=.fields #[.int lo t,.int hi u,.int 1 v] },toks:=tk }:=I.kept fun b o e=>Heap.get?_push_of_some _ e
 refine ⟨(s.heap.push { cls:=.type "range",data:=.fields #[.int lo t,.int hi u,.int 1 v] }).objs.size,[(s.heap.push { cls:=.type "range",data:=.fields #[.int lo t,.int hi u,.int 1 v] }).objs.size],_,_,H,rfl,
  I1.kept (t':=tk) fun b o e=>Heap.get?_push_of_some _ e,turn_range _ lo (hi - lo).toNat,?_,fun b hb=>?_,q⟩
 ·have e1:lo+((0:Nat):Int) * 1=lo:=by simp
  have e2:(((hi - lo).toNat:Nat):Int) - ((0:Nat):Int)=Builtin.Range.rangeSize lo hi 1:=by rw [rangeSize_one];split<;>omega
  show IsRangeIter _ _ (lo+((0:Nat):Int) * 1) ((((hi - lo).toNat:Nat):Int) - ((0:Nat):Int)) 1
  rw [e1,e2]
  exact Heap.get?_push_size _ rfl
 ·have e:b=(s.heap.push { cls:=.type "range",data:=.fields #[.int lo t,.int hi u,.int 1 v] }).objs.size:=by simpa using hb
  subst e
  exact I1.fpOk (Nat.le_refl _) (I1.hok.fresh (Nat.le_refl _))
noncomputable def iRng1 (ta:TA):TI:=fun σ H R=>ta σ H fun vs H1=>∃ j:Int,vs=[.int j]∧-(2 ^ 62)≤j∧j < 2 ^ 62∧R (Itr 0 j.toNat) H1
noncomputable def iRng2 (ta:TA):TI:=fun σ H R=>ta σ H fun vs H1=>∃ i j:Int,vs=[.int i,.int j]∧(-(2 ^ 62)≤i∧i < 2 ^ 62∧-(2 ^ 62)≤j∧j < 2 ^ 62)∧R (Itr i (j - i).toNat) H1
theorem pi_range1 {a:Expr} {ta:TA} {p pos:Pos} (hg:Gl X "range") (hm:X.mg "range" = none) (ha:PA X [a] ta) (hs:starEach [a] X.env=[(false,eval a X.env)]:=by rfl):PI X tg (.Call (.Name "range" p) [a] [] pos) (iRng1 ta):=by
 intro pins s σ H R I h
 refine Call_ (ld_blt I hg hm boot_range (PyProof.Rows.callWith_type1 (thn (ha pos pins s σ H _ I h) fun us s1 ⟨vs,H1,I1,r1,q1⟩=>?_) hs rfl))
 obtain ⟨j,e,q1,q2,q⟩:=q1
 subst e
 cases r1 with
 | cons r rr=>
  cases rr
  obtain ⟨t,rfl⟩:=r
  exact call_range_1 (range_it I1 (by omega) (by omega) q1 q2 (by simpa using q))
theorem pi_range2 {a b:Expr} {ta:TA} {p pos:Pos} (hg:Gl X "range") (hm:X.mg "range" = none) (ha:PA X [a,b] ta) (hs:starEach [a,b] X.env=[(false,eval a X.env),(false,eval b X.env)]:=by rfl) (hs2:starEach [b] X.env=[(false,eval b X.env)]:=by rfl) :
  PI X tg (.Call (.Name "range" p) [a,b] [] pos) (iRng2 ta):=by
 intro pins s σ H R I h
 refine Call_ (ld_blt I hg hm boot_range (PyProof.Rows.callWith_type1 (thn (ha pos pins s σ H _ I h) fun us s1 ⟨vs,H1,I1,r1,q1⟩=>?_) (by rw [hs,hs2]) (by rw [hs2];rfl)))
 obtain ⟨i,j,e,⟨q1,q2,q3,q4⟩,q⟩:=q1
 subst e
 cases r1 with
 | cons r rr=>
  cases rr with
  | cons r' rr=>
   cases rr
   obtain ⟨t,rfl⟩:=r
   obtain ⟨t',rfl⟩:=r'
   exact call_range_2 (range_it I1 q1 q2 q3 q4 q)
noncomputable def tFor (wi:TI) (g:TG) (tb:TS):TS:=fun D σ H=>wi σ H fun J H1=>∃ W:Nat→Nat→St→Hp→Prop,(∃ m,W 0 m σ H1)∧∀ i m σ H,W i m σ H→
 (J.stop i H∧D.nx σ H)∨(J.go i H∧∃ N:St→Hp→Prop,(∀ σ' H',N σ' H'→∃ m',m' < m∧W (i+1) m' σ' H')∧∀ x H',J.yld i H x H'→g x σ H' fun σ2 H2=>tb { D with nx:=N,ct:=N,bk:=D.nx } σ2 H2)
noncomputable def pinsAt (fp:List Addr) (h:Heap):List (Addr×Obj):=fp.filterMap fun b=>(h.get? b).map fun o=>(b,o)
theorem mem_pinsAt {fp:List Addr} {h:Heap} {b:Addr} {o:Obj} (hb:b∈fp) (e:h.get? b=some o):(b,o)∈pinsAt fp h:=List.mem_filterMap.mpr ⟨b,hb,by rw [e];rfl⟩
theorem of_pinsAt {fp:List Addr} {h:Heap} {p:Addr×Obj} (hp:p∈pinsAt fp h):p.1∈fp∧h.get? p.1=some p.2:=by
 obtain ⟨b,hb,e⟩:=List.mem_filterMap.mp hp
 cases q:h.get? b with
 | none=>rw [q] at e;cases e
 | some o=>
  rw [q] at e
  have e':(b,o)=p:=Option.some.inj e
  subst e'
  exact ⟨hb,q⟩
theorem Inv.pinned {pins:List (Addr×Obj)} {σ:St} {H:Hp} {s:Shared} {fp:List Addr} (I:Inv X pins σ H s) (hf:∀ b∈fp,FpOk X pins H b) (ho:∀ b∈fp,∃ o,s.heap.get? b=some o∧∀ v,o.data≠.cell v):Inv X (pins++pinsAt fp s.heap) σ H s:=
 I.pins_of fun p hp=>(List.mem_append.mp hp).elim (fun z=>I.pin p (List.mem_append_right _ z)) fun z=>by
  obtain ⟨hb,e⟩:=of_pinsAt z
  obtain ⟨f0,f1,f2,_⟩:=hf p.1 hb
  obtain ⟨o,e',d⟩:=ho p.1 hb
  rw [e] at e';cases e'
  exact ⟨e,f0,f1,f2,d⟩
theorem Inv.unpinned {pins pl:List (Addr×Obj)} {σ:St} {H:Hp} {s:Shared} (I:Inv X (pins++pl) σ H s):Inv X pins σ H s:=I.pins_of fun p hp=>I.pin p (List.mem_append_right _ (List.mem_append_left _ hp))
theorem ps_for {iter:Expr} {body:List Stmt} {wi:TI} {g:TG} {tb:TS} {pos:Pos} (hp:PassesOwn (model X.prog X.w) X.A X.env X.xe) (hc:X.calm=true) (hi:PI X tg iter wi) (hg:PG X tg g) (hb:PSs X body tb)
  (hs:∀ x,foldedSetIterable iter X.env x=pure x:=by intro _;rfl):PS X (.For tg iter body [] pos) (tFor wi g tb):=by
 intro pins s σ H D I h
 refine wpAny_For (thn (hi pins s σ H _ I h) fun v s1 h1=>thn h1 fun itv s2 h2=>?_) hs
 obtain ⟨it,fp,tn,J,H2,e,I2,T,st2,f2,W,⟨m0,w0⟩,turn⟩:=h2
 subst e
 -- what stays true of the iterator's objects through the loop
 have stat:∀ {H':Hp},(∀ b∈fp,H' b=none)→∀ b∈fp,FpOk X pins H' b:=fun hn b hb=>⟨hn b hb,(f2 b hb).2⟩
 refine codeAny_forLoop_any (fun n s'=>∃ i σ' H',Inv X pins σ' H' s'∧tn i s'.heap∧(∀ b∈fp,H' b=none)∧W i n σ' H') ?_ m0 ⟨0,σ,H2,I2,st2,fun b hb=>(f2 b hb).1,w0⟩
 rintro n s3 ⟨i,σ3,H3,I3,st3,fr3,w3⟩
 rcases turn i n σ3 H3 w3 with ⟨stop,qn⟩ | ⟨go,N,hN,step⟩
 ·refine wpAny_passesOwn hp (thn (T.done X rfl rfl rfl hc i pins s3 σ3 H3 X.xe I3 (stat fr3) st3 stop) fun r s4 ⟨hr,I4⟩=>?_)
  subst hr
  exact wpAny_execs_nil ⟨σ3,H3,I4,qn⟩
 ·refine wpAny_passesOwn hp (thn (T.item X rfl rfl rfl hc i pins s3 σ3 H3 X.xe I3 (stat fr3) st3 go) fun r s4 ⟨u,hr,h4⟩=>?_)
  subst hr
  refine wpAny_passesOwn hp (thn h4 fun _ s5 ⟨x,H5,I5,r5,y5,st5,fr5⟩=>?_)
  have I5':=I5.pinned (stat fr5) (T.obj _ _ st5)
  refine wpAny_passesOwn hp (thn (hg _ s5 σ3 H5 x u _ I5' r5 (step x H5 y5)) fun _ s6 ⟨σ6,H6,I6,q6⟩=>?_)
  refine wpAny_passesOwn hp (thn (hb _ s6 σ6 H6 _ I6 q6) fun f s7 q7=>?_)
  have again:∀ {σ7:St} {H7:Hp},Inv X (pins++pinsAt fp s5.heap) σ7 H7 s7→N σ7 H7→∃ m,m < n∧∃ i σ' H',Inv X pins σ' H' s7∧tn i s7.heap∧(∀ b∈fp,H' b=none)∧W i m σ' H':=fun {σ7 H7} I7 n7=>by
   obtain ⟨m',hm,w7⟩:=hN σ7 H7 n7
   refine ⟨m',hm,i+1,σ7,H7,I7.unpinned,T.keep _ _ _ st5 fun b hb o e=>(I7.pin (b,o) (List.mem_append_right _ (List.mem_append_right _ (mem_pinsAt hb e)))).1,fun b hb=>?_,w7⟩
   obtain ⟨o,e,d⟩:=T.obj _ _ st5 b hb
   exact (I7.pin (b,o) (List.mem_append_right _ (List.mem_append_right _ (mem_pinsAt hb e)))).2.1
  cases f with
  | next=>obtain ⟨σ7,H7,I7,n7⟩:=q7;exact again I7 n7
  | cont=>obtain ⟨σ7,H7,I7,n7⟩:=q7;exact again I7 n7
  | brk=>obtain ⟨σ7,H7,I7,q7⟩:=q7;exact ⟨σ7,H7,I7.unpinned,q7⟩
  | ret v=>obtain ⟨x7,σ7,H7,I7,r7,q7⟩:=q7;exact ⟨x7,σ7,H7,I7.unpinned,r7,q7⟩
end
end L2
namespace L2
open PySem PySem.Spec PyProof.Rows
noncomputable abbrev R2:=V→V→Hp→VK→Prop
noncomputable def OpR (X:Cx) (f:Value→Value→Sem Value) (r:R2):Prop:=
 ∀ (pins:List (Addr×Obj)) (s:Shared) (σ:St) (H:Hp) (x y:V) (v u:Value) (Q:VK),Inv X pins σ H s→RelV x v→RelV y u→r x y H Q→
  wpAny (model X.prog X.w) X.A (f v u) (EP X pins σ Q) X.xe s
noncomputable def UnR (X:Cx) (f:Value→Sem Value) (r:V→Hp→VK→Prop):Prop:=
 ∀ (pins:List (Addr×Obj)) (s:Shared) (σ:St) (H:Hp) (x:V) (v:Value) (Q:VK),Inv X pins σ H s→RelV x v→r x H Q→
  wpAny (model X.prog X.w) X.A (f v) (EP X pins σ Q) X.xe s
noncomputable def CallR (X:Cx) (f:Value) (r:List V→Hp→VK→Prop):Prop:=
 ∀ (pins:List (Addr×Obj)) (s:Shared) (σ:St) (H:Hp) (xs:List V) (us:List Value) (Q:VK),Inv X pins σ H s→Vals xs us→r xs H Q→
  wpAny (model X.prog X.w) X.A (call f us) (EP X pins σ Q) X.xe s
noncomputable def TruR (X:Cx) (r:V→Hp→(Bool→Hp→Prop)→Prop):Prop:=
 ∀ (pins:List (Addr×Obj)) (s:Shared) (σ:St) (H:Hp) (x:V) (v:Value) (Q:Bool→Hp→Prop),Inv X pins σ H s→RelV x v→r x H Q→
  wpAny (model X.prog X.w) X.A (truthy v) (TP X pins σ Q) X.xe s
noncomputable def tOp (r:R2) (ta tb:TE):TE:=fun σ H Q=>ta σ H fun x H1=>tb σ H1 fun y H2=>r x y H2 Q
noncomputable def tUn (r:V→Hp→VK→Prop) (ta:TE):TE:=fun σ H Q=>ta σ H fun x H1=>r x H1 Q
noncomputable def rI (C:Int→Int→Prop) (g:Int→Int→V):R2:=fun x y H Q=>∃ i j,x=.int i∧y=.int j∧C i j∧Q (g i j) H
noncomputable def rI0 (g:Int→Int→V):R2:=fun x y H Q=>∃ i j,x=.int i∧y=.int j∧Q (g i j) H
noncomputable def rU (g:Int→V):V→Hp→VK→Prop:=fun x H Q=>∃ i,x=.int i∧Q (g i) H
section
variable {X:Cx} {a b c:Expr} {ta tb tc:TE} {pos:Pos}
theorem binT (ha:PE X a ta) (hb:PE X b tb) {pins:List (Addr×Obj)} {s:Shared} {σ:St} {H:Hp} {R:V→V→Hp→Prop} (I:Inv X pins σ H s)
  (h:ta σ H fun x H1=>tb σ H1 fun y H2=>R x y H2) {Q:Value→Shared→Prop} {f:Value→Value→Sem Value}
  (hf:∀ v u s2 x y H2,Inv X pins σ H2 s2→RelV x v→RelV y u→R x y H2→wpAny (model X.prog X.w) X.A (f v u) Q X.xe s2) :
  wpAny (model X.prog X.w) X.A (eval a X.env) (fun v s₁=>wpAny (model X.prog X.w) X.A (eval b X.env) (fun u s₂=>wpAny (model X.prog X.w) X.A (f v u) Q X.xe s₂) X.xe s₁) X.xe s:=by
 refine thn (ha pins s σ H _ I h) fun v s1 ⟨x,H1,I1,r1,q1⟩=>?_
 refine thn (hb pins s1 σ H1 _ I1 q1) fun u s2 ⟨y,H2,I2,r2,q2⟩=>?_
 exact hf v u s2 x y H2 I2 r1 r2 q2
theorem pe_op {op:Operator} {r:R2} (ho:OpR X (binaryOp op) r) (ha:PE X a ta) (hb:PE X b tb):PE X (.BinOp a op b pos) (tOp r ta tb):=by
 intro pins s σ H Q I h
 exact wpAny_BinOp (binT ha hb I h fun v u s2 x y H2 I2 rx ry q=>ho pins s2 σ H2 x y v u Q I2 rx ry q)
theorem pe_un {op:UnaryOp} {r:V→Hp→VK→Prop} (ho:UnR X (unaryOp op) r) (ha:PE X a ta):PE X (.UnaryOp op a pos) (tUn r ta):=by
 intro pins s σ H Q I h
 exact UnaryOp_ (thn (ha pins s σ H _ I h) fun v s1 ⟨x,H1,I1,r1,q1⟩=>ho pins s1 σ H1 x v Q I1 r1 q1)
theorem opI {f:Value→Value→Sem Value} {C:Int→Int→Prop} {g:Int→Int→Int}
  (rule:∀ (i j:Int) (t u:Tok) (s:Shared) (Q:Value→Shared→Prop) (E:Value→Shared→Prop),C i j→Q (.int (g i j) s.toks) { s with toks:=s.toks+1 }→wpAny (model X.prog X.w) X.A (f (.int i t) (.int j u)) Q E s) :
  OpR X f (rI C fun i j=>.int (g i j)):=by
 intro pins s σ H x y v u Q I rx ry h
 obtain ⟨i,j,rfl,rfl,hc,q⟩:=h
 obtain ⟨t,rfl⟩:=rx
 obtain ⟨t',rfl⟩:=ry
 exact rule i j t t' s _ _ hc ⟨.int (g i j),H,I.tok _,⟨_,rfl⟩,q⟩
theorem opI0 {f:Value→Value→Sem Value} {g:Int→Int→Int}
  (rule:∀ (i j:Int) (t u:Tok) (s:Shared) (Q:Value→Shared→Prop) (E:Value→Shared→Prop),Q (.int (g i j) s.toks) { s with toks:=s.toks+1 }→wpAny (model X.prog X.w) X.A (f (.int i t) (.int j u)) Q E s) :
  OpR X f (rI0 fun i j=>.int (g i j)):=by
 intro pins s σ H x y v u Q I rx ry h
 obtain ⟨i,j,rfl,rfl,q⟩:=h
 obtain ⟨t,rfl⟩:=rx
 obtain ⟨t',rfl⟩:=ry
 exact rule i j t t' s _ _ ⟨.int (g i j),H,I.tok _,⟨_,rfl⟩,q⟩
theorem opB0 {f:Value→Value→Sem Value} {g:Int→Int→Bool}
  (rule:∀ (i j:Int) (t u:Tok) (s:Shared) (Q:Value→Shared→Prop) (E:Value→Shared→Prop),Q (.bool (g i j)) s→wpAny (model X.prog X.w) X.A (f (.int i t) (.int j u)) Q E s) :
  OpR X f (rI0 fun i j=>.bl (g i j)):=by
 intro pins s σ H x y v u Q I rx ry h
 obtain ⟨i,j,rfl,rfl,q⟩:=h
 obtain ⟨t,rfl⟩:=rx
 obtain ⟨t',rfl⟩:=ry
 exact rule i j t t' s _ _ ⟨.bl (g i j),H,I,rfl,q⟩
noncomputable def CDiv (i j:Int):Prop:=0 < j∧j < 1073741824
noncomputable def CPow (i j:Int):Prop:=0≤j∧j≤1000000∧i.natAbs < 2 ^ 64
noncomputable def CMul (i j:Int):Prop:=(-(2 ^ 64) < i∧i < 2 ^ 64)∨(-(2 ^ 64) < j∧j < 2 ^ 64)
theorem CMul.ok {i j:Int} (h:CMul i j):IntMulOk i j:=by
 rcases h with ⟨h1,h2⟩ | ⟨h1,h2⟩
 ·exact .of_left (intBits_le_64 h1 h2)
 ·exact .of_right (intBits_le_64 h1 h2)
theorem op_add:OpR X (binaryOp .Add) (rI0 fun i j=>.int (i+j)):=opI0 fun _ _ _ _ _ _ _ q=>add_int q
theorem op_sub:OpR X (binaryOp .Sub) (rI0 fun i j=>.int (i - j)):=opI0 fun _ _ _ _ _ _ _ q=>sub_int q
theorem op_mul:OpR X (binaryOp .Mult) (rI CMul fun i j=>.int (i * j)):=opI fun _ _ _ _ _ _ _ hc q=>mul_int q hc.ok
theorem op_fdiv:OpR X (binaryOp .FloorDiv) (rI CDiv fun i j=>.int (i / j)):=opI fun i j _ _ _ _ _ hc q=>by
 have h1:(0:Int) < j:=hc.1
 have h2:j < 1073741824:=hc.2
 exact floordiv_int (by omega) (by rw [Int.fdiv_eq_ediv_of_nonneg i (by omega)];exact q) (.inl (PyProof.noPylong_small (by omega)))
theorem op_mod:OpR X (binaryOp .Mod) (rI (fun _ j=>0 < j) fun i j=>.int (i % j)):=opI fun i j _ _ _ _ _ hc q=>by
 have h1:(0:Int) < j:=hc
 exact mod_int' (by omega) (by rw [Int.fmod_eq_emod_of_nonneg i (by omega)];exact q)
theorem op_pow:OpR X (binaryOp .Pow) (rI CPow fun i j=>.int (i ^ j.toNat)):=opI fun _ _ _ _ _ _ _ hc q=>pow_int_small hc.1 hc.2.1 hc.2.2 q
theorem unI {f:Value→Sem Value} {g:Int→Int}
  (rule:∀ (i:Int) (t:Tok) (s:Shared) (Q:Value→Shared→Prop) (E:Value→Shared→Prop),Q (.int (g i) s.toks) { s with toks:=s.toks+1 }→wpAny (model X.prog X.w) X.A (f (.int i t)) Q E s) :
  UnR X f (rU fun i=>.int (g i)):=by
 intro pins s σ H x v Q I rx h
 obtain ⟨i,rfl,q⟩:=h
 obtain ⟨t,rfl⟩:=rx
 exact rule i t s _ _ ⟨.int (g i),H,I.tok _,⟨_,rfl⟩,q⟩
theorem un_neg:UnR X (unaryOp .USub) (rU fun i=>.int (-i)):=unI fun _ _ _ _ _ q=>neg_int q
end
section
variable {X:Cx} {a b c:Expr} {ta tb tc:TE} {pos:Pos}
theorem fin_bl {pins:List (Addr×Obj)} {σ:St} {H:Hp} {s:Shared} {Q:VK} {k k':Bool} (I:Inv X pins σ H s) (q:Q (.bl k) H) (e:k=k'):EP X pins σ Q (.bool k') s:=by
 subst e
 exact ⟨.bl k,H,I,rfl,q⟩
theorem op_lt:OpR X (compareOp .Lt) (rI0 fun i j=>.bl (decide (i < j))):=opB0 fun _ _ _ _ _ _ _ q=>lt_int q
theorem op_le:OpR X (compareOp .LtE) (rI0 fun i j=>.bl (decide (i≤j))):=opB0 fun _ _ _ _ _ _ _ q=>le_int q
theorem op_gt:OpR X (compareOp .Gt) (rI0 fun i j=>.bl (decide (j < i))):=opB0 fun _ _ _ _ _ _ _ q=>gt_int q
theorem op_ge:OpR X (compareOp .GtE) (rI0 fun i j=>.bl (decide (j≤i))):=opB0 fun _ _ _ _ _ _ _ q=>ge_int q
theorem op_in_str:OpR X (compareOp .In) (fun x y H Q=>∃ i j,x=.str i∧y=.str j∧Q (.bl (!(Builtin.Str.occurrences j i 0 j.length 1).isEmpty)) H):=by
 intro pins s σ H x y v u Q I rx ry h
 obtain ⟨i,j,rfl,rfl,q⟩:=h
 obtain ⟨t,rfl⟩:=rx
 obtain ⟨t',rfl⟩:=ry
 exact in_str (fin_bl I q rfl)
theorem op_isN:OpR X (compareOp .Is) (fun x y H Q=>y=.non∧Q (.bl (decide (x=.non))) H):=by
 intro pins s σ H x y v u Q I rx ry h
 obtain ⟨rfl,q⟩:=h
 cases ry
 refine is_none_gen (fin_bl I q ?_)
 cases x<;>first
  | (cases rx;rfl)
  | (obtain ⟨t,rfl⟩:=rx;rfl)
theorem op_notN:OpR X (compareOp .IsNot) (fun x y H Q=>y=.non∧Q (.bl (!decide (x=.non))) H):=by
 intro pins s σ H x y v u Q I rx ry h
 obtain ⟨rfl,q⟩:=h
 cases ry
 refine isnot_none_gen (fin_bl I q ?_)
 cases x<;>first
  | (cases rx;rfl)
  | (obtain ⟨t,rfl⟩:=rx;rfl)
theorem op_notin_str:OpR X (compareOp .NotIn) (fun x y H Q=>∃ i j,x=.str i∧y=.str j∧Q (.bl (!(!(Builtin.Str.occurrences j i 0 j.length 1).isEmpty))) H):=by
 intro pins s σ H x y v u Q I rx ry h
 obtain ⟨i,j,rfl,rfl,q⟩:=h
 obtain ⟨t,rfl⟩:=rx
 obtain ⟨t',rfl⟩:=ry
 exact notIn_str (fin_bl I q rfl)
theorem pe_cmpR {op:CmpOp} {r:R2} (ho:OpR X (compareOp op) r) (ha:PE X a ta) (hb:PE X b tb) (hm:behindInMarks op b=false):PE X (.Compare a [op] [b] pos) (tOp r ta tb):=by
 intro pins s σ H Q I h
 exact wpAny_Compare1 (binT ha hb I h fun v u s2 x y H2 I2 rx ry q=>ho pins s2 σ H2 x y v u Q I2 rx ry q) hm
noncomputable def tTest (t:TE):TT:=fun σ H Q=>t σ H fun x H'=>∃ k,x=.bl k∧Q k H'
theorem pt_cmpR {op:CmpOp} {r:R2} (ho:OpR X (compareOp op) r) (ha:PE X a ta) (hb:PE X b tb) (hm:behindInMarks op b=false):PT X (.Compare a [op] [b] pos) (tTest (tOp r ta tb)):=by
 intro pins s σ H Q I h
 refine wpAny_isTrue_Compare1 (thn (ha pins s σ H _ I h) fun v s1 ⟨x,H1,I1,r1,q1⟩=>thn (hb pins s1 σ H1 _ I1 q1) fun u s2 ⟨y,H2,I2,r2,q2⟩=>
  thn (ho pins s2 σ H2 x y v u _ I2 r1 r2 q2) fun c s3 ⟨z,H3,I3,r3,k,e,q3⟩=>?_) hm
 subst e
 cases r3
 exact wpAny_truthy_bool ⟨H3,I3,q3⟩
noncomputable def TruV (K:PySem.W.Frag) (x:V) (H:Hp) (k:Bool):Prop:=
 match x with
 | .non=>k=false
 | .bl b=>k=b
 | .int i=>k=(i != 0)
 | .str y=>y.length≤sizeLine∧k=((y.length:Int) != 0)
 | .byt y=>y.size≤sizeLine∧k=((y.size:Int) != 0)
 | .ref p=>(∃ xs,SqL K H p xs∧k = !xs.isEmpty)∨(∃ xs,SqT K H p xs∧k = !xs.isEmpty)∨∃ kvs,H p=some (.dK kvs)∧k = !kvs.isEmpty
 | _=>False
theorem isEmpty_kv {κ:Type} {kvs:List (κ×V)} {vs:List (κ×Value)} (r:KV kvs vs):(!vs.isEmpty) = !kvs.isEmpty:=by
 cases r<;>rfl
theorem isEmpty_of {xs:List V} {its:List Value} (r:Vals xs its):(!its.toArray.isEmpty) = !xs.isEmpty:=by
 cases r<;>simp
theorem line63:(sizeLine:Nat) < 2 ^ 63:=by rw [sizeLine_eq];decide
theorem tru_ok:TruR X (fun x H Q=>∃ k,TruV X.K x H k∧Q k H):=by
 intro pins s σ H x v Q I rx h
 obtain ⟨k,e,q⟩:=h
 have hl:=line63
 have hs:sizeLine=16777216:=sizeLine_eq
 cases x with
 | non=>
  cases rx
  have e':k=false:=e
  subst e'
  exact truthy_none ⟨H,I,q⟩
 | bl b=>
  cases rx
  have e':k=b:=e
  subst e'
  exact wpAny_truthy_bool ⟨H,I,q⟩
 | int i=>
  obtain ⟨t,rfl⟩:=rx
  have e':k=(i != 0):=e
  subst e'
  exact PySem.P.truthy_int ⟨H,I,q⟩
 | str y=>
  obtain ⟨t,rfl⟩:=rx
  obtain ⟨hy,e'⟩:y.length≤sizeLine∧k=((y.length:Int) != 0):=e
  subst e'
  exact PySem.P.truthy_str (by omega) ⟨H,I.tok _,q⟩
 | byt y=>
  obtain ⟨t,rfl⟩:=rx
  obtain ⟨hy,e'⟩:y.size≤sizeLine∧k=((y.size:Int) != 0):=e
  subst e'
  exact PySem.W.truthy_bytes (by omega) ⟨H,I.tok _,q⟩
 | ref p=>
  cases rx
  have e':(∃ xs,SqL X.K H p xs∧k = !xs.isEmpty)∨(∃ xs,SqT X.K H p xs∧k = !xs.isEmpty)∨∃ kvs,H p=some (.dK kvs)∧k = !kvs.isEmpty:=e
  rcases e' with ⟨xs,hx,e'⟩ | ⟨xs,hx,e'⟩ | ⟨kvs,hx,e'⟩
  ·subst e'
   obtain ⟨its,r,pl,hz⟩:=I.list hx
   have hlen:=r.length
   exact wpAny_truthy_list pl.isList (by simp only [List.size_toArray];omega) ⟨H,I.tok _,by rw [isEmpty_of r];exact q⟩
  ·subst e'
   obtain ⟨its,r,pl,hz⟩:=I.tuple hx
   have hlen:=r.length
   exact truthy_tuple pl (by simp only [List.size_toArray];omega) ⟨H,I.tok _,by rw [isEmpty_of r];exact q⟩
  ·subst e'
   obtain ⟨hz,hS,vs,r,m⟩:kvs.length≤sizeLine∧(p == sysModules)=false∧∃ vs,KV kvs vs∧s.heap.DictOf (mixKind X.prog X.w) p vs:=I.hok p _ hx
   have hlen:kvs.length=vs.length:=Paired.length r
   exact wpAny_truthy_dict hS m (by omega) ⟨H,I.tok _,by rw [isEmpty_kv r];exact q⟩
 | _=>exact (show False from e).elim
theorem pt_truth (ha:PE X a ta) (he:∀ whole,isTrue a X.env whole=(do let v←whole;standAt a.pos;holding [v] (truthy v))) :
  PT X a (fun σ H Q=>ta σ H fun x H'=>∃ k,TruV X.K x H' k∧Q k H'):=by
 intro pins s σ H Q I h
 exact isTrue_plain (thn (ha pins s σ H _ I h) fun v s1 ⟨x,H1,I1,r1,q1⟩=>tru_ok pins s1 σ H1 x v Q I1 r1 q1) (he _)
theorem op_add_str:OpR X (binaryOp .Add) (fun x y H Q=>∃ i j,x=.str i∧y=.str j∧i.length+j.length≤sizeLine∧Q (.str (i++j)) H):=by
 intro pins s σ H x y v u Q I rx ry h
 obtain ⟨i,j,rfl,rfl,hz,q⟩:=h
 obtain ⟨t,rfl⟩:=rx
 obtain ⟨t',rfl⟩:=ry
 exact add_str (fun t' tk=>⟨.str (i++j),H,I.tok _,⟨_,rfl⟩,q⟩) hz
theorem vals1 {x:V} {us:List Value} (r:Vals [x] us):∃ u,us=[u]∧RelV x u:=by
 cases r with
 | cons r1 r2=>cases r2;exact ⟨_,rfl,r1⟩
theorem vals2 {x y:V} {us:List Value} (r:Vals [x,y] us):∃ u w',us=[u,w']∧RelV x u∧RelV y w':=by
 cases r with
 | cons r1 r2=>
  cases r2 with
  | cons r3 r4=>cases r4;exact ⟨_,_,rfl,r1,r3⟩
theorem call_max2 (hc:X.calm=true):CallR X (.builtin "max") (fun xs H Q=>∃ i j,xs=[.int i,.int j]∧Q (.int (if j > i then j else i)) H):=by
 intro pins s σ H xs us Q I r h
 obtain ⟨i,j,rfl,q⟩:=h
 obtain ⟨u,w',rfl,⟨t,rfl⟩,⟨t',rfl⟩⟩:=vals2 r
 refine max_two_ints (I.ok.hd hc) fun h' tk k=>⟨_,H,I.kept k,?_,q⟩
 by_cases hj:j > i
 ·rw [if_pos hj,if_pos hj];exact ⟨_,rfl⟩
 ·rw [if_neg hj,if_neg hj];exact ⟨_,rfl⟩
theorem call_min2 (hc:X.calm=true):CallR X (.builtin "min") (fun xs H Q=>∃ i j,xs=[.int i,.int j]∧Q (.int (if j < i then j else i)) H):=by
 intro pins s σ H xs us Q I r h
 obtain ⟨i,j,rfl,q⟩:=h
 obtain ⟨u,w',rfl,⟨t,rfl⟩,⟨t',rfl⟩⟩:=vals2 r
 refine min_two_ints (I.ok.hd hc) fun h' tk k=>⟨_,H,I.kept k,?_,q⟩
 by_cases hj:j < i
 ·rw [if_pos hj,if_pos hj];exact ⟨_,rfl⟩
 ·rw [if_neg hj,if_neg hj];exact ⟨_,rfl⟩
theorem call_int1:CallR X (.type "int") (fun xs H Q=>(∃ i,xs=[.int i]∧Q (.int i) H)∨∃ k,xs=[.bl k]∧Q (.int (if k then 1 else 0)) H):=by
 intro pins s σ H xs us Q I r h
 rcases h with ⟨i,rfl,q⟩ | ⟨k,rfl,q⟩
 ·obtain ⟨u,rfl,t,rfl⟩:=vals1 r
  exact call_int_int ⟨.int i,H,I,⟨_,rfl⟩,q⟩
 ·obtain ⟨u,rfl,r1⟩:=vals1 r
  cases r1
  exact call_int_bool ⟨.int (if k then 1 else 0),H,I.tok _,⟨_,rfl⟩,q⟩
end
end L2
namespace L2
open PySem PySem.Spec PyProof.Rows
structure ObjM (h:Heap) (x dx C:Addr) (mA:Str→Option Value):Prop where
 obj:h.get? x=some (PySem.W.instObj C dx)
 ns:h.Ns1 dx mA
 ne:dx≠x
theorem lookIn_ns {h:Heap} {dx:Addr} {mA:Str→Option Value} (n:h.Ns1 dx mA):∃ od,h.get? dx=some od∧∀ name,PySem.W.lookIn name od=some (mA name):=by
 obtain ⟨o,es,ep,ho,hd,hk,_,hm⟩:=n
 refine ⟨o,ho,fun name=>?_⟩
 have e:=hm name
 unfold nsFind findBy at e
 rw [←Array.find?_toList] at e
 unfold PySem.W.lookIn
 rw [hd]
 dsimp only
 split
 ·rename_i y q
  rw [q] at e
  exact congrArg some e
 ·rename_i q
  rw [q] at e
  have a:es.toList.any (·.refKey)=false:=by
   rw [List.any_eq_false]
   intro y hy
   obtain ⟨z,t,hkey⟩:=hk y (Array.mem_toList_iff.mp hy)
   simp [DictEntry.refKey,hkey]
  have a':¬ es.toList.any (·.refKey)=true:=by rw [a];exact Bool.false_ne_true
  rw [if_neg a']
  exact congrArg some e
theorem ObjM.look {h:Heap} {x dx C:Addr} {mA:Str→Option Value} (I:ObjM h x dx C mA):∃ od,PySem.W.InstAt h x (PySem.W.instObj C dx) C (some od)∧∀ name,PySem.W.lookIn name od=some (mA name):=
 let ⟨od,ho,hl⟩:=lookIn_ns I.ns
 ⟨od,⟨I.obj,rfl,rfl,ho⟩,hl⟩
section
variable {prog:Program} {w:World} {A:Around} {E:Value→Shared→Prop} {s:Shared} {K:PySem.W.Frag} {x dx C f:Addr} {mA:Str→Option Value} {name:Str} {v:Value}
theorem get_map {expr:Bool} {Q:Value→Shared→Prop} (X:K.In s.heap) (I:ObjM s.heap x dx C mA) (hg:PySem.W.plainGet K C name=true) (hh:PySem.W.hasDictIn K C=true)
  (ha:PySem.W.findIn K (.ref C) name=some none) (hv:mA name=some v) (hv':PySem.W.handedIn v=true) (h:Q v { s with toks:=s.toks+1 }) :
  wpAny (model prog w) A (getAttr (.ref x) name expr) Q E s:=by
 obtain ⟨od,J,hl⟩:=I.look
 exact PySem.W.get_value X J (PySem.W.plainGet_of hg).1 (PySem.W.findObj_own hh ha rfl (by rw [hl,hv])) hv' h
theorem get_meth {pl:Sem Bool} {Q:Value×List Value→Shared→Prop} (X:K.In s.heap) (I:ObjM s.heap x dx C mA) (hg:PySem.W.plainGet K C name=true)
  (hf:PySem.W.findIn K (.ref C) name=some (some (.ref f))) (ht:PySem.W.isFn K (.ref f)=true) (hv:mA name=none) (h:Q (.ref f,[.ref x]) s) :
  wpAny (model prog w) A (getMethod (.ref x) name pl) Q E s:=by
 obtain ⟨od,J,hl⟩:=I.look
 exact PySem.W.method_fn X J (PySem.W.plainGet_of hg).1 (PySem.W.plainGet_of hg).2 hf (beq_iff_eq.mp ht) (by show (PySem.W.lookIn name od).map (·.isSome)=some false;rw [hl,hv];rfl) h
theorem set_map {ns:List Str} {Q:Unit→Shared→Prop} (X:K.In s.heap) (I:ObjM s.heap x dx C mA)
  (hs:PySem.W.findIn K (.ref C) "__setattr__" = some (some (.builtin "object.__setattr__"))) (hp:PySem.W.plainOver K C=true) (ht:PySem.W.takerIn K C name=some none) (hh:PySem.W.hasDictIn K C=true)
  (hw:PySem.Within mA ns) (hsz:ns.length≤sizeLine)
  (h:∀ h',ObjM h' x dx C (fun y=>if y=name then some v else mA y)→Heap.SameBut dx s.heap h'→Q () { s with heap:=h',toks:=s.toks+2 }) :
  wpAny (model prog w) A (setAttr (.ref x) name v) Q E s:=by
 obtain ⟨od,J,hl⟩:=I.look
 refine PySem.W.set_plain X J hs (PySem.W.osa_open (s:={ s with toks:=s.toks+1 }) (r:=none) X J hp ht fun b=>?_)
 obtain ⟨cd,hc,hd'⟩:=PySem.W.any_some hh
 have hx:s.heap.get? x=some ⟨.ref C,some dx,.plain,#[]⟩:=I.obj
 refine wpAny_bind (wpAny_pure (wpAny_bind (wpAny_bind (wpAny_loadPart hx (wpAny_bind (PySem.W.Looks.here (s:={ s with toks:=s.toks+1 }) (PySem.W.looks_clsIn X hc) ?_))))))
 rw [hd']
 refine wpAny_pure (a:=some dx) (wpAny_bind (wpAny_pure (wpAny_bind ?_)))
 refine wpAny_nsSet1 (s:={ s with toks:=s.toks+1 }) I.ns fun h' hn2 hs2=>?_
 obtain ⟨oD,esD,epD,hoD,hdD,hcD⟩:=hn2.count (PySem.Within.cons name v hw)
 refine wpAny_bind (wpAny_lookBehind hoD (by rw [hdD];exact pastItsLine_dict (Nat.le_trans hcD (by rw [List.length_cons];omega))) ?_)
 exact wpAny_pure (h _ ⟨(hs2.2 _ (Ne.symm I.ne)).trans I.obj,hn2,I.ne⟩ hs2)
theorem make_map {R:Result→Shared→Prop} {vs:List Value} {kw:List (Str×Value)} (X:K.In s.heap) (hm:PySem.W.makesIn K C=true)
  (hi:PySem.W.findIn K (.ref C) "__init__" = some (some (.ref f))) (hf:PySem.W.typeIn K (.ref f)=some (.type "function"))
  (h:codeAny (model prog w) (A.under (.builtin "type.__call__" ⟨.ref C::vs,kw⟩)) (.call (.ref f) ⟨.ref (s.heap.objs.size+1)::vs,kw⟩) (PySem.W.InitBack (s.heap.objs.size+1) R)
   { s with heap:=(s.heap.push PySem.W.emptyDict).push (PySem.W.instObj C s.heap.objs.size) }) :
  codeAny (model prog w) A (.call (.ref C) ⟨vs,kw⟩) R s:=by
 obtain ⟨hh,g,d,t,os⟩:=s
 exact PySem.W.make_core (PySem.W.makes_of X hm) (PySem.W.looks_findIn X hi) (fun self=>PySem.W.bind_fn X self hf) (.inl rfl) h
end
noncomputable def putF (f:Str) (v:V):List (Str×V)→List (Str×V)
 | []=>[(f,v)]
 | (g,x)::r=>if g=f then (g,v)::r else (g,x)::putF f v r
theorem lookup_putF (f g:Str) (v:V):∀ fs:List (Str×V),(putF f v fs).lookup g=if g=f then some v else fs.lookup g
 | []=>by
  show List.lookup g [(f,v)]=_
  by_cases h:g=f
  ·have hb:(g == f)=true:=beq_iff_eq.mpr h
   simp only [List.lookup,hb,if_pos h]
  ·have hb:(g == f)=false:=beq_eq_false_iff_ne.mpr h
   simp only [List.lookup,hb,if_neg h]
 | (k,x)::r=>by
  have ih:=lookup_putF f g v r
  rw [show putF f v ((k,x)::r)=(if k=f then (k,v)::r else (k,x)::putF f v r) from rfl]
  by_cases hk:k=f
  ·rw [if_pos hk]
   by_cases h:g=k
   ·have hb:(g == k)=true:=beq_iff_eq.mpr h
    simp only [List.lookup,hb,if_pos (h.trans hk)]
   ·have hb:(g == k)=false:=beq_eq_false_iff_ne.mpr h
    simp only [List.lookup,hb,if_neg (fun e:g=f=>h (e.trans hk.symm))]
  ·rw [if_neg hk]
   by_cases h:g=k
   ·have hb:(g == k)=true:=beq_iff_eq.mpr h
    simp only [List.lookup,hb,if_neg (fun e:g=f=>hk (h.symm.trans e))]
   ·have hb:(g == k)=false:=beq_eq_false_iff_ne.mpr h
    simp only [List.lookup,hb]
    exact ih
theorem keys_putF (f:Str) (v:V):∀ fs:List (Str×V),f∈(putF f v fs).map (·.1)∧∀ g,g∈fs.map (·.1)→g∈(putF f v fs).map (·.1)
 | []=>⟨by simp [putF],fun g h=>by simp at h⟩
 | (k,x)::r=>by
  obtain ⟨i1,i2⟩:=keys_putF f v r
  rw [show putF f v ((k,x)::r)=(if k=f then (k,v)::r else (k,x)::putF f v r) from rfl]
  by_cases hk:k=f
  ·rw [if_pos hk]
   subst hk
   exact ⟨by simp,fun g h=>by simpa using h⟩
  ·rw [if_neg hk]
   refine ⟨?_,fun g h=>?_⟩
   ·rw [List.map_cons]
    exact List.mem_cons_of_mem _ i1
   ·rw [List.map_cons] at h ⊢
    rcases List.mem_cons.mp h with e | e
    ·exact List.mem_cons.mpr (.inl e)
    ·exact List.mem_cons_of_mem _ (i2 g e)
theorem length_putF (f:Str) (v:V):∀ fs:List (Str×V),(putF f v fs).length≤fs.length+1
 | []=>by simp [putF]
 | (k,x)::r=>by
  have ih:=length_putF f v r
  rw [show putF f v ((k,x)::r)=(if k=f then (k,v)::r else (k,x)::putF f v r) from rfl]
  by_cases hk:k=f
  ·rw [if_pos hk,List.length_cons,List.length_cons];omega
  ·rw [if_neg hk,List.length_cons,List.length_cons];omega
theorem RelO.some_of {v:V} {o:Option Value} (r:RelO (some v) o):∃ u,o=some u∧RelV v u:=by
 cases o with
 | none=>exact (show False from r).elim
 | some u=>exact ⟨u,rfl,r⟩
theorem RelO.none_of {o:Option Value} (r:RelO none o):o=none:=by
 cases o with
 | none=>rfl
 | some u=>exact (show False from r).elim
theorem handed_of {v:V} {u:Value} (r:RelV v u):PySem.W.handedIn u=true:=by
 cases v with
 | non=>cases (show u=Value.none from r);rfl
 | bl b=>cases (show u=Value.bool b from r);rfl
 | int i=>obtain ⟨t,e⟩:=(show ∃ t,u=Value.int i t from r);cases e;rfl
 | str x=>obtain ⟨t,e⟩:=(show ∃ t,u=Value.str x t from r);cases e;rfl
 | byt b=>obtain ⟨t,e⟩:=(show ∃ t,u=Value.bytes b t from r);cases e;rfl
 | flt b=>obtain ⟨t,e⟩:=(show ∃ t,u=Value.float b t from r);cases e;rfl
 | ref a=>cases (show u=Value.ref a from r);rfl
 | ty n=>cases (show u=Value.type n from r);rfl
section
variable {P:Program} {w:World} {H H':Hp} {h h':Heap} {a C dx:Addr} {fs fs':List (Str×V)}
theorem ins_get (hok:HOk P w H h) (e:H a=some (.ins C dx fs)):∃ mA,ObjM h a dx C mA∧(∀ f,RelO (fs.lookup f) (mA f))∧PySem.Within mA (fs.map (·.1))∧fs.length≤1000∧H dx=some (.own a):=by
 obtain ⟨d,z,ne,ob,mA,n,r,q⟩:=(show ObjOk P w H h a (.ins C dx fs) from hok a _ e)
 exact ⟨mA,⟨ob,n,ne⟩,r,q,z,d⟩
end
structure Cls (K:PySem.W.Frag) (C:Addr):Prop where
 pg:PySem.W.plainGet K C Str.empty=true
 hd:PySem.W.hasDictIn K C=true
 po:PySem.W.plainOver K C=true
 sa:PySem.W.findIn K (.ref C) "__setattr__" = some (some (.builtin "object.__setattr__"))
theorem Cls.get {K:PySem.W.Frag} {C:Addr} (c:Cls K C) (f:Str):PySem.W.plainGet K C f=true:=c.pg
noncomputable def NoAttr (K:PySem.W.Frag) (C:Addr) (f:Str):Prop:=PySem.W.findIn K (.ref C) f=some none
theorem NoAttr.taker {K:PySem.W.Frag} {C:Addr} {f:Str} (n:NoAttr K C f):PySem.W.takerIn K C f=some none:=by
 unfold PySem.W.takerIn
 rw [show PySem.W.findIn K (.ref C) f=some none from n]
 rfl
structure Meth (K:PySem.W.Frag) (C:Addr) (m:Str) (f:Addr):Prop where
 at_:PySem.W.findIn K (.ref C) m=some (some (.ref f))
 fn:PySem.W.isFn K (.ref f)=true
 kp:PySem.W.keepIn K (.ref f)=true
section
variable {X:Cx} {pins:List (Addr×Obj)} {σ:St} {H:Hp} {s:Shared} {a C dx:Addr} {fs:List (Str×V)} {f:Str} {v:V} {A:Around} {E:Value→Shared→Prop}
theorem getattr_ok {b:Bool} {Q:Value→Shared→Prop} (I:Inv X pins σ H s) (e:H a=some (.ins C dx fs)) (c:Cls X.K C) (n:NoAttr X.K C f) (l:fs.lookup f=some v)
  (h:∀ u s',Inv X pins σ H s'→RelV v u→Q u s'):wpAny (model X.prog X.w) A (getAttr (.ref a) f b) Q E s:=by
 obtain ⟨mA,O,r,_,_,_⟩:=ins_get I.hok e
 obtain ⟨u,hu,ru⟩:=RelO.some_of (v:=v) (o:=mA f) (by rw [←l];exact r f)
 exact get_map I.kIn O (c.get f) c.hd n hu (handed_of ru) (h u _ (I.tok _) ru)
theorem getmeth_ok {m:Str} {g:Addr} {pl:Sem Bool} {Q:Value×List Value→Shared→Prop} (I:Inv X pins σ H s) (e:H a=some (.ins C dx fs)) (c:Cls X.K C) (k:Meth X.K C m g) (l:fs.lookup m=none)
  (h:Q (.ref g,[.ref a]) s):wpAny (model X.prog X.w) A (getMethod (.ref a) m pl) Q E s:=by
 obtain ⟨mA,O,r,_,_,_⟩:=ins_get I.hok e
 have hn:mA m=none:=RelO.none_of (by rw [←l];exact r m)
 exact get_meth I.kIn O (c.get m) k.at_ k.fn hn h
theorem setattr_ok {y:V} {u:Value} {Q:Unit→Shared→Prop} (I:Inv X pins σ H s) (e:H a=some (.ins C dx fs)) (c:Cls X.K C) (n:NoAttr X.K C f) (hl:fs.length < 1000) (ry:RelV y u)
  (h:∀ s',Inv X pins σ (upd H a (.ins C dx (putF f y fs))) s'→Q () s'):wpAny (model X.prog X.w) A (setAttr (.ref a) f u) Q E s:=by
 obtain ⟨mA,O,r,wi,_,ho⟩:=ins_get I.hok e
 have hz:(fs.map (·.1)).length≤sizeLine:=by rw [List.length_map,sizeLine_eq];omega
 refine set_map I.kIn O c.sa c.po n.taker c.hd wi hz fun h' O' sb=>h _ ?_
 have hd:∃ o,h'.get? dx=some o:=let ⟨o,_,_,e',_⟩:=O'.ns;⟨o,e'⟩
 refine I.write (x:=a) (e:=dx) (by rw [e];exact True.intro) (.inr ho) (fun b q hb z=>(sb.2 b hb).trans z) hd ?_
 refine ⟨by rw [upd_ne O.ne];exact ho,?_,O.ne,O'.obj,_,O'.ns,fun g=>?_,fun g hg=>?_⟩
 ·have:=length_putF f y fs;omega
 ·show RelO ((putF f y fs).lookup g) (if g=f then some u else mA g)
  rw [lookup_putF]
  by_cases q:g=f
  ·rw [if_pos q,if_pos q];exact ry
  ·rw [if_neg q,if_neg q];exact r g
 ·by_cases q:g=f
  ·rw [q];exact (keys_putF f y fs).1
  ·refine (keys_putF f y fs).2 g (wi g fun z=>hg ?_)
   show (if g=f then some u else mA g)=none
   rw [if_neg q];exact z
theorem Inv.made (I:Inv X pins σ H s):Inv X pins σ (upd (upd H s.heap.objs.size (.own (s.heap.objs.size+1))) (s.heap.objs.size+1) (.ins C s.heap.objs.size []))
  { s with heap:=(s.heap.push PySem.W.emptyDict).push (PySem.W.instObj C s.heap.objs.size) }:=by
 have e1:(s.heap.push PySem.W.emptyDict).get? s.heap.objs.size=some PySem.W.emptyDict:=Heap.get?_push_size s.heap rfl
 have e2:((s.heap.push PySem.W.emptyDict).push (PySem.W.instObj C s.heap.objs.size)).get? (s.heap.objs.size+1)=some (PySem.W.instObj C s.heap.objs.size):=by
  have:=Heap.get?_push_size (s.heap.push PySem.W.emptyDict) (o:=PySem.W.instObj C s.heap.objs.size) rfl
  rwa [Heap.size_push] at this
 have e3:(s.heap.push PySem.W.emptyDict).Ns s.heap.objs.size (fun _=>none):=⟨PySem.W.emptyDict,#[],_,e1,rfl,(fun e he=>absurd he (by simp)),fun _=>rfl⟩
 have I1:=I.laid (a:=s.heap.objs.size) (o:=.own (s.heap.objs.size+1)) (h':=s.heap.push PySem.W.emptyDict) (t':=s.toks) (fun b u q=>Heap.get?_push_of_some _ q) (Nat.le_refl _) ⟨_,e1⟩
 refine I1.laid (a:=s.heap.objs.size+1) (o:=.ins C s.heap.objs.size []) (t':=s.toks) (fun b u q=>Heap.get?_push_of_some _ q) (Nat.le_of_eq (Heap.size_push _ _)) ?_
 have ne:s.heap.objs.size≠s.heap.objs.size+1:=Nat.ne_of_lt (Nat.lt_succ_self _)
 refine ⟨by rw [upd_ne ne,upd_same],Nat.zero_le _,ne,e2,fun _=>none,(Heap.Ns1.of_empty e3).at fun o q=>Heap.get?_push_of_some _ q,fun _=>True.intro,fun y hy=>absurd rfl hy⟩
theorem attr_of {prog:Program} {w:World} {env:Env} {e:Expr} {f:Str} {pos:Pos} {s:Shared} {Q:Value→Shared→Prop} (hb:attributeBase e f env (eval e env)=eval e env)
  (h:wpAny (model prog w) A (eval e env) (fun o s₁=>wpAny (model prog w) A (getAttr o f true) Q E s₁) E s):wpAny (model prog w) A (eval (.Attribute e f pos) env) Q E s:=
 Attribute_any_ h (by rw [arm_eval_Attribute,hb])
end
noncomputable def tFld (K:PySem.W.Frag) (ta:TE) (f:Str):TE:=fun σ H Q=>ta σ H fun x H1=>∃ a C dx fs v,x=.ref a∧H1 a=some (.ins C dx fs)∧Cls K C∧NoAttr K C f∧fs.lookup f=some v∧Q v H1
noncomputable def sFld (K:PySem.W.Frag) (ta tv:TE) (f:Str):TS:=fun D σ H=>tv σ H fun y H1=>ta σ H1 fun x H2=>∃ a C dx fs,x=.ref a∧H2 a=some (.ins C dx fs)∧Cls K C∧NoAttr K C f∧fs.length < 1000∧
 D.nx σ (upd H2 a (.ins C dx (putF f y fs)))
section
variable {X:Cx} {o e value:Expr} {f:Str} {pos pos' tpos:Pos} {ta tv:TE}
theorem pe_fld (he:PE X e ta) (hb:attributeBase e f X.env (eval e X.env)=eval e X.env):PE X (.Attribute e f pos) (tFld X.K ta f):=by
 intro pins s σ H Q I h
 refine attr_of hb (thn (he pins s σ H _ I h) fun u s1 ⟨x,H1,I1,rx,a,C,dx,fs,v,ex,ea,c,n,l,q⟩=>?_)
 subst ex
 obtain rfl:u=Value.ref a:=rx
 exact getattr_ok I1 ea c n l fun u' s2 I2 ru=>⟨v,H1,I2,ru,q⟩
theorem ps_fld (ha:PE X o ta) (hv:PE X value tv) (hs:swapsWith value (some (.Attribute o f pos')) pos.line X.env=pure false):PS X (.Assign [.Attribute o f pos'] value pos) (sFld X.K ta tv f):=by
 intro pins s σ H D I h
 refine plainObj_wpAny_Assign_Attribute (thn (hv pins s σ H _ I h) fun u s1 ⟨y,H1,I1,ry,q⟩=>thn (ha pins s1 σ H1 _ I1 q) fun ov s2 ⟨x,H2,I2,rx,a,C,dx,fs,ex,ea,c,n,l,q2⟩=>?_) hs
 subst ex
 obtain rfl:ov=Value.ref a:=rx
 exact setattr_ok I2 ea c n l ry fun s3 I3=>⟨σ,_,I3,q2⟩
end
section
variable {X:Cx} {pins:List (Addr×Obj)} {σ:St} {H:Hp} {s:Shared} {A:Around} {E:Value→Shared→Prop} {Q:Value→Shared→Prop} {c:Value} {b:Bool}
inductive TyOf (K:PySem.W.Frag) (H:Hp):V→Value→Prop where
 | non:TyOf K H .non (.type "NoneType")
 | bl (x:Bool):TyOf K H (.bl x) (.type "bool")
 | int (i:Int):TyOf K H (.int i) (.type "int")
 | str (x:Str):TyOf K H (.str x) (.type "str")
 | flt (x:UInt64):TyOf K H (.flt x) (.type "float")
 | lst {a:Addr} {xs:List V} (e:H a=some (.lst xs)):TyOf K H (.ref a) (.type "list")
 | frz {a:Addr} {o:Obj} {xs:List V} (e:H a=some (.frz o (.lst xs))):TyOf K H (.ref a) (.type "list")
 | tup {a:Addr} {xs:List V} (e:H a=some (.tup xs)):TyOf K H (.ref a) (.type "tuple")
 | dK {a:Addr} {kvs:List (Key×V)} (e:H a=some (.dK kvs)):TyOf K H (.ref a) (.type "dict")
 | dT {a:Addr} {kvs:List (List Key×V)} (e:H a=some (.dT kvs)):TyOf K H (.ref a) (.type "dict")
 | ins {a C dx:Addr} {fs:List (Str×V)} (e:H a=some (.ins C dx fs)) (cl:Cls K C) (ha:PySem.W.findIn K (.ref C) "__class__" = some (some (.builtin "object.__class__")))
   (hn:PySem.W.specialIn K (.builtin "object.__class__") "__get__" = some (some (.builtin "getset_descriptor.__get__"))) (htk:PySem.W.takesIn K (.builtin "object.__class__")=some true)
   (hm:PySem.W.mroIn K C (.type "object")=some true):TyOf K H (.ref a) (.ref C)
theorem isinst_ok {x:V} {u t:Value} (I:Inv X pins σ H s) (rx:RelV x u) (ty:TyOf X.K H x t) (e:PySem.W.kitOne X.K t c=some b) (h:∀ tk,Q (.bool b) { s with toks:=tk }) :
  wpAny (model X.prog X.w) A (call (.builtin "isinstance") [u,c]) Q E s:=by
 cases ty with
 | non=>cases (show u=Value.none from rx);exact PySem.W.kia_one PySem.W.kitx_none I.kIn True.intro e (fun z=>nomatch z) h
 | bl y=>cases (show u=Value.bool y from rx);exact PySem.W.kia_one PySem.W.kitx_bool I.kIn True.intro e (fun z=>nomatch z) h
 | int i=>obtain ⟨t,q⟩:=(show ∃ t,u=Value.int i t from rx);cases q;exact PySem.W.kia_one PySem.W.kitx_int I.kIn True.intro e (fun z=>nomatch z) h
 | str y=>obtain ⟨t,q⟩:=(show ∃ t,u=Value.str y t from rx);cases q;exact PySem.W.kia_one PySem.W.kitx_str I.kIn True.intro e (fun z=>nomatch z) h
 | flt y=>obtain ⟨t,q⟩:=(show ∃ t,u=Value.float y t from rx);cases q;exact PySem.W.kia_one PySem.W.kitx_float I.kIn True.intro e (fun z=>nomatch z) h
 | @lst a xs ea=>
  cases (show u=Value.ref a from rx)
  obtain ⟨_,_,n,_,h1⟩:=(show ObjOk X.prog X.w H s.heap a (.lst xs) from I.hok a _ ea)
  exact PySem.W.kia_one PySem.W.kitx_list I.kIn ⟨_,h1,rfl⟩ e (fun z=>nomatch z) h
 | @frz a ob xs ea=>
  cases (show u=Value.ref a from rx)
  obtain ⟨_,_,_,n,_,h1⟩:=(show ObjOk X.prog X.w H s.heap a (.frz ob (.lst xs)) from I.hok a _ ea)
  exact PySem.W.kia_one PySem.W.kitx_list I.kIn ⟨_,h1,rfl⟩ e (fun z=>nomatch z) h
 | @tup a xs ea=>
  cases (show u=Value.ref a from rx)
  obtain ⟨_,_,_,p⟩:=(show ObjOk X.prog X.w H s.heap a (.tup xs) from I.hok a _ ea)
  obtain ⟨o,h1,h2,_⟩:=p
  exact PySem.W.kia_one PySem.W.kitx_tuple I.kIn ⟨o,h1,h2⟩ e (fun z=>nomatch z) h
 | @dK a kvs ea=>
  cases (show u=Value.ref a from rx)
  obtain ⟨_,_,vs,_,p⟩:=(show ObjOk X.prog X.w H s.heap a (.dK kvs) from I.hok a _ ea)
  obtain ⟨o,es,ep,h1,h2,_⟩:=p
  exact PySem.W.kia_one PySem.W.kitx_dict I.kIn ⟨o,h1,h2.1⟩ e (fun z=>nomatch z) h
 | @dT a kvs ea=>
  cases (show u=Value.ref a from rx)
  obtain ⟨_,_,xs,_,o,es,ep,h1,h2,_⟩:=(show ObjOk X.prog X.w H s.heap a (.dT kvs) from I.hok a _ ea)
  exact PySem.W.kia_one PySem.W.kitx_dict I.kIn ⟨o,h1,h2.1⟩ e (fun z=>nomatch z) h
 | @ins a C dx fs ea cl ha hn htk hm=>
  cases (show u=Value.ref a from rx)
  obtain ⟨mA,O,_⟩:=ins_get I.hok ea
  obtain ⟨od,J,_⟩:=O.look
  exact PySem.W.kia_one (PySem.W.kitx_own (cl.get _) cl.hd ha hn htk hm) I.kIn J e (fun z=>nomatch z) h
end
end L2
namespace L2
open PySem PySem.Spec PyProof.Rows
structure Room (k:Nat) (A:Around):Prop where
 hd:A.handled=none
 dp:A.depth+3 * k+5 < recursionLimit
 un:A.units+16 * k+200 < cLine
theorem Room.deeper {k:Nat} {A:Around} (r:Room (k+1) A) (env:Env):Room k (A.deeper env):=
 ⟨r.hd,by have:=r.dp;show A.depth+1+3 * k+5 < _;omega,by have:=r.un;show A.units+3+16 * k+200 < _;omega⟩
theorem make_depth {A:Around} {C:Addr} {us:List Value} {kw:List (Str×Value)}:(A.under (.builtin "type.__call__" ⟨.ref C::us,kw⟩)).depth=A.depth+1:=by
 first | rfl | simp [Around.under,Code.weight,Code.isCreation,Code.isGuard,Code.isCaller,Code.frames,Code.isFrame,guardIds]
theorem make_units {A:Around} {C:Addr} {us:List Value} {kw:List (Str×Value)}:(A.under (.builtin "type.__call__" ⟨.ref C::us,kw⟩)).units=A.units+1:=by
 first | rfl | simp [Around.under,Code.cUnits,Code.frames,Code.isFrame]
theorem Room.make {k:Nat} {A:Around} (r:Room (k+1) A) (C:Addr) (us:List Value) (kw:List (Str×Value)):Room k (A.under (.builtin "type.__call__" ⟨.ref C::us,kw⟩)):=
 ⟨r.hd,by have:=r.dp;rw [make_depth];omega,by have:=r.un;rw [make_units];omega⟩
theorem Room.depth {k:Nat} {A:Around} (r:Room k A):A.depth < recursionLimit:=by have:=r.dp;omega
noncomputable def tNil:TA:=fun _ H Q=>Q [] H
noncomputable def tCons (ta:TE) (tr:TA):TA:=fun σ H Q=>ta σ H fun x H1=>tr σ H1 fun xs H2=>Q (x::xs) H2
section
variable {X:Cx} {e:Expr} {es:List Expr} {te:TE} {t:TA} {pos:Pos}
theorem pa_nil:PA X [] tNil:=fun _ _ _ _ H Q I h=>Calls.spliced_nil ⟨[],H,I,.nil,h⟩
theorem pa_cons (ha:PE X e te) (hr:PA X es t) (hs:starEach (e::es) X.env=(false,eval e X.env)::starEach es X.env:=by rfl):PA X (e::es) (tCons te t):=by
 intro pos pins s σ H Q I h
 rw [hs]
 show wpAny _ _ (spliced ((false,eval e X.env)::backTo pos (starEach es X.env))) _ _ s
 refine Calls.spliced_cons (thn (ha pins s σ H _ I h) fun u s1 ⟨x,H1,I1,r1,q1⟩=>?_)
 exact thn (hr pos pins s1 σ H1 _ I1 q1) fun us s2 ⟨xs,H2,I2,r2,q2⟩=>⟨x::xs,H2,I2,.cons r1 r2,q2⟩
noncomputable def tTup (t:TA):TE:=fun σ H Q=>t σ H fun xs H1=>xs.length≤sizeLine∧∀ p,H1 p=none→Q (.ref p) (upd H1 p (.tup xs))
noncomputable def tLst (t:TA):TE:=fun σ H Q=>t σ H fun xs H1=>xs.length≤sizeLine∧∀ p,H1 p=none→Q (.ref p) (upd H1 p (.lst xs))
theorem pe_tup {x1} (h:PA X es t):PE X (.Tuple es x1 pos) (tTup t):=by
 intro pins s σ H Q I hq
 refine wpAny_Tuple_spliced (thn (h pos pins s σ H _ I hq) fun us s1 ⟨xs,H1,I1,r,z,q⟩=>⟨by rw [←r.length];exact z,?_⟩)
 have hf:H1 s1.heap.objs.size=none:=I1.hok.fresh (Nat.le_refl _)
 refine ⟨.ref s1.heap.objs.size,upd H1 s1.heap.objs.size (.tup xs),I1.laid (t':=s1.toks) (fun b u e=>Heap.get?_push_of_some _ e) (Nat.le_refl _) ?_,rfl,q _ hf⟩
 exact ⟨z,us,r,⟨_,Heap.get?_push_size _ rfl,rfl,_,rfl⟩⟩
theorem pe_lst (h:PA X es t):PE X (.List es pos) (tLst t):=by
 intro pins s σ H Q I hq
 refine wpAny_List_spliced (thn (h pos pins s σ H _ I hq) fun us s1 ⟨xs,H1,I1,r,z,q⟩=>⟨by rw [←r.length];exact z,?_⟩)
 have hf:H1 s1.heap.objs.size=none:=I1.hok.fresh (Nat.le_refl _)
 refine ⟨.ref s1.heap.objs.size,upd H1 s1.heap.objs.size (.lst xs),I1.laid (t':=s1.toks) (fun b u e=>Heap.get?_push_of_some _ e) (Nat.le_refl _) ?_,rfl,q _ hf⟩
 exact ⟨z,us,0,r,Heap.get?_push_size _ rfl⟩
end
noncomputable abbrev Sp:=List V→Hp→VK→XK→Prop
noncomputable abbrev CXT:=List Env→Hp→Shared→XK→Value→Shared→Prop
structure Env0 (P:Program) (w:World) (K:PySem.W.Frag) (mg:Str→Option Value) (base:Heap) (A:Around) (outer:List Env) (s:Shared) (H:Hp):Prop where
 frames:A.frames=some outer
 mod:Mod K mg base
 bs:∀ b o,base.get? b=some o→s.heap.get? b=some o∧H b=none
 bsz:base.objs.size≤s.heap.objs.size
 funs:s.heap.FunFrames base outer
 frf:∀ b∈frs outer,H b=none
 hok:HOk P w H s.heap
 bare:AllBare s.gens
noncomputable def CE (outer:List Env) (P:Program) (w:World) (H:Hp) (s:Shared) (Q:VK) (u:Value) (s':Shared):Prop:=
 ∃ v H',s'.os=s.os∧AllBare s'.gens∧Un (frs outer) [] H H' s.heap s'.heap∧HOk P w H' s'.heap∧RelV v u∧Q v H'
noncomputable def CR (CX:CXT) (outer:List Env) (P:Program) (w:World) (H:Hp) (s:Shared) (Q:VK) (E:XK) (r:Result) (s':Shared):Prop:=
 match r with
 | .ok (.ret u)=>CE outer P w H s Q u s'
 | .ok _=>False
 | .error e=>CX outer H s E e s'
structure FnOk (P:Program) (w:World) (K:PySem.W.Frag) (mg:Str→Option Value) (base:Heap) (CX:CXT) (k:Nat) (f:Addr) (fd:FuncData) (ps:List Str) (sp:Sp):Prop where
 len:∀ vs H Q E,sp vs H Q E→vs.length=ps.length
 run:∀ (A:Around) (outer:List Env) (s:Shared) (H:Hp) (args:Args) (us:List Value) (vs:List V) (Q:VK) (E:XK),Room k A→Env0 P w K mg base A outer s H→BindsTo s fd args (ps.zip us)→Vals vs us→sp vs H Q E→
  codeAny (model P w) A (.call (.ref f) args) (CR CX outer P w H s Q E) s
theorem Env0.make {P:Program} {w:World} {K:PySem.W.Frag} {mg:Str→Option Value} {base:Heap} {A:Around} {outer:List Env} {s:Shared} {H:Hp} (e:Env0 P w K mg base A outer s H) (C:Addr) (us:List Value) (kw:List (Str×Value)) :
  Env0 P w K mg base (A.under (.builtin "type.__call__" ⟨.ref C::us,kw⟩)) outer s H:=⟨by first | exact e.frames | (simpa [Around.under,Code.envs,Code.isFrame,pushEnvs] using e.frames),e.mod,e.bs,e.bsz,e.funs,e.frf,e.hok,e.bare⟩
section
variable {X:Cx} {pins:List (Addr×Obj)} {σ:St} {H:Hp} {s s':Shared}
theorem Inv.env0 (I:Inv X pins σ H s):Env0 X.prog X.w X.K X.mg X.base X.A X.stack s H:=
 ⟨I.ok.frames,I.ok.mod,I.bs,Nat.le_trans I.ok.bsz I.sz,I.stack,I.stkFree,I.hok,I.bare⟩
theorem Inv.after {Q:VK} {u:Value} (I:Inv X pins σ H s) (h:CE X.stack X.prog X.w H s Q u s'):EP X pins σ Q u s':=by
 obtain ⟨v,H',os,bare,un,hok,r,q⟩:=h
 obtain ⟨hh,g,d,t,os'⟩:=s'
 obtain rfl:os'=s.os:=os
 exact ⟨v,H',I.call (h':=hh) (g':=g) (d':=d) (t':=t) (ch:=[]) un hok bare (fun b z=>absurd z (by simp)),r,q⟩
end
noncomputable def tCall (sp:Sp) (dvs:List V) (E:XK) (t:TA):TE:=fun σ H Q=>t σ H fun vs H1=>sp (vs++dvs) H1 Q E
noncomputable def tMeth (C:Addr) (m:Str) (sp:Sp) (dvs:List V) (E:XK) (ta:TE) (t:TA):TE:=fun σ H Q=>ta σ H fun x H1=>∃ a dx fs,x=.ref a∧H1 a=some (.ins C dx fs)∧fs.lookup m=none∧
 t σ H1 fun vs H2=>sp (x::(vs++dvs)) H2 Q E
noncomputable def tMake (C:Addr) (sp:Sp) (dvs:List V) (E:XK) (t:TA):TE:=fun σ H Q=>t σ H fun vs H1=>∀ x dx,H1 x=none→H1 dx=none→dx≠x→
 sp (.ref x::(vs++dvs)) (upd (upd H1 dx (.own x)) x (.ins C dx [])) (fun v H2=>v=.non∧Q (.ref x) H2) E
noncomputable def Binds (K:PySem.W.Frag) (fd:FuncData) (ps:List Str) (ds:List Value):Prop:=
 ∀ (s:Shared) (us:List Value),K.In s.heap→(us++ds).length=ps.length→BindsTo s fd ⟨us,[]⟩ (ps.zip (us++ds))
theorem Binds.all {K:PySem.W.Frag} {fd:FuncData} {ps:List Str} (h:∀ us:List Value,us.length=ps.length→bindArgs fd ⟨us,[]⟩=pure (ps.zip us)):Binds K fd ps []:=fun s us _ hl=>by
 rw [List.append_nil] at hl ⊢
 exact .of_eq (h us hl)
noncomputable def Passes (CX:CXT) (X:Cx) (E:XK):Prop:=∀ (pins:List (Addr×Obj)) (σ:St) (H:Hp) (s:Shared) (e:Value) (s':Shared),Inv X pins σ H s→CX X.stack H s E e s'→X.xe e s'
section
variable {X:Cx} {CX:CXT} {k:Nat} {f C:Addr} {fd:FuncData} {ps:List Str} {sp:Sp} {dvs:List V} {ds:List Value} {E:XK} {x m:Str} {p pos apos:Pos} {e o:Expr} {es:List Expr} {ta:TE} {t:TA}
theorem run_fn {pins:List (Addr×Obj)} {σ:St} {H:Hp} {s:Shared} {Q:VK} {us:List Value} {vs:List V} (F:FnOk X.prog X.w X.K X.mg X.base CX k f fd ps sp) (hr:Room k X.A) (hb:Binds X.K fd ps ds) (hd:Vals dvs ds) (hx:Passes CX X E)
  (I:Inv X pins σ H s) (r:Vals vs us) (h:sp (vs++dvs) H Q E):wpAny (model X.prog X.w) X.A (call (.ref f) us) (EP X pins σ Q) X.xe s:=by
 have r2:Vals (vs++dvs) (us++ds):=r.append hd
 have hl:(us++ds).length=ps.length:=by rw [←r2.length];exact F.len _ _ _ _ h
 refine wpAny_call (codeAny_mono (F.run X.A X.stack s H ⟨us,[]⟩ (us++ds) (vs++dvs) Q E hr I.env0 (hb s us I.kIn hl) r2 h) fun r s' hq=>?_)
 cases r with
 | error e=>exact hx pins σ H s e s' I hq
 | ok fl=>
  cases fl with
  | ret u=>exact I.after hq
  | next=>exact False.elim hq
  | brk=>exact False.elim hq
  | cont=>exact False.elim hq
theorem pe_call (F:FnOk X.prog X.w X.K X.mg X.base CX k f fd ps sp) (hr:Room k X.A) (hg:Gl X x) (hm:X.mg x=some (.ref f)) (hk:PySem.W.keepIn X.K (.ref f)=true) (hb:Binds X.K fd ps ds) (hd:Vals dvs ds) (hx:Passes CX X E)
  (ha:PA X (e::es) t) (hdb:(x == ("__debug__" : Str))=false:=by decide) (he:starEach (e::es) X.env=(false,eval e X.env)::starEach es X.env:=by rfl) (hpl:(backTo pos (starEach es X.env)).any (·.1)=false:=by rfl) :
  PE X (.Call (.Name x p) (e::es) [] pos) (tCall sp dvs E t):=by
 intro pins s σ H Q I h
 refine wpAny_Call_Name_kw (ld_glob I hg hm ?_ hdb)
 refine PySem.W.callWith_K (h₀:=X.base) I.ok.mod.kin hk (thn (ha pos pins s σ H _ I h) fun us s1 ⟨vs,H1,I1,r,q⟩=>⟨I1.kIn,?_⟩) he hpl
 exact run_fn F hr hb hd hx I1 r q
theorem pe_call0 (F:FnOk X.prog X.w X.K X.mg X.base CX k f fd ps sp) (hr:Room k X.A) (hg:Gl X x) (hm:X.mg x=some (.ref f)) (hk:PySem.W.keepIn X.K (.ref f)=true) (hb:Binds X.K fd ps ds) (hd:Vals dvs ds) (hx:Passes CX X E)
  (hdb:(x == ("__debug__" : Str))=false:=by decide):PE X (.Call (.Name x p) [] [] pos) (tCall sp dvs E tNil):=by
 intro pins s σ H Q I h
 refine wpAny_Call_Name_kw (ld_glob I hg hm ?_ hdb)
 exact PySem.W.callWith_K0 I.kIn hk (run_fn (us:=[]) F hr hb hd hx I .nil h)
theorem pe_meth {pl:Sem Bool} (he:PE X o ta) (c:Cls X.K C) (hm:Meth X.K C m f) (F:FnOk X.prog X.w X.K X.mg X.base CX k f fd ps sp) (hr:Room k X.A) (hb:Binds X.K fd ps ds) (hd:Vals dvs ds) (hx:Passes CX X E) (ha:PA X (e::es) t)
  (hst:starEach (e::es) X.env=(false,eval e X.env)::starEach es X.env:=by rfl) (hpl:(backTo pos (starEach es X.env)).any (·.1)=false:=by rfl)
  (ht:eval (.Call (.Attribute o m apos) (e::es) [] pos) X.env=(do
   let ov←eval o X.env
   standAt apos.atName
   let (f,first)←holding [ov] (getMethod ov m pl)
   callWith pos f first (backTo pos (starEach (e::es) X.env)) (backToKw pos (keywordEach [] X.env))):=by rfl) :
  PE X (.Call (.Attribute o m apos) (e::es) [] pos) (tMeth C m sp dvs E ta t):=by
 intro pins s σ H Q I h
 refine PySem.W.methodCall_KW (pl:=pl) (thn (he pins s σ H _ I h) fun u s1 ⟨x,H1,I1,rx,a,dx,fs,ex,ea,l,q⟩=>?_) ht
 subst ex
 obtain rfl:u=Value.ref a:=rx
 refine getmeth_ok I1 ea c hm l ?_
 refine PySem.W.callWith_K (first:=[.ref a]) (h₀:=X.base) I.ok.mod.kin hm.kp (thn (ha pos pins s1 σ H1 _ I1 q) fun us s2 ⟨vs,H2,I2,r,q2⟩=>⟨I2.kIn,?_⟩) hst hpl
 exact run_fn (us:=.ref a::us) (vs:=.ref a::vs) F hr hb hd hx I2 (.cons rfl r) q2
theorem pe_meth0 {pl:Sem Bool} (he:PE X o ta) (c:Cls X.K C) (hm:Meth X.K C m f) (F:FnOk X.prog X.w X.K X.mg X.base CX k f fd ps sp) (hr:Room k X.A) (hb:Binds X.K fd ps ds) (hd:Vals dvs ds) (hx:Passes CX X E)
  (ht:eval (.Call (.Attribute o m apos) [] [] pos) X.env=(do
   let ov←eval o X.env
   standAt apos.atName
   let (f,first)←holding [ov] (getMethod ov m pl)
   callWith pos f first (backTo pos (starEach [] X.env)) (backToKw pos (keywordEach [] X.env))):=by rfl) :
  PE X (.Call (.Attribute o m apos) [] [] pos) (tMeth C m sp dvs E ta tNil):=by
 intro pins s σ H Q I h
 refine PySem.W.methodCall_KW (pl:=pl) (thn (he pins s σ H _ I h) fun u s1 ⟨x,H1,I1,rx,a,dx,fs,ex,ea,l,q⟩=>?_) ht
 subst ex
 obtain rfl:u=Value.ref a:=rx
 refine getmeth_ok I1 ea c hm l ?_
 exact PySem.W.callWith_K0 (first:=[.ref a]) I1.kIn hm.kp (run_fn (us:=[.ref a]) (vs:=[.ref a]) F hr hb hd hx I1 (.cons rfl .nil) q)
structure Mk (K:PySem.W.Frag) (C f:Addr):Prop where
 makes:PySem.W.makesIn K C=true
 init:PySem.W.findIn K (.ref C) "__init__" = some (some (.ref f))
 fn:PySem.W.isFn K (.ref f)=true
 kp:PySem.W.keepIn K (.ref C)=true
theorem run_make {pins:List (Addr×Obj)} {σ:St} {H:Hp} {s:Shared} {Q:VK} {us:List Value} {vs:List V} (M:Mk X.K C f) (F:FnOk X.prog X.w X.K X.mg X.base CX k f fd ps sp) (hr:Room (k+1) X.A) (hb:Binds X.K fd ps ds) (hd:Vals dvs ds)
  (hx:Passes CX X E) (I:Inv X pins σ H s) (r:Vals vs us)
  (h:∀ x dx,H x=none→H dx=none→dx≠x→sp (.ref x::(vs++dvs)) (upd (upd H dx (.own x)) x (.ins C dx [])) (fun v H2=>v=.non∧Q (.ref x) H2) E) :
  wpAny (model X.prog X.w) X.A (call (.ref C) us) (EP X pins σ Q) X.xe s:=by
 have hq:=h (s.heap.objs.size+1) s.heap.objs.size (I.hok.fresh (Nat.le_succ _)) (I.hok.fresh (Nat.le_refl _)) (Nat.ne_of_lt (Nat.lt_succ_self _))
 have I2:=Inv.made (C:=C) I
 have r2:Vals (V.ref (s.heap.objs.size+1)::(vs++dvs)) (Value.ref (s.heap.objs.size+1)::(us++ds)):=.cons rfl (r.append hd)
 have hl:(Value.ref (s.heap.objs.size+1)::us++ds).length=ps.length:=by
  have e:=r2.length
  rw [F.len _ _ _ _ hq] at e
  exact e.symm
 refine wpAny_call (make_map (f:=f) I.kIn M.makes M.init (beq_iff_eq.mp M.fn) (codeAny_mono (F.run _ X.stack _ _ ⟨Value.ref (s.heap.objs.size+1)::us,[]⟩ (Value.ref (s.heap.objs.size+1)::(us++ds)) _ _ E (hr.make C us [])
  (I2.env0.make C us []) (hb _ (Value.ref (s.heap.objs.size+1)::us) I2.kIn hl) r2 hq) fun r s' hq'=>?_))
 cases r with
 | error e=>exact hx pins σ _ _ e s' I2 hq'
 | ok fl=>
  cases fl with
  | ret u=>
   obtain ⟨v,H',I3,rv,ev,q3⟩:=I2.after hq'
   subst ev
   exact ⟨rv,⟨V.ref (s.heap.objs.size+1),H',I3,rfl,q3⟩⟩
  | next=>exact False.elim hq'
  | brk=>exact False.elim hq'
  | cont=>exact False.elim hq'
theorem pe_make (M:Mk X.K C f) (F:FnOk X.prog X.w X.K X.mg X.base CX k f fd ps sp) (hr:Room (k+1) X.A) (hg:Gl X x) (hm:X.mg x=some (.ref C)) (hb:Binds X.K fd ps ds) (hd:Vals dvs ds) (hx:Passes CX X E)
  (ha:PA X (e::es) t) (hdb:(x == ("__debug__" : Str))=false:=by decide) (he:starEach (e::es) X.env=(false,eval e X.env)::starEach es X.env:=by rfl) (hpl:(backTo pos (starEach es X.env)).any (·.1)=false:=by rfl) :
  PE X (.Call (.Name x p) (e::es) [] pos) (tMake C sp dvs E t):=by
 intro pins s σ H Q I h
 refine wpAny_Call_Name_kw (ld_glob I hg hm ?_ hdb)
 refine PySem.W.callWith_K (h₀:=X.base) I.ok.mod.kin M.kp (thn (ha pos pins s σ H _ I h) fun us s1 ⟨vs,H1,I1,r,q⟩=>⟨I1.kIn,?_⟩) he hpl
 exact run_make M F hr hb hd hx I1 r q
theorem pe_make0 (M:Mk X.K C f) (F:FnOk X.prog X.w X.K X.mg X.base CX k f fd ps sp) (hr:Room (k+1) X.A) (hg:Gl X x) (hm:X.mg x=some (.ref C)) (hb:Binds X.K fd ps ds) (hd:Vals dvs ds) (hx:Passes CX X E)
  (hdb:(x == ("__debug__" : Str))=false:=by decide):PE X (.Call (.Name x p) [] [] pos) (tMake C sp dvs E tNil):=by
 intro pins s σ H Q I h
 refine wpAny_Call_Name_kw (ld_glob I hg hm ?_ hdb)
 exact PySem.W.callWith_K0 I.kIn M.kp (run_make (us:=[]) M F hr hb hd hx I .nil h)
end
section
variable {X:Cx} {CX:CXT} {k:Nat} {f C:Addr} {fd:FuncData} {ps ks:List Str} {sp:Sp} {E:XK} {x m:Str} {p pos apos kpos:Pos} {e o:Expr} {es:List Expr} {kws:List Keyword} {te ta:TE} {t tk:TA} {nm:Option Str}
variable {g:List Value→List Value→List Value} {gV:List V→List V→List V}
end
structure FnScope (N P:List Str) (sc:Scope):Prop where
 kind:sc.kind=.function
 co:sc.isCoroutine=false
 gen:sc.isGenerator=false
 nd:N.Nodup
 pre:N.take P.length=P
 par:∀ x∈P,sc.names.lookup x=some .local∨sc.names.lookup x=some .cell
 nofree:∀ y∈sc.names,y.2≠.free
theorem bindL_out {kindOf:Str→Option NameKind} {x:Str}:∀ {binds:List (Str×Value)} {m:Str→Option Value},(∀ v,(x,v)∉binds)→bindL kindOf binds m x=m x
 | [],_,_=>rfl
 | (n,v)::r,m,h=>by
  unfold bindL
  rw [bindL_out fun w hw=>h w (List.mem_cons_of_mem _ hw)]
  split
  ·have:x≠n:=by rintro rfl;exact h v List.mem_cons_self
   simp [this]
  ·rfl
theorem bindC_out {kindOf:Str→Option NameKind} {x:Str}:∀ {binds:List (Str×Value)} {m:Str→Option Value},(∀ v,(x,v)∉binds)→bindC kindOf binds m x=m x
 | [],_,_=>rfl
 | (n,v)::r,m,h=>by
  unfold bindC
  rw [bindC_out fun w hw=>h w (List.mem_cons_of_mem _ hw)]
  split
  ·rfl
  ·have:x≠n:=by rintro rfl;exact h v List.mem_cons_self
   simp [this]
theorem bindL_get {kindOf:Str→Option NameKind} {x:Str} {v:Value}:∀ {P:List Str} {vs:List Value} {i:Nat} {m:Str→Option Value},P.Nodup→P[i]?=some x→vs[i]?=some v→kindOf x=some .local→
  bindL kindOf (P.zip vs) m x=some v
 | [],_,_,_,_,h,_,_=>by simp at h
 | _::_,[],_,_,_,_,h,_=>by simp at h
 | p::P,w::vs,0,m,nd,h1,h2,hk=>by
  simp at h1 h2;subst h1;subst h2
  show bindL kindOf ((p,w)::P.zip vs) m p=_
  unfold bindL
  rw [bindL_out fun v hv=>(List.nodup_cons.mp nd).1 (List.of_mem_zip hv).1,if_pos hk]
  simp
 | p::P,w::vs,i+1,m,nd,h1,h2,hk=>by
  show bindL kindOf ((p,w)::P.zip vs) m x=_
  unfold bindL
  exact bindL_get (i:=i) (List.nodup_cons.mp nd).2 (by simpa using h1) (by simpa using h2) hk
theorem bindC_get {kindOf:Str→Option NameKind} {x:Str} {v:Value}:∀ {P:List Str} {vs:List Value} {i:Nat} {m:Str→Option Value},P.Nodup→P[i]?=some x→vs[i]?=some v→kindOf x≠some .local→
  bindC kindOf (P.zip vs) m x=some v
 | [],_,_,_,_,h,_,_=>by simp at h
 | _::_,[],_,_,_,_,h,_=>by simp at h
 | p::P,w::vs,0,m,nd,h1,h2,hk=>by
  simp at h1 h2;subst h1;subst h2
  show bindC kindOf ((p,w)::P.zip vs) m p=_
  unfold bindC
  rw [bindC_out fun v hv=>(List.nodup_cons.mp nd).1 (List.of_mem_zip hv).1,if_neg hk]
  simp
 | p::P,w::vs,i+1,m,nd,h1,h2,hk=>by
  show bindC kindOf ((p,w)::P.zip vs) m x=_
  unfold bindC
  exact bindC_get (i:=i) (List.nodup_cons.mp nd).2 (by simpa using h1) (by simpa using h2) hk
noncomputable def start (N:List Str) (vs:List V):St:=vs.map some++List.replicate (N.length - vs.length) none
noncomputable def cxOf (CX:CXT) (P:Program) (w:World) (K:PySem.W.Frag) (mg:Str→Option Value) (base:Heap) (N:List Str) (qual:Str) (scope:Scope) (f:Addr) (cd:Value) (A:Around) (outer:List Env) (s:Shared) (H:Hp) (E:XK):Cx where
 prog:=P
 w:=w
 K:=K
 mg:=mg
 base:=base
 A:=A.deeper (envOfC qual scope s.heap.objs.size f cd)
 N:=N
 s₀:=s
 H₀:=H
 env:=envOfC qual scope s.heap.objs.size f cd
 outer:=outer
 stack:=envOfC qual scope s.heap.objs.size f cd::outer
 ex:=[]
 calm:=true
 fn:=fun _=>true
 pn:=[]
 xe:=fun e s'=>wpAny (model P w) (A.deeper (envOfC qual scope s.heap.objs.size f cd)) (leaving (envOfC qual scope s.heap.objs.size f cd) e) (fun _ s''=>CX outer H s E e s'') (fun e' s''=>CX outer H s E e' s'') s'
theorem cell_has {sc:Scope} {n:Nat} {x:Str} (h:sc.names.lookup x=some .cell):∃ c,(cellsFrom n sc.names []).lookup x=some c:=by
 have q:=PySem.W.cellsFrom_some sc.names n [] (.inl h)
 exact Option.isSome_iff_exists.mp q
theorem inv_start {CX:CXT} {P:Program} {w:World} {K:PySem.W.Frag} {mg:Str→Option Value} {base:Heap} {N ps:List Str} {qual:Str} {scope:Scope} {f:Addr} {cd:Value} {A:Around} {outer:List Env} {s s1:Shared} {H:Hp} {E:XK} {us:List Value} {vs:List V}
  (S:FnScope N ps scope) (hd:A.handled=none) (e0:Env0 P w K mg base A outer s H) (hl:vs.length=ps.length) (r:Vals vs us)
  (x:InCallC s s.heap.objs.size (bindL (envOfC qual scope s.heap.objs.size f cd).kindOf (ps.zip us) fun _=>none) (cellsFrom (s.heap.objs.size+1) scope.names []) (bindC (envOfC qual scope s.heap.objs.size f cd).kindOf (ps.zip us) fun _=>none) s1) :
  Inv (cxOf CX P w K mg base N qual scope f cd A outer s H E) [] (start N vs) H s1:=by
 have hpl:ps.length≤N.length:=by have:=congrArg List.length S.pre;rw [List.length_take] at this;omega
 obtain ⟨h1,tk,rfl,hk⟩:=x.done
 have noA:∀ b:Addr,b∉(cxOf CX P w K mg base N qual scope f cd A outer s H E).ex:=fun b z=>absurd (show b∈([]:List Addr) from z) (by simp)
 refine ⟨⟨e0.mod,S.kind,rfl,rfl,Nat.le_refl _,fun y z c h1 h2=>?_,fun y hy=>?_,fun y c _ h=>?_,fun _=>hd,Around.frames_deeper e0.frames,.inr ⟨rfl,rfl⟩,fun b z=>absurd z (noA b),e0.bs,e0.bsz,fun b _ _=>noA b,fun b z=>absurd z (noA b),e0.funs,e0.frf⟩,
  rfl,e0.bare,Un.kept hk,⟨_,x.toInCall.ns,fun i y v h1 h2 h3=>?_⟩,fun y c h=>⟨_,x.cell y c h⟩,e0.hok.fresh (Nat.le_refl _),fun y c h=>?_,fun p hp=>absurd (show p∈([]:List (Addr×Obj)) from hp) (by simp),e0.hok.kept hk,?_⟩
 ·exact name_of_addr x.apart (PySem.mem_of_lookup h1) (PySem.mem_of_lookup h2)
 ·have hy:scope.names.lookup y=some .cell∨scope.names.lookup y=some .free:=hy
  rcases hy with hy | hy
  ·exact cell_has hy
  ·exact absurd rfl (S.nofree _ (PySem.mem_of_lookup hy))
 ·exact Nat.le_of_lt (x.above y c (PySem.mem_of_lookup h))
 ·have hi:i < vs.length:=by
   unfold start at h2
   by_cases hi:i < vs.length
   ·exact hi
   ·rw [List.getElem?_append_right (by simpa using hi)] at h2
    rw [List.getElem?_replicate] at h2
    split at h2<;>cases h2
  have ha:vs[i]?=some v:=by
   unfold start at h2
   rw [List.getElem?_append_left (by simpa using hi),List.getElem?_map] at h2
   cases e:vs[i]? with
   | none=>rw [e] at h2;cases h2
   | some a=>rw [e] at h2;cases h2;rfl
  obtain ⟨u,hu,rv⟩:=r.get ha
  have hp:ps[i]?=some y:=by
   rw [←S.pre,List.getElem?_take_of_lt (by omega)];exact h1
  have ndP:ps.Nodup:=by rw [←S.pre];exact S.nd.sublist (List.take_sublist _ _)
  refine ⟨u,rv,?_⟩
  rcases S.par y (List.mem_of_getElem? hp) with k | k
  ·exact .inl ⟨k,bindL_get ndP hp hu k⟩
  ·obtain ⟨c,e⟩:=cell_has (n:=s.heap.objs.size+1) k
   refine .inr ⟨.inl k,c,e,?_⟩
   have q:=x.cell y c e
   rw [bindC_get ndP hp hu (by show scope.names.lookup y≠_;rw [k];decide)] at q
   exact q
 ·exact e0.hok.fresh (Nat.le_of_lt (x.above y c (PySem.mem_of_lookup h)))
 ·unfold start
  show _=N.length
  rw [List.length_append,List.length_map,List.length_replicate]
  omega
theorem fn_of {CX:CXT} {P:Program} {w:World} {K:PySem.W.Frag} {mg:Str→Option Value} {base:Heap} {k:Nat} {f:Addr} {name qual:Str} {params:Arguments} {body:List Stmt} {scope:Scope} {dV kV doc pm cdv ct oc:Value} {an od:Option Addr}
  {osl:Array (Option Value)} {N ps:List Str} {sp:Sp} (lk:K.lookup f=some ⟨oc,od,.func (PySem.W.fnOf name qual params body scope dV kV doc pm an cdv ct),osl⟩) (hcd:PySem.W.codeIn K cdv qual=true) (S:FnScope N ps scope)
  (len:∀ vs H Q E,sp vs H Q E→vs.length=ps.length)
  (hbody:∀ (A:Around) (outer:List Env) (s:Shared) (H:Hp) (vs:List V) (Q:VK) (E:XK),Room k (A.deeper (envOfC qual scope s.heap.objs.size f cdv))→sp vs H Q E→
   ∃ t,PSs (cxOf CX P w K mg base N qual scope f cdv A outer s H E) body t∧t { nx:=fun _ H'=>Q .non H',rt:=Q } (start N vs) H) :
  FnOk P w K mg base CX (k+1) f (PySem.W.fnOf name qual params body scope dV kV doc pm an cdv ct) ps sp:=by
 refine ⟨len,fun A outer s H args us vs Q E hr e0 hb r hsp=>?_⟩
 have hl:=len _ _ _ _ hsp
 have KX:K.In s.heap:=e0.mod.kin.keeps fun b o e=>(e0.bs b o e).1
 have lim:s.heap.NoLimit:=e0.mod.nolimit.keeps fun b o e=>(e0.bs b o e).1
 have hkind:∀ y∈ps.zip us,scope.names.lookup y.1=some .local∨(scope.names.lookup y.1=some .cell∧((cellsFrom (s.heap.objs.size+1) scope.names []).lookup y.1).isSome=true):=fun ⟨n,v⟩ hy=>by
  rcases S.par n (List.of_mem_zip hy).1 with q | q
  ·exact .inl q
  ·exact .inr ⟨q,PySem.W.cellsFrom_some _ _ _ (.inl q)⟩
 refine codeAny_call_function hr.depth (KX _ _ lk) rfl S.co S.gen rfl (PySem.W.codeRec_of KX hcd) (hb _ _ _ _ ?_)
 refine wpAny_newFunctionEnv_cells S.kind hkind fun env he s1 x=>?_
 subst he
 refine ⟨lim.keeps x.toInCall.keep,codeAny_func ?_⟩
 obtain ⟨t,ht,hq⟩:=hbody A outer s H vs Q E (hr.deeper _) hsp
 have I:Inv (cxOf CX P w K mg base N qual scope f cdv A outer s H E) [] (start N vs) H s1:=inv_start S hr.hd e0 hl r x
 refine wpAny_mono (ht [] s1 (start N vs) H _ I hq) (fun fl s' hs=>?_) fun e s' hs=>hs
 have fin:∀ {σ':St} {H':Hp} {v:V} {u:Value},Inv (cxOf CX P w K mg base N qual scope f cdv A outer s H E) [] σ' H' s'→RelV v u→Q v H'→CE outer P w H s Q u s':=
  fun {σ' H' v u} J rv q=>⟨v,H',J.os,J.bare,J.base,J.hok,rv,q⟩
 cases fl with
 | ret u=>
  obtain ⟨v,σ',H',J,rv,q⟩:=hs
  exact fin J rv q
 | next=>
  obtain ⟨σ',H',J,q⟩:=hs
  exact fin (v:=V.non) (u:=Value.none) J rfl q
 | brk=>
  obtain ⟨_,_,_,q⟩:=hs
  exact False.elim q
 | cont=>
  obtain ⟨_,_,_,q⟩:=hs
  exact False.elim q
end L2
namespace L2
open PySem PySem.Spec PyProof.Rows
section
variable {X:Cx} {x:Str} {p pos:Pos} {e:Expr} {es:List Expr} {t:TA} {id T:String} {r:List V→Hp→VK→Prop}
noncomputable def tCB (r:List V→Hp→VK→Prop) (t:TA):TE:=fun σ H Q=>t σ H fun vs H1=>r vs H1 Q
theorem pe_callB (hc:CallR X (.builtin id) r) (hg:Gl X x) (hm:X.mg x=none) (hv:bootBuiltins x=some (.builtin id)) (ha:PA X (e::es) t) (hn:x≠"__name__":=by decide) (hdb:(x == ("__debug__" : Str))=false:=by decide)
  (he:starEach (e::es) X.env=(false,eval e X.env)::starEach es X.env:=by rfl) (hpl:(backTo pos (starEach es X.env)).any (·.1)=false:=by rfl):PE X (.Call (.Name x p) (e::es) [] pos) (tCB r t):=by
 intro pins s σ H Q I h
 refine wpAny_Call_Name_kw (ld_blt I hg hm hv ?_ hn hdb)
 exact PyProof.Rows.callWith_builtin1 (thn (ha pos pins s σ H _ I h) fun us s1 ⟨vs,H1,I1,r1,q1⟩=>hc pins s1 σ H1 vs us Q I1 r1 q1) he hpl
theorem pe_callTy (hc:CallR X (.type T) r) (hg:Gl X x) (hm:X.mg x=none) (hv:bootBuiltins x=some (.type T)) (ha:PA X (e::es) t) (hn:x≠"__name__":=by decide) (hdb:(x == ("__debug__" : Str))=false:=by decide)
  (he:starEach (e::es) X.env=(false,eval e X.env)::starEach es X.env:=by rfl) (hpl:(backTo pos (starEach es X.env)).any (·.1)=false:=by rfl):PE X (.Call (.Name x p) (e::es) [] pos) (tCB r t):=by
 intro pins s σ H Q I h
 refine wpAny_Call_Name_kw (ld_blt I hg hm hv ?_ hn hdb)
 exact PyProof.Rows.callWith_type1 (thn (ha pos pins s σ H _ I h) fun us s1 ⟨vs,H1,I1,r1,q1⟩=>hc pins s1 σ H1 vs us Q I1 r1 q1) he hpl
end
end L2
namespace HT
open PySem PyProof.Rows
section
open PySem.SeqAt
open PySem.AutoSeq1 (wpAny_loadPart')
open PySem.MeetsSeq PySem.MeetsSeq2 PySem.MeetsSeq3
end
section
variable {prog:Program} {w:World} {A:Around} {E:Value→Shared→Prop} {s:Shared}
noncomputable def sIx (n d:Nat):Option Int→Nat
 | none=>d
 | some v=>if v < 0 then (v+(n:Int)).toNat else min v.toNat n
theorem sIx_none (n d:Nat):sIx n d none=d:=rfl
theorem sIx_nat (n d k:Nat):sIx n d (some (k:Int))=min k n:=by
 show (if (k:Int) < 0 then ((k:Int)+(n:Int)).toNat else min (k:Int).toNat n)=min k n
 rw [if_neg (by omega),Int.toNat_natCast]
end
end HT
namespace L2
open PySem PySem.Spec PyProof.Rows
noncomputable abbrev TO:=St→Hp→(Option Int→Hp→Prop)→Prop
noncomputable def PO (X:Cx) (e:Option Expr) (t:TO):Prop:=
 ∀ (pins:List (Addr×Obj)) (s:Shared) (σ:St) (H:Hp) (Q:Option Int→Hp→Prop),Inv X pins σ H s→t σ H Q→
  wpAny (model X.prog X.w) X.A (evalPart e X.env) (fun u s'=>∃ o H',Inv X pins σ H' s'∧IsPart u o∧Q o H') X.xe s
noncomputable def tNoPart:TO:=fun _ H Q=>Q none H
noncomputable def tPart (t:TE):TO:=fun σ H Q=>t σ H fun x H1=>∃ i,x=.int i∧Q (some i) H1
section
variable {X:Cx} {e:Expr} {te:TE} {lo hi:Option Expr} {tl th:TO} {pos p2:Pos}
theorem po_none:PO X none tNoPart:=by
 intro pins s σ H Q I h
 rw [evalPart_none]
 exact wpAny_pure ⟨none,H,I,.none,h⟩
theorem po_some (h:PE X e te):PO X (some e) (tPart te):=by
 intro pins s σ H Q I hw
 rw [evalPart_some]
 refine thn (h pins s σ H _ I hw) fun u s1 ⟨x,H1,I1,r1,q1⟩=>?_
 obtain ⟨i,rfl,q⟩:=q1
 obtain ⟨t,rfl⟩:=r1
 exact ⟨some i,H1,I1,.int i t,q⟩
noncomputable def SlR (X:Cx) (r:V→Option Int→Option Int→Hp→VK→Prop):Prop:=
 ∀ (pins:List (Addr×Obj)) (s:Shared) (σ:St) (H:Hp) (x:V) (v vl vu:Value) (lo hi:Option Int) (sl:Addr) (Q:VK),Inv X pins σ H s→RelV x v→s.heap.IsSliceOf sl vl vu .none→IsPart vl lo→IsPart vu hi→r x lo hi H Q→
  ∃ T id,typeLookup (.type T) "__getitem__" = pure (some (.builtin id))∧s.TypeIs v T∧wpAny (model X.prog X.w) X.A (getItem v (.ref sl)) (EP X pins σ Q) X.xe s
noncomputable def tSl (r:V→Option Int→Option Int→Hp→VK→Prop) (te:TE) (tl th:TO):TE:=fun σ H Q=>te σ H fun x H1=>tl σ H1 fun l H2=>th σ H2 fun u H3=>r x l u H3 Q
theorem pe_slice {r:V→Option Int→Option Int→Hp→VK→Prop} (hr:SlR X r) (he:PE X e te) (hl:PO X lo tl) (hu:PO X hi th):PE X (.Subscript e (.Slice lo hi none p2) pos) (tSl r te tl th):=by
 intro pins s σ H Q I h
 refine Subscript_ (thn (he pins s σ H _ I h) fun v s1 ⟨x,H1,I1,r1,q1⟩=>?_)
 refine wpAny_Slice (thn (hl pins s1 σ H1 _ I1 q1) fun vl s2 ⟨l,H2,I2,pl,q2⟩=>thn (hu pins s2 σ H2 _ I2 q2) fun vu s3 ⟨u,H3,I3,pu,q3⟩=>?_)
 rw [evalPart_none]
 refine wpAny_pure ?_
 have I4:Inv X pins σ H3 { s3 with heap:=s3.heap.push { cls:=.type "slice",data:=.fields #[vl,vu,.none] } }:=I3.kept (t':=s3.toks) fun b ob q=>Heap.get?_push_of_some _ q
 obtain ⟨T,id,hT,ht,hg⟩:=hr pins { s3 with heap:=s3.heap.push { cls:=.type "slice",data:=.fields #[vl,vu,.none] } } σ H3 x v vl vu l u s3.heap.objs.size Q I4 r1 (Heap.IsSliceOf.new ..) pl pu q3
 show wpAny (model X.prog X.w) X.A (subscriptTail e (.Slice lo hi none p2) v (.ref s3.heap.objs.size)) (EP X pins σ Q) X.xe { s3 with heap:=s3.heap.push { cls:=.type "slice",data:=.fields #[vl,vu,.none] } }
 exact tail_any (ops:=[.ref s3.heap.objs.size,v]) ht hT hg (by with_unfolding_all rfl)
noncomputable def cutV (xs:List V) (lo hi:Option Int):List V:=(xs.drop (HT.sIx xs.length 0 lo)).take (HT.sIx xs.length xs.length hi - HT.sIx xs.length 0 lo)
theorem cutV_length (xs:List V) (lo hi:Option Int):(cutV xs lo hi).length≤xs.length:=by
 unfold cutV
 rw [List.length_take,List.length_drop]
 omega
end
end L2
namespace L2
open PySem PySem.Spec PyProof.Rows
noncomputable def ixN (n:Nat) (i:Int):Option Nat:=if 0≤i then (if i < n then some i.toNat else none) else if -(n:Int)≤i then some (i+n).toNat else none
noncomputable def atI {α:Type} (xs:List α) (i:Int):Option α:=(ixN xs.length i).bind fun j=>xs[j]?
theorem ixN_seq {n:Nat} {i:Int} {j:Nat} (h:ixN n i=some j):seqIndex? i n=some j∧j < n∧-(n:Int)≤i∧i < n:=by
 unfold ixN at h
 by_cases h0:0≤i
 ·rw [if_pos h0] at h
  by_cases h1:i < n
  ·rw [if_pos h1] at h
   have e:i.toNat=j:=Option.some.inj h
   exact ⟨by rw [seqIndex_of h0 h1,e],by omega,by omega,h1⟩
  ·rw [if_neg h1] at h;cases h
 ·rw [if_neg h0] at h
  by_cases h1:-(n:Int)≤i
  ·rw [if_pos h1] at h
   have e:(i+n).toNat=j:=Option.some.inj h
   exact ⟨by rw [seqIndex_neg (by omega) h1,e],by omega,h1,by omega⟩
  ·rw [if_neg h1] at h;cases h
theorem atI_get {α:Type} {xs:List α} {i:Int} {v:α} (h:atI xs i=some v):∃ j,seqIndex? i xs.length=some j∧xs[j]?=some v∧j < xs.length∧-(xs.length:Int)≤i∧i < xs.length:=by
 unfold atI at h
 cases e:ixN xs.length i with
 | none=>rw [e] at h;cases h
 | some j=>
  rw [e] at h
  obtain ⟨h1,h2,h3,h4⟩:=ixN_seq e
  exact ⟨j,h1,h,h2,h3,h4⟩
theorem atI_nat {α:Type} {xs:List α} {j:Nat} {v:α} (h:xs[j]?=some v):atI xs (j:Int)=some v:=by
 have hj:j < xs.length:=(List.getElem?_eq_some_iff.mp h).1
 have e:ixN xs.length (j:Int)=some j:=by
  unfold ixN
  rw [if_pos (by omega),if_pos (by omega)];simp
 unfold atI;rw [e];exact h
theorem atI_last {α:Type} (xs:List α) (v:α):atI (xs++[v]) (-1)=some v:=by
 have hl:(xs++[v]).length=xs.length+1:=by simp
 have e:ixN (xs++[v]).length (-1)=some xs.length:=by
  unfold ixN
  rw [hl,if_neg (by decide),if_pos (by omega)]
  congr 1
  omega
 unfold atI
 rw [e]
 show (xs++[v])[xs.length]?=some v
 simp
noncomputable def PlainIx (b:Expr):Prop:=∀ o i,subscripted b false o i=operate [o,i] (getItem o i)
noncomputable def IxR (X:Cx) (r:R2):Prop:=
 ∀ (value slice:Expr) (pins:List (Addr×Obj)) (s:Shared) (σ:St) (H:Hp) (x y:V) (v u:Value) (Q:VK),Inv X pins σ H s→RelV x v→RelV y u→r x y H Q→
  subscripted slice false v u=operate [v,u] (getItem v u)→wpAny (model X.prog X.w) X.A (subscriptTail value slice v u) (EP X pins σ Q) X.xe s
noncomputable def MtR (X:Cx) (id:String) (r:V→List V→Hp→VK→Prop):Prop:=
 ∀ (pins:List (Addr×Obj)) (s:Shared) (σ:St) (H:Hp) (x:V) (xs:List V) (v:Value) (us:List Value) (Q:VK),Inv X pins σ H s→RelV x v→Vals xs us→r x xs H Q→
  wpAny (model X.prog X.w) X.A (call (.builtin id) (v::us)) (EP X pins σ Q) X.xe s
section
variable {X:Cx} {a b:Expr} {ta tb:TE} {pos:Pos}
theorem pe_ix {r:R2} (hr:IxR X r) (ha:PE X a ta) (hb:PE X b tb) (hs:PlainIx b):PE X (.Subscript a b pos) (tOp r ta tb):=by
 intro pins s σ H Q I h
 exact Subscript_ (binT ha hb I h fun v u s2 x y H2 I2 rx ry q=>hr a b pins s2 σ H2 x y v u Q I2 rx ry q (hs _ _))
noncomputable def rIxL (K:PySem.W.Frag):R2:=fun x y H Q=>∃ p xs i v,x=.ref p∧y=.int i∧SqL K H p xs∧atI xs i=some v∧Q v H
noncomputable def rIxT (K:PySem.W.Frag):R2:=fun x y H Q=>∃ p xs i v,x=.ref p∧y=.int i∧SqT K H p xs∧atI xs i=some v∧Q v H
noncomputable def rIxS:R2:=fun x y H Q=>∃ z i c,x=.str z∧y=.int i∧z.length≤sizeLine∧atI z.cps.toList i=some c∧Q (.str ⟨#[c]⟩) H
theorem ix_list:IxR X (rIxL X.K):=by
 intro value slice pins s σ H x y v u Q I rx ry h hs
 obtain ⟨p,xs,i,z,rfl,rfl,hq,he,q⟩:=h
 cases rx
 obtain ⟨t,rfl⟩:=ry
 obtain ⟨its,r,pl,hz⟩:=I.list hq
 obtain ⟨j,h1,h2,h3,h4,h5⟩:=atI_get he
 obtain ⟨w,ew,rw'⟩:=r.get h2
 have hl:=r.length
 have hn:=line63
 have fin:EP X pins σ Q w s:=⟨z,H,I,rw',q⟩
 by_cases h0:0≤i
 ·have hj:i.toNat=j:=by
   rw [seqIndex_of h0 h5] at h1
   exact Option.some.inj h1
  exact item_listR pl.isList h0 (by omega) (by rw [hj];simpa using ew) fin hs
 ·have hj:(i+(its.toArray.size:Int)).toNat=j:=by
   rw [seqIndex_neg (by omega) h4] at h1
   rw [List.size_toArray,←hl]
   exact Option.some.inj h1
  exact subscriptTail_builtinR (x:=w) pl.isList.typeIs slot_list_getitem.lookup
   (wpAny_getItem_list_neg (Q:=fun r s'=>r=w∧EP X pins σ Q r s') pl.isList (by omega) (by rw [List.size_toArray]<;>omega) (by omega) (by rw [hj];simpa using ew) ⟨rfl,fin⟩) hs
theorem ix_tup:IxR X (rIxT X.K):=by
 intro value slice pins s σ H x y v u Q I rx ry h hs
 obtain ⟨p,xs,i,z,rfl,rfl,hq,he,q⟩:=h
 cases rx
 obtain ⟨t,rfl⟩:=ry
 obtain ⟨its,r,pl,hz⟩:=I.tuple hq
 obtain ⟨j,h1,h2,h3,h4,h5⟩:=atI_get he
 obtain ⟨w,ew,rw'⟩:=r.get h2
 have hl:=r.length
 have hn:=line63
 have fin:EP X pins σ Q w s:=⟨z,H,I,rw',q⟩
 exact subscriptTail_builtinR (x:=w) pl.typeIs slot_tuple_getitem.lookup
  (getItem_tuple (j:=j) (Q:=fun r s'=>r=w∧EP X pins σ Q r s') pl (by omega) (by omega) (by rw [List.size_toArray,←hl];exact h1) (by simpa using ew) ⟨rfl,fin⟩) hs
theorem ix_str:IxR X rIxS:=by
 intro value slice pins s σ H x y v u Q I rx ry h hs
 obtain ⟨z,i,c,rfl,rfl,hz,he,q⟩:=h
 obtain ⟨t,rfl⟩:=rx
 obtain ⟨t',rfl⟩:=ry
 obtain ⟨j,h1,h2,h3,h4,h5⟩:=atI_get he
 have hl:z.cps.toList.length=z.length:=by simp [Str.length]
 rw [hl] at h1 h4 h5
 have hn:=line63
 exact tail_any (typeIs_str s z t) slot_str_getitem.lookup (getItem_str (c:=c) (by
  have e1:decide (i < -(2 ^ 63:Int))=false:=decide_eq_false (by omega)
  have e2:decide (i≥2 ^ 63)=false:=decide_eq_false (by omega)
  rw [e1,e2,Bool.or_false]) (by rw [h1];simpa using h2) ⟨.str ⟨#[c]⟩,H,I.tok _,⟨_,rfl⟩,q⟩) hs
theorem mapSeq_set (its:List Value) (n j:Nat) (u:Value):Obj.mapSeq (·.setIfInBounds j u) { cls:=.type "list",data:=.seq its.toArray n }={ cls:=.type "list",data:=.seq (its.set j u).toArray n }:=by
 simp [Obj.mapSeq]
theorem Inv.lst {pins:List (Addr×Obj)} {σ:St} {H:Hp} {s:Shared} {p:Addr} {xs:List V} (I:Inv X pins σ H s) (h:H p=some (.lst xs)) :
  ∃ (its:List Value) (n:Nat),Vals xs its∧s.heap.get? p=some { cls:=.type "list",data:=.seq its.toArray n }∧xs.length≤sizeLine:=by
 obtain ⟨z,its,n,r,e⟩:=I.hok p _ h
 exact ⟨its,n,r,e,z⟩
theorem Inv.lstUpd {pins:List (Addr×Obj)} {σ:St} {H:Hp} {s:Shared} {p:Addr} {xs ys:List V} {its its':List Value} {n n':Nat} {f:Obj→Obj} (I:Inv X pins σ H s) (h:H p=some (.lst xs))
  (ho:s.heap.get? p=some { cls:=.type "list",data:=.seq its.toArray n }) (hf:f { cls:=.type "list",data:=.seq its.toArray n }={ cls:=.type "list",data:=.seq its'.toArray n' }) (r:Vals ys its') (hz:ys.length≤sizeLine) (t:Nat) :
  Inv X pins σ (upd H p (.lst ys)) { s with heap:=s.heap.update p f,toks:=t }:=by
 have e:(s.heap.update p f).get? p=some { cls:=.type "list",data:=.seq its'.toArray n' }:=by
  rw [Heap.get?_update_self f ho (by rw [hf]<;>rfl),hf]
 refine I.write (x:=p) (e:=p) (by rw [h];trivial) (.inl rfl) (fun b u hb q=>(Heap.get?_update_other _ _ (Ne.symm hb)).trans q) ⟨_,e⟩ ?_
 exact ⟨hz,its',n',r,e⟩
noncomputable def rSetL:V→V→V→Hp→(Hp→Prop)→Prop:=fun o i v H Q=>∃ p xs k j,o=.ref p∧i=.int k∧H p=some (.lst xs)∧ixN xs.length k=some j∧Q (upd H p (.lst (xs.set j v)))
theorem set_list:PSet X rSetL:=by
 intro pins s σ H o i v ov iv u Q I ro ri rv h
 obtain ⟨p,xs,k,j,rfl,rfl,hp,hj,q⟩:=h
 cases ro
 obtain ⟨t,rfl⟩:=ri
 obtain ⟨its,n,r,ho,hz⟩:=I.lst hp
 obtain ⟨h1,h2,h3,h4⟩:=ixN_seq hj
 have hl:=r.length
 have hn:=line63
 have I':Inv X pins σ (upd H p (.lst (xs.set j v))) { s with heap:=s.heap.update p (Obj.mapSeq (·.setIfInBounds j u)) }:=
  I.lstUpd hp ho (mapSeq_set its n j u) (r.set rv j) (by rw [List.length_set];exact hz) s.toks
 by_cases h0:0≤k
 ·have hk:k.toNat=j:=by
   rw [seqIndex_of h0 h4] at h1
   exact Option.some.inj h1
  exact PySem.W.ki_setAt ho h0 (by omega) (by rw [List.size_toArray,←hl];exact h4) (by rw [hk];exact ⟨_,I',q⟩)
 ·have hk:(k+(its.toArray.size:Int)).toNat=j:=by
   rw [seqIndex_neg (by omega) h3] at h1
   rw [List.size_toArray,←hl]
   exact Option.some.inj h1
  exact PySem.W.ki_setBack ho (by omega) (by rw [List.size_toArray,←hl];exact h3) (by omega) (by rw [hk];exact ⟨_,I',q⟩)
theorem slice_bounds (lo hi:Option Int) (n:Nat):(sliceBounds lo hi none n).1=((HT.sIx n 0 lo:Nat):Int)∧(sliceBounds lo hi none n).2.1=((HT.sIx n n hi:Nat):Int)∧(sliceBounds lo hi none n).2.2=1:=by
 refine ⟨?_,?_,rfl⟩
 ·cases lo with
  | none=>simp [sliceBounds,HT.sIx]
  | some i=>
   simp only [sliceBounds,HT.sIx,Option.getD_none,show (1:Int) > 0 by decide,if_true]
   by_cases h:i < 0
   ·simp only [h,if_true]<;>omega
   ·simp only [h,if_false]<;>omega
 ·cases hi with
  | none=>simp [sliceBounds,HT.sIx]
  | some i=>
   simp only [sliceBounds,HT.sIx,Option.getD_none,show (1:Int) > 0 by decide,if_true]
   by_cases h:i < 0
   ·simp only [h,if_true]<;>omega
   ·simp only [h,if_false]<;>omega
theorem slicePick_cut (its:List Value) (lo hi:Option Int):slicePick its.toArray lo hi none=((its.drop (HT.sIx its.length 0 lo)).take (HT.sIx its.length its.length hi - HT.sIx its.length 0 lo)).toArray:=by
 obtain ⟨h1,h2,h3⟩:=slice_bounds lo hi its.toArray.size
 unfold slicePick
 rw [h1,h2,h3]
 simp only [sliceRange_one,pick_run,List.size_toArray]<;>rfl
noncomputable def rSlL (K:PySem.W.Frag):V→Option Int→Option Int→Hp→VK→Prop:=fun x lo hi H Q=>∃ a xs,x=.ref a∧SqL K H a xs∧∀ p,H p=none→Q (.ref p) (upd H p (.lst (cutV xs lo hi)))
theorem sl_list:SlR X (rSlL X.K):=by
 intro pins s σ H x v vl vu lo hi sl Q I rx hs pl pu h
 obtain ⟨a,xs,rfl,hx,q⟩:=h
 cases rx
 obtain ⟨its,r,ht,hz⟩:=I.list hx
 have hlen:=r.length
 refine ⟨"list",_,slot_list_getitem.lookup,ht.isList.typeIs,?_⟩
 refine wpAny_getItem_list_slice ht.isList hs pl pu .none (by simp) ?_ (by rw [List.size_toArray]<;>omega)
 rw [slicePick_cut,←hlen]
 refine ⟨.ref s.heap.objs.size,_,I.laid (t':=s.toks) (o:=.lst (cutV xs lo hi)) (fun b ob q=>Heap.get?_push_of_some _ q) (Nat.le_refl _) ?_,rfl,q _ (I.hok.fresh (Nat.le_refl _))⟩
 exact ⟨Nat.le_trans (cutV_length xs lo hi) hz,_,0,(r.drop (HT.sIx xs.length 0 lo)).take (HT.sIx xs.length xs.length hi - HT.sIx xs.length 0 lo),Heap.get?_push_size _ rfl⟩
noncomputable def flatV:V→Bool
 | .non=>true
 | .bl _=>true
 | .int _=>true
 | .str _=>true
 | _=>false
noncomputable def eqV:V→V→Bool
 | .non,.non=>true
 | .bl a,.bl b=>a == b
 | .bl a,.int b=>(if a then 1 else 0) == b
 | .int a,.bl b=>a == (if b then 1 else 0)
 | .int a,.int b=>a == b
 | .str a,.str b=>a == b
 | _,_=>false
theorem eqAt_V {A:Around} {s:Shared} {y x:V} {u v:Value} (ry:RelV y u) (rx:RelV x v) (fy:flatV y=true) (fx:flatV x=true):SeqAt.EqAt A s u v (eqV y x):=by
 cases y with
 | non=>
  cases ry
  cases x with
  | non=>cases rx;exact SeqAt.EqAt.same _
  | bl b=>cases rx;exact SeqAt.EqAt.none_bool b
  | int b=>obtain ⟨t,rfl⟩:=rx;exact SeqAt.EqAt.none_int b t
  | str b=>obtain ⟨t,rfl⟩:=rx;exact SeqAt.EqAt.none_str b t
  | _=>exact absurd (show false=true from fx) Bool.false_ne_true
 | bl a=>
  cases ry
  cases x with
  | non=>cases rx;exact SeqAt.EqAt.bool_none a
  | bl b=>cases rx;exact SeqAt.EqAt.bool_bool a b
  | int b=>obtain ⟨t,rfl⟩:=rx;exact SeqAt.EqAt.bool_int a b t
  | str b=>obtain ⟨t,rfl⟩:=rx;exact SeqAt.EqAt.bool_str a b t
  | _=>exact absurd (show false=true from fx) Bool.false_ne_true
 | int a=>
  obtain ⟨t',rfl⟩:=ry
  cases x with
  | non=>cases rx;exact SeqAt.EqAt.int_none a t'
  | bl b=>cases rx;exact SeqAt.EqAt.int_bool a t' b
  | int b=>obtain ⟨t,rfl⟩:=rx;exact SeqAt.EqAt.int_int a t' b t
  | str b=>obtain ⟨t,rfl⟩:=rx;exact SeqAt.EqAt.int_str a t' b t
  | _=>exact absurd (show false=true from fx) Bool.false_ne_true
 | str a=>
  obtain ⟨t',rfl⟩:=ry
  cases x with
  | non=>cases rx;exact SeqAt.EqAt.str_none a t'
  | bl b=>cases rx;exact SeqAt.EqAt.str_bool a t' b
  | int b=>obtain ⟨t,rfl⟩:=rx;exact SeqAt.EqAt.str_int a t' b t
  | str b=>obtain ⟨t,rfl⟩:=rx;exact SeqAt.EqAt.str_str a t' b t
  | _=>exact absurd (show false=true from fx) Bool.false_ne_true
 | _=>exact absurd (show false=true from fy) Bool.false_ne_true
noncomputable def eqU (x:V) (u:Value):Bool:=match u with
 | .none=>eqV .non x
 | .bool b=>eqV (.bl b) x
 | .int i _=>eqV (.int i) x
 | .str z _=>eqV (.str z) x
 | _=>false
theorem eqU_of {x y:V} {u:Value} (r:RelV y u) (f:flatV y=true):eqU x u=eqV y x:=by
 cases y with
 | non=>cases r;rfl
 | bl b=>cases r;rfl
 | int i=>obtain ⟨t,rfl⟩:=r;rfl
 | str z=>obtain ⟨t,rfl⟩:=r;rfl
 | _=>exact absurd (show false=true from f) Bool.false_ne_true
theorem any_eqU {x:V}:∀ {xs:List V} {us:List Value},Vals xs us→xs.all flatV=true→us.any (eqU x)=xs.any fun y=>eqV y x
 | _,_,.nil,_=>rfl
 | y::xs,u::us,.cons r t,f=>by
  rw [List.all_cons,Bool.and_eq_true] at f
  rw [List.any_cons,List.any_cons,eqU_of r f.1,any_eqU t f.2]
theorem mem_eqAt {A:Around} {s:Shared} {x:V} {v:Value} (rx:RelV x v) (fx:flatV x=true):∀ {xs:List V} {us:List Value},Vals xs us→xs.all flatV=true→∀ u∈us,SeqAt.EqAt A s u v (eqU x u)
 | _,_,.nil,_=>fun u hu=>by cases hu
 | y::xs,u::us,.cons r t,f=>fun u' hu=>by
  rw [List.all_cons,Bool.and_eq_true] at f
  rcases List.mem_cons.mp hu with rfl | hu
  ·rw [eqU_of r f.1];exact eqAt_V r rx f.1 fx
  ·exact mem_eqAt rx fx t f.2 u' hu
noncomputable def inV (x:V) (xs:List V):Bool:=xs.any fun y=>eqV y x
noncomputable def rIn (K:PySem.W.Frag) (neg:Bool):R2:=fun x y H Q=>∃ p xs,y=.ref p∧(SqL K H p xs∨SqT K H p xs)∧flatV x=true∧xs.all flatV=true∧Q (.bl (if neg then !inV x xs else inV x xs)) H
theorem op_in_seq:OpR X (compareOp .In) (rIn X.K false):=by
 intro pins s σ H x y v u Q I rx ry h
 obtain ⟨p,xs,rfl,hq,fx,fs,q⟩:=h
 cases ry
 rcases hq with hq | hq
 ·obtain ⟨its,r,pl,hz⟩:=I.list hq
  refine SeqAt.in_listAt (eqU x) pl.isList (fun w hw=>mem_eqAt rx fx r fs w (by simpa using hw)) ⟨.bl _,H,I,rfl,?_⟩
  rw [show its.toArray.any (eqU x)=its.any (eqU x) by simp,any_eqU r fs]
  exact q
 ·obtain ⟨its,r,pl,hz⟩:=I.tuple hq
  refine SeqAt.in_tupleAt (eqU x) pl (fun w hw=>mem_eqAt rx fx r fs w (by simpa using hw)) ⟨.bl _,H,I,rfl,?_⟩
  rw [show its.toArray.any (eqU x)=its.any (eqU x) by simp,any_eqU r fs]
  exact q
theorem op_notIn_seq:OpR X (compareOp .NotIn) (rIn X.K true):=by
 intro pins s σ H x y v u Q I rx ry h
 obtain ⟨p,xs,rfl,hq,fx,fs,q⟩:=h
 cases ry
 rcases hq with hq | hq
 ·obtain ⟨its,r,pl,hz⟩:=I.list hq
  refine SeqAt.notIn_listAt (eqU x) pl.isList (fun w hw=>mem_eqAt rx fx r fs w (by simpa using hw)) ⟨.bl _,H,I,rfl,?_⟩
  rw [show its.toArray.any (eqU x)=its.any (eqU x) by simp,any_eqU r fs]
  exact q
 ·obtain ⟨its,r,pl,hz⟩:=I.tuple hq
  refine SeqAt.notIn_tupleAt (eqU x) pl (fun w hw=>mem_eqAt rx fx r fs w (by simpa using hw)) ⟨.bl _,H,I,rfl,?_⟩
  rw [show its.toArray.any (eqU x)=its.any (eqU x) by simp,any_eqU r fs]
  exact q
theorem call_len_seq:CallR X (.builtin "len") (fun xs H Q=>∃ p ys,xs=[.ref p]∧(SqL X.K H p ys∨SqT X.K H p ys)∧Q (.int ys.length) H):=by
 intro pins s σ H xs us Q I r h
 obtain ⟨p,ys,rfl,hq,q⟩:=h
 obtain ⟨u,rfl,rx⟩:=vals1 r
 cases rx
 have hn:=line63
 rcases hq with hq | hq
 ·obtain ⟨its,r',pl,hz⟩:=I.list hq
  have hlen:=r'.length
  exact Calls.call_len_list pl.isList (by simp only [List.size_toArray]<;>omega) ⟨.int ys.length,H,I.tok _,⟨s.toks+1,by rw [List.size_toArray,hlen]⟩,q⟩
 ·obtain ⟨its,r',pl,hz⟩:=I.tuple hq
  have hlen:=r'.length
  exact len_tuple pl (by simp only [List.size_toArray]<;>omega) ⟨.int ys.length,H,I.tok _,⟨s.toks+1,by rw [List.size_toArray,hlen]⟩,q⟩
theorem call_len_str:CallR X (.builtin "len") (fun xs H Q=>∃ z,xs=[.str z]∧z.length≤sizeLine∧Q (.int z.length) H):=by
 intro pins s σ H xs us Q I r h
 obtain ⟨z,rfl,hz,q⟩:=h
 obtain ⟨u,rfl,t,rfl⟩:=vals1 r
 have hn:=line63
 exact len_str (by omega) ⟨.int z.length,H,I.tok _,⟨_,rfl⟩,q⟩
theorem call_list_of:CallR X (.type "list") (fun xs H Q=>∃ p ys,xs=[.ref p]∧(SqL X.K H p ys∨SqT X.K H p ys)∧∀ l,H l=none→Q (.ref l) (upd H l (.lst ys))):=by
 intro pins s σ H xs us Q I r h
 obtain ⟨p,ys,rfl,hq,q⟩:=h
 obtain ⟨u,rfl,rx⟩:=vals1 r
 cases rx
 have fin:∀ (its:List Value),Vals ys its→ys.length≤sizeLine→∀ (h':Heap) (c':Nat),(∀ b o',s.heap.get? b=some o'→h'.get? b=some o')→
   h'.get? s.heap.objs.size=some { cls:=.type "list",dict:=none,data:=.seq its.toArray c',slots:=#[] }→EP X pins σ Q (.ref s.heap.objs.size) { s with heap:=h' }:=fun its r' hz h' c' kp e=>
  ⟨.ref s.heap.objs.size,_,I.laid (t':=s.toks) kp (Nat.le_refl _) (show ObjOk X.prog X.w _ h' _ (.lst ys) from ⟨hz,its,c',r',e⟩),rfl,q _ (I.hok.fresh (Nat.le_refl _))⟩
 rcases hq with hq | hq
 ·obtain ⟨its,r',pl,hz⟩:=I.list hq
  have hlen:=r'.length
  obtain ⟨o,ho,hc,n,hd⟩:=pl.isList
  exact call_list_seq p (.inl rfl) ho hc hd (fun h' c' kp e=>fin its r' hz h' c' kp e) (by simp only [List.size_toArray]<;>omega)
 ·obtain ⟨its,r',pl,hz⟩:=I.tuple hq
  have hlen:=r'.length
  obtain ⟨o,ho,hc,n,hd⟩:=pl
  exact call_list_seq p (.inr rfl) ho hc hd (fun h' c' kp e=>fin its r' hz h' c' kp e) (by simp only [List.size_toArray]<;>omega)
theorem call_tuple_of:CallR X (.type "tuple") (fun xs H Q=>∃ p ys,xs=[.ref p]∧((SqL X.K H p ys∧∀ l,H l=none→Q (.ref l) (upd H l (.tup ys)))∨(SqT X.K H p ys∧Q (.ref p) H))):=by
 intro pins s σ H xs us Q I r h
 obtain ⟨p,ys,rfl,h⟩:=h
 obtain ⟨u,rfl,rx⟩:=vals1 r
 cases rx
 rcases h with ⟨hq,q⟩ | ⟨hq,q⟩
 ·obtain ⟨its,r',pl,hz⟩:=I.list hq
  have hlen:=r'.length
  refine call_tuple_list pl.isList (fun h' kp=>?_) (by simp only [List.size_toArray]<;>omega)
  have I1:Inv X pins σ H { s with heap:=h' }:=I.kept (t':=s.toks) kp
  have I2:Inv X pins σ (upd H h'.objs.size (.tup ys)) { s with heap:=h'.push { cls:=.type "tuple",data:=.seq its.toArray } }:=
   I1.laid (t':=s.toks) (fun b o e=>Heap.get?_push_of_some _ e) (Nat.le_refl _) (show ObjOk X.prog X.w _ _ _ (.tup ys) from ⟨hz,its,r',IsTup.new _ _⟩)
  exact ⟨.ref h'.objs.size,_,I2,rfl,q _ (I1.hok.fresh (Nat.le_refl _))⟩
 ·obtain ⟨its,r',pl,hz⟩:=I.tuple hq
  exact call_tuple_same pl ⟨.ref p,H,I,rfl,q⟩
noncomputable def tyV (K:PySem.W.Frag) (T:String) (x:V) (H:Hp):Prop:=match x with
 | .str _=>T = "str"
 | .int _=>T = "int"
 | .ref p=>(T = "list"∧∃ xs,SqL K H p xs)∨(T = "tuple"∧∃ o,K.lookup p=some o∧o.cls=.type "tuple"∧o.dict=none)∨
   (T = "dict"∧((∃ kvs,H p=some (.dK kvs))∨∃ kvs,H p=some (.dT kvs)))∨(T = "set"∧∃ S n,H p=some (.set S n))
 | _=>False
theorem tyV_is {pins:List (Addr×Obj)} {σ:St} {H:Hp} {s:Shared} {T:String} {x:V} {v:Value} (I:Inv X pins σ H s) (r:RelV x v) (ty:tyV X.K T x H) :
  s.TypeIs v T∧∀ a,v=.ref a→∃ ob,s.heap.get? a=some ob∧ob.dict=none:=by
 cases x with
 | str z=>
  obtain ⟨t,rfl⟩:=r
  cases (show T = "str" from ty)
  exact ⟨typeIs_str s z t,fun _ e=>nomatch e⟩
 | int i=>
  obtain ⟨t,rfl⟩:=r
  cases (show T = "int" from ty)
  exact ⟨typeIs_int s i t,fun _ e=>nomatch e⟩
 | ref p=>
  cases r
  rcases ty with ⟨rfl,xs,hq⟩ | ⟨rfl,o,hk,hc,hd⟩ | ⟨rfl,hk⟩ | ⟨rfl,S,n,hk⟩
  ·obtain ⟨its,_,pl,_⟩:=I.list hq
   refine ⟨pl.isList.typeIs,fun a e=>?_⟩
   cases e
   obtain ⟨o,n,e,c,hd,_⟩:=pl
   exact ⟨o,e,hd⟩
  ·refine ⟨⟨o,I.kIn p o hk,hc⟩,fun a e=>?_⟩
   cases e
   exact ⟨o,I.kIn _ o hk,hd⟩
  ·have z:∃ o,s.heap.get? p=some o∧o.ExactDict:=by
    rcases hk with ⟨kvs,hk⟩ | ⟨kvs,hk⟩
    ·obtain ⟨_,_,_,_,o,_,_,e,ex,_⟩:=I.hok p _ hk
     exact ⟨o,e,ex⟩
    ·obtain ⟨_,_,_,_,o,_,_,e,ex,_⟩:=I.hok p _ hk
     exact ⟨o,e,ex⟩
   obtain ⟨o,e,ex⟩:=z
   refine ⟨⟨o,e,ex.1⟩,fun a e2=>?_⟩
   cases e2
   exact ⟨o,e,ex.2.1⟩
  ·obtain ⟨o,_,_,_,e,ex,_⟩:=I.hok p _ hk
   refine ⟨⟨o,e,ex.1⟩,fun a e2=>?_⟩
   cases e2
   exact ⟨o,e,ex.2.1⟩
 | _=>exact False.elim ty
noncomputable def tBM0 (K:PySem.W.Frag) (T:String) (r:V→List V→Hp→VK→Prop) (to:TE):TE:=fun σ H Q=>to σ H fun x H1=>tyV K T x H1∧r x [] H1 Q
noncomputable def tBM (K:PySem.W.Frag) (T:String) (r:V→List V→Hp→VK→Prop) (to:TE) (t:TA):TE:=fun σ H Q=>to σ H fun x H1=>tyV K T x H1∧t σ H1 fun xs H2=>r x xs H2 Q
variable {o e:Expr} {es:List Expr} {to:TE} {t:TA} {name:Str} {apos cpos:Pos} {T id:String} {r:V→List V→Hp→VK→Prop}
theorem pe_bm0 (pa:PlainAttrs T) (slot:Slot T name id) (hty:typeOf (.builtin id)=pure (.type "method_descriptor")) (hm:MtR X id r) (ho:PE X o to)
  (hbase:attributeBase o name X.env (eval o X.env)=eval o X.env:=by rfl) (hline:(apos.endLine == cpos.line)=true:=by rfl):PE X (.Call (.Attribute o name apos) [] [] cpos) (tBM0 X.K T r to):=by
 intro pins s σ H Q I h
 refine wpAny_Call_method0_late hbase hline (thn (ho pins s σ H _ I h) fun v s1 ⟨x,H1,I1,r1,ty,q1⟩=>?_)
 obtain ⟨h1,h2⟩:=tyV_is I1 r1 ty
 exact ⟨T,id,pa,slot,hty,h1,h2,Calls.callWith_builtin rfl (PySem.evalArgs_none (hm pins s1 σ H1 x [] v [] Q I1 r1 .nil q1))⟩
theorem pe_bm (pa:PlainAttrs T) (slot:Slot T name id) (hty:typeOf (.builtin id)=pure (.type "method_descriptor")) (hm:MtR X id r) (ho:PE X o to) (ha:PA X (e::es) t)
  (hbase:attributeBase o name X.env (eval o X.env)=eval o X.env:=by rfl)
  (hfew:((backTo cpos (starEach (e::es) X.env)).all (fun x=>!x.1)&&(backToKw cpos (keywordEach [] X.env)).all (fun x=>x.1.isSome)
   && decide ((e::es).length+([]:List Keyword).length+(if ([]:List Keyword).isEmpty then 0 else 1) < 30))=true:=by rfl)
  (hline:(apos.endLine == cpos.line)=true:=by rfl) (hs:starEach (e::es) X.env=(false,eval e X.env)::starEach es X.env:=by rfl) (hplain:(backTo cpos (starEach es X.env)).any (·.1)=false:=by rfl) :
  PE X (.Call (.Attribute o name apos) (e::es) [] cpos) (tBM X.K T r to t):=by
 intro pins s σ H Q I h
 refine wpAny_Call_method_late hbase hfew hline rfl (thn (ho pins s σ H _ I h) fun v s1 ⟨x,H1,I1,r1,ty,q1⟩=>?_)
 obtain ⟨h1,h2⟩:=tyV_is I1 r1 ty
 refine ⟨T,id,pa,slot,hty,h1,h2,?_⟩
 have hA:=ha cpos pins s1 σ H1 _ I1 q1
 rw [hs] at hA ⊢
 refine Calls.callWith_builtin (by show (false||(backTo cpos (starEach es X.env)).any (·.1))=false;rw [hplain]<;>rfl) (Calls.evalArgs_plain ?_)
 exact thn hA fun us s2 ⟨vs,H2,I2,r2,q2⟩=>hm pins s2 σ H2 x vs v us Q I2 r1 r2 q2
end
end L2
namespace L2
open PySem PySem.Spec PyProof.Rows
noncomputable def MtM (X:Cx) (id:String) (r:V→List V→Hp→VK→Prop):Prop:=
 ∀ (pins:List (Addr×Obj)) (s:Shared) (σ:St) (H:Hp) (x:V) (xs:List V) (v:Value) (us:List Value) (Q:VK),Inv X pins σ H s→RelV x v→Vals xs us→r x xs H Q→
  wpAny (model X.prog X.w) X.A (call (.builtin id) (v::us)) (EP X pins σ Q) X.xe s
theorem Vals.one:∀ {x:V} {us:List Value},Vals [x] us→∃ u,us=[u]∧RelV x u
 | _,_,.cons r .nil=>⟨_,rfl,r⟩
theorem Vals.zero:∀ {us:List Value},Vals [] us→us=[]
 | _,.nil=>rfl
section
variable {X:Cx} {pins:List (Addr×Obj)} {σ:St} {H:Hp} {s:Shared} {l b:Addr} {xs ys zs:List V}
theorem Inv.lset {its its':List Value} {n:Nat} {f:Array Value→Array Value} {t':Nat} (I:Inv X pins σ H s) (hH:H l=some (.lst xs))
  (e:s.heap.get? l=some { cls:=.type "list",data:=.seq its.toArray n }) (hf:f its.toArray=its'.toArray) (hv:Vals ys its') (hz:ys.length≤sizeLine) :
  Inv X pins σ (upd H l (.lst ys)) { s with heap:=s.heap.update l (Obj.mapSeq f),toks:=t' }:=by
 have q:=PySem.IsL.update e f
 rw [hf] at q
 refine I.write (x:=l) (e:=l) (by rw [hH];exact trivial) (.inl rfl) (fun b' u hb hu=>(Heap.get?_update_other s.heap (Obj.mapSeq f) (Ne.symm hb)).trans hu) ⟨_,q⟩ ?_
 exact ⟨hz,its',_,hv,q⟩
theorem Inv.lnew {its:List Value} {t':Nat} (I:Inv X pins σ H s) (hv:Vals ys its) (hz:ys.length≤sizeLine) :
  Inv X pins σ (upd H s.heap.objs.size (.lst ys)) { s with heap:=s.heap.push { cls:=.type "list",data:=.seq its.toArray },toks:=t' }:=
 I.laid (fun _ _ q=>Heap.get?_push_of_some _ q) (Nat.le_refl _) ⟨hz,its,0,hv,Heap.get?_push_size _ rfl⟩
theorem Inv.fresh (I:Inv X pins σ H s):H s.heap.objs.size=none:=I.hok.fresh (Nat.le_refl _)
theorem Inv.lstM (I:Inv X pins σ H s) (hH:H l=some (.lst xs)):xs.length≤sizeLine∧∃ (its:List Value) (n:Nat),Vals xs its∧xs.length=its.length∧s.heap.get? l=some { cls:=.type "list",data:=.seq its.toArray n }:=by
 obtain ⟨z,its,n,r,e⟩:=I.hok l _ hH
 exact ⟨z,its,n,r,r.length,e⟩
theorem notLongL {n:Nat} (h:n≤sizeLine):Builtin.List.listTooLong n=false:=by
 unfold Builtin.List.listTooLong
 exact decide_eq_false (by omega)
end
section
variable {X:Cx}
noncomputable def rAppend:V→List V→Hp→VK→Prop:=fun x vs H Q=>∃ l xs y,x=.ref l∧vs=[y]∧H l=some (.lst xs)∧xs.length < sizeLine∧Q .non (upd H l (.lst (xs++[y])))
theorem mt_append:MtM X "list.append" rAppend:=by
 intro pins s σ H x vs v us Q I rx rv h
 obtain ⟨l,xs,y,rfl,rfl,hH,hz,q⟩:=h
 cases rx
 obtain ⟨u,rfl,ru⟩:=rv.one
 obtain ⟨z,its,n,r,hl,e⟩:=I.lstM hH
 refine call_meets F.slot_list_append ⟨_,e,rfl⟩ F.entry_list_append (F.args_list_append_2 _ _) (PySem.list_append l its.toArray n u (by rw [List.size_toArray];omega)) ⟨e,?_⟩
 refine ⟨.non,_,I.lset (its':=its++[u]) hH e (by simp) (r.append (.cons ru .nil)) ?_,rfl,q⟩
 rw [List.length_append,List.length_singleton]
 omega
noncomputable def rExtend:V→List V→Hp→VK→Prop:=fun x vs H Q=>∃ l b xs zs,x=.ref l∧vs=[.ref b]∧H l=some (.lst xs)∧H b=some (.lst zs)∧xs.length+zs.length≤sizeLine∧Q .non (upd H l (.lst (xs++zs)))
theorem mt_extend:MtM X "list.extend" rExtend:=by
 intro pins s σ H x vs v us Q I rx rv h
 obtain ⟨l,b,xs,zs,rfl,rfl,hH,hB,hz,q⟩:=h
 cases rx
 obtain ⟨u,rfl,ru⟩:=rv.one
 cases ru
 obtain ⟨z,its,n,r,hl,e⟩:=I.lstM hH
 obtain ⟨z2,its2,n2,r2,hl2,e2⟩:=I.lstM hB
 have hsz:its.toArray.size+its2.toArray.size≤sizeLine:=by rw [List.size_toArray,List.size_toArray];omega
 have hlong:¬ (!its.toArray.isEmpty&&Builtin.List.listTooLong (its.toArray.size+its2.toArray.size))=true:=by
  rw [notLongL hsz,Bool.and_false]
  exact Bool.false_ne_true
 refine call_meets F.slot_list_extend ⟨_,e,rfl⟩ F.entry_list_extend (F.args_list_extend_2 _ _)
  (AutoSeq1.list_extend_list_list_0 l its.toArray n b its2.toArray n2 hlong (by rw [List.size_toArray];omega) (by omega)) ⟨e,e2,?_⟩
 refine ⟨.non,_,I.lset (its':=its++its2) hH e (by simp) (r.append r2) ?_,rfl,q⟩
 rw [List.length_append]
 omega
noncomputable def rClear:V→List V→Hp→VK→Prop:=fun x vs H Q=>∃ l xs,x=.ref l∧vs=[]∧H l=some (.lst xs)∧Q .non (upd H l (.lst []))
theorem mt_clear:MtM X "list.clear" rClear:=by
 intro pins s σ H x vs v us Q I rx rv h
 obtain ⟨l,xs,rfl,rfl,hH,q⟩:=h
 cases rx
 have hus:=rv.zero
 subst hus
 obtain ⟨z,its,n,r,hl,e⟩:=I.lstM hH
 refine call_meets F.slot_list_clear ⟨_,e,rfl⟩ F.entry_list_clear (F.args_list_clear_1 _) (AutoSeq1.list_clear_list_0 l its.toArray n (by rw [List.size_toArray];omega)) ⟨e,?_⟩
 exact ⟨.non,_,I.lset (its':=[]) (ys:=[]) hH e rfl .nil (Nat.zero_le _),rfl,q⟩
noncomputable def rCat:R2:=fun x y H Q=>∃ l b xs zs,x=.ref l∧y=.ref b∧H l=some (.lst xs)∧H b=some (.lst zs)∧xs.length+zs.length≤sizeLine∧∀ p,H p=none→Q (.ref p) (upd H p (.lst (xs++zs)))
theorem op_cat:OpR X (binaryOp .Add) rCat:=by
 intro pins s σ H x y v u Q I rx ry h
 obtain ⟨l,b,xs,zs,rfl,rfl,hH,hB,hz,q⟩:=h
 cases rx
 cases ry
 obtain ⟨z,its,n,r,hl,e⟩:=I.lstM hH
 obtain ⟨z2,its2,n2,r2,hl2,e2⟩:=I.lstM hB
 refine PySem.P.add_list e e2 ?_ (by rw [List.size_toArray,List.size_toArray];omega)
 have ea:its.toArray++its2.toArray=(its++its2).toArray:=by simp
 rw [ea]
 exact ⟨.ref _,_,I.lnew (t':=s.toks) (r.append r2) (by rw [List.length_append];omega),rfl,q _ I.fresh⟩
end
section
variable {prog:Program} {w:World} {A:Around} {E:Value→Shared→Prop} {s:Shared}
end
section
variable {X:Cx}
end
end L2
namespace Att
open PySem PySem.W PySem.Calls PyProof.Rows
theorem ints_of_wellAll {P:Params} {h:Heap}:∀ (ns:List Int) (vs:List Value),WellAll P h vs (ns.map WData.int)→IntsAre vs ns:=by
 intro ns
 induction ns with
 | nil=>
  intro vs w
  rw [List.map_nil] at w
  cases w
  exact .nil
 | cons n ns ih=>
  intro vs w
  rw [List.map_cons] at w
  cases w with
  | cons a b=>
   cases a
   exact .cons _ _ (ih _ b)
theorem script_of {l:OpenLaw} {n:Nat} (hn:l.most=some n) {P:Params} {h:Heap} {args:List WData} {vals:List Value}
  (hpre:l.row.toRowW.claim.pre args=true) (hwl:WellAll P h vals args) :
  ∃ a vs ns,vals=[Value.ref a]∧args=[WData.list (ns.map WData.int)]∧h.get? a=some { cls:=.type "list",data:=.seq vs.toArray }∧IntsAre vs ns∧ns.length≤n:=by
 have hsh:WShape.hasAll [] args [.list .int]=true:=(pre_splitW hpre).1
 have hc:l.pre.holds [] { args:=args }=true:=(pre_splitW hpre).2
 obtain ⟨d,r,rfl,h1,h2⟩:=hasAllW_cons hsh
 obtain rfl:=hasAllW_nil h2
 obtain ⟨xs,rfl,h3⟩:=hasW_list h1
 obtain ⟨ns,rfl⟩:=items_int h3
 have hlen:ns.length≤n:=by
  unfold OpenLaw.pre at hc
  have h4:(WTm.not (.lt (.lit (.int (n:Int))) (.len (.arg 0)))).holds [] { args:=[.list (ns.map .int)] }=true:=by
   have h4:=(holds_andW hc).1
   rw [hn] at h4
   exact h4
  have h5:=condW_of h4 (w_not (w_lt w_lit (w_len_list (w_arg rfl))))
  rw [List.length_map] at h5
  refine Nat.le_of_not_lt fun q=>?_
  have q':(n:Int) < ((ns.length:Nat):Int):=by omega
  first
   | (rw [decide_eq_true q'] at h5;exact absurd h5 (by decide))
   | (simp at h5;omega)
 cases hwl with
 | cons w1 w2=>
  cases w2
  cases w1 with
  | list ho hall=>exact ⟨_,_,ns,rfl,rfl,ho,ints_of_wellAll ns _ hall,hlen⟩
theorem post_true (l:OpenLaw) (args:List WData):l.row.toRowW.claim.post args (.bool true) args=true:=
 postW_of (r:=l.row.toRowW) (X:=(true == true))
  (show WShape.has [] (.bool true) .bool=true by first | rfl | decide | simp [WShape.has,WShape.arms,WShape.armsAll])
  (show (WTm.eq .res (.lit (.bool true))).value [] { args:=args,res:=some (.bool true),after:=args }=some (.bool (true == true)) from w_eq_bool (w_res rfl) w_lit) rfl
theorem attach_call {l:OpenLaw} {n:Nat} {q:Program} {loose:List Str} {XP:(Str→Option Value)→Heap→Prop} {YP:World→Heap→Prop} {d:DefRec}
  (hn:l.most=some n) (hdf:d.params.defaults=[])
  (call:∀ (w:World) (s₀ s₁:Shared) (mg mb:Str→Option Value) (fa:Addr) (o:Obj) (pm cd doc:Value) (a:Addr) (vs:List Value) (ns:List Int),
   Ground q loose [] XP w s₀ mg mb s₁.heap→YP w s₁.heap→
   s₁.heap.get? fa=some o→o.data=.func (docDef d.name d.params d.body d.scope pm cd doc)→s₁.heap.CodeRec cd d.name→mg d.name=some (.ref fa)→
   s₁.heap.get? a=some { cls:=.type "list",data:=.seq vs.toArray }→IntsAre vs ns→ns.length≤n→s₁.gens=#[]→
   codeAny (model l.prog w) callerA (.call (.ref fa) ⟨[.ref a],[]⟩) (fun r s'=>r=.ok (.ret (.bool true))∧OldK s₁.heap s'.heap∧s'.os=s₁.os∧AllBare s'.gens) s₁) :
  WalkO q loose XP YP l.row.toRowW d [] (fun f vs=>PySem.call f vs):=by
 intro w s₀ s₁ mg mb G Y fa o pm cd doc dV kV ho hd hcd hD hmg hg args vals as hpre hlay hrd hwl hlo
 obtain rfl:dV=.none:=Dflts.none hD hdf
 obtain rfl:kV=.none:=Dflts.noKw hD
 obtain ⟨a,vs,ns,rfl,rfl,hobj,hints,hlen⟩:=script_of hn hpre hwl
 refine enter_call (codeAny_mono (call w s₀ s₁ mg mb fa o pm cd doc a vs ns G Y ho (fd_plain hd) hcd hmg hobj hints hlen hg) fun r s' hq=>?_)
 obtain ⟨rfl,h2,h3,h4⟩:=hq
 exact ⟨.inl ⟨.bool true,.bool true,[],rfl,fun _=>rfl,.bool true,post_true l _,fun _=>⟨List.Pairwise.nil,fun _ hm=>(nomatch hm)⟩⟩,h2,h3,h4⟩
section
variable {prog:Program} {w:World} {A:Around} {E:Value→Shared→Prop} {s:Shared} {K:Frag}
end
end Att
namespace L2
open PySem PySem.Spec PyProof.Rows
theorem vals_ints:∀ {vs:List Value} {ns:List Int},IntsAre vs ns→Vals (ns.map V.int) vs
 | _,_,.nil=>.nil
 | _,_,.cons n t h=>.cons ⟨t,rfl⟩ (vals_ints h)
noncomputable def Only (H:Hp):Prop:=∀ b,H b=none∨∃ o xs,H b=some (.frz o (.lst xs))
theorem law_call {P:Program} {w:World} {K:PySem.W.Frag} {mg mb:Str→Option Value} {CX:CXT} {k:Nat} {fa a:Addr} {fd:FuncData} {x:Str} {sp:Sp} {s₁:Shared} {vs:List Value} {ns:List Int}
  (KX:K.In s₁.heap) (hns:s₁.heap.Ns mainGlobals mg) (hb:s₁.heap.Ns builtinsNs mb) (hbb:∀ x:Str,x≠"__name__"→mb x=bootBuiltins x) (hlim:s₁.heap.NoLimit) (hg:s₁.gens=#[])
  (ha:s₁.heap.get? a=some { cls:=.type "list",data:=.seq vs.toArray }) (hi:IntsAre vs ns) (hl:ns.length≤sizeLine) (hr:Room k callerA)
  (F:∀ base:Heap,K.In base→base.Ns mainGlobals mg→FnOk P w K mg base CX k fa fd [x] sp) (hbind:∀ (s:Shared) (u:Value),BindsTo s fd ⟨[u],[]⟩ [(x,u)])
  (hsp:∀ H:Hp,Only H→SqL K H a (ns.map V.int)→sp [.ref a] H (fun v _=>v=.bl true) fun _ _ _=>False)
  (hCX:∀ H e s',CX [] H s₁ (fun _ _ _=>False) e s'→False) :
  codeAny (model P w) callerA (.call (.ref fa) ⟨[.ref a],[]⟩) (fun r s'=>r=.ok (.ret (.bool true))∧OldK s₁.heap s'.heap∧s'.os=s₁.os∧AllBare s'.gens) s₁:=by
 have rv:=vals_ints hi
 have lenV:=hi.length
 -- from an abstract heap in which nothing but the script may be tracked
 have core:∀ H:Hp,Only H→SqL K H a (ns.map V.int)→HOk P w H s₁.heap→(∀ b,H b≠none→b=a)→(H a≠none→K.lookup a=none)→
   codeAny (model P w) callerA (.call (.ref fa) ⟨[.ref a],[]⟩) (fun r s'=>r=.ok (.ret (.bool true))∧OldK s₁.heap s'.heap∧s'.os=s₁.os∧AllBare s'.gens) s₁:=by
  intro H hO hS hok hA hK
  have base_of:∀ {b:Addr} {o:Obj},s₁.heap.get? b=some o→H b=none→(hidT s₁.heap H).get? b=some o:=fun e n=>hidT_get e n
  have noA:∀ {b:Addr} {o:Obj} {es:Array DictEntry} {ep:Nat},s₁.heap.get? b=some o→o.data=.dict es ep→H b=none:=fun {b o es ep} e d=>by
   cases q:H b with
   | none=>rfl
   | some u=>
    have e':b=a:=hA b (by rw [q];simp)
    subst e'
    rw [ha] at e;cases e
    have d':Data.seq vs.toArray _=Data.dict es ep:=d
    cases d'
  have nsK:∀ {b:Addr} {m:Str→Option Value},s₁.heap.Ns b m→(hidT s₁.heap H).Ns b m:=fun {b m} ⟨o,es,ep,e,d,r⟩=>⟨o,es,ep,base_of e (noA e d),d,r⟩
  have hKb:K.In (hidT s₁.heap H):=fun b o e=>base_of (KX b o e) (by
   cases q:H b with
   | none=>rfl
   | some u=>
    have e':b=a:=hA b (by rw [q];simp)
    subst e'
    rw [hK (by rw [q];simp)] at e;cases e)
  have hM:Mod K mg (hidT s₁.heap H):=⟨hKb,nsK hns,⟨mb,nsK hb,hbb⟩,let ⟨mc,h1,h2⟩:=hlim;⟨mc,nsK h1,h2⟩⟩
  have e0:Env0 P w K mg (hidT s₁.heap H) callerA [] s₁ H:=⟨rfl,hM,fun b o e=>of_hidT e,Nat.le_of_eq (hidT_size _ _),trivial,fun b hb=>absurd (show b∈([]:List Addr) from hb) (by simp),hok,.of_eq hg⟩
  refine codeAny_mono ((F _ hKb (nsK hns)).run callerA [] s₁ H ⟨[.ref a],[]⟩ [.ref a] [.ref a] _ _ hr e0 (hbind s₁ (.ref a)) (.cons rfl .nil) (hsp H hO hS)) fun r s' h=>?_
  cases r with
  | error e=>exact (hCX H e s' h).elim
  | ok fl=>
   cases fl with
   | next=>exact False.elim h
   | brk=>exact False.elim h
   | cont=>exact False.elim h
   | ret u=>
    obtain ⟨v,H',os,bare,un,hok',r',q⟩:=h
    have q':v=.bl true:=q
    subst q'
    obtain rfl:u=Value.bool true:=r'
    refine ⟨rfl,OldK.of_keep fun b o e=>?_,os,bare⟩
    cases q:H b with
    | none=>exact un.keep b o e q (by intro z;exact absurd (show b∈([]:List Addr) from z) (by simp)) (by simp)
    | some u=>
     rcases hO b with z | ⟨ob,xs,z⟩
     ·rw [q] at z;cases z
     ·have z2:=un.frzs b ob _ z
      obtain ⟨e1,_⟩:=hok b _ z
      obtain ⟨e2,_⟩:=hok' b _ z2
      rw [e] at e1;cases e1
      exact e2
 cases hk:K.lookup a with
 | some o=>
  -- the script is one of the module's own objects
  have e:=KX a o hk
  rw [ha] at e
  cases e
  refine core (fun _=>none) (fun _=>.inl rfl) (.inr ⟨_,vs.toArray,_,hk,rfl,rfl,rfl,by rw [List.size_toArray,lenV];exact hl,by simpa using rv⟩) (fun b u z=>by have z':(none:Option HO)=some u:=z;cases z') (fun b z=>absurd rfl z) fun z=>absurd rfl z
 | none=>
  refine core (fun b=>if b=a then some (.frz { cls:=.type "list",data:=.seq vs.toArray } (.lst (ns.map V.int))) else none) (fun b=>?_) (.inl (.inr ⟨{ cls:=.type "list",data:=.seq vs.toArray },if_pos rfl⟩)) (fun b u z=>?_) (fun b z=>?_) fun _=>hk
  ·by_cases hb:b=a
   ·exact .inr ⟨_,_,if_pos hb⟩
   ·exact .inl (if_neg hb)
  ·by_cases hb:b=a
   ·have z':=(if_pos hb).symm.trans z
    cases z'
    subst hb
    exact ⟨ha,by rw [List.length_map];exact hl,vs,_,rv,ha⟩
   ·have z':=(if_neg hb).symm.trans z
    cases z'
  ·by_cases hb:b=a
   ·exact hb
   ·exact absurd (if_neg hb) z
end L2
namespace L2
open PySem PySem.Spec PyProof.Rows
theorem walk_of {l:PySem.W.OpenLaw} {n k:Nat} {q:Program} {loose:List Str} {XP:(Str→Option Value)→Heap→Prop} {YP:World→Heap→Prop} {d:DefRec} {K:Params→PySem.W.Frag} {CX:World→CXT} {sp:World→Sp} {x:Str}
  (hn:l.most=some n) (hn2:n≤sizeLine) (hdf:d.params.defaults=[]) (hr:Room k callerA)
  (hY:∀ (w:World) (h:Heap),YP w h→(K w.params).In h)
  (F:∀ (w:World) (mg:Str→Option Value) (fa:Addr) (h:Heap),(K w.params).In h→h.Ns mainGlobals mg→mg d.name=some (.ref fa)→
   ∃ fd:FuncData,(∀ (s:Shared) (u:Value),BindsTo s fd ⟨[u],[]⟩ [(x,u)])∧
    ∀ base:Heap,(K w.params).In base→base.Ns mainGlobals mg→FnOk l.prog w (K w.params) mg base (CX w) k fa fd [x] (sp w))
  (hsp:∀ (w:World) (H:Hp) (a:Addr) (ns:List Int),ns.length≤n→Only H→SqL (K w.params) H a (ns.map V.int)→sp w [.ref a] H (fun v _=>v=.bl true) fun _ _ _=>False)
  (hCX:∀ (w:World) (H:Hp) (s:Shared) (e:Value) (s':Shared),CX w [] H s (fun _ _ _=>False) e s'→False) :
  PySem.W.WalkO q loose XP YP l.row.toRowW d [] (fun f vs=>PySem.call f vs):=by
 refine Att.attach_call hn hdf fun w s₀ s₁ mg mb fa o pm cd doc a vs ns G Y ho hd hcd hmg hobj hints hlen hg=>?_
 have KX:=hY w _ Y
 obtain ⟨fd,hb,hF⟩:=F w mg fa _ KX G.T.g hmg
 exact law_call KX G.T.g G.T.b G.T.builtins G.T.nolimit hg hobj hints (Nat.le_trans hlen hn2) hr hF hb (fun H hO hS=>hsp w H a ns hlen hO hS) fun H e s'=>hCX w H s₁ e s'
end L2
namespace L2
open PySem PySem.Spec PyProof.Rows
noncomputable def defArgs (s:Stmt):Arguments:=match s with
 | .FunctionDef _ a _ _ _ _ _ _ _ _=>a
 | _=>{ posonlyargs:=[],args:=[],vararg:=none,kwonlyargs:=[],kw_defaults:=[],kwarg:=none,defaults:=[] }
noncomputable def defBody (s:Stmt):List Stmt:=match s with
 | .FunctionDef _ _ b _ _ _ _ _ _ _=>b
 | _=>[]
noncomputable def defScope (s:Stmt):Scope:=match s with
 | .FunctionDef _ _ _ _ _ _ sc _ _ _=>sc
 | _=>{ kind:=.function,names:=[],isGenerator:=false,isCoroutine:=false }
noncomputable abbrev CX0:CXT:=fun _ _ _ _ _ _=>False
noncomputable abbrev E0:XK:=fun _ _ _=>False
theorem pass0 {X:Cx}:Passes CX0 X E0:=fun _ _ _ _ _ _ _ h=>h.elim
structure Fun (K:PySem.W.Frag) (x qual:Str) (st:Stmt) (f:Addr) (fd:FuncData):Prop where
 ex:∃ (oc:Value) (od:Option Addr) (kV doc pm:Value) (an:Option Addr) (cdv ct:Value) (osl:Array (Option Value)),
  fd=PySem.W.fnOf x qual (defArgs st) (defBody st) (defScope st) .none kV doc pm an cdv ct∧K.lookup f=some ⟨oc,od,.func fd,osl⟩∧PySem.W.codeIn K cdv qual=true
 kp:PySem.W.keepIn K (.ref f)=true
section
variable {P:Program} {w:World} {K:PySem.W.Frag} {mg:Str→Option Value} {base:Heap}
theorem Fun.ok {x qual:Str} {st:Stmt} {f:Addr} {fd:FuncData} {N ps:List Str} {k:Nat} {sp:Sp} (F:Fun K x qual st f fd) (S:FnScope N ps (defScope st)) (len:∀ vs H Q E,sp vs H Q E→vs.length=ps.length)
  (hbody:∀ (cdv:Value) (A:Around) (outer:List Env) (s:Shared) (H:Hp) (vs:List V) (Q:VK) (E:XK),Room k (A.deeper (envOfC qual (defScope st) s.heap.objs.size f cdv))→sp vs H Q E→
   ∃ t,PSs (cxOf CX0 P w K mg base N qual (defScope st) f cdv A outer s H E).nox (defBody st) t∧t { nx:=fun _ H'=>Q .non H',rt:=Q } (start N vs) H):FnOk P w K mg base CX0 (k+1) f fd ps sp:=by
 obtain ⟨oc,od,kV,doc,pm,an,cdv,ct,osl,rfl,lk,hcd⟩:=F.ex
 refine fn_of lk hcd S len fun A outer s H vs Q E hr hsp=>?_
 obtain ⟨t,h,q⟩:=hbody cdv A outer s H vs Q E hr hsp
 exact ⟨t,h.nox,q⟩
theorem Fun.binds {x qual:Str} {st:Stmt} {f:Addr} {fd:FuncData} {ps:List Str} (F:Fun K x qual st f fd)
  (h:∀ (kV doc pm:Value) (an:Option Addr) (cdv ct:Value) (us:List Value),us.length=ps.length→bindArgs (PySem.W.fnOf x qual (defArgs st) (defBody st) (defScope st) .none kV doc pm an cdv ct) ⟨us,[]⟩=pure (ps.zip us)):Binds K fd ps []:=by
 obtain ⟨oc,od,kV,doc,pm,an,cdv,ct,osl,rfl,lk,hcd⟩:=F.ex
 exact .all (h kV doc pm an cdv ct)
theorem fun_mk {x qual:Str} {st:Stmt} {f:Addr} {oc:Value} {od an:Option Addr} {osl:Array (Option Value)} {kV doc pm cdv ct:Value} (l:K.lookup f=some ⟨oc,od,.func (PySem.W.fnOf x qual (defArgs st) (defBody st) (defScope st) .none kV doc pm an cdv ct),osl⟩)
  (c:PySem.W.codeIn K cdv qual=true) (k:PySem.W.keepIn K (.ref f)=true):Fun K x qual st f (PySem.W.fnOf x qual (defArgs st) (defBody st) (defScope st) .none kV doc pm an cdv ct):=⟨⟨oc,od,kV,doc,pm,an,cdv,ct,osl,rfl,l,c⟩,k⟩
end
theorem small1000 {n:Nat} (h:n≤1000):n < sizeLine:=Nat.lt_of_le_of_lt h (by decide)
section
variable {X:Cx}
theorem pv (i:Nat) {x:Str} {pos:Pos} (hN:X.N[i]?=some x:=by rfl) (hv:Vis X.env.scope x:=by first | exact Or.inl rfl | exact Or.inr (Or.inl rfl) | exact Or.inr (Or.inr rfl)) (hd:(x == ("__debug__" : Str))=false:=by decide)
  (hcd:(x == ("__classdict__" : Str))=false:=by decide):PE X (.Name x pos) (tVar i):=pe_var hN hv hd hcd
end
noncomputable def Same (H H':Hp):Prop:=∀ b o,H b=some o→H' b=some o
theorem Same.seq {K:PySem.W.Frag} {H H':Hp} {a:Addr} {xs:List V} (e:Same H H') (h:SqL K H a xs):SqL K H' a xs:=by
 rcases h with (h | ⟨o,h⟩) | h
 ·exact .inl (.inl (e _ _ h))
 ·exact .inl (.inr ⟨o,e _ _ h⟩)
 ·exact .inr h
end L2
namespace TS
open PySem PyProof.Rows
section
variable {M:Model} {A:Around} {E:Value→Shared→Prop} {s:Shared} {O:KeyOrd} {kf:Keyed→O.α} {κ:SortKind} {G:Keyed→Prop}
noncomputable def LtOk (M:Model) (A:Around) (E:Value→Shared→Prop) (s:Shared) (O:KeyOrd) (kf:Keyed→O.α) (κ:SortKind) (G:Keyed→Prop):Prop:=
 ∀ x y,G x→G y→∀ (st:SortSt) (Q:Option Bool→SortSt→Prop),kindOf st=κ→Q (some (O.blt (kf x) (kf y))) st→wpS M A E s (lt' x y) Q st
theorem wp_elem {arr:Array Keyed} {p:Nat} {x:Keyed} {st:SortSt} {Q:Keyed→SortSt→Prop} (e:arr[p]?=some x) (h:Q x st):wpS M A E s (elem' arr p) Q st:=by
 rw [elem'_eq,e]
 exact wpS_pure h
variable {left:Bool} {key:Keyed} {arr:Array Keyed} {base n hint:Nat} {st:SortSt} {P:Nat→Bool}
end
end TS
namespace TS
open PySem PyProof.Rows
section
variable {O:KeyOrd} {kf:Keyed→O.α}
noncomputable def le (O:KeyOrd) (kf:Keyed→O.α) (x y:Keyed):Prop:=O.kle (kf x) (kf y)
noncomputable def Srt (O:KeyOrd) (kf:Keyed→O.α) (a:Array Keyed) (lo hi:Nat):Prop:=∀ (i j:Nat) (x y:Keyed),lo≤i→i≤j→j < hi→a[i]?=some x→a[j]?=some y→le O kf x y
theorem Srt.pw {a:Array Keyed} (h:Srt O kf a 0 a.size):a.toList.Pairwise (le O kf):=by
 rw [List.pairwise_iff_getElem]
 intro i j hi hj hij
 have hj':j < a.size:=by simpa using hj
 have hi':i < a.size:=by simpa using hi
 exact h i j _ _ (by omega) (by omega) hj' (by simp [hi']) (by simp [hj'])
variable {a b o:Array Keyed} {i j:Nat}
end
section
variable {M:Model} {A:Around} {E:Value→Shared→Prop} {s:Shared} {O:KeyOrd} {kf:Keyed→O.α} {κ:SortKind} {G:Keyed→Prop}
end
end TS
namespace TS
open PySem PyProof.Rows
section
variable {M:Model} {A:Around} {E:Value→Shared→Prop} {s:Shared} {O:KeyOrd} {kf:Keyed→O.α} {κ:SortKind} {G:Keyed→Prop} {a b:Array Keyed}
theorem at_some {a:Array Keyed} {i:Nat} (h:i < a.size):∃ x,a[i]?=some x∧x∈a.toList:=⟨a[i],Array.getElem?_eq_getElem h,by simp⟩
end
end TS
namespace TS
open PySem PyProof.Rows
section
variable {O:KeyOrd} {kf:Keyed→O.α} {G:Keyed→Prop} {a b o:Array Keyed} {p q:Nat}
end
section
variable {M:Model} {A:Around} {E:Value→Shared→Prop} {s:Shared} {O:KeyOrd} {kf:Keyed→O.α} {κ:SortKind} {G:Keyed→Prop} {a b:Array Keyed}
end
end TS
namespace TS
open PySem PyProof.Rows
section
variable {O:KeyOrd} {kf:Keyed→O.α}
noncomputable def KA (O:KeyOrd) (kf:Keyed→O.α) (xs:Array Keyed) (i:Nat):O.α:=kf (xs[i]?.getD (Value.none,Value.none))
noncomputable def Inc (O:KeyOrd) (kf:Keyed→O.α) (xs:Array Keyed) (lo hi:Nat):Prop:=∀ i j,lo≤i→i≤j→j < hi→O.kle (KA O kf xs i) (KA O kf xs j)
noncomputable def Dec (O:KeyOrd) (kf:Keyed→O.α) (xs:Array Keyed) (lo hi:Nat):Prop:=∀ i j,lo≤i→i≤j→j < hi→O.kle (KA O kf xs j) (KA O kf xs i)
theorem KA_congr {xs ys:Array Keyed} {i j:Nat} (h:xs[i]?=ys[j]?):KA O kf xs i=KA O kf ys j:=by unfold KA;rw [h]
theorem KA_at {xs:Array Keyed} {i:Nat} {x:Keyed} (h:xs[i]?=some x):KA O kf xs i=kf x:=by unfold KA;rw [h];rfl
theorem Inc.srt {xs:Array Keyed} {lo hi:Nat} (h:Inc O kf xs lo hi):Srt O kf xs lo hi:=fun i j x y h1 h2 h3 e1 e2=>by
 have:=h i j h1 h2 h3
 rw [KA_at e1,KA_at e2] at this
 exact this
theorem KA_mirror {xs:Array Keyed} {i j:Nat} (hj:j≤xs.size) (k:Nat):KA O kf (mirror xs i j ((j - i) / 2)) k=if i≤k∧k < j then KA O kf xs (i+j - 1 - k) else KA O kf xs k:=by
 have e:=getElem?_mirror_all (i:=i) hj k
 by_cases h:i≤k∧k < j
 ·rw [if_pos h] at e ⊢;exact KA_congr e
 ·rw [if_neg h] at e ⊢;exact KA_congr e
theorem KA_mirror_eq {xs:Array Keyed} {i j:Nat} (hj:j≤xs.size) (heq:∀ k,i≤k→k < j→KA O kf xs k=KA O kf xs (j - 1)) (k:Nat):KA O kf (mirror xs i j ((j - i) / 2)) k=KA O kf xs k:=by
 rw [KA_mirror hj]
 split
 ·rw [heq _ (by omega) (by omega),heq k (by omega) (by omega)]
 ·rfl
theorem KA_bubble {xs:Array Keyed} {src d:Nat} (hs:src < xs.size) (hd:d≤src) (k:Nat) :
  KA O kf (bubble xs src d) k=if k=src - d then KA O kf xs src else if src - d < k∧k≤src then KA O kf xs (k - 1) else KA O kf xs k:=by
 have e:=getElem?_bubble hs d hd k
 by_cases h1:k=src - d
 ·rw [if_pos h1] at e ⊢;exact KA_congr e
 ·rw [if_neg h1] at e ⊢
  by_cases h2:src - d < k∧k≤src
  ·rw [if_pos h2] at e ⊢;exact KA_congr e
  ·rw [if_neg h2] at e ⊢;exact KA_congr e
structure Re (lo:Nat) (xs ys:Array Keyed):Prop where
 perm:ys.Perm xs
 keep:∀ k,k < lo→ys[k]?=xs[k]?
theorem Re.refl (lo:Nat) (xs:Array Keyed):Re lo xs xs:=⟨Array.Perm.refl _,fun _ _=>rfl⟩
theorem Re.trans {lo:Nat} {xs ys zs:Array Keyed} (a:Re lo xs ys) (b:Re lo ys zs):Re lo xs zs:=⟨b.perm.trans a.perm,fun k h=>(b.keep k h).trans (a.keep k h)⟩
theorem Re.size {lo:Nat} {xs ys:Array Keyed} (a:Re lo xs ys):ys.size=xs.size:=a.perm.size_eq
theorem Re.mirror {lo i j:Nat} {xs:Array Keyed} (hi:lo≤i) (hj:j≤xs.size):Re lo xs (mirror xs i j ((j - i) / 2)):=⟨mirror_perm _ _ _ _,fun k h=>by
 rw [getElem?_mirror_all hj k,if_neg (by omega)]⟩
theorem Re.bubble {lo src d:Nat} {xs:Array Keyed} (hs:src < xs.size) (hd:lo+d≤src):Re lo xs (bubble xs src d):=⟨bubble_perm _ _ _,fun k h=>by
 rw [getElem?_bubble hs d (by omega),if_neg (by omega),if_neg (by omega)]⟩
theorem Re.mem {lo:Nat} {xs ys:Array Keyed} (a:Re lo xs ys) {G:Keyed→Prop} (h:∀ x∈xs.toList,G x):∀ x∈ys.toList,G x:=fun x hx=>h x ((Array.perm_iff_toList_perm.mp a.perm).mem_iff.mp hx)
end
noncomputable abbrev ASt:=Option (Option Nat)×Nat
noncomputable abbrev BSt:=Option (Option Nat)×Nat×Nat
noncomputable def asc (lo a nrem:Nat):StateT SortSt Sem ASt:=
 forIn [a:nrem] ((none,a):ASt) fun _ c=>do
  let r←ltAt' (lo+c.2) (lo+c.2 - 1)
  match r with
  | some sm=>if sm=true then pure (.done (none,c.2)) else pure (.yield (none,c.2+1))
  | _=>pure (.done (some none,c.2))
noncomputable def dsc (lo a nrem:Nat):StateT SortSt Sem BSt:=
 forIn [a:nrem] ((none,a,0):BSt) fun _ c=>do
  let r←ltAt' (lo+c.2.1) (lo+c.2.1 - 1)
  match r with
  | some sm=>
   if sm=true then
    if c.2.2 > 0 then do
     reverseSlice' (lo+c.2.1 - (c.2.2+1)) (lo+c.2.1)
     pure (.yield (none,c.2.1+1,0))
    else pure (.yield (none,c.2.1+1,0))
   else do
    let r←ltAt' (lo+c.2.1 - 1) (lo+c.2.1)
    match r with
    | some lg=>if lg=true then pure (.done (none,c.2.1,c.2.2)) else pure (.yield (none,c.2.1+1,c.2.2+1))
    | _=>pure (.done (some none,c.2.1,c.2.2))
  | _=>pure (.done (some none,c.2.1,c.2.2))
noncomputable def tl3 (lo n nrem:Nat):StateT SortSt Sem (Option Nat):=do
 reverseSlice' lo (lo+n)
 let c←asc lo n nrem
 match c.1 with
 | some r=>pure r
 | none=>pure (some c.2)
noncomputable def dpt (lo n nrem:Nat):StateT SortSt Sem (Option Nat):=do
 rule "list.sort.descending-run"
 let c←dsc lo (n+1) nrem
 match c.1 with
 | some r=>pure r
 | none=>if c.2.2 > 0 then do reverseSlice' (lo+c.2.1 - (c.2.2+1)) (lo+c.2.1);tl3 lo c.2.1 nrem else tl3 lo c.2.1 nrem
theorem cr_eq (lo nrem:Nat):countRun' lo nrem=(do
 let c←asc lo 1 nrem
 match c.1 with
 | some r=>pure r
 | none=>
  if (c.2 == nrem)=true then pure (some c.2)
  else if c.2 > 1 then do
   let r←ltAt' lo (lo+c.2 - 1)
   match r with
   | some rs=>if rs=true then pure (some c.2) else do reverseSlice' lo (lo+c.2);dpt lo c.2 nrem
   | _=>pure none
  else dpt lo c.2 nrem):=by
 rw [countRun'_eq]
 show (forIn _ _ _ >>= _:StateT SortSt Sem (Option Nat))=asc lo 1 nrem >>= _
 refine congr (congrArg Bind.bind ?_) (funext fun c=>?_)
 ·delta asc
  refine congrArg (forIn _ _) (funext fun _=>funext fun c=>?_)
  refine congrArg (fun z=>_ >>= z) (funext fun r=>?_)
  cases r with
  | none=>exact rfl
  | some sm=>exact rfl
 ·obtain ⟨c1,c2⟩:=c
  cases c1 with
  | some r=>rfl
  | none=>
   show (ite _ _ (ite _ _ _):StateT SortSt Sem (Option Nat))=ite _ _ (ite _ _ _)
   refine congrArg (ite _ _) ?_
   refine congr (congrArg (ite _) ?_) ?_
   ·refine congrArg (fun z=>_ >>= z) (funext fun r=>?_)
    cases r with
    | none=>exact rfl
    | some rs=>
     show (ite _ _ _:StateT SortSt Sem (Option Nat))=ite _ _ _
     refine congrArg (ite _ _) ?_
     refine congrArg (fun z=>_ >>= z) (funext fun _=>?_)
     delta dpt
     refine congrArg (fun z=>_ >>= z) (funext fun _=>?_)
     show (forIn _ _ _ >>= _:StateT SortSt Sem (Option Nat))=dsc lo (c2+1) nrem >>= _
     refine congr (congrArg Bind.bind ?_) (funext fun d=>?_)
     ·delta dsc
      refine congrArg (forIn _ _) (funext fun _=>funext fun c=>?_)
      refine congrArg (fun z=>_ >>= z) (funext fun r=>?_)
      cases r with
      | none=>exact rfl
      | some sm=>
       show (ite _ _ _:StateT SortSt Sem (ForInStep BSt))=ite _ _ _
       refine congr (congrArg (ite _) ?_) ?_
       ·exact rfl
       ·refine congrArg (fun z=>_ >>= z) (funext fun r=>?_)
        cases r with
        | none=>exact rfl
        | some lg=>exact rfl
     ·obtain ⟨d1,d2,d3⟩:=d
      cases d1 with
      | some r=>exact rfl
      | none=>
       show (ite _ _ _:StateT SortSt Sem (Option Nat))=ite _ _ _
       refine congr (congrArg (ite _) ?_) ?_
       ·refine congrArg (fun z=>_ >>= z) (funext fun _=>?_)
        delta tl3
        refine congrArg (fun z=>_ >>= z) (funext fun _=>?_)
        show (forIn _ _ _ >>= _:StateT SortSt Sem (Option Nat))=asc lo d2 nrem >>= _
        refine congr (congrArg Bind.bind ?_) (funext fun e=>?_)
        ·delta asc
         refine congrArg (forIn _ _) (funext fun _=>funext fun c=>?_)
         refine congrArg (fun z=>_ >>= z) (funext fun r=>?_)
         cases r with
         | none=>exact rfl
         | some sm=>exact rfl
        ·obtain ⟨e1,e2⟩:=e
         cases e1 with
         | some r=>exact rfl
         | none=>exact rfl
       ·delta tl3
        refine congrArg (fun z=>_ >>= z) (funext fun _=>?_)
        show (forIn _ _ _ >>= _:StateT SortSt Sem (Option Nat))=asc lo d2 nrem >>= _
        refine congr (congrArg Bind.bind ?_) (funext fun e=>?_)
        ·delta asc
         refine congrArg (forIn _ _) (funext fun _=>funext fun c=>?_)
         refine congrArg (fun z=>_ >>= z) (funext fun r=>?_)
         cases r with
         | none=>exact rfl
         | some sm=>exact rfl
        ·obtain ⟨e1,e2⟩:=e
         cases e1 with
         | some r=>exact rfl
         | none=>exact rfl
   ·show _=dpt lo c2 nrem
    delta dpt
    refine congrArg (fun z=>_ >>= z) (funext fun _=>?_)
    show (forIn _ _ _ >>= _:StateT SortSt Sem (Option Nat))=dsc lo (c2+1) nrem >>= _
    refine congr (congrArg Bind.bind ?_) (funext fun d=>?_)
    ·delta dsc
     refine congrArg (forIn _ _) (funext fun _=>funext fun c=>?_)
     refine congrArg (fun z=>_ >>= z) (funext fun r=>?_)
     cases r with
     | none=>exact rfl
     | some sm=>
      show (ite _ _ _:StateT SortSt Sem (ForInStep BSt))=ite _ _ _
      refine congr (congrArg (ite _) ?_) ?_
      ·exact rfl
      ·refine congrArg (fun z=>_ >>= z) (funext fun r=>?_)
       cases r with
       | none=>exact rfl
       | some lg=>exact rfl
    ·obtain ⟨d1,d2,d3⟩:=d
     cases d1 with
     | some r=>exact rfl
     | none=>
      show (ite _ _ _:StateT SortSt Sem (Option Nat))=ite _ _ _
      refine congr (congrArg (ite _) ?_) ?_
      ·refine congrArg (fun z=>_ >>= z) (funext fun _=>?_)
       delta tl3
       refine congrArg (fun z=>_ >>= z) (funext fun _=>?_)
       show (forIn _ _ _ >>= _:StateT SortSt Sem (Option Nat))=asc lo d2 nrem >>= _
       refine congr (congrArg Bind.bind ?_) (funext fun e=>?_)
       ·delta asc
        refine congrArg (forIn _ _) (funext fun _=>funext fun c=>?_)
        refine congrArg (fun z=>_ >>= z) (funext fun r=>?_)
        cases r with
        | none=>exact rfl
        | some sm=>exact rfl
       ·obtain ⟨e1,e2⟩:=e
        cases e1 with
        | some r=>exact rfl
        | none=>exact rfl
      ·delta tl3
       refine congrArg (fun z=>_ >>= z) (funext fun _=>?_)
       show (forIn _ _ _ >>= _:StateT SortSt Sem (Option Nat))=asc lo d2 nrem >>= _
       refine congr (congrArg Bind.bind ?_) (funext fun e=>?_)
       ·delta asc
        refine congrArg (forIn _ _) (funext fun _=>funext fun c=>?_)
        refine congrArg (fun z=>_ >>= z) (funext fun r=>?_)
        cases r with
        | none=>exact rfl
        | some sm=>exact rfl
       ·obtain ⟨e1,e2⟩:=e
        cases e1 with
        | some r=>exact rfl
        | none=>exact rfl
section
variable {M:Model} {A:Around} {E:Value→Shared→Prop} {s:Shared} {O:KeyOrd} {kf:Keyed→O.α} {κ:SortKind} {G:Keyed→Prop}
theorem wp_ltAt (L:LtOk M A E s O kf κ G) {st:SortSt} {i j:Nat} {Q:Option Bool→SortSt→Prop} (hk:kindOf st=κ) (hG:∀ x∈(arrOf st).toList,G x) (hi:i < (arrOf st).size) (hj:j < (arrOf st).size)
  (h:Q (some (O.blt (KA O kf (arrOf st) i) (KA O kf (arrOf st) j))) st):wpS M A E s (ltAt' i j) Q st:=by
 rw [ltAt'_eq]
 refine wpS_bind (wpS_get ?_)
 obtain ⟨x,ex,mx⟩:=at_some hi
 obtain ⟨y,ey,my⟩:=at_some hj
 rw [KA_at ex,KA_at ey] at h
 exact wpS_bind (wp_elem ex (wpS_bind (wp_elem ey (L x y (hG x mx) (hG y my) st Q hk h))))
theorem wp_rev {i j:Nat} {st:SortSt} {Q:Unit→SortSt→Prop} (h:Q () (setArr st (mirror (arrOf st) i j ((j - i) / 2)))):wpS M A E s (reverseSlice' i j) Q st:=by
 rw [reverseSlice'_eq]
 exact wpS_modify h
theorem wp_asc (L:LtOk M A E s O kf κ G) {st:SortSt} {lo a nrem:Nat} {Q:ASt→SortSt→Prop} (hk:kindOf st=κ) (hG:∀ x∈(arrOf st).toList,G x) (hn:lo+nrem≤(arrOf st).size) (ha:1≤a) (han:a≤nrem)
  (hs:Inc O kf (arrOf st) lo (lo+a))
  (h:∀ n,a≤n→n≤nrem→Inc O kf (arrOf st) lo (lo+n)→(n=nrem∨O.klt (KA O kf (arrOf st) (lo+n)) (KA O kf (arrOf st) (lo+n - 1)))→Q (none,n) st):wpS M A E s (asc lo a nrem) Q st:=by
 unfold asc
 refine wpS_forRange (I:=fun x c st'=>st'=st∧c=(none,x)∧Inc O kf (arrOf st) lo (lo+x)) ?step ?fin ⟨rfl,rfl,hs⟩
 case fin=>
  rintro c st' ⟨rfl,rfl,hs'⟩
  rw [show max a nrem=nrem by omega] at hs' ⊢
  exact h nrem han (Nat.le_refl _) hs' (.inl rfl)
 case step=>
  rintro x c st' hax hxn ⟨rfl,rfl,hs'⟩
  dsimp only
  refine wpS_bind (wp_ltAt L hk hG (by omega) (by omega) ?_)
  cases hb:O.blt (KA O kf (arrOf st') (lo+x)) (KA O kf (arrOf st') (lo+x - 1)) with
  | true=>
   simp only [if_true]
   exact wpS_pure (h x hax (by omega) hs' (.inr hb))
  | false=>
   simp only [Bool.false_eq_true,if_false]
   refine wpS_pure ⟨rfl,rfl,fun i j h1 h2 h3=>?_⟩
   by_cases hjx:j < lo+x
   ·exact hs' i j h1 h2 hjx
   ·have:j=lo+x:=by omega
    subst this
    by_cases e:i=lo+x
    ·subst e;exact KeyOrd.kle_refl _
    ·exact KeyOrd.kle_trans (hs' i (lo+x - 1) h1 (by omega) (by omega)) hb
noncomputable def RunAt (O:KeyOrd) (kf:Keyed→O.α) (lo nrem:Nat) (st:SortSt) (Q:Option Nat→SortSt→Prop):Prop:=
 ∀ m xs,Re lo (arrOf st) xs→1≤m→m≤nrem→Inc O kf xs lo (lo+m)→Q (some m) (setArr st xs)
theorem RunAt.step {lo nrem:Nat} {st:SortSt} {Q:Option Nat→SortSt→Prop} {xs:Array Keyed} (h:RunAt O kf lo nrem st Q) (r:Re lo (arrOf st) xs):RunAt O kf lo nrem (setArr st xs) Q:=
 fun m ys r' h1 h2 h3=>h m ys (r.trans r') h1 h2 h3
theorem wp_tl3 (L:LtOk M A E s O kf κ G) {st:SortSt} {lo n nrem:Nat} {Q:Option Nat→SortSt→Prop} (hk:kindOf st=κ) (hG:∀ x∈(arrOf st).toList,G x) (hn:lo+nrem≤(arrOf st).size) (h1:1≤n) (hnn:n≤nrem)
  (hs:Dec O kf (arrOf st) lo (lo+n)) (h:RunAt O kf lo nrem st Q):wpS M A E s (tl3 lo n nrem) Q st:=by
 unfold tl3
 refine wpS_bind (wp_rev ?_)
 have r:Re lo (arrOf st) (mirror (arrOf st) lo (lo+n) ((lo+n - lo) / 2)):=Re.mirror (Nat.le_refl _) (by omega)
 refine wpS_bind (wp_asc L (st:=setArr st (mirror (arrOf st) lo (lo+n) ((lo+n - lo) / 2))) hk (r.mem hG) (by have:=r.size;show lo+nrem≤(mirror (arrOf st) lo (lo+n) ((lo+n - lo) / 2)).size;omega) h1 hnn ?_ fun m hm1 hm2 hs2 _=>wpS_pure (h m _ r (by omega) hm2 hs2))
 intro i j h2 h3 h4
 show O.kle (KA O kf (mirror (arrOf st) lo (lo+n) ((lo+n - lo) / 2)) i) (KA O kf (mirror (arrOf st) lo (lo+n) ((lo+n - lo) / 2)) j)
 rw [KA_mirror (by omega),KA_mirror (by omega),if_pos (by omega),if_pos (by omega)]
 exact hs _ _ (by omega) (by omega) (by omega)
theorem wp_dsc (L:LtOk M A E s O kf κ G) {st:SortSt} {lo n nrem:Nat} {Q:BSt→SortSt→Prop} (hk:kindOf st=κ) (hG:∀ x∈(arrOf st).toList,G x) (hn:lo+nrem≤(arrOf st).size) (h1:1≤n) (hnn:n≤nrem)
  (hs:Dec O kf (arrOf st) lo (lo+n))
  (h:∀ m ne xs,Re lo (arrOf st) xs→n≤m→m≤nrem→Dec O kf xs lo (lo+m)→ne+1≤m→(∀ i,lo+m - (ne+1)≤i→i < lo+m→KA O kf xs i=KA O kf xs (lo+m - 1))→Q (none,m,ne) (setArr st xs)):wpS M A E s (dsc lo n nrem) Q st:=by
 unfold dsc
 refine wpS_forRange (I:=fun x c st'=>∃ ne xs,c=(none,x,ne)∧st'=setArr st xs∧Re lo (arrOf st) xs∧Dec O kf xs lo (lo+x)∧ne+1≤x∧(∀ i,lo+x - (ne+1)≤i→i < lo+x→KA O kf xs i=KA O kf xs (lo+x - 1))) ?step ?fin
  ⟨0,arrOf st,rfl,rfl,Re.refl _ _,hs,by omega,fun i a b=>by congr 1;omega⟩
 case fin=>
  rintro c st' ⟨ne,xs,rfl,rfl,r,hs',hq,he⟩
  rw [show max n nrem=nrem by omega] at hs' hq he ⊢
  exact h nrem ne xs r hnn (Nat.le_refl _) hs' hq he
 case step=>
  rintro x c st' hax hxn ⟨ne,xs,rfl,rfl,r,hs',hq,he⟩
  dsimp only
  have hsz:xs.size=(arrOf st).size:=r.size
  refine wpS_bind (wp_ltAt L (st:=setArr st xs) hk (r.mem hG) (by show lo+x < xs.size;omega) (by show lo+x - 1 < xs.size;omega) ?_)
  show wpS M A E s _ _ _
  cases hb:O.blt (KA O kf (arrOf (setArr st xs)) (lo+x)) (KA O kf (arrOf (setArr st xs)) (lo+x - 1)) with
  | true=>
   have hb:O.blt (KA O kf xs (lo+x)) (KA O kf xs (lo+x - 1))=true:=hb
   simp only [if_true]
   have step1:∀ ys:Array Keyed,(∀ k,KA O kf ys k=KA O kf xs k)→Dec O kf ys lo (lo+(x+1)):=by
    intro ys hy i j a b d
    rw [hy,hy]
    by_cases hjx:j < lo+x
    ·exact hs' i j a b hjx
    ·have:j=lo+x:=by omega
     subst this
     by_cases e:i=lo+x
     ·subst e;exact KeyOrd.kle_refl _
     ·exact KeyOrd.kle_trans (KeyOrd.kle_of_klt hb) (hs' i (lo+x - 1) a (by omega) (by omega))
   by_cases hneq:ne > 0
   ·rw [if_pos hneq]
    refine wpS_bind (wp_rev (wpS_pure ⟨0,_,rfl,rfl,r.trans (Re.mirror (xs:=xs) (by omega) (by omega)),step1 _ (KA_mirror_eq (xs:=xs) (by omega) he),by omega,fun i a b=>by congr 1;omega⟩))
   ·rw [if_neg hneq]
    exact wpS_pure ⟨0,xs,rfl,rfl,r,step1 _ (fun _=>rfl),by omega,fun i a b=>by congr 1;omega⟩
  | false=>
   have hb:O.blt (KA O kf xs (lo+x)) (KA O kf xs (lo+x - 1))=false:=hb
   simp only [Bool.false_eq_true,if_false]
   refine wpS_bind (wp_ltAt L (st:=setArr st xs) hk (r.mem hG) (by show lo+x - 1 < xs.size;omega) (by show lo+x < xs.size;omega) ?_)
   cases hc:O.blt (KA O kf (arrOf (setArr st xs)) (lo+x - 1)) (KA O kf (arrOf (setArr st xs)) (lo+x)) with
   | true=>
    simp only [if_true]
    exact wpS_pure (h x ne xs r hax (by omega) hs' hq he)
   | false=>
    have hc:O.blt (KA O kf xs (lo+x - 1)) (KA O kf xs (lo+x))=false:=hc
    simp only [Bool.false_eq_true,if_false]
    have heqx:KA O kf xs (lo+x)=KA O kf xs (lo+x - 1):=KeyOrd.kle_antisymm hc hb
    refine wpS_pure ⟨ne+1,xs,rfl,rfl,r,fun i j a b d=>?_,by omega,fun i a b=>?_⟩
    ·by_cases hjx:j < lo+x
     ·exact hs' i j a b hjx
     ·have:j=lo+x:=by omega
      subst this
      by_cases e:i=lo+x
      ·subst e;exact KeyOrd.kle_refl _
      ·rw [heqx];exact hs' i (lo+x - 1) a (by omega) (by omega)
    ·rw [show lo+(x+1) - 1=lo+x by omega]
     by_cases e:i=lo+x
     ·rw [e]
     ·rw [heqx];exact he i (by omega) (by omega)
theorem wp_dpt (L:LtOk M A E s O kf κ G) {st:SortSt} {lo n nrem:Nat} {Q:Option Nat→SortSt→Prop} (hk:kindOf st=κ) (hG:∀ x∈(arrOf st).toList,G x) (hn:lo+nrem≤(arrOf st).size) (hnn:n+1≤nrem)
  (hs:Dec O kf (arrOf st) lo (lo+(n+1))) (h:RunAt O kf lo nrem st Q):wpS M A E s (dpt lo n nrem) Q st:=by
 unfold dpt
 refine wpS_bind (wpS_lift (wpAny_rule ⟨rfl,?_⟩))
 refine wpS_bind (wp_dsc L hk hG hn (by omega) hnn hs fun m ne xs r h1 h2 h3 h4 h5=>?_)
 dsimp only
 have hsz:xs.size=(arrOf st).size:=r.size
 by_cases hneq:ne > 0
 ·rw [if_pos hneq]
  have r2:Re lo xs (mirror xs (lo+m - (ne+1)) (lo+m) ((lo+m - (lo+m - (ne+1))) / 2)):=Re.mirror (by omega) (by omega)
  refine wpS_bind (wp_rev (wp_tl3 L hk (r2.mem (r.mem hG)) (by have:=r2.size;show lo+nrem≤(mirror xs (lo+m - (ne+1)) (lo+m) ((lo+m - (lo+m - (ne+1))) / 2)).size;omega) (by omega) h2 ?_ ((h.step r).step r2)))
  intro i j a b d
  show O.kle (KA O kf (mirror xs _ _ _) j) (KA O kf (mirror xs _ _ _) i)
  rw [KA_mirror_eq (by omega) h5,KA_mirror_eq (by omega) h5]
  exact h3 i j a b d
 ·rw [if_neg hneq]
  exact wp_tl3 L (st:=setArr st xs) hk (r.mem hG) (by show lo+nrem≤xs.size;omega) (by omega) h2 h3 (h.step r)
theorem wp_cr (L:LtOk M A E s O kf κ G) {st:SortSt} {lo nrem:Nat} {Q:Option Nat→SortSt→Prop} (hk:kindOf st=κ) (hG:∀ x∈(arrOf st).toList,G x) (hn:lo+nrem≤(arrOf st).size) (h1:1≤nrem)
  (h:RunAt O kf lo nrem st Q):wpS M A E s (countRun' lo nrem) Q st:=by
 rw [cr_eq]
 refine wpS_bind (wp_asc L hk hG hn (Nat.le_refl 1) h1 (fun i j a b d=>by have:i=j:=(by omega);subst this;exact KeyOrd.kle_refl _) fun n hn1 hn2 hsn hor=>?_)
 dsimp only
 by_cases hnn:n=nrem
 ·rw [if_pos (by simpa using hnn)]
  exact wpS_pure (h n _ (Re.refl _ _) hn1 hn2 hsn)
 ·rw [if_neg (by simpa using hnn)]
  have hlt:=hor.resolve_left hnn
  by_cases hgt:n > 1
  ·rw [if_pos hgt]
   refine wpS_bind (wp_ltAt L hk hG (by omega) (by omega) ?_)
   cases hr:O.blt (KA O kf (arrOf st) lo) (KA O kf (arrOf st) (lo+n - 1)) with
   | true=>
    simp only [if_true]
    exact wpS_pure (h n _ (Re.refl _ _) hn1 hn2 hsn)
   | false=>
    simp only [Bool.false_eq_true,if_false]
    have hall:∀ k,lo≤k→k < lo+n→KA O kf (arrOf st) k=KA O kf (arrOf st) (lo+n - 1):=by
     intro k a b
     exact KeyOrd.kle_antisymm (hsn k (lo+n - 1) a (by omega) (by omega)) (KeyOrd.kle_trans hr (hsn lo k (Nat.le_refl _) a b))
    have r:Re lo (arrOf st) (mirror (arrOf st) lo (lo+n) ((lo+n - lo) / 2)):=Re.mirror (Nat.le_refl _) (by omega)
    refine wpS_bind (wp_rev (wp_dpt L hk (r.mem hG) (by have:=r.size;show lo+nrem≤(mirror (arrOf st) lo (lo+n) ((lo+n - lo) / 2)).size;omega) (by omega) ?_ (h.step r)))
    intro i j a b d
    show O.kle (KA O kf (mirror (arrOf st) _ _ _) j) (KA O kf (mirror (arrOf st) _ _ _) i)
    rw [KA_mirror_eq (by omega) hall,KA_mirror_eq (by omega) hall]
    by_cases hjn:j < lo+n
    ·rw [hall i (by omega) (by omega),hall j (by omega) hjn];exact KeyOrd.kle_refl _
    ·have:j=lo+n:=by omega
     subst this
     by_cases e:i=lo+n
     ·subst e;exact KeyOrd.kle_refl _
     ·rw [hall i (by omega) (by omega)];exact KeyOrd.kle_of_klt hlt
  ·rw [if_neg hgt]
   have:n=1:=by omega
   subst this
   refine wp_dpt L hk hG hn (by omega) ?_ h
   intro i j a b d
   by_cases e:i=j
   ·subst e;exact KeyOrd.kle_refl _
   ·have e1:i=lo:=by omega
    have e2:j=lo+1:=by omega
    subst e1 e2
    exact KeyOrd.kle_of_klt (by simpa using hlt)
theorem wp_bin (L:LtOk M A E s O kf κ G) {st:SortSt} {lo n ok:Nat} {Q:Bool→SortSt→Prop} (hk:kindOf st=κ) (hG:∀ x∈(arrOf st).toList,G x) (hn:lo+n≤(arrOf st).size) (hok:ok≤n) (hs:Inc O kf (arrOf st) lo (lo+ok))
  (h:∀ xs,Re lo (arrOf st) xs→Inc O kf xs lo (lo+n)→Q true (setArr st xs)):wpS M A E s (binarySort' lo n ok) Q st:=by
 rw [binarySort'_eq]
 refine wpS_bind (wpS_mono (wpS_forRange (I:=fun k c st'=>c=(none,())∧∃ xs,st'=setArr st xs∧Re lo (arrOf st) xs∧Inc O kf xs lo (lo+min k n))
  (Q:=fun c st'=>c=(none,())∧∃ xs,st'=setArr st xs∧Re lo (arrOf st) xs∧Inc O kf xs lo (lo+n)) ?step ?fin ?init) ?post)
 case post=>
  rintro c st' ⟨rfl,xs,rfl,r,hs'⟩
  exact wpS_pure (h xs r hs')
 case init=>
  refine ⟨rfl,arrOf st,rfl,Re.refl _ _,fun i j a b d=>?_⟩
  by_cases h1:ok=0
  ·have:i=j:=by omega
   subst this;exact KeyOrd.kle_refl _
  ·exact hs i j a b (by omega)
 case fin=>
  rintro c st' ⟨hc,xs,rfl,r,hs'⟩
  refine ⟨hc,xs,rfl,r,?_⟩
  rwa [show min (max (max ok 1) n) n=n by omega] at hs'
 case step=>
  rintro k c st' hak hkn ⟨rfl,xs,rfl,r,hs'⟩
  rw [show min k n=k by omega] at hs'
  have hsz:xs.size=(arrOf st).size:=r.size
  refine wpS_bind (wpS_mono (wpS_forRange (I:=fun x c st''=>st''=setArr st xs∧∃ l u,c=(none,l,u)∧l≤u∧u≤k∧u - l≤k - x∧
    (∀ i,i < l→O.kle (KA O kf xs (lo+i)) (KA O kf xs (lo+k)))∧(∀ i,u≤i→i < k→O.klt (KA O kf xs (lo+k)) (KA O kf xs (lo+i))))
   (Q:=fun c st''=>st''=setArr st xs∧∃ l u,c=(none,l,u)∧l≤k∧
    (∀ i,i < l→O.kle (KA O kf xs (lo+i)) (KA O kf xs (lo+k)))∧(∀ i,l≤i→i < k→O.klt (KA O kf xs (lo+k)) (KA O kf xs (lo+i)))) ?istep ?ifin ?iinit) ?ipost)
  case iinit=>exact ⟨rfl,0,k,rfl,by omega,by omega,by omega,fun i hi=>by omega,fun i h1 h2=>by omega⟩
  case ifin=>
   rintro c st'' ⟨rfl,l,u,rfl,a,b,d,e,f⟩
   have:l=u:=by omega
   subst this
   exact ⟨rfl,l,l,rfl,b,e,f⟩
  case istep=>
   rintro x c st'' _ hxk ⟨rfl,l,u,rfl,a,b,d,e,f⟩
   dsimp only
   by_cases hge:l≥u
   ·rw [if_pos hge]
    have:l=u:=by omega
    subst this
    exact wpS_pure ⟨rfl,l,l,rfl,b,e,f⟩
   ·rw [if_neg hge]
    refine wpS_bind (wp_ltAt L (st:=setArr st xs) hk (r.mem hG) (by show lo+k < xs.size;omega) (by show lo+(l+u) / 2 < xs.size;omega) ?_)
    cases hb:O.blt (KA O kf (arrOf (setArr st xs)) (lo+k)) (KA O kf (arrOf (setArr st xs)) (lo+(l+u) / 2)) with
    | true=>
     have hb:O.blt (KA O kf xs (lo+k)) (KA O kf xs (lo+(l+u) / 2))=true:=hb
     simp only [if_true]
     refine wpS_pure ⟨rfl,l,(l+u) / 2,rfl,by omega,by omega,by omega,e,fun i h1 h2=>?_⟩
     exact KeyOrd.klt_of_klt_of_kle hb (hs' _ _ (by omega) (by omega) (by omega))
    | false=>
     have hb:O.blt (KA O kf xs (lo+k)) (KA O kf xs (lo+(l+u) / 2))=false:=hb
     simp only [Bool.false_eq_true,if_false]
     refine wpS_pure ⟨rfl,(l+u) / 2+1,u,rfl,by omega,by omega,by omega,fun i h1=>?_,f⟩
     exact KeyOrd.kle_trans (hs' (lo+i) (lo+(l+u) / 2) (by omega) (by omega) (by omega)) (show O.kle _ _ from hb)
  case ipost=>
   rintro c st'' ⟨rfl,l,u,rfl,hlk,hlo,hhi⟩
   show wpS _ _ _ _ (do moveDown' (lo+k) (lo+l);pure (ForInStep.yield (none,()))) _ _
   rw [moveDown'_eq]
   have hks:lo+k < xs.size:=by omega
   refine wpS_bind (wpS_modify (wpS_pure ⟨rfl,_,rfl,r.trans (Re.bubble hks (d:=lo+k - (lo+l)) (by omega)),?_⟩))
   rw [show min (k+1) n=k+1 by omega]
   intro i j a b d
   show O.kle (KA O kf (bubble xs (lo+k) (lo+k - (lo+l))) i) (KA O kf (bubble xs (lo+k) (lo+k - (lo+l))) j)
   rw [KA_bubble hks (by omega),KA_bubble hks (by omega),show lo+k - (lo+k - (lo+l))=lo+l by omega]
   have lo':∀ t,lo≤t→t < lo+l→O.kle (KA O kf xs t) (KA O kf xs (lo+k)):=fun t h1 h2=>by
    have:=hlo (t - lo) (by omega)
    rwa [show lo+(t - lo)=t by omega] at this
   have hi':∀ t,lo+l≤t→t < lo+k→O.klt (KA O kf xs (lo+k)) (KA O kf xs t):=fun t h1 h2=>by
    have:=hhi (t - lo) (by omega) (by omega)
    rwa [show lo+(t - lo)=t by omega] at this
   repeat' split
   all_goals first
    | (exfalso;omega)
    | exact KeyOrd.kle_refl _
    | exact lo' _ (by omega) (by omega)
    | exact KeyOrd.kle_of_klt (hi' _ (by omega) (by omega))
    | exact hs' _ _ (by omega) (by omega) (by omega)
end
end TS
namespace TS
open PySem PyProof.Rows
section
variable {O:KeyOrd} {kf:Keyed→O.α} {G:Keyed→Prop}
end
section
variable {M:Model} {A:Around} {E:Value→Shared→Prop} {s:Shared} {O:KeyOrd} {kf:Keyed→O.α} {κ:SortKind} {G:Keyed→Prop}
end
end TS
namespace TS
open PySem PyProof.Rows
section
variable {O:KeyOrd} {kf:Keyed→O.α} {G:Keyed→Prop}
end
section
variable {M:Model} {A:Around} {E:Value→Shared→Prop} {s:Shared} {O:KeyOrd} {kf:Keyed→O.α} {κ:SortKind} {G:Keyed→Prop} {a0:Array Keyed}
end
end TS
namespace TS
open PySem PyProof.Rows
section
variable {prog:Program} {w:World} {A:Around} {E:Value→Shared→Prop} {s:Shared} {O:KeyOrd} {kf:Keyed→O.α} {κ:SortKind}
noncomputable def Grown (s s1:Shared):Prop:=∀ b o,s.heap.get? b=some o→s1.heap.get? b=some o
structure Sorts (prog:Program) (w:World) (s:Shared) (vs:List Value) (O:KeyOrd) (kf:Keyed→O.α) (κ:SortKind):Prop where
 kind:2≤vs.length→∀ (A:Around) (E:Value→Shared→Prop) (s1:Shared) (Q:SortKind→Shared→Prop),Grown s s1→Q κ s1→wpAny (model prog w) A (keyKind' vs.toArray) Q E s1
 lt:∀ (A:Around) (E:Value→Shared→Prop) (s1:Shared),Grown s s1→LtOk (model prog w) A E s1 O kf κ (fun x=>x∈(pairsOf vs).toList)
end
end TS
namespace TS
open PySem PyProof.Rows
noncomputable def pO:KeyOrd where
 α:=Int×Int
 blt p q:=decide (p.1 < q.1)||(decide (p.1=q.1)&&decide (p.2 < q.2))
 irrefl a:=by simp
 trans a b c h1 h2:=by
  simp at h1 h2 ⊢
  omega
 negTrans a b c h:=by
  simp at h ⊢
  omega
 total a b h1 h2:=by
  obtain ⟨a1,a2⟩:=a
  obtain ⟨b1,b2⟩:=b
  simp at h1 h2
  have e1:a1=b1:=by omega
  subst e1
  have e2:a2=b2:=by omega
  rw [e2]
noncomputable def nOf:Value→Int
 | .int n _=>n
 | _=>0
noncomputable def pairAt (h:Heap) (v:Value):Int×Int:=match v with
 | .ref a=>match h.get? a with
  | some o=>match o.data with
   | .seq xs _=>(nOf (xs.getD 0 .none),nOf (xs.getD 1 .none))
   | _=>(0,0)
  | none=>(0,0)
 | _=>(0,0)
noncomputable def Two2 (h:Heap) (v:Value) (p:Int×Int):Prop:=∃ a t u,v=.ref a∧IsTup h a #[.int p.1 t,.int p.2 u]
theorem Two2.pair {h:Heap} {v:Value} {p:Int×Int} (e:Two2 h v p):pairAt h v=p:=by
 obtain ⟨a,t,u,rfl,o,ho,hc,n,hd⟩:=e
 unfold pairAt
 simp only [ho,hd]
 rfl
theorem Two2.grow {s s1:Shared} {v:Value} {p:Int×Int} (e:Two2 s.heap v p) (g:Grown s s1):Two2 s1.heap v p:=by
 obtain ⟨a,t,u,rfl,o,ho,hc,n,hd⟩:=e
 exact ⟨a,t,u,rfl,o,g a o ho,hc,n,hd⟩
section
variable {prog:Program} {w:World} {A:Around} {E:Value→Shared→Prop} {s:Shared}
theorem lt_two {x y:Value} {p q:Int×Int} {Q:Bool→Shared→Prop} (hx:Two2 s.heap x p) (hy:Two2 s.heap y q) (h:Q (pO.blt p q) s):wpAny (model prog w) A (keyLt' (tuples' true) x y) Q E s:=by
 obtain ⟨a,t,u,rfl,o,ho,hc,n,hd⟩:=hx
 obtain ⟨b,t',u',rfl,o',ho',hc',n',hd'⟩:=hy
 refine PySem.W.kat_lt ho hd ho' hd' ?_
 show PySem.W.KatLex prog w A true _ Q [(.int p.1 t,.int q.1 t'),(.int p.2 u,.int q.2 u')] 0 s
 refine PySem.W.kat_cons (wpAny_eqBool_int ?_)
 by_cases e1:p.1=q.1
 ·rw [show (p.1 == q.1)=true by simpa using e1]
  refine PySem.W.kat_yes (PySem.W.kat_cons (wpAny_eqBool_int ?_))
  by_cases e2:p.2=q.2
  ·rw [show (p.2 == q.2)=true by simpa using e2]
   refine PySem.W.kat_yes (PySem.W.kat_nil ?_)
   have:pO.blt p q=false:=by
    unfold pO
    simp [e1,e2]
   rw [this] at h
   exact h
  ·rw [show (p.2 == q.2)=false by simpa using e2]
   refine PySem.W.kat_no (PySem.W.kat_one _ _ (lt_int ?_))
   have:pO.blt p q=decide (p.2 < q.2):=by
    unfold pO
    simp [e1]
   rw [this] at h
   exact h
 ·rw [show (p.1 == q.1)=false by simpa using e1]
  refine PySem.W.kat_no ?_
  have:pO.blt p q=decide (p.1 < q.1):=by
   unfold pO
   simp [e1]
  rw [this] at h
  exact oneLt_int h
theorem tups_of:∀ {vs:List Value} {ps:List (Int×Int)},Paired (Two2 s.heap) vs ps→∃ fs,PySem.W.KatTups s.heap vs fs∧fs.length=vs.length∧∀ v∈fs,∃ n t,v=Value.int n t
 | _,_,.nil=>⟨[],trivial,rfl,fun _ h=>nomatch h⟩
 | _,_,.cons r rs=>by
  obtain ⟨a,t,u,rfl,o,ho,hc,n,hd⟩:=r
  obtain ⟨fs,h1,h2,h3⟩:=tups_of rs
  refine ⟨_::fs,PySem.W.KatTups.cons ho hc hd rfl h1,by simp [h2],fun v hv=>?_⟩
  rcases List.mem_cons.mp hv with rfl | hv
  ·exact ⟨_,_,rfl⟩
  ·exact h3 v hv
theorem pairs_mem {vs:List Value} {x:Keyed} (h:x∈(pairsOf vs).toList):x.1=x.2∧x.1∈vs:=by
 rw [pairsOf_toList] at h
 exact mem_zip_self h
theorem Paired.at_mem {α β:Type} {R:α→β→Prop}:∀ {l:List α} {m:List β},Paired R l m→∀ a∈l,∃ b∈m,R a b
 | _,_,.nil,_,h=>nomatch h
 | _,_,.cons r rs,a,h=>by
  rcases List.mem_cons.mp h with rfl | h
  ·exact ⟨_,List.mem_cons_self,r⟩
  ·obtain ⟨b,hb,q⟩:=Paired.at_mem rs a h
   exact ⟨b,List.mem_cons_of_mem _ hb,q⟩
theorem Paired.grow2 {s s1:Shared} (g:Grown s s1):∀ {vs:List Value} {ps:List (Int×Int)},Paired (Two2 s.heap) vs ps→Paired (Two2 s1.heap) vs ps
 | _,_,.nil=>.nil
 | _,_,.cons r rs=>.cons (r.grow g) (Paired.grow2 g rs)
theorem sorts_two {vs:List Value} {ps:List (Int×Int)} (h:Paired (Two2 s.heap) vs ps):Sorts prog w s vs pO (fun x=>pairAt s.heap x.1) (tuples' true) where
 kind:=fun h2 A E s1 Q g q=>by
  obtain ⟨fs,t1,t2,t3⟩:=tups_of (Paired.grow2 g h)
  refine PySem.W.kat_kind t1 (by omega) (T:=Value.type "int") (fun v hv=>?_) rfl q
  obtain ⟨n,t,rfl⟩:=t3 v hv
  exact .now
 lt:=fun A E s1 g x y hx hy st Q hk q=>by
  obtain ⟨p,_,hp⟩:=Paired.at_mem h _ (pairs_mem hx).2
  obtain ⟨p',_,hp'⟩:=Paired.at_mem h _ (pairs_mem hy).2
  have q:Q (some (pO.blt (pairAt s.heap x.1) (pairAt s.heap y.1))) st:=q
  rw [hp.pair,hp'.pair] at q
  rw [lt'_eq]
  refine wpS_bind (wpS_get ?_)
  rw [hk]
  refine wpS_bind (wpS_lift (wpAny_attempt (lt_two (hp.grow g) (hp'.grow g) ⟨rfl,?_⟩)))
  exact wpS_pure q
end
theorem Paired.perm {α β:Type} {R:α→β→Prop} {us us':List β} (p:us'.Perm us):∀ {xs:List α},Paired R xs us→∃ xs',xs'.Perm xs∧Paired R xs' us':=by
 induction p with
 | nil=>exact fun {xs} h=>⟨xs,List.Perm.refl _,h⟩
 | cons x _ ih=>
  intro xs h
  cases h with
  | cons r rs=>
   obtain ⟨xs',h1,h2⟩:=ih rs
   exact ⟨_::xs',h1.cons _,.cons r h2⟩
 | swap x y l=>
  intro xs h
  cases h with
  | cons r rs=>
   cases rs with
   | cons r' rs=>exact ⟨_::_::_,List.Perm.swap ..,.cons r' (.cons r rs)⟩
 | trans _ _ ih1 ih2=>
  intro xs h
  obtain ⟨x1,h1,h2⟩:=ih2 h
  obtain ⟨x2,h3,h4⟩:=ih1 h2
  exact ⟨x2,h3.trans h1,h4⟩
end TS
namespace L2
open PySem PySem.Spec PyProof.Rows
noncomputable def P2 (K:PySem.W.Frag) (H:Hp) (v:V) (p:Int×Int):Prop:=∃ a,v=.ref a∧H a=some (.tup [.int p.1,.int p.2])
noncomputable def lexle (p q:Int×Int):Prop:=p.1 < q.1∨(p.1=q.1∧p.2≤q.2)
section
variable {X:Cx}
theorem P2.raw {pins:List (Addr×Obj)} {σ:St} {H:Hp} {s:Shared} {v:V} {u:Value} {p:Int×Int} (I:Inv X pins σ H s) (h:P2 X.K H v p) (r:RelV v u):TS.Two2 s.heap u p:=by
 obtain ⟨a,rfl,hq⟩:=h
 obtain rfl:u=Value.ref a:=r
 obtain ⟨its,rv,pl,_⟩:=I.tuple (SqT.of hq)
 obtain ⟨u1,u2,rfl,⟨t1,rfl⟩,⟨t2,rfl⟩⟩:=vals2 rv
 exact ⟨a,t1,t2,rfl,pl⟩
end
end L2
namespace TS
open PySem PyProof.Rows
section
variable {M:Model} {A:Around} {E:Value→Shared→Prop} {s:Shared} {O:KeyOrd} {kf:Keyed→O.α} {κ:SortKind} {G:Keyed→Prop} {a0:Array Keyed}
noncomputable def Few (O:KeyOrd) (kf:Keyed→O.α) (a0:Array Keyed) (st:SortSt):Prop:=(arrOf st).Perm a0∧failedOf st=none∧pendingOf st=#[(0,a0.size,0)]∧Srt O kf (arrOf st) 0 a0.size
theorem wp_runs64 (L:LtOk M A E s O kf κ G) (h2:2≤a0.size) (h64:a0.size < 64) (h0:∀ x∈a0.toList,G x) {st:SortSt} {Q:Unit→SortSt→Prop} (hk:kindOf st=κ) (hf:failedOf st=none) (ha:arrOf st=a0) (hp:pendingOf st=#[])
  (h:∀ st',(arrOf st').Perm a0→failedOf st'=none→Srt O kf (arrOf st') 0 a0.size→Q () st'):wpS M A E s sortRuns' Q st:=by
 rw [sortRuns'_eq]
 refine wpS_bind (wpS_get ?_)
 dsimp only
 have hmr:minRun' a0.size a0.size 0=a0.size:=by
  obtain ⟨f,hf⟩:∃ f,a0.size=f+1:=⟨a0.size - 1,by omega⟩
  have:minRun' (f+1) a0.size 0=a0.size:=by rw [minRun'_succ,if_pos h64];rfl
  rwa [←hf] at this
 simp only [ha,hmr]
 have done:∀ st',kindOf st'=κ→failedOf st'=none→pendingOf st'=#[]→(arrOf st').Perm a0→Srt O kf (arrOf st') 0 a0.size→Few O kf a0 (setPending st' ((pendingOf st').push (0,a0.size,0))):=fun st' _ b c d e=>⟨d,b,by show (pendingOf st').push _=_;rw [c];rfl,e⟩
 refine wpS_bind (wpS_mono (wpS_forRange
  (I:=fun x c st'=>(x=0∧c=(none,0)∧st'=st)∨(1≤x∧c=(none,a0.size)∧Few O kf a0 st'))
  (Q:=fun c st'=>c=(none,a0.size)∧Few O kf a0 st') ?step ?fin (.inl ⟨rfl,rfl,rfl⟩)) ?post)
 case fin=>
  rintro c st' (⟨hx,_,_⟩ | ⟨_,hc,hD⟩)
  ·omega
  ·exact ⟨hc,hD⟩
 case step=>
  rintro x c st' _ hx (⟨rfl,rfl,rfl⟩ | ⟨hx1,rfl,hD⟩)
  ·dsimp only
   rw [if_neg (by omega)]
   simp only [Nat.sub_zero,Nat.min_self,Nat.zero_add]
   refine wpS_bind (wp_cr L hk (by rw [ha];exact h0) (by rw [ha];omega) (by omega) fun m xs r m1 m2 im=>?_)
   dsimp only
   rw [ha] at r
   rw [Nat.zero_add] at im
   by_cases hlt:m < a0.size
   ·rw [if_pos hlt]
    refine wpS_bind (wpS_lift (wpAny_rule ⟨rfl,?_⟩))
    refine wpS_bind (wp_bin L (st:=setArr st' xs) hk (r.mem h0) (by show 0+a0.size≤xs.size;rw [r.size];omega) (by omega) (by rw [Nat.zero_add];exact im) fun ys r2 im2=>?_)
    simp only [Bool.not_true,Bool.false_eq_true,if_false]
    refine wpS_bind (wpS_get ?_)
    have hb:(pendingOf (setArr (setArr st' xs) ys)).back?=none:=by rw [show pendingOf (setArr (setArr st' xs) ys)=pendingOf st' from rfl,hp];rfl
    rw [hb]
    dsimp only
    rw [Nat.zero_add] at im2
    exact wpS_bind (wpS_modify (wpS_pure (.inr ⟨by omega,rfl,done _ hk hf hp (r2.perm.trans r.perm) im2.srt⟩)))
   ·rw [if_neg hlt]
    have hm:m=a0.size:=by omega
    subst hm
    refine wpS_bind (wpS_get ?_)
    have hb:(pendingOf (setArr st' xs)).back?=none:=by rw [show pendingOf (setArr st' xs)=pendingOf st' from rfl,hp];rfl
    rw [hb]
    dsimp only
    exact wpS_bind (wpS_modify (wpS_pure (.inr ⟨by omega,rfl,done _ hk hf hp r.perm im.srt⟩)))
  ·dsimp only
   rw [if_pos (Nat.le_refl _)]
   exact wpS_pure ⟨rfl,hD⟩
 case post=>
  rintro c st' ⟨rfl,hD⟩
  dsimp only
  refine wpS_bind (wpS_mono (wpS_forRange (I:=fun _ c st''=>st''=st'∧c=(none,())) (Q:=fun c st''=>st''=st'∧c=(none,())) ?_ (fun _ _ hh=>hh) ⟨rfl,rfl⟩) ?_)
  ·rintro x c st'' _ _ ⟨rfl,rfl⟩
   refine wpS_bind (wpS_get ?_)
   rw [if_pos (by rw [hD.2.2.1];exact Nat.le_refl 1)]
   exact wpS_pure ⟨rfl,rfl⟩
  ·rintro c st'' ⟨rfl,rfl⟩
   exact wpS_pure (h _ hD.1 hD.2.1 hD.2.2.2)
end
section
variable {prog:Program} {w:World} {A:Around} {E:Value→Shared→Prop} {s:Shared} {O:KeyOrd} {kf:Keyed→O.α} {κ:SortKind}
theorem sort_at64 {s0:Shared} {a:Addr} {vs:List Value} {n:Nat} {P:PySem.Fin→Shared→Prop} (S:Sorts prog w s0 vs O kf κ) (ho:s.heap.get? a=some (seqObj "list" vs.toArray n)) (hsz:vs.length≤sizeLine) (h64:vs.length < 64)
  (hg:∀ b o,s0.heap.get? b=some o→s.heap.get? b=some o∧b≠a)
  (h:∀ st':SortSt,(arrOf st').Perm (pairsOf vs)→Srt O kf (arrOf st') 0 (pairsOf vs).size→P (.done (.ret .none)) { s with heap:=sortedHeap s.heap a vs ((arrOf st').map (·.2)) }) :
  wpAny (model prog w) A (Builtin.«list.sort» ⟨[.ref a],[]⟩) P E s:=by
 rw [list_sort_plain]
 have ha:a < s.heap.objs.size:=Heap.lt_size ho
 have hv:vs.toArray.size=vs.length:=by simp
 refine wpAny_bind (listItems_at ho rfl (wpAny_bind (listUpdate_at ho rfl ?_ (by rw [hv];exact hsz) (Nat.zero_le _))))
 obtain ⟨n1,ho1⟩:∃ n1,(s.heap.update a (Obj.mapSeq fun _=>#[])).get? a=some (seqObj "list" #[] n1):=⟨_,get?_update_seq ho (fun _=>#[])⟩
 refine wpAny_bind (seqEpoch_at ho1 rfl (wpAny_bind (wpAny_newTuple ?_ (by simpa using hsz))))
 refine wpAny_bind (wpAny_newList (wpAny_holding ?_) (Nat.zero_le _))
 generalize hh:(((s.heap.update a (Obj.mapSeq fun _=>#[])).push (seqObj "tuple" vs.toArray 0)).push (seqObj "list" #[] 0))=h6
 have ho6:h6.get? a=some (seqObj "list" #[] n1):=by
  rw [←hh]
  exact Heap.get?_push_of_some _ (Heap.get?_push_of_some _ ho1)
 have grown:Grown s0 { s with heap:=h6 }:=fun b o e=>by
  obtain ⟨e1,ne⟩:=hg b o e
  show h6.get? b=some o
  rw [←hh]
  exact Heap.get?_push_of_some _ (Heap.get?_push_of_some _ (by rw [Heap.get?_update_ne _ _ _ _ ne];exact e1))
 have fin:∀ st':SortSt,(arrOf st').Perm (pairsOf vs)→Srt O kf (arrOf st') 0 (pairsOf vs).size→P (.done (.ret .none)) { s with heap:=h6.update a (Obj.mapSeq fun _=>(arrOf st').map (·.2)) }:=fun st' a1 a2=>by
  have:=h st' a1 a2
  unfold sortedHeap at this
  rw [hh] at this
  exact this
 have small:∀ st':SortSt,(arrOf st').Perm (pairsOf vs)→((arrOf st').map (·.2)).size≤sizeLine+1:=fun st' hp=>by
  rw [Array.size_map,hp.size_eq,pairsOf_size]
  omega
 show wpAny (model prog w) A _ P E { s with heap:=h6 }
 dsimp only
 by_cases h2:vs.toArray.size < 2
 ·rw [if_pos h2,if_pos h2]
  refine wpAny_bind (wpAny_pure ?_)
  rw [StateT.run_pure]
  refine wpAny_bind (wpAny_pure ?_)
  dsimp only
  refine wpAny_bind (seqEpoch_at ho6 rfl ?_)
  refine wpAny_bind (listUpdate_at ho6 rfl ?_ (Nat.zero_le _) (small (SortSt.mk' general' (vs.toArray.zip vs.toArray) #[] 7 none) (Array.Perm.refl _)))
  simp only [bne_self_eq_false,Bool.false_eq_true,if_false]
  refine wpAny_pure (fin (SortSt.mk' general' (vs.toArray.zip vs.toArray) #[] 7 none) (Array.Perm.refl _) ?_)
  intro i j x y _ b c d e
  have:i=j:=by rw [pairsOf_size] at c;omega
  subst this
  rw [d] at e
  cases e
  exact KeyOrd.kle_refl _
 ·rw [if_neg h2,if_neg h2]
  refine wpAny_bind (S.kind (by omega) A E _ _ grown ?_)
  refine wpAny_bind (wpAny_mono (wp_runs64 (S.lt A E _ grown) (a0:=pairsOf vs) (by rw [pairsOf_size];omega) (by rw [pairsOf_size];exact h64) (st:=SortSt.mk' κ (vs.toArray.zip vs.toArray) #[] 7 none) (fun x hx=>hx) rfl rfl rfl rfl
   (Q:=fun _ st'=>(arrOf st').Perm (pairsOf vs)∧failedOf st'=none∧Srt O kf (arrOf st') 0 (pairsOf vs).size) fun st' a1 a2 a3=>⟨a1,a2,a3⟩) ?_ fun _ _ e=>e)
  rintro ⟨⟨⟩,st'⟩ s' ⟨rfl,hp,hf,hs⟩
  dsimp only
  refine wpAny_bind (seqEpoch_at ho6 rfl (wpAny_bind (listUpdate_at ho6 rfl ?_ (Nat.zero_le _) (small st' hp))))
  rw [hf]
  simp only [bne_self_eq_false,Bool.false_eq_true,if_false]
  exact wpAny_pure (fin st' hp hs)
theorem sorted_raw64 {l:Addr} {vs:List Value} {Q:Value→Shared→Prop} (S:Sorts prog w s vs O kf κ) (hl:s.heap.IsList l vs.toArray) (hsz:vs.length≤sizeLine) (h64:vs.length < 64)
  (h:∀ st':SortSt,(arrOf st').Perm (pairsOf vs)→Srt O kf (arrOf st') 0 (pairsOf vs).size→Q (.ref (s.heap.objs.size+1)) { s with heap:=sortedAll s.heap vs ((arrOf st').map (·.2)) }) :
  wpAny (model prog w) A (call (.builtin "sorted") [.ref l]) Q E s:=by
 refine Calls.call_function_entry kind_sorted plain_sorted entry_sorted (args_sorted1 _) ?_
 unfold Builtin.«sorted»
 refine wpAny_bind (m:=checkCount "sorted" 1 1 _) (wpAny_pure (wpAny_bind (collect_list hl ?_ hsz)))
 refine wpAny_bind (wpAny_newList ?_ hsz)
 have hz:((s.heap.push (seqObj "list" #[] 0)).update s.heap.objs.size (Obj.mapSeq (· ++ vs.toArray))).objs.size=s.heap.objs.size+1:=by rw [Heap.size_update,size_push']
 show wpAny _ _ _ _ _ { s with heap:=((s.heap.push (seqObj "list" #[] 0)).update s.heap.objs.size (Obj.mapSeq (· ++ vs.toArray))).push (seqObj "list" vs.toArray 0) }
 rw [hz]
 generalize hh:((s.heap.push (seqObj "list" #[] 0)).update s.heap.objs.size (Obj.mapSeq (· ++ vs.toArray))).push (seqObj "list" vs.toArray 0)=h6
 have hoL:h6.get? (s.heap.objs.size+1)=some (seqObj "list" vs.toArray 0):=by
  rw [←hh,←hz];exact Heap.get?_push_size _ rfl
 have old:∀ b o,s.heap.get? b=some o→h6.get? b=some o∧b≠s.heap.objs.size+1:=fun b o e=>by
  have hlt:b < s.heap.objs.size:=Heap.lt_size e
  refine ⟨?_,Nat.ne_of_lt (Nat.lt_succ_of_lt hlt)⟩
  rw [←hh]
  refine Heap.get?_push_of_some _ ?_
  rw [Heap.get?_update_ne _ _ _ _ (Nat.ne_of_lt hlt)]
  exact Heap.get?_push_of_some _ e
 have hr:∀ st':SortSt,(arrOf st').Perm (pairsOf vs)→Srt O kf (arrOf st') 0 (pairsOf vs).size→Q (.ref (s.heap.objs.size+1)) { s with heap:=sortedHeap h6 (s.heap.objs.size+1) vs ((arrOf st').map (·.2)) }:=fun st' a1 a2=>by
  have:=h st' a1 a2
  unfold sortedAll at this
  rw [hh] at this
  exact this
 refine wpAny_bind (wpAny_holding (wpAny_call_entry slot_list_sort ⟨_,hoL,rfl⟩ entry_list_sort (sort_at64 S hoL hsz h64 old fun st' a1 a2=>⟨_,rfl,?_⟩) (args_list_sort _)))
 exact wpAny_pure ⟨_,rfl,hr st' a1 a2⟩
end
end TS
namespace L2
open PySem PySem.Spec PyProof.Rows
section
variable {X:Cx}
theorem call_sorted64:CallR X (.builtin "sorted") (fun vs H Q=>∃ p xs ps,vs=[.ref p]∧SqL X.K H p xs∧xs.length < 64∧Paired (P2 X.K H) xs ps∧
  ∀ l ys qs,H l=none→Paired (P2 X.K H) ys qs→ys.Perm xs→qs.Perm ps→qs.Pairwise lexle→Q (.ref l) (upd H l (.lst ys))):=by
 intro pins s σ H xs us Q I r h
 obtain ⟨p,xs,ps,rfl,hq,h64,hp,q⟩:=h
 obtain ⟨u,rfl,rx⟩:=vals1 r
 cases rx
 obtain ⟨its,rv,pl,hz⟩:=I.list hq
 have hlen:=rv.length
 -- each thing: its value,its pair
 have three:∀ {xs:List V} {its:List Value} {ps:List (Int×Int)},Vals xs its→Paired (P2 X.K H) xs ps→Paired (fun (z:V×(Int×Int)) u=>RelV z.1 u∧P2 X.K H z.1 z.2∧TS.Two2 s.heap u z.2) (xs.zip ps) its∧Paired (TS.Two2 s.heap) its ps∧xs.length=ps.length:=by
  intro xs its ps a b
  induction a generalizing ps with
  | nil=>cases b;exact ⟨.nil,.nil,rfl⟩
  | cons r rs ih=>
   cases b with
   | cons b bs=>
    obtain ⟨i1,i2,i3⟩:=ih bs
    have t:=P2.raw I b r
    exact ⟨.cons ⟨r,b,t⟩ i1,.cons t i2,by simp [i3]⟩
 obtain ⟨t1,t2,t3⟩:=three rv hp
 refine TS.sorted_raw64 (TS.sorts_two t2) pl.isList (by omega) (by omega) fun st' pm sr=>?_
 have hl:(arrOf st').toList.Perm (its.zip its):=by
  have:=Array.perm_iff_toList_perm.mp pm
  rwa [pairsOf_toList] at this
 have hout:((arrOf st').map (·.2)).toList.Perm its:=by
  rw [Array.toList_map]
  have:=hl.map (·.2)
  rwa [List.map_snd_zip (Nat.le_refl _)] at this
 obtain ⟨zs,z1,z2⟩:=TS.Paired.perm hout t1
 have hys:(zs.map (·.1)).Perm xs:=by
  have:=z1.map (·.1)
  rwa [List.map_fst_zip (by omega)] at this
 have hqs:(zs.map (·.2)).Perm ps:=by
  have:=z1.map (·.2)
  rwa [List.map_snd_zip (by omega)] at this
 have hv:Vals (zs.map (·.1)) ((arrOf st').map (·.2)).toList:=by
  clear z1 hys hqs
  generalize ((arrOf st').map (·.2)).toList=ol at z2
  induction z2 with
  | nil=>exact .nil
  | cons r _ ih=>exact .cons r.1 ih
 have hP:Paired (P2 X.K H) (zs.map (·.1)) (zs.map (·.2)):=by
  clear z1 hys hqs hv
  generalize ((arrOf st').map (·.2)).toList=ol at z2
  induction z2 with
  | nil=>exact .nil
  | cons r _ ih=>exact .cons r.2.1 ih
 have hkeys:((arrOf st').map (·.2)).toList.map (TS.pairAt s.heap)=zs.map (·.2):=by
  clear z1 hys hqs hv hP
  generalize ((arrOf st').map (·.2)).toList=ol at z2
  induction z2 with
  | nil=>rfl
  | cons r _ ih=>rw [List.map_cons,List.map_cons,ih,r.2.2.pair]
 have hsrt:(zs.map (·.2)).Pairwise lexle:=by
  rw [←hkeys,Array.toList_map,List.map_map]
  have h0:(arrOf st').size=(pairsOf its).size:=pm.size_eq
  rw [←h0] at sr
  have:=sr.pw
  refine List.pairwise_map.mpr ?_
  refine List.Pairwise.imp_of_mem (fun {a b} ha hb hab=>?_) this
  have ea:=(mem_zip_self (hl.mem_iff.mp ha)).1
  have eb:=(mem_zip_self (hl.mem_iff.mp hb)).1
  have hab:TS.pO.blt (TS.pairAt s.heap b.1) (TS.pairAt s.heap a.1)=false:=hab
  rw [ea,eb] at hab
  unfold TS.pO at hab
  simp at hab
  show lexle (TS.pairAt s.heap a.2) (TS.pairAt s.heap b.2)
  unfold lexle
  omega
 obtain ⟨e,he⟩:=sortedAll_at s.heap its ((arrOf st').map (·.2))
 have hz2:(zs.map (·.1)).length≤sizeLine:=by rw [hys.length_eq];exact hz
 refine ⟨.ref (s.heap.objs.size+1),_,I.laid (t':=s.toks) (fun b o eb=>sortedAll_old eb) (Nat.le_succ _) (show ObjOk X.prog X.w _ _ _ (.lst (zs.map (·.1))) from ⟨hz2,_,e,hv,?_⟩),rfl,q _ _ _ (I.hok.fresh (Nat.le_succ _)) hP hys hqs hsrt⟩
 rw [Array.toArray_toList]
 exact he
end
end L2
namespace L2
open PySem PySem.Spec PyProof.Rows
noncomputable def cloOf (env:Env) (ns:List (Str×NameKind)) (acc:List (Str×Addr)):List (Str×Addr):=ns.foldl (fun cs x=>if x.2 == .free then (x.1,(env.cells.lookup x.1).getD 0)::cs else cs) acc
theorem clo_go {env:Env}:∀ (ns:List (Str×NameKind)) (acc:List (Str×Addr)),(∀ x∈ns,x.2=.free→∃ c,env.cells.lookup x.1=some c)→
  (forIn ns acc fun (x:Str×NameKind) (cs:List (Str×Addr))=>(match x with | (name,kind)=>if kind == .free then (do let c←cellOf env name;pure (ForInStep.yield ((name,c)::cs)):Sem (ForInStep (List (Str×Addr)))) else pure (ForInStep.yield cs)))=(pure (cloOf env ns acc):Sem (List (Str×Addr)))
 | [],acc,_=>by rw [List.forIn_nil];rfl
 | (n,k)::r,acc,h=>by
  rw [List.forIn_cons]
  have hr:=clo_go (env:=env) r
  by_cases hk:k=.free
  ·subst hk
   obtain ⟨c,hc⟩:=h (n,.free) List.mem_cons_self rfl
   have e1:cellOf env n=pure c:=by unfold cellOf;rw [hc]
   simp only [beq_self_eq_true,if_true,e1,pure_bind]
   rw [hr _ fun x hx=>h x (List.mem_cons_of_mem _ hx)]
   unfold cloOf
   simp [hc]
  ·have hb:(k == NameKind.free)=false:=by simpa using hk
   simp only [hb,Bool.false_eq_true,if_false,pure_bind]
   rw [hr _ fun x hx=>h x (List.mem_cons_of_mem _ hx)]
   unfold cloOf
   rw [List.foldl_cons]
   simp only [hb,Bool.false_eq_true,if_false]
theorem clo_eq {env:Env} {scope:Scope} (h:∀ x∈scope.names,x.2=.free→∃ c,env.cells.lookup x.1=some c):closureFor scope env=pure (cloOf env scope.names []):=by
 unfold closureFor
 have:=clo_go scope.names [] h
 simp only [bind_pure_comp] at this
 simp only [bind_pure_comp,id_map',this]
 rfl
theorem clo_sub {env:Env}:∀ (ns:List (Str×NameKind)) (acc:List (Str×Addr)),(∀ x∈ns,x.2=.free→∃ c,env.cells.lookup x.1=some c)→(∀ x c,acc.lookup x=some c→env.cells.lookup x=some c)→
  ∀ x c,(cloOf env ns acc).lookup x=some c→env.cells.lookup x=some c
 | [],_,_,h=>h
 | (n,k)::r,acc,hf,h=>by
  have ih:=clo_sub (env:=env) r (if k == .free then (n,(env.cells.lookup n).getD 0)::acc else acc) (fun x hx=>hf x (List.mem_cons_of_mem _ hx)) (fun x c e=>by
   by_cases hk:k=.free
   ·subst hk
    simp only [beq_self_eq_true,if_true] at e
    obtain ⟨c',hc⟩:=hf (n,.free) List.mem_cons_self rfl
    rw [List.lookup_cons] at e
    by_cases hx:x=n
    ·subst hx
     simp [hc] at e
     rw [hc,e]
    ·rw [show (x == n)=false by simpa using hx] at e
     exact h x c e
   ·rw [show (k == NameKind.free)=false by simpa using hk] at e
    exact h x c e)
  exact ih
theorem clo_sub0 {env:Env} {ns:List (Str×NameKind)} (h:∀ x∈ns,x.2=.free→∃ c,env.cells.lookup x.1=some c):∀ x c,(cloOf env ns []).lookup x=some c→env.cells.lookup x=some c:=clo_sub ns [] h fun _ _ e=>by cases e
theorem clo_acc {env:Env}:∀ (ns:List (Str×NameKind)) (acc:List (Str×Addr)) (x:Str) (c:Addr),acc.lookup x=some c→∃ c,(cloOf env ns acc).lookup x=some c
 | [],_,_,c,h=>⟨c,h⟩
 | (n,k)::r,acc,x,c,h=>by
  show ∃ c,(cloOf env r (if k == .free then (n,(env.cells.lookup n).getD 0)::acc else acc)).lookup x=some c
  by_cases hk:k=.free
  ·subst hk
   simp only [beq_self_eq_true,if_true]
   by_cases hx:x=n
   ·subst hx
    exact clo_acc r _ x ((env.cells.lookup x).getD 0) (by rw [List.lookup_cons];simp)
   ·exact clo_acc r _ x c (by rw [List.lookup_cons,show (x == n)=false by simpa using hx];exact h)
  ·rw [show (k == NameKind.free)=false by simpa using hk]
   exact clo_acc r _ x c h
theorem clo_has {env:Env}:∀ (ns:List (Str×NameKind)) (acc:List (Str×Addr)) (x:Str),(x,NameKind.free)∈ns→∃ c,(cloOf env ns acc).lookup x=some c
 | (n,k)::r,acc,x,h=>by
  show ∃ c,(cloOf env r (if k == .free then (n,(env.cells.lookup n).getD 0)::acc else acc)).lookup x=some c
  rcases List.mem_cons.mp h with e | h
  ·injection e with e1 e2
   subst e1 e2
   simp only [beq_self_eq_true,if_true]
   exact clo_acc r _ x ((env.cells.lookup x).getD 0) (by rw [List.lookup_cons];simp)
  ·exact clo_has r _ x h
theorem rel_free {env:Env}:∀ {names:List (Str×NameKind)} {x:Str},names.lookup x=some .free→
  (names.map fun (n,k)=>if (k == NameKind.free&&env.scope.kind == .function&&env.kindOf n == some .cell) then (n,NameKind.cell) else (n,k)).lookup x=some .cell∨
  (names.map fun (n,k)=>if (k == NameKind.free&&env.scope.kind == .function&&env.kindOf n == some .cell) then (n,NameKind.cell) else (n,k)).lookup x=some .free
 | [],_,h=>by simp at h
 | (n,k)::r,x,h=>by
  simp only [List.map_cons]
  by_cases hx:x=n
  ·subst hx
   simp [List.lookup_cons] at h
   subst h
   by_cases hc:(NameKind.free == NameKind.free&&env.scope.kind == .function&&env.kindOf x == some .cell)=true
   ·rw [if_pos hc];left;simp [List.lookup_cons]
   ·rw [if_neg hc];right;simp [List.lookup_cons]
  ·have hb:(x == n)=false:=by simpa using hx
   rw [List.lookup_cons,hb] at h
   have ih:=rel_free (env:=env) h
   by_cases hc:(k == NameKind.free&&env.scope.kind == .function&&env.kindOf n == some .cell)=true
   ·rw [if_pos hc];simp only [List.lookup_cons,hb];exact ih
   ·rw [if_neg hc];simp only [List.lookup_cons,hb];exact ih
theorem rel_of {env:Env}:∀ {names:List (Str×NameKind)} {x:Str} {k':NameKind},(names.map fun (n,k)=>if (k == NameKind.free&&env.scope.kind == .function&&env.kindOf n == some .cell) then (n,NameKind.cell) else (n,k)).lookup x=some k'→
  k'=.cell∨k'=.free→(x,NameKind.free)∈names∨(x,NameKind.cell)∈names
 | [],_,_,h,_=>by simp at h
 | (n,k)::r,x,k',h,hk=>by
  simp only [List.map_cons] at h
  by_cases hx:x=n
  ·subst hx
   by_cases hc:(k == NameKind.free&&env.scope.kind == .function&&env.kindOf x == some .cell)=true
   ·have:k=.free:=by simp at hc;exact hc.1.1
    subst this
    exact .inl List.mem_cons_self
   ·rw [if_neg hc] at h
    simp [List.lookup_cons] at h
    subst h
    rcases hk with rfl | rfl
    ·exact .inr List.mem_cons_self
    ·exact .inl List.mem_cons_self
  ·have hb:(x == n)=false:=by simpa using hx
   have ih:=rel_of (env:=env) (names:=r) (x:=x) (k':=k') (by
    by_cases hc:(k == NameKind.free&&env.scope.kind == .function&&env.kindOf n == some .cell)=true
    ·rw [if_pos hc] at h;simp only [List.lookup_cons,hb] at h;exact h
    ·rw [if_neg hc] at h;simp only [List.lookup_cons,hb] at h;exact h) hk
   exact ih.imp (List.mem_cons_of_mem _) (List.mem_cons_of_mem _)
noncomputable def blk (X:Cx) (N:List Str) (scope:Scope) (cl:List (Str×Addr)) (C:Addr) (fp:List Addr) (s2:Shared) (H2:Hp):Cx:=
 { X with N:=N,s₀:=s2,H₀:=H2,env:=compEnvC scope cl C X.env,outer:=X.stack,stack:=X.stack,ex:=fp,fn:=fun _=>false,pn:=[],xe:=fun _ _=>False }
structure BlkScope (X:Cx) (own:List Str) (fr:List Nat) (scope:Scope):Prop where
 kind:scope.kind=.function
 nocell:∀ x∈scope.names,x.2≠.cell
 names:∀ x∈scope.names,x.2=.local→scope.names.lookup x.1=some .local
 free:∀ x∈scope.names,x.2=.free→X.env.kindOf x.1=some .cell∨X.env.kindOf x.1=some .free
 look:∀ i∈fr,scope.names.lookup (X.N.getD i "")=some .free
noncomputable def blkN (X:Cx) (own:List Str) (fr:List Nat):List Str:=own++fr.map fun i=>X.N.getD i ""
noncomputable def blkSt (own:List Str) (fr:List Nat) (σ:St):St:=(own.map fun _=>none)++fr.map fun i=>(σ[i]?).join
section
variable {X:Cx} {pins:List (Addr×Obj)} {σ:St} {H:Hp} {s:Shared} {own:List Str} {fr:List Nat} {scope:Scope}
noncomputable abbrev lobj (its:List Value) (n:Nat):Obj:={ cls:=.type "list",data:=.seq its.toArray n }
theorem blk_ok {C:Addr} {fp:List Addr} (B:BlkScope X own fr scope) (I:Inv X pins σ H s) (hf:∀ b∈fp,FpOk X pins H b) (hfo:∀ b∈fp,b < s.heap.objs.size) (hC:s.heap.objs.size≤C) :
  (blk X (blkN X own fr) scope (cloOf X.env scope.names []) C fp s H).Ok where
 mod:=I.ok.mod
 kind:=B.kind
 glob:=I.ok.glob
 blt:=I.ok.blt
 above:=hC
 inj:=fun x y c h1 h2=>I.ok.inj x y c (clo_sub0 (fun z hz e=>I.ok.has _ (B.free z hz e)) x c h1) (clo_sub0 (fun z hz e=>I.ok.has _ (B.free z hz e)) y c h2)
 has:=fun x h=>by
  have h':(x,NameKind.free)∈scope.names∨(x,NameKind.cell)∈scope.names:=by
   rcases h with h | h
   ·exact rel_of (env:=X.env) h (.inl rfl)
   ·exact rel_of (env:=X.env) h (.inr rfl)
  rcases h' with h' | h'
  ·exact clo_has _ _ _ h'
  ·exact absurd rfl (B.nocell _ h')
 cab:=fun x c h=>nomatch h
 hd:=I.ok.hd
 frames:=I.ok.frames
 stk:=.inl rfl
 exf:=fun b hb=>⟨Nat.ne_of_lt (Nat.lt_of_lt_of_le (hfo b hb) hC),fun x c e=>(hf b hb).2.2.2.2.1 x c (clo_sub0 (fun z hz e=>I.ok.has _ (B.free z hz e)) x c e)⟩
 bs:=I.bs
 bsz:=Nat.le_trans I.ok.bsz I.sz
 noex:=fun b o e hb=>by
  rcases (hf b hb).2.2.2.1 with z | z
  ·exact I.ok.noex b o e z
  ·exact absurd (Nat.lt_of_lt_of_le (Heap.lt_size (I.ok.bs b o e).1) z) (Nat.lt_irrefl _)
 exfs:=fun b hb z=>by
  rcases List.mem_cons.mp (I.stkSub b z) with e | e
  ·exact (hf b hb).2.1 e
  ·exact (hf b hb).2.2.1 e
 funs:=I.stack
 frf:=I.stkFree
theorem blk_start {C D:Addr} {fp:List Addr} {h4:Heap} {tk:Nat} {n:Nat} (B:BlkScope X own fr scope) (I:Inv X pins σ H s) (hf:∀ b∈fp,FpOk X pins H b) (hfo:∀ b∈fp,b < s.heap.objs.size) (hC:s.heap.objs.size≤C) (hD:s.heap.objs.size≤D) (hDC:D≠C)
  (k:∀ b o,s.heap.get? b=some o→h4.get? b=some o) (hn:h4.Ns C fun _=>none) (hl:h4.get? D=some (lobj [] n)) :
  Inv (blk X (blkN X own fr) scope (cloOf X.env scope.names []) C fp s H) [(D,lobj [] n)] (blkSt own fr σ) H { s with heap:=h4,toks:=tk }:=by
 have sub:=clo_sub0 (env:=X.env) (ns:=scope.names) (fun z hz e=>I.ok.has _ (B.free z hz e))
 refine ⟨blk_ok B I hf hfo hC,rfl,I.bare,Un.kept k,⟨_,hn,fun i x v h1 h2 h3=>?_⟩,fun x c e=>?_,I.hok.fresh hC,fun x c e=>I.freeC x c (sub x c e),fun p hp=>?_,I.hok.kept k,?_⟩
 ·have h1:(blkN X own fr)[i]?=some x:=h1
  unfold blkN at h1
  unfold blkSt at h2
  by_cases hi:i < own.length
  ·rw [List.getElem?_append_left (by simpa using hi),List.getElem?_map] at h2
   cases q:own[i]? with
   | none=>rw [q] at h2;cases h2
   | some a=>rw [q] at h2;cases h2
  ·rw [List.getElem?_append_right (by simpa using hi),List.getElem?_map] at h2
   rw [List.getElem?_append_right (by simpa using hi),List.getElem?_map] at h1
   rw [List.length_map] at h2
   cases q:fr[i - own.length]? with
   | none=>rw [q] at h2;cases h2
   | some j=>
    rw [q] at h1 h2
    have h1:X.N.getD j "" = x:=Option.some.inj h1
    have h2:(σ[j]?).join=some v:=Option.some.inj h2
    have h2':σ[j]?=some (some v):=by
     cases w:σ[j]? with
     | none=>rw [w] at h2;cases h2
     | some y=>rw [w] at h2;cases y with
      | none=>cases h2
      | some y=>cases h2;rfl
    have hjl:j < X.N.length:=by rw [←I.len];exact (List.getElem?_eq_some_iff.mp h2').1
    have hN:X.N[j]?=some x:=by
     rw [←h1,List.getElem?_eq_getElem hjl]
     simp [hjl]
    have hfree:scope.names.lookup x=some .free:=by rw [←h1];exact B.look j (List.mem_of_getElem? q)
    have hk:=B.free (x,.free) (PySem.mem_of_lookup hfree) rfl
    obtain ⟨m,_,hloc⟩:=I.loc
    obtain ⟨u,r,l⟩:=hloc j x v hN h2' (by
     rcases hk with z | z
     ·exact .inr (.inl z)
     ·exact .inr (.inr z))
    refine ⟨u,r,.inr ⟨?_,?_⟩⟩
    ·exact rel_free (env:=X.env) hfree
    ·rcases l with ⟨l,_⟩ | ⟨_,c,hc,o,ho,hd⟩
     ·have hk:X.env.kindOf x=some .cell∨X.env.kindOf x=some .free:=hk
      rw [l] at hk
      rcases hk with z | z<;>cases z
     ·obtain ⟨c',hc'⟩:=clo_has (env:=X.env) scope.names [] x (PySem.mem_of_lookup hfree)
      have:=sub x c' hc'
      rw [hc] at this
      cases this
      exact ⟨c,hc',o,k _ _ ho,hd⟩
 ·obtain ⟨v,o,ho,hd⟩:=I.cell x c (sub x c e)
  exact ⟨v,o,k _ _ ho,hd⟩
 ·have hp:p∈[(D,lobj [] n)]:=by simpa [blk] using hp
  obtain rfl:=List.mem_singleton.mp hp
  refine ⟨hl,I.hok.fresh hD,hDC,fun z=>?_,fun v e=>by cases e⟩
  rcases List.mem_cons.mp (I.stkSub D z) with e | e
  ·exact Nat.ne_of_lt (Nat.lt_of_lt_of_le I.lt hD) e.symm
  ·exact I.nofs hD e
 ·show (blkSt own fr σ).length=(blkN X own fr).length
  unfold blkSt blkN
  simp
end
end L2
namespace L2
open PySem PySem.Spec PyProof.Rows
noncomputable def PIf (X:Cx) (ifs:List Expr) (t:TT):Prop:=
 ∀ (pins:List (Addr×Obj)) (s:Shared) (σ:St) (H:Hp) (Q:Bool→Hp→Prop),Inv X pins σ H s→t σ H Q→
  wpAny (model X.prog X.w) X.A (forIn ifs true fun c r=>if r=true then do let ok←isTrue c X.env (eval c X.env);pure (ForInStep.yield ok) else pure (ForInStep.yield r)) (TP X pins σ Q) X.xe s
noncomputable def tYes:TT:=fun _ H Q=>Q true H
section
variable {X:Cx} {pins:List (Addr×Obj)} {σ:St} {H:Hp} {s:Shared} {own:List Str} {fr:List Nat} {scope:Scope}
theorem pif_nil:PIf X [] tYes:=fun _ _ _ H _ I h=>wpAny_tests_nil ⟨H,I,h⟩
theorem pif_one {c:Expr} {t:TT} (h:PT X c t):PIf X [c] t:=fun pins s σ H Q I hw=>wpAny_tests_one (h pins s σ H Q I hw)
noncomputable def compLoopR (J:It) (g:TG) (tc:TT) (te:TE) (fin:List V→Hp→Prop) (W:Nat→Nat→List V→St→Hp→Prop):Prop:=
 ∀ i m ys σ' H',W i m ys σ' H'→(J.stop i H'∧fin ys H')∨
  (J.go i H'∧ys.length < sizeLine∧∃ N:List V→St→Hp→Prop,(∀ ys' σ2 H2,N ys' σ2 H2→∃ m',m' < m∧W (i+1) m' ys' σ2 H2)∧
   ∀ x H2,J.yld i H' x H2→g x σ' H2 fun σ2 H3=>tc σ2 H3 fun b H4=>if b=true then te σ2 H4 fun y H5=>N (ys++[y]) σ2 H5 else N ys σ2 H4)
noncomputable def tComp (own:List Str) (fr:List Nat) (wi:TI) (g:TG) (tc:TT) (te:TE):TE:=fun σ H Q=>wi σ H fun J H1=>
 ∃ W:Nat→Nat→List V→St→Hp→Prop,(∃ m,W 0 m [] (blkSt own fr σ) H1)∧compLoopR J g tc te (fun ys H'=>∀ l,H' l=none→Q (.ref l) (upd H' l (.lst ys))) W
theorem blk_end {N:List Str} {cl:List (Str×Addr)} {C l:Addr} {fp:List Addr} {s4:Shared} {H':Hp} {σ':St} {its:List Value} {k:Nat} {ys:List V} (I:Inv X pins σ H s) (hf:∀ b∈fp,FpOk X pins H b) (hl:s.heap.objs.size≤l)
  (I4:Inv (blk X N scope cl C fp s H) [(l,lobj its k)] σ' H' s4) (rv:Vals ys its) (hz:ys.length≤sizeLine):Inv X pins σ (upd H' l (.lst ys)) s4:=by
 have base:Un (frs X.stack) fp H H' s.heap s4.heap:=I4.base
 have pin:=I4.pin (l,lobj its k) (List.mem_append_right _ List.mem_cons_self)
 have nl:∀ b o,s.heap.get? b=some o→b≠l:=fun b o e=>Nat.ne_of_lt (Nat.lt_of_lt_of_le (Heap.lt_size e) hl)
 have nh:∀ b u,H' b=some u→b≠l:=fun b u e=>ne_of_none e pin.2.1
 refine I.call' (ch:=fp) I4.os ⟨base.keep,base.slot,fun b o e n hx=>?_,base.there,fun b xs e=>?_,fun b o u e=>?_,fun b ps e=>?_⟩ (fun b u e=>?_) I4.bare (fun b hb=>⟨(hf b hb).2.2.2.1,(hf b hb).2.1,(hf b hb).2.2.2.2.1,(hf b hb).2.2.2.2.2⟩)
 ·rw [upd_ne (nl b o e)];exact base.free b o e n hx
 ·have:=base.tups b xs e
  rw [upd_ne (nh b _ this)];exact this
 ·have:=base.frzs b o u e
  rw [upd_ne (nh b _ this)];exact this
 ·obtain ⟨more,this⟩:=base.tbls b ps e
  exact ⟨more,by rw [upd_ne (nh b _ this)];exact this⟩
 ·by_cases hb:b=l
  ·subst hb
   rw [upd_same] at e
   cases e
   exact ⟨hz,its,k,rv,pin.1⟩
  ·rw [upd_ne hb] at e
   exact (I4.hok b u e).stay (fun c v _ q=>q) (fun c q=>by rw [upd_ne (nh c _ q)];exact q) fun c xs q=>by rw [upd_ne (nh c _ q)];exact q
theorem comp_core {elt iter tg:Expr} {ifs:List Expr} {pos:Pos} {g:TG} {tc:TT} {te:TE} {it:Addr} {fp:List Addr} {tn:Nat→Heap→Prop} {J:It} {fin:List V→Hp→Prop} {W:Nat→Nat→List V→St→Hp→Prop} {m0:Nat}
  {RR:Value→Addr→Result→Shared→Prop} {E:Value→Shared→Prop} (hc:X.calm=true) (B:BlkScope X own fr scope)
  (hg:∀ cl C fp s2 H2,PG (blk X (blkN X own fr) scope cl C fp s2 H2) tg g) (ht:∀ cl C fp s2 H2,PIf (blk X (blkN X own fr) scope cl C fp s2 H2) ifs tc) (he:∀ cl C fp s2 H2,PE (blk X (blkN X own fr) scope cl C fp s2 H2) elt te)
  (I:Inv X pins σ H s) (T:Turn X.prog X.w X.K tg J fp it tn) (st0:tn 0 s.heap) (hf:∀ b∈fp,FpOk X pins H b) (w0:W 0 m0 [] (blkSt own fr σ) H) (hW:compLoopR J g tc te fin W)
  (post:∀ (l C:Addr) (s4:Shared) (ys:List V) (H':Hp) (m:Str→Option Value),s.heap.objs.size≤C→H' C=none→H' l=none→l≠C→s4.heap.Ns C m→Inv X pins σ (upd H' l (.lst ys)) s4→fin ys H'→RR (.ref l) C (.ok .next) s4) :
  wpAny (model X.prog X.w) X.A (newList []) (fun acc s₃=>wpAny (model X.prog X.w) X.A (newFunctionEnv scope X.env.globals (cloOf X.env scope.names []) [] X.env.qual none .none (some X.env)) (fun cenv s₄=>
   codeAny (model X.prog X.w) X.A (.compStart (.ListComp elt [⟨tg,iter,ifs,0⟩] scope pos) 0 (.ref it) acc { cenv with scope:=relabel scope X.env }) (RR acc cenv.locals) s₄) E s₃) E s:=by
 have hfo:∀ b∈fp,b < s.heap.objs.size:=fun b hb=>by
  obtain ⟨o,e,_⟩:=T.obj _ _ st0 b hb
  exact Heap.lt_size e
 refine wpAny_newObj_type (wpAny_newFunctionEnv B.nocell (by intro y hy;simp at hy) (fun h1 hns hsb=>?_) B.kind)
 dsimp only at hns hsb ⊢
 generalize hH2:s.heap.push { cls:=.type "list",dict:=none,data:=.seq ([]:List Value).toArray }=h2 at hns hsb ⊢
 have hC:h2.objs.size=s.heap.objs.size+1:=by rw [←hH2,Heap.size_push]
 have hDC:s.heap.objs.size≠h2.objs.size:=by rw [hC];exact Nat.ne_of_lt (Nat.lt_succ_self _)
 have hCle:s.heap.objs.size≤h2.objs.size:=by rw [hC];exact Nat.le_succ _
 have old:∀ b o,s.heap.get? b=some o→h1.get? b=some o:=fun b o e=>hsb.extBut b o (by rw [hC];exact Nat.ne_of_lt (Nat.lt_succ_of_lt (Heap.lt_size e))) (Heap.get?_push_of_some _ (hH2▸Heap.get?_push_of_some _ e))
 have hacc:h1.get? s.heap.objs.size=some (lobj [] 0):=hsb.extBut _ _ hDC (Heap.get?_push_of_some _ (hH2▸Heap.get?_push_size _ rfl))
 have hns':h1.Ns h2.objs.size fun _=>none:=hns
 have I0:=blk_start (tk:=s.toks+([]:List (Str×Value)).length) B I hf hfo hCle (Nat.le_refl _) hDC old hns' hacc
 have st1:tn 0 h1:=T.keep _ _ _ st0 fun b hb o e=>old b o e
 have loop:codeAny (model X.prog X.w) X.A (.compLoop (.ListComp elt [⟨tg,iter,ifs,0⟩] scope pos) 0 (.ref it) (.ref s.heap.objs.size) (compEnvC scope (cloOf X.env scope.names []) h2.objs.size X.env))
   (RR (.ref s.heap.objs.size) h2.objs.size) { s with heap:=h1,toks:=s.toks+([]:List (Str×Value)).length }:=by
  generalize hl:s.heap.objs.size=l at *
  generalize hCC:h2.objs.size=C at *
  -- what stays true of the iterator's objects
  have stat:∀ {H':Hp} {o:Obj},(∀ b∈fp,H' b=none)→∀ b∈fp,FpOk (blk X (blkN X own fr) scope (cloOf X.env scope.names []) C fp s H) [(l,o)] H' b:=fun {H' o} hn b hb=>by
   refine ⟨hn b hb,fun e=>?_,fun z=>?_,.inl hb,fun x c e z=>?_,fun p hp z=>?_⟩
   ·exact Nat.ne_of_lt (Nat.lt_of_lt_of_le (hfo b hb) hCle) e
   ·rcases List.mem_cons.mp (I.stkSub b z) with e | e
    ·exact (hf b hb).2.1 e
    ·exact (hf b hb).2.2.1 e
   ·exact (hf b hb).2.2.2.2.1 x c (clo_sub0 (fun z hz e=>I.ok.has _ (B.free z hz e)) x c e) z
   ·have hp:p∈[(l,o)]:=by simpa [blk] using hp
    obtain rfl:=List.mem_singleton.mp hp
    exact Nat.ne_of_lt (hfo b hb) z.symm
  refine codeAny_loop rfl (fun n s'=>∃ i ys σ' H' its k,Inv (blk X (blkN X own fr) scope (cloOf X.env scope.names []) C fp s H) [(l,lobj its k)] σ' H' s'∧Vals ys its∧ys.length≤sizeLine∧tn i s'.heap∧(∀ b∈fp,H' b=none)∧W i n ys σ' H')
   (fun n s3 hI=>?_) m0 ⟨0,[],blkSt own fr σ,H,[],0,I0,.nil,Nat.zero_le _,st1,fun b hb=>(hf b hb).1,w0⟩
  show wpAny _ X.A ((compTurn (.ListComp elt [⟨tg,iter,ifs,0⟩] scope pos) 0 (.ref it) (.ref l) (compEnvC scope (cloOf X.env scope.names []) C X.env)).onRaise (fun x=>do noteFrame x (compEnvC scope (cloOf X.env scope.names []) C X.env);theTreesLotGoes x)) _ _ s3
  refine wpAny_noted ?_
  rw [compTurn_list]
  obtain ⟨i,ys,σ3,H3,its,k,I3,rv,hz,st3,fr3,w3⟩:=hI
  refine wpAny_bind (wpAny_standAt (wpAny_bind ?_))
  rcases hW i n ys σ3 H3 w3 with ⟨stop,qn⟩ | ⟨go,hlt,N,hN,step⟩
  ·refine thn (T.done (blk X (blkN X own fr) scope (cloOf X.env scope.names []) C fp s H) rfl rfl rfl hc i _ s3 σ3 H3 _ I3 (stat fr3) st3 stop) fun r s4 ⟨hr,I4⟩=>?_
   subst hr
   obtain ⟨m,hm,_⟩:=I4.loc
   exact wpAny_pure (post l C s4 ys H3 m hCle I4.free (I4.pin (l,lobj its k) (List.mem_append_right _ List.mem_cons_self)).2.1 hDC hm (blk_end I hf (Nat.le_of_eq hl) I4 rv hz) qn)
  ·refine thn (T.item (blk X (blkN X own fr) scope (cloOf X.env scope.names []) C fp s H) rfl rfl rfl hc i _ s3 σ3 H3 _ I3 (stat fr3) st3 go) fun r s4 ⟨u,hr,h4⟩=>?_
   subst hr
   refine wpAny_bind (thn h4 fun _ s5 ⟨x,H5,I5,r5,y5,st5,fr5⟩=>?_)
   have I5':=I5.pinned (stat fr5) (T.obj _ _ st5)
   refine wpAny_bind (wpAny_mono (hg _ _ _ _ _ _ s5 σ3 H5 x u _ I5' r5 (step x H5 y5)) (fun _ s6 ⟨σ6,H6,I6,q6⟩=>?_) fun _ _ z=>z.elim)
   refine wpAny_bind (wpAny_mono (ht _ _ _ _ _ _ s6 σ6 H6 _ I6 q6) (fun b s7 ⟨H7,I7,q7⟩=>?_) fun _ _ z=>z.elim)
   -- the iterator stands as it stood
   have back:∀ {σ8:St} {H8:Hp} {s8:Shared},Inv (blk X (blkN X own fr) scope (cloOf X.env scope.names []) C fp s H) ([(l,lobj its k)]++pinsAt fp s5.heap) σ8 H8 s8→(∀ b∈fp,∀ o,s5.heap.get? b=some o→s8.heap.get? b=some o)∧∀ b∈fp,H8 b=none:=fun I8=>by
    refine ⟨fun b hb o e=>(I8.pin (b,o) (List.mem_append_right _ (List.mem_append_right _ (mem_pinsAt hb e)))).1,fun b hb=>?_⟩
    obtain ⟨o,e,_⟩:=T.obj _ _ st5 b hb
    exact (I8.pin (b,o) (List.mem_append_right _ (List.mem_append_right _ (mem_pinsAt hb e)))).2.1
   cases b with
   | false=>
    obtain ⟨k1,k2⟩:=back I7
    simp only [Bool.false_eq_true,if_false] at q7 ⊢
    obtain ⟨m',hm',w7⟩:=hN _ _ _ q7
    exact wpAny_pure ⟨rfl,m',hm',i+1,ys,σ6,H7,its,k,I7.unpinned,rv,hz,T.keep _ _ _ st5 k1,k2,w7⟩
   | true=>
    simp only [if_true] at q7 ⊢
    refine wpAny_bind (wpAny_bind (wpAny_mono (he _ _ _ _ _ _ s7 σ6 H7 _ I7 q7) (fun w s8 ⟨y,H8,I8,r8,q8⟩=>?_) fun _ _ z=>z.elim))
    obtain ⟨k1,k2⟩:=back I8
    obtain ⟨m',hm',w8⟩:=hN _ _ _ q8
    have pin:=I8.pin (l,lobj its k) (List.mem_append_right _ (List.mem_append_left _ List.mem_cons_self))
    have hil:its.length=ys.length:=rv.length.symm
    refine wpAny_bind (append_at pin.1 (fun h9 hs9 hD9=>?_) (by rw [List.size_toArray,hil];exact hz))
    have new:h9.get? l=some (lobj (its++[w]) (k+1)):=by rw [hD9,List.push_toArray]
    have Ia:Inv (blk X (blkN X own fr) scope (cloOf X.env scope.names []) C fp s H) [] σ6 H8 s8:=I8.pins_of (fun p hp=>nomatch hp)
    have Ib:Inv (blk X (blkN X own fr) scope (cloOf X.env scope.names []) C fp s H) [] σ6 H8 { s8 with heap:=h9 }:=Ia.turned (t':=s8.toks) (fun b o hb e=>hs9.extBut b o hb e) pin.2.1 pin.2.2.1 (.inr (Nat.le_of_eq hl)) (fun x c e z=>by
     obtain ⟨v,o,ho,hd⟩:=I8.cell x c e
     rw [z,pin.1] at ho
     cases ho
     cases hd) (fun p hp=>by
      have hp:p∈([]:List (Addr×Obj)):=by simpa [blk] using hp
      cases hp)
    have Ic:Inv (blk X (blkN X own fr) scope (cloOf X.env scope.names []) C fp s H) [(l,lobj (its++[w]) (k+1))] σ6 H8 { s8 with heap:=h9 }:=Ib.pins_of fun p hp=>by
     obtain rfl:=List.mem_singleton.mp hp
     exact ⟨new,pin.2.1,pin.2.2.1,pin.2.2.2.1,fun v e=>by cases e⟩
    refine wpAny_pure (wpAny_pure ⟨rfl,m',hm',i+1,ys++[y],σ6,H8,its++[w],k+1,Ic,rv.append (.cons r8 .nil),by rw [List.length_append];exact hlt,T.keep _ _ _ st5 fun b hb o e=>?_,k2,w8⟩)
    exact hs9.extBut b o (Nat.ne_of_lt (hfo b hb)) (k1 b hb o e)
 exact codeAny_compStart_list loop (T.self _ 0 _ _ _ st1 loop)
theorem Inv.letgo {s2 s4:Shared} {H2 H4:Hp} {C:Addr} {h':Heap} (I2:Inv X pins σ H2 s2) {σ4:St} (I4:Inv X pins σ4 H4 s4) (hC:s2.heap.objs.size≤C) (hn:H4 C=none) (hs:Heap.SameBut C s4.heap h'):Inv X pins σ4 H4 { s4 with heap:=h' }:=by
 obtain ⟨f0,f1,_,f3,f4,f5⟩:=I2.fpOk hC hn
 exact I4.turned (t':=s4.toks) (fun b o hb e=>hs.extBut b o hb e) f0 f1 f3 f4 f5
theorem pe_comp {elt iter tg:Expr} {ifs:List Expr} {pos:Pos} {g:TG} {tc:TT} {te:TE} {wi:TI} (own:List Str) (fr:List Nat) (hc:X.calm=true) (B:BlkScope X own fr scope) (hi:PI X tg iter wi)
  (hg:∀ cl C fp s2 H2,PG (blk X (blkN X own fr) scope cl C fp s2 H2) tg g) (ht:∀ cl C fp s2 H2,PIf (blk X (blkN X own fr) scope cl C fp s2 H2) ifs tc) (he:∀ cl C fp s2 H2,PE (blk X (blkN X own fr) scope cl C fp s2 H2) elt te)
  (hs:∀ x,foldedSetIterable iter X.env x=pure x:=by intro _;rfl):PE X (.ListComp elt [⟨tg,iter,ifs,0⟩] scope pos) (tComp own fr wi g tc te):=by
 intro pins s σ H Q I h
 rw [eval_ListComp]
 refine wpAny_comprehension_free (use:=none) rfl hs (clo_eq fun z hz e=>I.ok.has _ (B.free z hz e)) B.kind B.names ?_
 refine thn (hi pins s σ H _ I h) fun v s1 h1=>thn h1 fun itv s2 h2=>?_
 obtain ⟨it,fp,tn,J,H2,e,I2,T,st2,f2,W,⟨m0,w0⟩,hW⟩:=h2
 subst e
 refine comp_core hc B hg ht he I2 T st2 f2 w0 hW fun l C s4 ys H' m hC nC nl hlC hm I4 fin=>?_
 exact ⟨m,hm,fun h' hs'=>⟨.ref l,_,I2.letgo I4 hC (by rw [upd_ne (Ne.symm hlC)];exact nC) hs',rfl,fin l nl⟩⟩
theorem ps_setC {elt iter tg:Expr} {ifs:List Expr} {pos pos' cpos:Pos} {g:TG} {tc:TT} {te:TE} {wi:TI} {i:Nat} {x:Str} (own:List Str) (fr:List Nat) (hN:X.N.Nodup) (hxi:X.N[i]?=some x) (hx:X.env.scope.names.lookup x=some .local) (hc:X.calm=true) (B:BlkScope X own fr scope) (hi:PI X tg iter wi)
  (hg:∀ cl C fp s2 H2,PG (blk X (blkN X own fr) scope cl C fp s2 H2) tg g) (ht:∀ cl C fp s2 H2,PIf (blk X (blkN X own fr) scope cl C fp s2 H2) ifs tc) (he:∀ cl C fp s2 H2,PE (blk X (blkN X own fr) scope cl C fp s2 H2) elt te)
  (hsw:swapsWith (.ListComp elt [⟨tg,iter,ifs,0⟩] scope cpos) (some (.Name x pos')) pos.line X.env=pure true:=by rfl)
  (hs:∀ x,foldedSetIterable iter X.env x=pure x:=by intro _;rfl):PS X (.Assign [.Name x pos'] (.ListComp elt [⟨tg,iter,ifs,0⟩] scope cpos) pos) (tAsg (tComp own fr wi g tc te) (gName i)):=by
 intro pins s σ H D I h
 rw [exec_Assign_Name_used _ _ _ _ hsw]
 refine wpAny_bind (wpAny_standAt (wpAny_bind ?_))
 show wpAny _ X.A (do let _←comprehension (.ListComp elt [⟨tg,iter,ifs,0⟩] scope cpos) scope X.env _ (newList []) false (eval iter X.env) (some (assign (.Name x pos') X.env))) _ _ s
 refine wpAny_bind (wpAny_mono (wpAny_comprehension_free (use:=some (assign (.Name x pos') X.env)) (Q:=fun _ s'=>SP X pins D .next s') rfl hs (clo_eq fun z hz e=>I.ok.has _ (B.free z hz e)) B.kind B.names ?_) (fun _ s' hq=>wpAny_pure (wpAny_pure hq)) fun _ _ e=>e)
 refine thn (hi pins s σ H _ I h) fun v s1 h1=>thn h1 fun itv s2 h2=>?_
 obtain ⟨it,fp,tn,J,H2,e,I2,T,st2,f2,W,⟨m0,w0⟩,hW⟩:=h2
 subst e
 refine comp_core (RR:=fun acc C=>compPost (model X.prog X.w) X.A X.xe (some (assign (.Name x pos') X.env)) (fun _ s'=>SP X pins D .next s') acc C) hc B hg ht he I2 T st2 f2 w0 hW fun l C s4 ys H' m hC nC nl hlC hm I4 fin=>?_
 show wpAny _ X.A (assign (.Name x pos') X.env (.ref l)) _ _ s4
 refine wpAny_assign_Name (store_ok2 I4 hN hxi (.inl hx) (v:=.ref l) rfl (fun s5 I5 hsb=>?_) (.inr hx))
 obtain ⟨a,sb,ha⟩:=hsb
 have hCa:C≠a:=by
  rcases ha with rfl | ha
  ·exact Nat.ne_of_gt (Nat.lt_of_lt_of_le I2.lt hC)
  ·obtain ⟨v,q⟩:=I2.cell x a ha
   exact Nat.ne_of_gt (Nat.lt_of_lt_of_le q.lt hC)
 exact ⟨m,hm.sameBut sb hCa,fun h' hs'=>⟨_,_,I2.letgo I5 hC (by rw [upd_ne (Ne.symm hlC)];exact nC) hs',fin l nl⟩⟩
end
end L2
namespace L2
open PySem PySem.Spec PyProof.Rows
mutual
noncomputable def DV (K:PySem.W.Frag) (H:Hp):PyData→V→Prop
 | .none,v=>v=.non
 | .bool b,v=>v=.bl b
 | .int i,v=>v=.int i
 | .str x,v=>v=.str x
 | .list ds,v=>∃ a xs,v=.ref a∧SqL K H a xs∧DVs K H ds xs
 | .tuple ds,v=>∃ a xs,v=.ref a∧SqT K H a xs∧DVs K H ds xs
 | .dict _,_=>False
noncomputable def DVs (K:PySem.W.Frag) (H:Hp):List PyData→List V→Prop
 | [],xs=>xs=[]
 | d::ds,xs=>∃ x r,xs=x::r∧DV K H d x∧DVs K H ds r
end
section
variable {X:Cx} {pins:List (Addr×Obj)} {σ:St} {H:Hp} {s:Shared}
mutual
theorem DV.reads (I:Inv X pins σ H s):∀ {d:PyData} {v:V} {u:Value},DV X.K H d v→RelV v u→∃ as,Reads s.heap u d as
 | .none,v,u,h,r=>by
  have h:v=.non:=by simpa [DV] using h
  subst h;cases r;exact ⟨_,Reads.none⟩
 | .bool b,v,u,h,r=>by
  have h:v=.bl b:=by simpa [DV] using h
  subst h;cases r;exact ⟨_,Reads.bool b⟩
 | .int i,v,u,h,r=>by
  have h:v=.int i:=by simpa [DV] using h
  subst h;obtain ⟨t,rfl⟩:=r;exact ⟨_,Reads.int i t⟩
 | .str x,v,u,h,r=>by
  have h:v=.str x:=by simpa [DV] using h
  subst h;obtain ⟨t,rfl⟩:=r;exact ⟨_,Reads.str x t⟩
 | .list ds,v,u,h,r=>by
  have h:∃ a xs,v=.ref a∧SqL X.K H a xs∧DVs X.K H ds xs:=by simpa [DV] using h
  obtain ⟨a,xs,rfl,hq,hd⟩:=h
  cases r
  obtain ⟨its,rv,pl,_⟩:=I.list hq
  obtain ⟨as,ra⟩:=DVs.reads I hd rv
  obtain ⟨o,ho,hc,n,hdd⟩:=pl.isList
  exact ⟨_,reads_list_at ho hc hdd (by simpa using ra)⟩
 | .tuple ds,v,u,h,r=>by
  have h:∃ a xs,v=.ref a∧SqT X.K H a xs∧DVs X.K H ds xs:=by simpa [DV] using h
  obtain ⟨a,xs,rfl,hq,hd⟩:=h
  cases r
  obtain ⟨its,rv,pl,_⟩:=I.tuple hq
  obtain ⟨as,ra⟩:=DVs.reads I hd rv
  obtain ⟨o,ho,hc,n,hdd⟩:=pl
  exact ⟨_,reads_tuple_at ho hc hdd (by simpa using ra)⟩
 | .dict _,v,u,h,r=>by simp [DV] at h
theorem DVs.reads (I:Inv X pins σ H s):∀ {ds:List PyData} {vs:List V} {us:List Value},DVs X.K H ds vs→Vals vs us→∃ as,ReadsAll s.heap us ds as
 | [],vs,us,h,r=>by
  have h:vs=[]:=by simpa [DVs] using h
  subst h;cases r;exact ⟨_,ReadsAll.nil⟩
 | d::ds,vs,us,h,r=>by
  have h:∃ x r,vs=x::r∧DV X.K H d x∧DVs X.K H ds r:=by simpa [DVs] using h
  obtain ⟨x,rr,rfl,h1,h2⟩:=h
  cases r with
  | cons r1 r2=>
   obtain ⟨as,ra⟩:=DV.reads I h1 r1
   obtain ⟨bs,rb⟩:=DVs.reads I h2 r2
   exact ⟨_,ReadsAll.cons ra rb⟩
end
noncomputable def rEqD (K:PySem.W.Frag):R2:=fun x y H Q=>∃ d e,DV K H d x∧DV K H e y∧SeqAt.shaped d=true∧SeqAt.shaped e=true∧Q (.bl (PyData.eqv d e)) H
noncomputable def rNeD (K:PySem.W.Frag):R2:=fun x y H Q=>∃ d e,DV K H d x∧DV K H e y∧SeqAt.shaped d=true∧SeqAt.shaped e=true∧Q (.bl (!PyData.eqv d e)) H
theorem op_eqD (hu:X.A.units+64 < cLine):OpR X (compareOp .Eq) (rEqD X.K):=by
 intro pins s σ H x y v u Q I rx ry h
 obtain ⟨d,e,hd,he,sd,se,q⟩:=h
 obtain ⟨as,ra⟩:=DV.reads I hd rx
 obtain ⟨bs,rb⟩:=DV.reads I he ry
 exact eq_dataH ra rb sd se hu ⟨.bl _,H,I,rfl,q⟩
theorem op_neD (hu:X.A.units+64 < cLine):OpR X (compareOp .NotEq) (rNeD X.K):=by
 intro pins s σ H x y v u Q I rx ry h
 obtain ⟨d,e,hd,he,sd,se,q⟩:=h
 obtain ⟨as,ra⟩:=DV.reads I hd rx
 obtain ⟨bs,rb⟩:=DV.reads I he ry
 exact ne_dataH ra rb sd se hu ⟨.bl _,H,I,rfl,q⟩
theorem call_isi:CallR X (.builtin "isinstance") (fun vs H Q=>∃ x n t b,vs=[x,.ty n]∧TyOf X.K H x t∧PySem.W.kitOne X.K t (.type n)=some b∧Q (.bl b) H):=by
 intro pins s σ H xs us Q I r h
 obtain ⟨x,n,t,b,rfl,ty,e,q⟩:=h
 obtain ⟨u,w,rfl,rx,rn⟩:=vals2 r
 cases rn
 exact isinst_ok I rx ty e fun tk=>⟨.bl b,H,I.tok tk,rfl,q⟩
end
end L2
set_option maxHeartbeats 4000000
namespace L2
open PySem PySem.Spec PyProof.Rows
section
variable {X:Cx}
theorem ints_items:∀ {ns:List Int} {its:List Value},Vals (ns.map V.int) its→∃ xs:List (Int×Tok),its=xs.map (fun p=>Value.int p.1 p.2)∧ns=xs.map (·.1)
 | [],_,.nil=>⟨[],rfl,rfl⟩
 | n::ns,_,.cons r t=>by
  obtain ⟨xs,rfl,rfl⟩:=ints_items t
  obtain ⟨k,rfl⟩:=r
  exact ⟨(n,k)::xs,rfl,rfl⟩
theorem call_sumI (hc:X.calm=true):CallR X (.builtin "sum") (fun vs H Q=>∃ (p:Addr) (ns:List Int),vs=[.ref p]∧SqL X.K H p (ns.map V.int)∧Q (.int ns.sum) H):=by
 intro pins s σ H xs us Q I r h
 obtain ⟨p,ns,rfl,hq,q⟩:=h
 obtain ⟨u,rfl,rx⟩:=vals1 r
 cases rx
 obtain ⟨its,rv,pl,hz⟩:=I.list hq
 obtain ⟨zs,rfl,rfl⟩:=ints_items rv
 have hl:s.heap.IsList p (intItems zs.toArray):=by
  have e:(zs.map fun p=>Value.int p.1 p.2).toArray=intItems zs.toArray:=by simp [intItems]
  rw [←e]
  exact pl.isList
 refine sum_intListG (I.ok.hd hc) hl fun h' tk t' hk=>?_
 refine ⟨.int _,H,I.kept (t':=tk) hk,⟨t',?_⟩,q⟩
 rw [preSum_eq,List.take_of_length_le (by simp)]
end
end L2
namespace L2
open PySem PySem.Spec PyProof.Rows
section
variable {κ:Type} [DecidableEq κ]
end
section
variable {P:Program} {w:World} {H:Hp} {h:Heap} {a:Addr}
end
section
variable {X:Cx} {pins:List (Addr×Obj)} {σ:St} {H:Hp} {s:Shared} {a:Addr} {y v:V} {u r:Value} {o:Option V} {A:Around} {E:Value→Shared→Prop}
end
section
variable {X:Cx} {pins:List (Addr×Obj)} {σ:St} {H:Hp} {s:Shared} {a:Addr} {kvs:List (Key×V)} {k:Key} {u:Value} {A:Around} {E:Value→Shared→Prop}
end
section
variable {X:Cx} {o i e value:Expr} {pos pos' tpos:Pos} {td ty tv:TE}
end
section
variable {X:Cx} {pos:Pos}
end
section
variable {X:Cx} {pins:List (Addr×Obj)} {σ:St} {H:Hp} {s:Shared} {a:Addr} {y d:V} {u r:Value} {o:Option V} {A:Around} {E:Value→Shared→Prop}
end
section
variable {X:Cx} {o e f:Expr} {apos cpos:Pos} {td ty tx:TE}
end
section
variable {X:Cx} {pins:List (Addr×Obj)} {σ:St} {H:Hp} {s:Shared} {a:Addr} {kvs:List (Key×V)} {A:Around} {E:Value→Shared→Prop}
end
section
variable {X:Cx} {pins:List (Addr×Obj)} {σ:St} {H:Hp} {s:Shared} {a:Addr} {y:V} {u:Value} {A:Around} {E:Value→Shared→Prop}
end
end L2
namespace L2
open PySem PySem.Spec PyProof.Rows
section
variable {X:Cx}
end
end L2
set_option maxHeartbeats 4000000
namespace L2
open PySem PySem.Spec PyProof.Rows
noncomputable def blkCheck (osc:Scope) (N:List Str) (fr:List Nat) (sc:Scope):Bool:=
 sc.kind == .function&&(sc.names.all fun x=>x.2 != .cell&&(x.2 != .local||sc.names.lookup x.1 == some .local)&&(x.2 != .free||(osc.names.lookup x.1 == some .cell||osc.names.lookup x.1 == some .free)))&&fr.all fun i=>sc.names.lookup (N.getD i "") == some .free
theorem Same.upd {H:Hp} {a:Addr} {o:HO} (h:H a=none):Same H (upd H a o):=fun b u e=>by
 rw [upd_ne (ne_of_none e h)]
 exact e
end L2
namespace L2
open PySem
end L2
set_option maxHeartbeats 4000000
namespace TS
open PySem PyProof.Rows
noncomputable def iO:KeyOrd where
 α:=Int
 blt p q:=decide (p < q)
 irrefl a:=by simp
 trans a b c h1 h2:=by
  simp at h1 h2 ⊢
  omega
 negTrans a b c h:=by
  simp at h ⊢
  omega
 total a b h1 h2:=by
  simp at h1 h2
  omega
section
variable {prog:Program} {w:World} {A:Around} {E:Value→Shared→Prop} {s:Shared}
end
end TS
namespace L2
open PySem PySem.Spec PyProof.Rows
section
variable {X:Cx}
end
end L2
set_option maxHeartbeats 4000000
namespace L2
open PySem PySem.Spec PyProof.Rows PySem.W
section
variable {M:Model} {A:Around} {E:Value→Shared→Prop} {s:Shared} {base:Heap} {env:Env} {outer:List Env} {L e:Addr} {oe:Obj} {vs:Array Value} {Q:Unit→Shared→Prop}
end
end L2
set_option maxHeartbeats 4000000
namespace L2
open PySem PySem.Spec PyProof.Rows PySem.W
theorem obj_some {P:Program} {w:World} {H:Hp} {h:Heap} {a:Addr} {o:HO} (x:ObjOk P w H h a o):∃ ob,h.get? a=some ob:=by
 cases o with
 | lst xs=>obtain ⟨z,its,n,r,e⟩:=x;exact ⟨_,e⟩
 | tup xs=>obtain ⟨z,its,r,ob,e,c⟩:=x;exact ⟨_,e⟩
 | dK kvs=>obtain ⟨z,y,vs,r,ob,es,ep,e,c⟩:=x;exact ⟨_,e⟩
 | dT kvs=>obtain ⟨z,y,xs,r,ob,es,ep,e,c⟩:=x;exact ⟨_,e⟩
 | set S n=>obtain ⟨ob,es,ep,t,e,c⟩:=x;exact ⟨_,e⟩
 | ins C dx fs=>obtain ⟨d,z,ne,e,_⟩:=x;exact ⟨_,e⟩
 | own y=>obtain ⟨ob,e⟩:=x;exact ⟨_,e⟩
 | xd fs=>obtain ⟨mA,⟨od,es,ep,e,c⟩,r⟩:=x;exact ⟨_,e⟩
 | rng lo hi=>obtain ⟨t,u,v,e⟩:=x;exact ⟨_,e⟩
 | frz ob u=>obtain ⟨e,q⟩:=x;exact ⟨_,e⟩
 | tbl ps=>exact ⟨_,x⟩
 | met f y=>exact ⟨_,x⟩
 | ext φ=>obtain ⟨p,⟨o,e⟩,st⟩:=x;exact ⟨_,e⟩
section
variable {X:Cx} {pins:List (Addr×Obj)} {σ:St} {H:Hp} {s:Shared}
variable {x T':Addr} {oT:Option Addr} {oe:Obj} {vs:Array Value} {h':Heap}
theorem Inv.newH {x:Addr} (I:Inv X pins σ H s) (h:s.heap.get? x=none):H x=none:=by
 cases e:H x with
 | none=>rfl
 | some u=>
  obtain ⟨o,q⟩:=obj_some (I.hok x u e)
  rw [h] at q
  cases q
end
end L2
set_option maxHeartbeats 4000000
namespace L2
open PySem PySem.Spec PyProof.Rows PySem.W
section
variable {X:Cx} {pins:List (Addr×Obj)} {σ:St} {H:Hp} {s:Shared}
end
section
variable {P:Program} {w:World} {K:Frag} {mg:Str→Option Value} {base:Heap} {N:List Str} {qual:Str} {scope:Scope} {f:Addr} {cd:Value} {A:Around} {outer:List Env} {s:Shared} {H:Hp} {E:XK}
end
section
variable {X:Cx} {E:XK} {n:Str} {C:Addr} {bB:List Value} {B nid iid:String} {e0:Expr} {es:List Expr} {t:TA} {np cpos pos:Pos}
end
end L2
set_option maxHeartbeats 4000000
namespace L2
open PySem PySem.Spec PyProof.Rows PySem.W
section
variable {X:Cx} {pins:List (Addr×Obj)} {σ:St} {H:Hp} {s:Shared} {x C:Addr} {oT:Option Addr}
end
section
variable {X:Cx} {pins:List (Addr×Obj)} {σ:St} {H:Hp} {s:Shared} {e:Value}
end
end L2
set_option maxHeartbeats 4000000
namespace L2
open PySem PySem.Spec PyProof.Rows PySem.W
section
variable {X:Cx} {pins:List (Addr×Obj)} {σ:St} {H:Hp} {s:Shared}
variable {x T C:Addr} {h:Heap}
variable {c n:Str} {Dc:Addr} {cp hpos:Pos} {b0:Stmt} {suite:List Stmt} {rest:List ExceptHandler} {i:Nat} {D:Ends} {E:Value→Shared→Prop}
end
section
variable {X:Cx} {e:Expr} {t:XK→TE} {c n:Str} {Dc:Addr} {cp hpos ep pos:Pos} {b0:Stmt} {suite:List Stmt} {i:Nat} {th:TS}
end
end L2
set_option maxHeartbeats 4000000
namespace L2
open PySem PySem.Spec PyProof.Rows PySem.W
section
variable {prog:Program} {w:World} {A:Around} {E:Value→Shared→Prop} {s:Shared} {K:Frag} {x C:Addr} {ox:Obj}
end
section
variable {X:Cx}
end
end L2
set_option maxHeartbeats 4000000
namespace L2
open PySem PySem.Spec PyProof.Rows PySem.W
noncomputable def Its (x:Str):It:=⟨fun i _=>i < x.cps.size,fun i H v H'=>H'=H∧∃ c,x.cps[i]?=some c∧v=.str ⟨#[c]⟩,fun i _=>i=x.cps.size⟩
theorem turn_str {P:Program} {w:World} {K:Frag} {tg:Expr} {x:Str} {t:Tok} {it:Addr} {T:String} (hT:T = "str_ascii_iterator"∨T = "str_iterator") (W:∀ A':Around,A'.handled=none→Walks P w A' it [it] [it] x.cps.size (SignAt x) (fun i h=>h.IsStrIter it T x t i)) :
  Turn P w K tg (Its x) [it] it (fun i h=>h.IsStrIter it T x t i) where
 mem:=by simp
 obj:=fun i h st b hb=>by
  have e:b=it:=by simpa using hb
  subst e
  obtain ⟨o,e,c,d⟩:=st
  exact ⟨o,e,fun v z=>by rw [d] at z;cases z⟩
 keep:=fun i h h' st k=>let ⟨o,e,r⟩:=st;⟨o,k it (by simp) o e,r⟩
 item:=by
  intro X hP hw hK hc i pins s σ H E I hf st hg
  subst hP hw hK
  obtain ⟨f0,f1,f2,f3,f4,f5⟩:=hf it (by simp)
  refine (W X.A (I.ok.hd hc)).item i s _ _ hg st fun v h' tk hv st' kk=>?_
  obtain ⟨c,u,hcx,rfl⟩:=hv
  have I1:Inv X pins σ H { s with heap:=h',toks:=tk }:=I.turned (fun b o hb e=>kk b o (by simpa using hb) e) f0 f1 f3 f4 f5
  obtain ⟨o,e1,e2,e3⟩:=id st'
  refine ⟨_,rfl,go_of (s:={ s with heap:=h',toks:=tk }) e1 e2 e3 (by rcases hT with z | z<;>(rw [z];decide)) ⟨.str ⟨#[c]⟩,H,I1,⟨u,rfl⟩,⟨rfl,c,hcx,rfl⟩,st',fun b hb=>(hf b hb).1⟩⟩
 done:=by
  intro X hP hw hK hc i pins s σ H E I hf st hg
  subst hP hw hK
  obtain rfl:i=x.cps.size:=hg
  obtain ⟨f0,f1,f2,f3,f4,f5⟩:=hf it (by simp)
  exact (W X.A (I.ok.hd hc)).done s _ _ st fun h' tk kk=>⟨rfl,I.turned (fun b o hb e=>kk b o (by simpa using hb) e) f0 f1 f3 f4 f5⟩
 self:=fun A i s Q E st h=>by
  rcases hT with z | z
  ·subst z
   exact wpAny_pyIter_striter_ascii st h
  ·subst z
   exact wpAny_pyIter_striter_wide st h
section
variable {X:Cx} {tg:Expr}
end
end L2
set_option maxHeartbeats 4000000
namespace L2
open PySem PySem.Spec PyProof.Rows PySem.W
structure ClsFn (K:Frag) (C:Addr) (m:Str) (f:Addr):Prop where
 reads:readsIn K C (.type "type")=true
 sp:specialIn K (.ref C) "__getattribute__" = some (some (.builtin "type.__getattribute__"))
 at_:findCls K (.ref C) (.type "type") m=some (.val (.ref f))
 kp:keepIn K (.ref f)=true
section
variable {X:Cx} {CX:CXT} {k:Nat} {f C:Addr} {fd:FuncData} {ps:List Str} {sp:Sp} {dvs:List V} {ds:List Value} {E:XK} {x m:Str} {p pos apos:Pos} {e:Expr} {es:List Expr} {t:TA}
theorem pe_clsfn {pl:Sem Bool} (hC:ClsFn X.K C m f) (F:FnOk X.prog X.w X.K X.mg X.base CX k f fd ps sp) (hr:Room k X.A) (hg:Gl X x) (hm:X.mg x=some (.ref C)) (hb:Binds X.K fd ps ds) (hd:Vals dvs ds) (hx:Passes CX X E) (ha:PA X (e::es) t)
  (hdb:(x == ("__debug__" : Str))=false:=by decide) (hst:starEach (e::es) X.env=(false,eval e X.env)::starEach es X.env:=by rfl) (hpl:(backTo pos (starEach es X.env)).any (·.1)=false:=by rfl)
  (ht:eval (.Call (.Attribute (.Name x p) m apos) (e::es) [] pos) X.env=(do
   let ov←eval (.Name x p) X.env
   standAt apos.atName
   let (f,first)←holding [ov] (getMethod ov m pl)
   callWith pos f first (backTo pos (starEach (e::es) X.env)) (backToKw pos (keywordEach [] X.env))):=by rfl) :
  PE X (.Call (.Attribute (.Name x p) m apos) (e::es) [] pos) (tCall sp dvs E t):=by
 intro pins s σ H Q I h
 refine PySem.W.methodCall_KW (pl:=pl) (ld_glob I hg hm ?_ hdb) ht
 refine method_cls I.kIn hC.sp (cls_value I.kIn hC.reads hC.at_ rfl ?_)
 have I1:=I.tok (s.toks+1)
 refine PySem.W.callWith_K (first:=[]) (h₀:=X.base) I.ok.mod.kin hC.kp (thn (ha pos pins _ σ H _ I1 h) fun us s2 z=>?_) hst hpl
 obtain ⟨vs,H2,I2,r,q⟩:=z
 exact ⟨I2.kIn,run_fn F hr hb hd hx I2 r q⟩
end
end L2
set_option maxHeartbeats 4000000
namespace L2
open PySem PySem.Spec PyProof.Rows PySem.W
noncomputable def Itz (K:Frag) (a b:Addr):It:=
 ⟨fun i H=>∃ xs ys x y,SqL K H a xs∧SqL K H b ys∧xs[i]?=some x∧ys[i]?=some y,
  fun i H v H'=>∃ T x y,v=.ref T∧H T=none∧H'=upd H T (.tup [x,y])∧∀ xs ys,SqL K H a xs→SqL K H b ys→xs[i]?=some x∧ys[i]?=some y,
  fun i H=>∃ xs ys,SqL K H a xs∧SqL K H b ys∧(xs.length≤i∨ys.length≤i)⟩
noncomputable def ZSt (z TI TO i1 i2 a b:Addr) (i:Nat) (h:Heap):Prop:=IsZip h z TI TO .none∧IsPair h TI (.ref i1) (.ref i2)∧(∃ u v,IsPair h TO u v)∧h.IsListIter i1 a i∧h.IsListIter i2 b i
theorem Inv.turnedAll {X:Cx} {pins:List (Addr×Obj)} {σ:St} {H:Hp} {s:Shared} {h':Heap} {t':Nat} {ch:List Addr} (I:Inv X pins σ H s) (k:∀ b o,b∉ch→s.heap.get? b=some o→h'.get? b=some o) (hf:∀ b∈ch,FpOk X pins H b):Inv X pins σ H { s with heap:=h',toks:=t' }:=by
 have nch:∀ {b:Addr} {u:HO},H b=some u→b∉ch:=fun {b u} e z=>by rw [(hf b z).1] at e;cases e
 refine I.step (g':=s.gens) (d':=s.drawn) (ch:=ch) (fun b hb=>?_) (fun b o _ _ hc e _=>k b o hc e) (fun b o _ _ hc e _=>⟨o.slots,k b o hc e⟩) (fun _ _ _ _ n=>n) (fun b o hc e=>⟨o,k b o hc e⟩) (fun _ _ e=>e) (fun _ _ _ e=>e) (fun b ps e=>⟨#[],by rw [e];simp⟩) (fun m hm=>?_) (fun b u e=>?_) I.bare
 ·obtain ⟨f0,f1,f2,f3,f4,f5⟩:=hf b hb
  exact ⟨f3,f1,f4,f5⟩
 ·obtain ⟨o,es,ep,ho,r⟩:=hm
  exact ⟨o,es,ep,k _ o (fun z=>(hf _ z).2.1 rfl) ho,r⟩
 ·refine (I.hok b u e).stay (fun c v hc q=>k c v ?_ q) (fun _ q=>q) fun _ _ q=>q
  rcases hc with z | z
  ·rw [z];exact nch e
  ·exact nch z
theorem Inv.turnedNew {X:Cx} {pins:List (Addr×Obj)} {σ:St} {H:Hp} {s:Shared} {h':Heap} {t':Nat} {ch:List Addr} {T:Addr} {ob:HO} (I:Inv X pins σ H s) (k:∀ b o,b∉ch→s.heap.get? b=some o→h'.get? b=some o) (hf:∀ b∈ch,FpOk X pins H b)
  (hT:s.heap.get? T=none) (new:ObjOk X.prog X.w (upd H T ob) h' T ob):Inv X pins σ (upd H T ob) { s with heap:=h',toks:=t' }:=by
 have hH:H T=none:=I.newH hT
 have nch:∀ {b:Addr} {u:HO},H b=some u→b∉ch:=fun {b u} e z=>by rw [(hf b z).1] at e;cases e
 have nT:∀ {b:Addr} {u:HO},H b=some u→b≠T:=fun {b u} e z=>by rw [z,hH] at e;cases e
 have up:∀ {b:Addr} {u:HO},H b=some u→upd H T ob b=some u:=fun {b u} e=>by rw [upd_ne (nT e)];exact e
 refine I.step (g':=s.gens) (d':=s.drawn) (ch:=ch) (fun b hb=>?_) (fun b o _ _ hc e _=>k b o hc e) (fun b o _ _ hc e _=>⟨o.slots,k b o hc e⟩) (fun b o _ e n=>?_) (fun b o hc e=>⟨o,k b o hc e⟩) (fun _ _ e=>up e) (fun _ _ _ e=>up e) (fun b ps e=>⟨#[],by rw [up e];simp⟩) (fun m hm=>?_) (fun b u e=>?_) I.bare
 ·obtain ⟨f0,f1,f2,f3,f4,f5⟩:=hf b hb
  exact ⟨f3,f1,f4,f5⟩
 ·rw [upd_ne (fun z=>by rw [z,hT] at e;cases e)]
  exact n
 ·obtain ⟨o,es,ep,ho,r⟩:=hm
  exact ⟨o,es,ep,k _ o (fun z=>(hf _ z).2.1 rfl) ho,r⟩
 ·by_cases hb:b=T
  ·subst hb
   rw [upd_same] at e
   cases e
   exact new
  ·rw [upd_ne hb] at e
   refine (I.hok b u e).stay (fun c v hc q=>k c v ?_ q) (fun _ q=>up q) fun _ _ q=>up q
   rcases hc with z | z
   ·rw [z];exact nch e
   ·exact nch z
theorem turn_zip {P:Program} {w:World} {K:Frag} {elts:List Expr} {kk:Nat} {pos:Pos} {z TI TO i1 i2 a b:Addr} (D:ZipApart z TI TO i1 i2 a b) :
  Turn P w K (.Tuple elts kk pos) (Itz K a b) [z,TI,TO,i1,i2] z (ZSt z TI TO i1 i2 a b) where
 mem:=by simp
 obj:=fun i h st c hc=>by
  obtain ⟨s1,s2,⟨u,v,s3⟩,⟨o4,s4,_,d4⟩,⟨o5,s5,_,d5⟩⟩:=st
  simp at hc
  rcases hc with rfl | rfl | rfl | rfl | rfl
  ·exact ⟨_,s1,fun v q=>by cases q⟩
  ·exact ⟨_,s2,fun v q=>by cases q⟩
  ·exact ⟨_,s3,fun v q=>by cases q⟩
  ·exact ⟨_,s4,fun v q=>by rw [d4] at q;cases q⟩
  ·exact ⟨_,s5,fun v q=>by rw [d5] at q;cases q⟩
 keep:=fun i h h' st k=>by
  obtain ⟨s1,s2,⟨u,v,s3⟩,s4,s5⟩:=st
  exact ⟨k z (by simp) _ s1,k TI (by simp) _ s2,⟨u,v,k TO (by simp) _ s3⟩,s4.at fun o e=>k i1 (by simp) o e,s5.at fun o e=>k i2 (by simp) o e⟩
 item:=by
  intro X hP hw hK hc i pins s σ H E I hf st hg
  subst hP hw hK
  obtain ⟨xs,ys,x,y,qa,qb,hx,hy⟩:=hg
  obtain ⟨s1,s2,⟨u,v,s3⟩,s4,s5⟩:=st
  obtain ⟨ia,ra,pa,za⟩:=I.list qa
  obtain ⟨ib,rb,pb,zb⟩:=I.list qb
  obtain ⟨ux,ex,rx⟩:=ra.get hx
  obtain ⟨uy,ey,ry⟩:=rb.get hy
  refine wpAny_pyNext_zip_item D s1 s2 s3 s4 s5 pa.isList pb.isList (x:=ux) (y:=uy) (by simpa using ex) (by simpa using ey) fun h' a1 a2 a3 a4 a5 a6 kp=>?_
  refine ⟨_,rfl,wpAny_letOwnedTupleGo_zip (s:={ s with heap:=h' }) a1 fun h2 b1 b2=>?_⟩
  have two:(2:Nat)≤sizeLine:=Nat.le_of_lt (small1000 (by decide))
  have kp2:∀ c o,c∉[z,TI,TO,i1,i2]→s.heap.get? c=some o→h2.get? c=some o:=fun c o hc e=>by
   simp at hc
   exact b2.extBut c o hc.1 (kp c o hc.1 hc.2.2.1 hc.2.2.2.1 hc.2.2.2.2 e)
  have I1:Inv X pins σ H { s with heap:=h2 }:=I.turnedAll (t':=s.toks) kp2 hf
  have hnew:s.heap.get? s.heap.objs.size=none:=by
   cases q:s.heap.get? s.heap.objs.size with
   | none=>rfl
   | some o=>exact absurd (Heap.lt_size q) (Nat.lt_irrefl _)
  have hH:H s.heap.objs.size=none:=I.hok.fresh (Nat.le_refl _)
  have hTz:s.heap.objs.size≠z:=Nat.ne_of_gt (Heap.lt_size s1)
  have hT2:IsPair h2 s.heap.objs.size ux uy:=b2.extBut _ _ hTz a5
  have hf2:=hf
  have I2:Inv X pins σ (upd H s.heap.objs.size (.tup [x,y])) { s with heap:=h2 }:=I.turnedNew (t':=s.toks) kp2 hf hnew ⟨two,[ux,uy],.cons rx (.cons ry .nil),_,hT2,rfl,0,rfl⟩
  refine ⟨.ref s.heap.objs.size,_,I2,rfl,⟨_,x,y,rfl,hH,rfl,fun xs' ys' h1 h2=>?_⟩,?_,fun c hc=>?_⟩
  ·rw [I.list_inj h1 qa,I.list_inj h2 qb]
   exact ⟨hx,hy⟩
  ·exact ⟨b1,b2.extBut _ _ D.TIz (kp TI _ D.TIz D.TITO D.TIi1 D.TIi2 s2),⟨_,_,b2.extBut _ _ D.TOz a2⟩,a3.extBut b2.extBut D.i1z,a4.extBut b2.extBut D.i2z⟩
  ·have hc0:=(hf c hc).1
   rw [upd_ne]
   ·exact hc0
   ·intro q
    have e:∃ o,s.heap.get? c=some o:=by
     simp at hc
     rcases hc with rfl | rfl | rfl | rfl | rfl
     ·exact ⟨_,s1⟩
     ·exact ⟨_,s2⟩
     ·exact ⟨_,s3⟩
     ·obtain ⟨o,e,_⟩:=s4;exact ⟨o,e⟩
     ·obtain ⟨o,e,_⟩:=s5;exact ⟨o,e⟩
    obtain ⟨o,e⟩:=e
    rw [q,hnew] at e
    cases e
 done:=by
  intro X hP hw hK hc i pins s σ H E I hf st hg
  subst hP hw hK
  obtain ⟨xs,ys,qa,qb,hend⟩:=hg
  obtain ⟨s1,s2,⟨u,v,s3⟩,s4,s5⟩:=st
  obtain ⟨ia,ra,pa,za⟩:=I.list qa
  obtain ⟨ib,rb,pb,zb⟩:=I.list qb
  have la:=ra.length
  have lb:=rb.length
  refine wpAny_pyNext_zip_end (I.ok.hd hc) D s1 s2 s3 s4 s5 pa.isList pb.isList (by simp;omega) fun h' kp=>⟨rfl,I.turnedAll (t':=s.toks) (fun c o hc e=>?_) hf⟩
  simp at hc
  exact kp c o hc.1 hc.2.2.1 hc.2.2.2.1 hc.2.2.2.2 e
 self:=fun A i s Q E st h=>wpAny_pyIter_zip st.1 h
noncomputable def iZip (K:Frag) (ta:TA):TI:=fun σ H R=>ta σ H fun vs H1=>∃ a b,vs=[.ref a,.ref b]∧(∃ xs,SqL K H1 a xs)∧(∃ ys,SqL K H1 b ys)∧R (Itz K a b) H1
section
variable {X:Cx}
theorem pi_zip {ea eb:Expr} {elts:List Expr} {kk:Nat} {tpos p pos:Pos} {ta:TA} (hg:Gl X "zip") (hm:X.mg "zip" = none) (ha:PA X [ea,eb] ta) (hs:starEach [ea,eb] X.env=[(false,eval ea X.env),(false,eval eb X.env)]:=by rfl) (hs2:starEach [eb] X.env=[(false,eval eb X.env)]:=by rfl) :
  PI X (.Tuple elts kk tpos) (.Call (.Name "zip" p) [ea,eb] [] pos) (iZip X.K ta):=by
 intro pins s σ H R I h
 refine Call_ (ld_blt I hg hm boot_zip (PyProof.Rows.callWith_type1 (thn (ha pos pins s σ H _ I h) fun us s1 z=>?_) (by rw [hs,hs2]) (by rw [hs2];rfl)))
 obtain ⟨vs,H1,I1,r1,a,b,rfl,⟨xs,qa⟩,⟨ys,qb⟩,q⟩:=z
 obtain ⟨u,v,rfl,ru,rv⟩:=vals2 r1
 cases ru
 cases rv
 obtain ⟨ia,ra,pa,za⟩:=I1.list qa
 obtain ⟨ib,rb,pb,zb⟩:=I1.list qb
 have la:a < s1.heap.objs.size:=by obtain ⟨_,e,_⟩:=pa.isList;exact Heap.lt_size e
 have lb:b < s1.heap.objs.size:=by obtain ⟨_,e,_⟩:=pb.isList;exact Heap.lt_size e
 refine call_zip_2 pa.isList pb.isList fun h' z1 z2 z3 z4 z5 z6 kp=>wpAny_pyIter_zip z1 ?_
 have D:ZipApart (s1.heap.objs.size+4) (s1.heap.objs.size+2) (s1.heap.objs.size+3) s1.heap.objs.size (s1.heap.objs.size+1) a b:=by
  constructor<;>(first | exact Nat.ne_of_lt (Nat.lt_of_lt_of_le la (Nat.le_add_right _ _)) | exact Nat.ne_of_lt (Nat.lt_of_lt_of_le lb (Nat.le_add_right _ _)) | exact Nat.ne_of_lt la | exact Nat.ne_of_lt lb | exact Nat.ne_of_lt (by omega) | exact Nat.ne_of_gt (by omega))
 refine ⟨s1.heap.objs.size+4,[s1.heap.objs.size+4,s1.heap.objs.size+2,s1.heap.objs.size+3,s1.heap.objs.size,s1.heap.objs.size+1],_,_,H1,rfl,I1.kept (t':=s1.toks) kp,turn_zip D,⟨z1,z2,⟨_,_,z3⟩,z4,z5⟩,fun c hc=>?_,q⟩
 have:s1.heap.objs.size≤c:=by
  simp at hc
  rcases hc with rfl | rfl | rfl | rfl | rfl
  ·exact Nat.le_add_right _ _
  ·exact Nat.le_add_right _ _
  ·exact Nat.le_add_right _ _
  ·exact Nat.le_refl _
  ·exact Nat.le_add_right _ _
 exact I1.fpOk this (I1.hok.fresh this)
end
end L2
set_option maxHeartbeats 4000000
namespace L2
open PySem PySem.Spec PyProof.Rows PySem.W PyProof
section
variable {X:Cx}
end
end L2
set_option maxHeartbeats 4000000
namespace L2
open PySem PySem.Spec PyProof.Rows PySem.W
noncomputable def Ite (K:Frag) (a:Addr):It:=
 ⟨fun i H=>∃ xs x,SqL K H a xs∧xs[i]?=some x,
  fun i H v H'=>∃ T x,v=.ref T∧H T=none∧H'=upd H T (.tup [.int i,x])∧∀ xs,SqL K H a xs→xs[i]?=some x,
  fun i H=>∃ xs,SqL K H a xs∧xs.length≤i⟩
noncomputable def ESt (e it a:Addr) (i:Nat) (h:Heap):Prop:=(∃ old,IsEnum h e it ((i:Nat):Int) old)∧h.IsListIter it a i
theorem turn_enum {P:Program} {w:World} {K:Frag} {elts:List Expr} {kk:Nat} {pos:Pos} {e it a:Addr} (hne:e≠it) :
  Turn P w K (.Tuple elts kk pos) (Ite K a) [e,it] e (ESt e it a) where
 mem:=by simp
 obj:=fun i h st c hc=>by
  obtain ⟨⟨old,s1⟩,⟨o4,s4,_,d4⟩⟩:=st
  simp at hc
  rcases hc with rfl | rfl
  ·exact ⟨_,s1,fun v q=>by cases q⟩
  ·exact ⟨_,s4,fun v q=>by rw [d4] at q;cases q⟩
 keep:=fun i h h' st k=>by
  obtain ⟨⟨old,s1⟩,s4⟩:=st
  exact ⟨⟨old,k e (by simp) _ s1⟩,s4.at fun o e=>k it (by simp) o e⟩
 item:=by
  intro X hP hw hK hc i pins s σ H E I hf st hg
  subst hP hw hK
  obtain ⟨xs,x,qa,hx⟩:=hg
  obtain ⟨⟨old,s1⟩,s4⟩:=st
  obtain ⟨ia,ra,pa,za⟩:=I.list qa
  obtain ⟨ux,ex,rx⟩:=ra.get hx
  refine wpAny_pyNext_enum_item s1 s4 pa.isList (x:=ux) (by simpa using ex) hne fun h' a1 a2 a3 a4 kp=>?_
  refine ⟨_,rfl,wpAny_letOwnedTupleGo_enum (s:={ s with heap:=h',toks:=s.toks+1 }) a1 fun h2 b1 b2=>?_⟩
  have two:(2:Nat)≤sizeLine:=Nat.le_of_lt (small1000 (by decide))
  have kp2:∀ c o,c∉[e,it]→s.heap.get? c=some o→h2.get? c=some o:=fun c o hc q=>by
   simp at hc
   exact b2.extBut c o hc.1 (kp c o hc.1 hc.2 q)
  have hnew:s.heap.get? s.heap.objs.size=none:=by
   cases q:s.heap.get? s.heap.objs.size with
   | none=>rfl
   | some o=>exact absurd (Heap.lt_size q) (Nat.lt_irrefl _)
  have hH:H s.heap.objs.size=none:=I.hok.fresh (Nat.le_refl _)
  have hTe:s.heap.objs.size≠e:=Nat.ne_of_gt (Heap.lt_size s1)
  have hT2:IsPair h2 s.heap.objs.size (.int i s.toks) ux:=b2.extBut _ _ hTe a3
  have I2:Inv X pins σ (upd H s.heap.objs.size (.tup [.int i,x])) { s with heap:=h2,toks:=s.toks+1 }:=I.turnedNew (t':=s.toks+1) kp2 hf hnew ⟨two,[.int i s.toks,ux],.cons ⟨_,rfl⟩ (.cons rx .nil),_,hT2,rfl,0,rfl⟩
  refine ⟨.ref s.heap.objs.size,_,I2,rfl,⟨_,x,rfl,hH,rfl,fun xs' h1=>?_⟩,?_,fun c hc=>?_⟩
  ·rw [I.list_inj h1 qa]
   exact hx
  ·have e1:((i+1:Nat):Int)=(i:Int)+1:=by omega
   refine ⟨⟨ux,?_⟩,a2.extBut b2.extBut (Ne.symm hne)⟩
   rw [e1]
   exact b1
  ·have hc0:=(hf c hc).1
   rw [upd_ne]
   ·exact hc0
   ·intro q
    have e:∃ o,s.heap.get? c=some o:=by
     simp at hc
     rcases hc with rfl | rfl
     ·exact ⟨_,s1⟩
     ·obtain ⟨o,e,_⟩:=s4;exact ⟨o,e⟩
    obtain ⟨o,e⟩:=e
    rw [q,hnew] at e
    cases e
 done:=by
  intro X hP hw hK hc i pins s σ H E I hf st hg
  subst hP hw hK
  obtain ⟨xs,qa,hend⟩:=hg
  obtain ⟨⟨old,s1⟩,s4⟩:=st
  obtain ⟨ia,ra,pa,za⟩:=I.list qa
  have la:=ra.length
  refine wpAny_pyNext_enum_end (I.ok.hd hc) s1 s4 pa.isList (by simp;omega) fun h' kp=>⟨rfl,I.turnedAll (t':=s.toks) (fun c o hc e=>?_) hf⟩
  simp at hc
  exact kp c o hc.2 e
 self:=fun A i s Q E st h=>by
  obtain ⟨⟨old,s1⟩,_⟩:=st
  exact wpAny_pyIter_enum s1 h
noncomputable def iEnum (K:Frag) (ta:TA):TI:=fun σ H R=>ta σ H fun vs H1=>∃ a,vs=[.ref a]∧(∃ xs,SqL K H1 a xs)∧R (Ite K a) H1
section
variable {X:Cx}
theorem pi_enum {ea:Expr} {elts:List Expr} {kk:Nat} {tpos p pos:Pos} {ta:TA} (hg:Gl X "enumerate") (hm:X.mg "enumerate" = none) (ha:PA X [ea] ta) (hs:starEach [ea] X.env=[(false,eval ea X.env)]:=by rfl) :
  PI X (.Tuple elts kk tpos) (.Call (.Name "enumerate" p) [ea] [] pos) (iEnum X.K ta):=by
 intro pins s σ H R I h
 refine Call_ (ld_blt I hg hm boot_enumerate (PyProof.Rows.callWith_type1 (thn (ha pos pins s σ H _ I h) fun us s1 z=>?_) hs rfl))
 obtain ⟨vs,H1,I1,r1,a,rfl,⟨xs,qa⟩,q⟩:=z
 obtain ⟨u,rfl,ru⟩:=vals1 r1
 cases ru
 obtain ⟨ia,ra,pa,za⟩:=I1.list qa
 refine call_enumerate_list pa.isList fun h' z1 z2 z3 kp=>wpAny_pyIter_enum z1 ?_
 refine ⟨s1.heap.objs.size+1,[s1.heap.objs.size+1,s1.heap.objs.size],_,_,H1,rfl,I1.kept (t':=s1.toks) kp,turn_enum (Nat.succ_ne_self _),⟨⟨_,z1⟩,z2⟩,fun c hc=>?_,q⟩
 have:s1.heap.objs.size≤c:=by
  simp at hc
  rcases hc with rfl | rfl
  ·exact Nat.le_add_right _ _
  ·exact Nat.le_refl _
 exact I1.fpOk this (I1.hok.fresh this)
end
end L2
set_option maxHeartbeats 4000000
namespace DE
open PySem L2
inductive D where
 | non | bl (b:Bool) | int (n:Int) | str (s:Str) | lst (l:List D) | tup (l:List D) | ins (c:Str) (ns:List Str) (l:List D)
 deriving Inhabited
noncomputable abbrev KC:=Str→Option Addr
mutual
noncomputable def Rep (κ:KC) (G:Hp):D→V→Prop
 | .non,v=>v=.non
 | .bl b,v=>v=.bl b
 | .int n,v=>v=.int n
 | .str s,v=>v=.str s
 | .lst ds,v=>∃ a xs,v=.ref a∧G a=some (.lst xs)∧Reps κ G ds xs
 | .tup ds,v=>∃ a xs,v=.ref a∧G a=some (.tup xs)∧Reps κ G ds xs
 | .ins c ns ds,v=>∃ p dx C xs,κ c=some C∧v=.ref p∧G p=some (.ins C dx (ns.zip xs))∧xs.length=ns.length∧Reps κ G ds xs
noncomputable def Reps (κ:KC) (G:Hp):List D→List V→Prop
 | [],xs=>xs=[]
 | d::ds,xs=>∃ x r,xs=x::r∧Rep κ G d x∧Reps κ G ds r
end
mutual
theorem Rep.same {κ:KC} {G G':Hp} (e:Same G G'):∀ {d:D} {v:V},Rep κ G d v→Rep κ G' d v
 | .non,v,h=>by simp only [Rep] at h ⊢;exact h
 | .bl b,v,h=>by simp only [Rep] at h ⊢;exact h
 | .int i,v,h=>by simp only [Rep] at h ⊢;exact h
 | .str x,v,h=>by simp only [Rep] at h ⊢;exact h
 | .lst ds,v,h=>by
  simp only [Rep] at h ⊢
  obtain ⟨a,xs,rfl,h1,h2⟩:=h
  exact ⟨a,xs,rfl,e _ _ h1,Reps.same e h2⟩
 | .tup ds,v,h=>by
  simp only [Rep] at h ⊢
  obtain ⟨a,xs,rfl,h1,h2⟩:=h
  exact ⟨a,xs,rfl,e _ _ h1,Reps.same e h2⟩
 | .ins c ns ds,v,h=>by
  simp only [Rep] at h ⊢
  obtain ⟨p,dx,C,xs,hc,rfl,h1,hl,h2⟩:=h
  exact ⟨p,dx,C,xs,hc,rfl,e _ _ h1,hl,Reps.same e h2⟩
theorem Reps.same {κ:KC} {G G':Hp} (e:Same G G'):∀ {ds:List D} {vs:List V},Reps κ G ds vs→Reps κ G' ds vs
 | [],vs,h=>by simp only [Reps] at h ⊢;exact h
 | d::ds,vs,h=>by
  simp only [Reps] at h ⊢
  obtain ⟨x,r,rfl,h1,h2⟩:=h
  exact ⟨x,r,rfl,Rep.same e h1,Reps.same e h2⟩
end
section
variable {κ:KC} {G G':Hp}
theorem Reps.nil:Reps κ G [] []:=by simp only [Reps]
theorem Reps.cons {d:D} {ds:List D} {v:V} {vs:List V} (h:Rep κ G d v) (t:Reps κ G ds vs):Reps κ G (d::ds) (v::vs):=by
 simp only [Reps];exact ⟨v,vs,rfl,h,t⟩
theorem Reps.len:∀ {ds:List D} {vs:List V},Reps κ G ds vs→ds.length=vs.length
 | [],vs,h=>by simp only [Reps] at h;subst h;rfl
 | d::ds,vs,h=>by
  simp only [Reps] at h
  obtain ⟨x,r,rfl,h1,h2⟩:=h
  simp [Reps.len h2]
theorem Reps.app:∀ {ds es:List D} {vs us:List V},Reps κ G ds vs→Reps κ G es us→Reps κ G (ds++es) (vs++us)
 | [],es,vs,us,h,h'=>by simp only [Reps] at h;subst h;exact h'
 | d::ds,es,vs,us,h,h'=>by
  simp only [Reps] at h
  obtain ⟨x,r,rfl,h1,h2⟩:=h
  exact Reps.cons h1 (Reps.app h2 h')
theorem Reps.snoc {ds:List D} {vs:List V} {d:D} {v:V} (h:Reps κ G ds vs) (h':Rep κ G d v):Reps κ G (ds++[d]) (vs++[v]):=h.app (.cons h' .nil)
theorem Reps.drop:∀ (n:Nat) {ds:List D} {vs:List V},Reps κ G ds vs→Reps κ G (ds.drop n) (vs.drop n)
 | 0,_,_,h=>h
 | n+1,[],vs,h=>by simp only [Reps] at h;subst h;exact .nil
 | n+1,d::ds,vs,h=>by
  simp only [Reps] at h
  obtain ⟨x,r,rfl,h1,h2⟩:=h
  exact Reps.drop n h2
theorem Reps.take:∀ (n:Nat) {ds:List D} {vs:List V},Reps κ G ds vs→Reps κ G (ds.take n) (vs.take n)
 | 0,_,_,h=>by simpa using Reps.nil
 | n+1,[],vs,h=>by simp only [Reps] at h;subst h;exact .nil
 | n+1,d::ds,vs,h=>by
  simp only [Reps] at h
  obtain ⟨x,r,rfl,h1,h2⟩:=h
  exact Reps.cons h1 (Reps.take n h2)
theorem Reps.atD:∀ {ds:List D} {vs:List V} {i:Nat} {d:D},Reps κ G ds vs→ds[i]?=some d→∃ v,vs[i]?=some v∧Rep κ G d v
 | [],vs,i,d,h,e=>by simp at e
 | d::ds,vs,0,d',h,e=>by
  simp only [Reps] at h
  obtain ⟨x,r,rfl,h1,h2⟩:=h
  simp at e
  subst e
  exact ⟨x,rfl,h1⟩
 | d::ds,vs,i+1,d',h,e=>by
  simp only [Reps] at h
  obtain ⟨x,r,rfl,h1,h2⟩:=h
  obtain ⟨v',e1,e2⟩:=Reps.atD (i:=i) h2 (by simpa using e)
  exact ⟨v',by simpa using e1,e2⟩
theorem Reps.set:∀ {ds:List D} {vs:List V} (i:Nat) {d:D} {v:V},Reps κ G ds vs→Rep κ G d v→Reps κ G (ds.set i d) (vs.set i v)
 | [],vs,i,d,v,h,h'=>by simp only [Reps] at h;subst h;exact .nil
 | d::ds,vs,0,d',v,h,h'=>by
  simp only [Reps] at h
  obtain ⟨x,r,rfl,h1,h2⟩:=h
  exact Reps.cons h' h2
 | d::ds,vs,i+1,d',v,h,h'=>by
  simp only [Reps] at h
  obtain ⟨x,r,rfl,h1,h2⟩:=h
  exact Reps.cons h1 (Reps.set i h2 h')
end
inductive Sl where
 | no | val (d:D) | own (l:List D) | bor (l:List D) | scr (l:List D)
noncomputable abbrev Env:=List Sl
noncomputable def SlR (κ:KC) (K:PySem.W.Frag) (G H H₀:Hp):Sl→Option (Option V)→Prop
 | .no,_=>True
 | .val d,o=>∃ v,o=some (some v)∧Rep κ G d v
 | .own ds,o=>∃ a xs,o=some (some (.ref a))∧H a=some (.lst xs)∧H₀ a=none∧G a=none∧Reps κ G ds xs
 | .bor ds,o=>∃ a xs,o=some (some (.ref a))∧H₀ a=some (.lst xs)∧Reps κ G ds xs
 | .scr ds,o=>∃ a xs,o=some (some (.ref a))∧SqL K H₀ a xs∧Reps κ G ds xs
noncomputable def OwnAt (ρ:Env) (σ:St) (a:Addr):Prop:=∃ (i:Nat) (l:List D),ρ[i]?=some (.own l)∧σ[i]?=some (some (.ref a))
structure ER (κ:KC) (K:PySem.W.Frag) (G₀ H₀ G H:Hp) (ρ:Env) (σ:St):Prop where
 len:ρ.length=σ.length
 sub:Same G H
 base:Same H₀ H
 g0:Same G₀ G
 fresh:∀ a o,G a=some o→(∃ o',G₀ a=some o')∨H₀ a=none
 sl:∀ (i:Nat) (s:Sl),ρ[i]?=some s→SlR κ K G H H₀ s σ[i]?
 ap:∀ (i j:Nat) (a:Addr) (l m:List D),ρ[i]?=some (.own l)→ρ[j]?=some (.own m)→σ[i]?=some (some (.ref a))→σ[j]?=some (some (.ref a))→i=j
structure Po (κ:KC) (K:PySem.W.Frag) (G₀ H₀:Hp) (σ:St) (G H:Hp) (ρ:Env) (G' H':Hp) (ρ':Env):Prop where
 er:ER κ K G₀ H₀ G' H' ρ' σ
 hs:Same H H'
 gs:Same G G'
 new:∀ a o,G' a=some o→(∃ o',G a=some o')∨H a=none∨OwnAt ρ σ a
 fz:∀ (i:Nat) (l:List D),ρ'[i]?=some (.own l)→ρ[i]?=some (.own l)
theorem Same.none {H H':Hp} (e:Same H H') {a:Addr} (h:H' a=none):H a=none:=by
 cases q:H a with
 | none=>rfl
 | some o=>rw [e a o q] at h;cases h
section
variable {κ:KC} {K:PySem.W.Frag} {G₀ H₀ G H G' H' G'' H'':Hp} {ρ ρ' ρ'':Env} {σ:St}
theorem Po.refl (h:ER κ K G₀ H₀ G H ρ σ):Po κ K G₀ H₀ σ G H ρ G H ρ:=⟨h,fun _ _ e=>e,fun _ _ e=>e,fun _ o e=>.inl ⟨o,e⟩,fun _ _ e=>e⟩
theorem Po.trans (a:Po κ K G₀ H₀ σ G H ρ G' H' ρ') (b:Po κ K G₀ H₀ σ G' H' ρ' G'' H'' ρ''):Po κ K G₀ H₀ σ G H ρ G'' H'' ρ'':=
 ⟨b.er,fun c o e=>b.hs c o (a.hs c o e),fun c o e=>b.gs c o (a.gs c o e),fun c o e=>by
  rcases b.new c o e with ⟨o',z⟩ | z | ⟨i,l,z1,z2⟩
  ·exact a.new c o' z
  ·exact .inr (.inl (Same.none a.hs z))
  ·exact .inr (.inr ⟨i,l,a.fz i l z1,z2⟩),fun i l e=>a.fz i l (b.fz i l e)⟩
theorem SlR.grow (hs:Same H H') (gs:Same G G') (nw:∀ a xs,H a=some (.lst xs)→H₀ a=none→G a=none→G' a=none) {s:Sl} {o:Option (Option V)} (h:SlR κ K G H H₀ s o):SlR κ K G' H' H₀ s o:=by
 cases s with
 | no=>trivial
 | val d=>obtain ⟨v,e,r⟩:=h;exact ⟨v,e,r.same gs⟩
 | own ds=>obtain ⟨a,xs,e,h1,h2,h3,h4⟩:=h;exact ⟨a,xs,e,hs _ _ h1,h2,nw a xs h1 h2 h3,h4.same gs⟩
 | bor ds=>obtain ⟨a,xs,e,h1,h4⟩:=h;exact ⟨a,xs,e,h1,h4.same gs⟩
 | scr ds=>obtain ⟨a,xs,e,h1,h4⟩:=h;exact ⟨a,xs,e,h1,h4.same gs⟩
theorem Po.more (h:ER κ K G₀ H₀ G H ρ σ) (hs:Same H H') (gs:Same G G') (sub:Same G' H') (new:∀ a o,G' a=some o→(∃ o',G a=some o')∨H a=none):Po κ K G₀ H₀ σ G H ρ G' H' ρ:=by
 refine ⟨⟨h.len,sub,fun b o e=>hs b o (h.base b o e),fun b o e=>gs b o (h.g0 b o e),fun a o e=>?_,fun i s e=>(h.sl i s e).grow hs gs fun a xs h1 h2 h3=>?_,h.ap⟩,hs,gs,fun a o e=>?_,fun _ _ e=>e⟩
 ·rcases new a o e with ⟨o',z⟩ | z
  ·exact h.fresh a o' z
  ·exact .inr (Same.none h.base z)
 ·cases q:G' a with
  | none=>rfl
  | some o=>
   rcases new a o q with ⟨o',z⟩ | z
   ·rw [h3] at z;cases z
   ·rw [h1] at z;cases z
 ·rcases new a o e with z | z
  ·exact .inl z
  ·exact .inr (.inl z)
theorem Po.room (h:ER κ K G₀ H₀ G H ρ σ) (hs:Same H H'):Po κ K G₀ H₀ σ G H ρ G H' ρ:=
 Po.more h hs (fun _ _ e=>e) (fun b o e=>hs b o (h.sub b o e)) fun _ o e=>.inl ⟨o,e⟩
theorem Po.lay (h:ER κ K G₀ H₀ G H ρ σ) {a:Addr} {o:HO} (ha:H a=none):Po κ K G₀ H₀ σ G H ρ (upd G a o) (upd H a o) ρ:=by
 have ga:G a=none:=Same.none h.sub ha
 refine Po.more h (Same.upd ha) (Same.upd ga) (fun b u e=>?_) fun b u e=>?_
 ·by_cases hb:b=a
  ·subst hb;rw [upd_same] at e ⊢;exact e
  ·rw [upd_ne hb] at e ⊢;exact h.sub b u e
 ·by_cases hb:b=a
  ·subst hb;exact .inr ha
  ·rw [upd_ne hb] at e;exact .inl ⟨u,e⟩
end
inductive Rv where
 | val (d:D) | tmp (l:List D) | cell (l:List D) | scr (l:List D)
noncomputable def RvR (κ:KC) (K:PySem.W.Frag) (H₀ Hb G H:Hp) (ρ:Env) (σ:St):Rv→V→Prop
 | .val d,v=>Rep κ G d v
 | .tmp ds,v=>∃ a xs,v=.ref a∧H a=some (.lst xs)∧Hb a=none∧H₀ a=none∧G a=none∧¬ OwnAt ρ σ a∧Reps κ G ds xs
 | .cell ds,v=>∃ a xs,v=.ref a∧H a=some (.lst xs)∧Reps κ G ds xs
 | .scr ds,v=>∃ a xs,v=.ref a∧SqL K H a xs∧Reps κ G ds xs
section
variable {κ:KC} {K:PySem.W.Frag} {G₀ H₀ Hb G H G' H':Hp} {ρ ρ':Env} {σ:St}
theorem RvR.keep {r:Rv} {v:V} (h:RvR κ K H₀ Hb G H ρ σ r v) (p:Po κ K G₀ H₀ σ G H ρ G' H' ρ'):RvR κ K H₀ Hb G' H' ρ' σ r v:=by
 cases r with
 | val d=>exact Rep.same p.gs h
 | tmp ds=>
  obtain ⟨a,xs,rfl,h1,h2,h3,h4,h5,h6⟩:=h
  refine ⟨a,xs,rfl,p.hs _ _ h1,h2,h3,?_,fun ⟨i,l,z1,z2⟩=>h5 ⟨i,l,p.fz i l z1,z2⟩,h6.same p.gs⟩
  cases q:G' a with
  | none=>rfl
  | some o=>
   rcases p.new a o q with ⟨o',z⟩ | z | z
   ·rw [h4] at z;cases z
   ·rw [h1] at z;cases z
   ·exact absurd z h5
 | cell ds=>obtain ⟨a,xs,rfl,h1,h6⟩:=h;exact ⟨a,xs,rfl,p.hs _ _ h1,h6.same p.gs⟩
 | scr ds=>obtain ⟨a,xs,rfl,h1,h6⟩:=h;exact ⟨a,xs,rfl,p.hs.seq h1,h6.same p.gs⟩
theorem RvR.back {Hc:Hp} {r:Rv} {v:V} (h:RvR κ K H₀ Hc G H ρ σ r v) (e:Same Hb Hc):RvR κ K H₀ Hb G H ρ σ r v:=by
 cases r with
 | val d=>exact h
 | tmp ds=>
  obtain ⟨a,xs,rfl,h1,h2,h3,h4,h5,h6⟩:=h
  exact ⟨a,xs,rfl,h1,Same.none e h2,h3,h4,h5,h6⟩
 | cell ds=>exact h
 | scr ds=>exact h
noncomputable def Rv.list?:Rv→Option (List D)
 | .val (.lst l)=>some l
 | .tmp l=>some l
 | .cell l=>some l
 | .scr l=>some l
 | _=>none
noncomputable def Rv.plain?:Rv→Option (List D)
 | .val (.lst l)=>some l
 | .tmp l=>some l
 | .cell l=>some l
 | _=>none
theorem RvR.plain (er:ER κ K G₀ H₀ G H ρ σ) {r:Rv} {v:V} {l:List D} (h:RvR κ K H₀ Hb G H ρ σ r v) (e:r.plain?=some l):∃ a xs,v=.ref a∧H a=some (.lst xs)∧Reps κ G l xs:=by
 cases r with
 | val d=>
  cases d<;>simp only [Rv.plain?] at e<;>try (cases e)
  simp only [RvR,Rep] at h
  obtain ⟨a,xs,rfl,h1,h2⟩:=h
  exact ⟨a,xs,rfl,er.sub _ _ h1,h2⟩
 | tmp ds=>
  simp only [Rv.plain?] at e
  cases e
  obtain ⟨a,xs,rfl,h1,_,_,_,_,h6⟩:=h
  exact ⟨a,xs,rfl,h1,h6⟩
 | cell ds=>
  simp only [Rv.plain?] at e
  cases e
  exact h
 | scr ds=>simp only [Rv.plain?] at e;cases e
theorem RvR.list (er:ER κ K G₀ H₀ G H ρ σ) {r:Rv} {v:V} {l:List D} (h:RvR κ K H₀ Hb G H ρ σ r v) (e:r.list?=some l):∃ a xs,v=.ref a∧SqL K H a xs∧Reps κ G l xs:=by
 cases r with
 | scr ds=>
  simp only [Rv.list?] at e
  cases e
  exact h
 | val d=>
  have e':(Rv.val d).plain?=some l:=by cases d<;>simp only [Rv.list?] at e<;>first | (cases e;rfl) | cases e
  obtain ⟨a,xs,h1,h2,h3⟩:=h.plain er e'
  exact ⟨a,xs,h1,SqL.of h2,h3⟩
 | tmp ds=>
  obtain ⟨a,xs,h1,h2,h3⟩:=h.plain er (l:=l) e
  exact ⟨a,xs,h1,SqL.of h2,h3⟩
 | cell ds=>
  obtain ⟨a,xs,h1,h2,h3⟩:=h.plain er (l:=l) e
  exact ⟨a,xs,h1,SqL.of h2,h3⟩
theorem Po.freeze {a:Addr} {xs:List V} {G1 H1:Hp} {ρ1:Env} (p:Po κ K G₀ H₀ σ G H ρ G1 H1 ρ1) (h1:H1 a=some (.lst xs)) (h2:H a=none) (h3:H₀ a=none) (h4:G1 a=none) (h5:¬ OwnAt ρ1 σ a):Po κ K G₀ H₀ σ G H ρ (upd G1 a (.lst xs)) H1 ρ1:=by
 have gs:Same G1 (upd G1 a (.lst xs)):=Same.upd h4
 have er:=p.er
 refine ⟨⟨er.len,fun b u e=>?_,er.base,fun b o e=>gs b o (er.g0 b o e),fun b o e=>?_,fun i s e=>?_,er.ap⟩,p.hs,fun b o e=>gs b o (p.gs b o e),fun b o e=>?_,p.fz⟩
 ·by_cases hb:b=a
  ·subst hb;rw [upd_same] at e;cases e;exact h1
  ·rw [upd_ne hb] at e;exact er.sub b u e
 ·by_cases hb:b=a
  ·subst hb;exact .inr h3
  ·rw [upd_ne hb] at e;exact er.fresh b o e
 ·have q:=er.sl i s e
  cases s with
  | no=>trivial
  | val d=>obtain ⟨v,z,r⟩:=q;exact ⟨v,z,r.same gs⟩
  | own ds=>
   obtain ⟨b,ys,z,q1,q2,q3,q4⟩:=q
   have hb:b≠a:=fun w=>h5 ⟨i,ds,e,by rw [←w];exact z⟩
   exact ⟨b,ys,z,q1,q2,by rw [upd_ne hb];exact q3,q4.same gs⟩
  | bor ds=>obtain ⟨b,ys,z,q1,q4⟩:=q;exact ⟨b,ys,z,q1,q4.same gs⟩
  | scr ds=>obtain ⟨b,ys,z,q1,q4⟩:=q;exact ⟨b,ys,z,q1,q4.same gs⟩
 ·by_cases hb:b=a
  ·subst hb;exact .inr (.inl h2)
  ·rw [upd_ne hb] at e;exact p.new b o e
theorem ER.froze {i:Nat} {l:List D} (h:ER κ K G₀ H₀ G H ρ σ) (e:ρ[i]?=some (.own l)):∃ a xs,σ[i]?=some (some (.ref a))∧Po κ K G₀ H₀ σ G H ρ (upd G a (.lst xs)) H (ρ.set i (.val (.lst l)))∧Rep κ (upd G a (.lst xs)) (.lst l) (.ref a):=by
 obtain ⟨a,xs,z,h1,h2,h3,h4⟩:=h.sl i _ e
 have gs:Same G (upd G a (.lst xs)):=Same.upd h3
 have hi:i < ρ.length:=(List.getElem?_eq_some_iff.mp e).1
 have rp:Rep κ (upd G a (.lst xs)) (.lst l) (.ref a):=by simp only [Rep];exact ⟨a,xs,rfl,upd_same,h4.same gs⟩
 refine ⟨a,xs,z,⟨⟨by rw [List.length_set];exact h.len,fun b u q=>?_,h.base,fun b o q=>gs b o (h.g0 b o q),fun b o q=>?_,fun j s q=>?_,fun j k b m n q1 q2=>?_⟩,fun _ _ q=>q,gs,fun b o q=>?_,fun j m q=>?_⟩,rp⟩
 ·by_cases hb:b=a
  ·subst hb;rw [upd_same] at q;cases q;exact h1
  ·rw [upd_ne hb] at q;exact h.sub b u q
 ·by_cases hb:b=a
  ·subst hb;exact .inr h2
  ·rw [upd_ne hb] at q;exact h.fresh b o q
 ·by_cases hj:i=j
  ·subst hj
   rw [List.getElem?_set_self hi] at q
   cases q
   exact ⟨_,z,rp⟩
  ·rw [List.getElem?_set_ne hj] at q
   have w:=h.sl j s q
   cases s with
   | no=>trivial
   | val d=>obtain ⟨v,z,r⟩:=w;exact ⟨v,z,r.same gs⟩
   | own ds=>
    obtain ⟨b,ys,z',q1,q2,q3,q4⟩:=w
    have hb:b≠a:=fun u=>hj (h.ap i j a l ds e q z (by rw [←u];exact z'))
    exact ⟨b,ys,z',q1,q2,by rw [upd_ne hb];exact q3,q4.same gs⟩
   | bor ds=>obtain ⟨b,ys,z,q1,q4⟩:=w;exact ⟨b,ys,z,q1,q4.same gs⟩
   | scr ds=>obtain ⟨b,ys,z,q1,q4⟩:=w;exact ⟨b,ys,z,q1,q4.same gs⟩
 ·have f:∀ {j:Nat} {m:List D},(ρ.set i (.val (.lst l)))[j]?=some (.own m)→ρ[j]?=some (.own m):=fun {j m} q=>by
   by_cases hj:i=j
   ·subst hj;rw [List.getElem?_set_self hi] at q;cases q
   ·rw [List.getElem?_set_ne hj] at q;exact q
  exact h.ap j k b m n (f q1) (f q2)
 ·by_cases hb:b=a
  ·subst hb;exact .inr (.inr ⟨i,l,e,z⟩)
  ·rw [upd_ne hb] at q;exact .inl ⟨o,q⟩
 ·by_cases hj:i=j
  ·subst hj;rw [List.getElem?_set_self hi] at q;cases q
  ·rw [List.getElem?_set_ne hj] at q;exact q
theorem ER.setVal {i:Nat} {d:D} {v:V} (h:ER κ K G₀ H₀ G H ρ σ) (r:Rep κ G d v):ER κ K G₀ H₀ G H (ρ.set i (.val d)) (σ.set i (some v)):=by
 refine ⟨by rw [List.length_set,List.length_set];exact h.len,h.sub,h.base,h.g0,h.fresh,fun j s q=>?_,fun j k b m n q1 q2 q3 q4=>?_⟩
 ·by_cases hj:i=j
  ·subst hj
   have hi:i < ρ.length:=by simpa using (List.getElem?_eq_some_iff.mp q).1
   rw [List.getElem?_set_self hi] at q
   cases q
   exact ⟨v,by rw [List.getElem?_set_self (by rw [←h.len];exact hi)],r⟩
  ·rw [List.getElem?_set_ne hj] at q ⊢
   exact h.sl j s q
 ·have f:∀ {j:Nat} {m:List D},(ρ.set i (.val d))[j]?=some (.own m)→i≠j∧ρ[j]?=some (.own m):=fun {j m} q=>by
   by_cases hj:i=j
   ·subst hj
    have hi:i < ρ.length:=by simpa using (List.getElem?_eq_some_iff.mp q).1
    rw [List.getElem?_set_self hi] at q;cases q
   ·rw [List.getElem?_set_ne hj] at q;exact ⟨hj,q⟩
  obtain ⟨n1,e1⟩:=f q1
  obtain ⟨n2,e2⟩:=f q2
  rw [List.getElem?_set_ne n1] at q3
  rw [List.getElem?_set_ne n2] at q4
  exact h.ap j k b m n e1 e2 q3 q4
theorem ER.setOwn {i:Nat} {l:List D} {a:Addr} {xs:List V} (h:ER κ K G₀ H₀ G H ρ σ) (h1:H a=some (.lst xs)) (h2:H₀ a=none) (h3:G a=none) (h4:¬ OwnAt ρ σ a) (r:Reps κ G l xs):ER κ K G₀ H₀ G H (ρ.set i (.own l)) (σ.set i (some (.ref a))):=by
 have f:∀ {j:Nat} {m:List D},(ρ.set i (.own l))[j]?=some (.own m)→i≠j→ρ[j]?=some (.own m):=fun {j m} q hj=>by rw [List.getElem?_set_ne hj] at q;exact q
 refine ⟨by rw [List.length_set,List.length_set];exact h.len,h.sub,h.base,h.g0,h.fresh,fun j s q=>?_,fun j k b m n q1 q2 q3 q4=>?_⟩
 ·by_cases hj:i=j
  ·subst hj
   have hi:i < ρ.length:=by simpa using (List.getElem?_eq_some_iff.mp q).1
   rw [List.getElem?_set_self hi] at q
   cases q
   exact ⟨a,xs,by rw [List.getElem?_set_self (by rw [←h.len];exact hi)],h1,h2,h3,r⟩
  ·rw [List.getElem?_set_ne hj] at q ⊢
   exact h.sl j s q
 ·by_cases hj:i=j
  ·by_cases hk:i=k
   ·omega
   ·subst hj
    have hi:i < σ.length:=by simpa using (List.getElem?_eq_some_iff.mp q3).1
    rw [List.getElem?_set_self hi] at q3
    rw [List.getElem?_set_ne hk] at q4
    cases q3
    exact absurd ⟨k,n,f q2 hk,q4⟩ h4
  ·by_cases hk:i=k
   ·subst hk
    have hi:i < σ.length:=by simpa using (List.getElem?_eq_some_iff.mp q4).1
    rw [List.getElem?_set_self hi] at q4
    rw [List.getElem?_set_ne hj] at q3
    cases q4
    exact absurd ⟨j,m,f q1 hj,q3⟩ h4
   ·rw [List.getElem?_set_ne hj] at q3
    rw [List.getElem?_set_ne hk] at q4
    exact h.ap j k b m n (f q1 hj) (f q2 hk) q3 q4
theorem ER.write {i:Nat} {l m:List D} {a:Addr} {ys:List V} (h:ER κ K G₀ H₀ G H ρ σ) (e:ρ[i]?=some (.own l)) (z:σ[i]?=some (some (.ref a))) (r:Reps κ G m ys):ER κ K G₀ H₀ G (upd H a (.lst ys)) (ρ.set i (.own m)) σ:=by
 obtain ⟨a',xs,z',h1,h2,h3,h4⟩:=h.sl i _ e
 have ea:a'=a:=by rw [z'] at z;injection z with z;injection z with z;injection z
 subst ea
 have hi:i < ρ.length:=(List.getElem?_eq_some_iff.mp e).1
 refine ⟨by rw [List.length_set];exact h.len,fun b u q=>?_,fun b u q=>?_,h.g0,h.fresh,fun j s q=>?_,fun j k b m' n q1 q2=>?_⟩
 ·have hb:b≠a':=fun w=>by rw [w,h3] at q;cases q
  rw [upd_ne hb];exact h.sub b u q
 ·have hb:b≠a':=fun w=>by rw [w,h2] at q;cases q
  rw [upd_ne hb];exact h.base b u q
 ·by_cases hj:i=j
  ·subst hj
   rw [List.getElem?_set_self hi] at q
   cases q
   exact ⟨a',ys,z',upd_same,h2,h3,r⟩
  ·rw [List.getElem?_set_ne hj] at q
   have w:=h.sl j s q
   cases s with
   | no=>trivial
   | val d=>exact w
   | own ds=>
    obtain ⟨b,zs,z2,q1,q2,q3,q4⟩:=w
    have hb:b≠a':=fun u=>hj (h.ap i j a' l ds e q z' (by rw [←u];exact z2))
    exact ⟨b,zs,z2,by rw [upd_ne hb];exact q1,q2,q3,q4⟩
   | bor ds=>exact w
   | scr ds=>exact w
 ·have f:∀ {j:Nat} {n:List D},(ρ.set i (.own m))[j]?=some (.own n)→∃ n',ρ[j]?=some (.own n'):=fun {j n} q=>by
   by_cases hj:i=j
   ·subst hj;exact ⟨l,e⟩
   ·rw [List.getElem?_set_ne hj] at q;exact ⟨n,q⟩
  obtain ⟨_,e1⟩:=f q1
  obtain ⟨_,e2⟩:=f q2
  exact h.ap j k b _ _ e1 e2
end
end DE
set_option maxHeartbeats 4000000
namespace DE
open PySem L2
inductive Sk where
 | lst | tup | str
noncomputable def sigD (s:Str):List D:=s.cps.toList.map fun c=>D.str ⟨#[c]⟩
inductive R (α:Type) where
 | ok (a:α) | exc (c:Str) (l:List (Str×D)) | no
noncomputable def R.th {α β:Type}:R α→(α→R β)→R β
 | .ok a,f=>f a
 | .exc c l,_=>.exc c l
 | .no,_=>.no
noncomputable def R.of {α:Type}:Option α→R α
 | some a=>.ok a
 | none=>.no
mutual
noncomputable def toP:D→Option PyData
 | .non=>some .none
 | .bl b=>some (.bool b)
 | .int n=>some (.int n)
 | .str s=>some (.str s)
 | .lst l=>(toPs l).map .list
 | .tup l=>(toPs l).map .tuple
 | .ins ..=>none
noncomputable def toPs:List D→Option (List PyData)
 | []=>some []
 | d::l=>(toP d).bind fun p=>(toPs l).map (p :: ·)
end
noncomputable def Rv.data:Rv→D
 | .val d=>d
 | .tmp l=>.lst l
 | .cell l=>.lst l
 | .scr l=>.lst l
inductive Ar where
 | val (d:D) | bor (l:List D) | scr (l:List D)
structure Cs where
 tab:List Str
 fld:Str→Str→Bool
 mt:Str→Str→Option Str
 sub:Str→Str→Option Bool
noncomputable def Cs.non:Cs:=⟨[],fun _ _=>false,fun _ _=>none,fun _ _=>none⟩
structure Ct where
 N:List Str
 sc:Scope
 tab:List Str
 gl:Str→Option D
 cl:Str→List Ar→R Rv
 cs:Cs
 nw:Str→List Ar→R Rv
noncomputable def ixOf:List Str→Str→Option Nat
 | [],_=>none
 | y::r,x=>if y=x then some 0 else (ixOf r x).map (· + 1)
noncomputable def visB (sc:Scope) (x:Str):Bool:=match sc.names.lookup x with
 | some .local=>true
 | some .cell=>true
 | some .free=>true
 | _=>false
noncomputable def locB (sc:Scope) (x:Str):Bool:=match sc.names.lookup x with
 | some .local=>true
 | some .cell=>true
 | _=>false
noncomputable def glB (sc:Scope) (x:Str):Bool:=sc.names.lookup x == some .globalImplicit
noncomputable def nameOk (x:Str):Bool:=!(x == ("__debug__" : Str))&&!(x == ("__classdict__" : Str))&&!(x == ("__name__" : Str))
noncomputable def nameR (Γ:Ct) (x:Str) (ρ:Env):R Rv:=if nameOk x then (match ixOf Γ.N x with
 | some i=>if visB Γ.sc x then (match ρ[i]? with
  | some (.val d)=>.ok (.val d)
  | some (.own l)=>.ok (.cell l)
  | some (.bor l)=>.ok (.cell l)
  | some (.scr l)=>.ok (.scr l)
  | _=>.no) else .no
 | none=>if glB Γ.sc x then (match Γ.gl x with | some d=>.ok (.val d) | none=>.no) else .no) else .no
noncomputable def nameE (Γ:Ct) (x:Str) (ρ:Env):R (D×Env):=if nameOk x then (match ixOf Γ.N x with
 | some i=>if visB Γ.sc x then (match ρ[i]? with
  | some (.val d)=>.ok (d,ρ)
  | some (.own l)=>.ok (.lst l,ρ.set i (.val (.lst l)))
  | _=>.no) else .no
 | none=>if glB Γ.sc x then (match Γ.gl x with | some d=>.ok (d,ρ) | none=>.no) else .no) else .no
noncomputable def nameL (Γ:Ct) (x:Str) (ρ:Env):R ((Sk×List D)×Env):=if nameOk x then (match ixOf Γ.N x with
 | some i=>if visB Γ.sc x then (match ρ[i]? with
  | some (.val (.lst l))=>.ok ((.lst,l),ρ)
  | some (.val (.tup l))=>.ok ((.tup,l),ρ)
  | some (.val (.str z))=>.ok ((.str,sigD z),ρ)
  | some (.own l)=>.ok ((.lst,l),ρ.set i (.val (.lst l)))
  | some (.bor l)=>.ok ((.lst,l),ρ)
  | some (.scr l)=>.ok ((.lst,l),ρ)
  | _=>.no) else .no
 | none=>.no) else .no
noncomputable def constD:Const→R Rv
 | .none=>.ok (.val .non)
 | .bool b=>.ok (.val (.bl b))
 | .int i=>.ok (.val (.int i))
 | .str s=>.ok (.val (.str s))
 | _=>.no
noncomputable def Rv.int?:Rv→Option Int
 | .val (.int i)=>some i
 | _=>none
noncomputable def Rv.str?:Rv→Option Str
 | .val (.str i)=>some i
 | _=>none
noncomputable def Rv.bl?:Rv→Option Bool
 | .val (.bl i)=>some i
 | _=>none
noncomputable def Rv.tup?:Rv→Option (List D)
 | .val (.tup i)=>some i
 | _=>none
noncomputable def mulB (i j:Int):Bool:=(decide (-(2 ^ 64) < i)&&decide (i < 2 ^ 64))||(decide (-(2 ^ 64) < j)&&decide (j < 2 ^ 64))
noncomputable def int2 (x y:Rv) (f:Int→Int→R Rv):R Rv:=match x.int?,y.int? with
 | some i,some j=>f i j
 | _,_=>.no
noncomputable def addD (x y:Rv):R Rv:=match x.int?,y.int? with
 | some i,some j=>.ok (.val (.int (i+j)))
 | _,_=>match x.str?,y.str? with
  | some a,some b=>if a.length+b.length≤sizeLine then .ok (.val (.str (a++b))) else .no
  | _,_=>match x.plain?,y.plain? with
   | some l,some m=>if l.length+m.length≤sizeLine then .ok (.tmp (l++m)) else .no
   | _,_=>.no
noncomputable def binD (op:Operator) (x y:Rv):R Rv:=match op with
 | .Add=>addD x y
 | .Sub=>int2 x y fun i j=>.ok (.val (.int (i - j)))
 | .Mult=>int2 x y fun i j=>if mulB i j=true then .ok (.val (.int (i * j))) else .no
 | .FloorDiv=>int2 x y fun i j=>if 0 < j∧j < 1073741824 then .ok (.val (.int (i / j))) else .no
 | .Mod=>int2 x y fun i j=>if 0 < j then .ok (.val (.int (i % j))) else .no
 | .Pow=>int2 x y fun i j=>if 0≤j∧j≤1000000∧i.natAbs < 2 ^ 64 then .ok (.val (.int (i ^ j.toNat))) else .no
 | _=>.no
noncomputable def eqD (x y:D):Option Bool:=match toP x,toP y with
 | some p,some q=>if SeqAt.shaped p&&SeqAt.shaped q then some (PyData.eqv p q) else none
 | _,_=>none
noncomputable def flatD:D→Bool
 | .non=>true
 | .bl _=>true
 | .int _=>true
 | .str _=>true
 | _=>false
noncomputable def seqD (r:Rv):Option (List D):=match r.tup? with
 | some l=>some l
 | none=>r.list?
noncomputable def flV:D→V
 | .bl b=>.bl b
 | .int n=>.int n
 | .str s=>.str s
 | _=>.non
noncomputable def inD (x:D) (l:List D):Option Bool:=if (flatD x&&l.all flatD)=true then some (inV (flV x) (l.map flV)) else none
noncomputable def cmpI (x y:Rv) (f:Int→Int→Bool):Option Bool:=match x.int?,y.int? with
 | some i,some j=>some (f i j)
 | _,_=>none
noncomputable def Rv.non?:Rv→Bool
 | .val .non=>true
 | _=>false
noncomputable def occB (a b:Str):Bool:=!(Builtin.Str.occurrences b a 0 b.length 1).isEmpty
noncomputable def memD (x y:Rv):Option Bool:=match x.str?,y.str? with
 | some a,some b=>some (occB a b)
 | _,_=>(seqD y).bind (inD x.data)
noncomputable def cmpD (op:CmpOp) (x y:Rv):Option Bool:=match op with
 | .Eq=>eqD x.data y.data
 | .NotEq=>(eqD x.data y.data).map (!·)
 | .Lt=>cmpI x y fun i j=>decide (i < j)
 | .LtE=>cmpI x y fun i j=>decide (i≤j)
 | .Gt=>cmpI x y fun i j=>decide (j < i)
 | .GtE=>cmpI x y fun i j=>decide (j≤i)
 | .Is=>if y.non? then some x.non? else none
 | .IsNot=>if y.non? then some (!x.non?) else none
 | .In=>memD x y
 | .NotIn=>(memD x y).map (!·)
noncomputable def idxD (x y:Rv):R Rv:=match y.int? with
 | some i=>(match x.str? with
  | some z=>if z.length≤sizeLine then (match atI z.cps.toList i with | some c=>.ok (.val (.str ⟨#[c]⟩)) | none=>.no) else .no
  | none=>match seqD x with
   | some l=>(match atI l i with | some d=>.ok (.val d) | none=>.no)
   | none=>.no)
 | none=>.no
noncomputable def cutD (l:List D) (lo hi:Option Int):List D:=(l.drop (HT.sIx l.length 0 lo)).take (HT.sIx l.length l.length hi - HT.sIx l.length 0 lo)
noncomputable def sliceD (r:Rv) (lo hi:Option Int):R Rv:=(R.of r.list?).th fun l=>.ok (.tmp (cutD l lo hi))
noncomputable def truthD (r:Rv):Option Bool:=match r with
 | .val .non=>some false
 | .val (.bl b)=>some b
 | .val (.int i)=>some (i != 0)
 | .val (.str s)=>if s.length≤sizeLine then some ((s.length:Int) != 0) else none
 | r=>(seqD r).map fun l=>!l.isEmpty
noncomputable def isiD (d:D) (t:Str):Option Bool:=match d with
 | .ins ..=>none
 | _=>if t = "int" then some (match d with | .int _=>true | .bl _=>true | _=>false)
  else if t = "bool" then some (match d with | .bl _=>true | _=>false)
  else if t = "str" then some (match d with | .str _=>true | _=>false)
  else if t = "list" then some (match d with | .lst _=>true | _=>false)
  else if t = "tuple" then some (match d with | .tup _=>true | _=>false)
  else none
noncomputable def isiR:Rv→Str→Option Bool
 | .scr _,_=>none
 | r,t=>isiD r.data t
noncomputable def bty:List Str:=["int","bool","str","list","tuple"]
noncomputable def isiG (cs:Cs) (r:Rv) (t:Str):Option Bool:=match r with
 | .val (.ins c _ _)=>if bty.contains t then none else cs.sub c t
 | r=>isiR r t
noncomputable def fldD (cs:Cs) (r:Rv) (x:Str):Option D:=match r with
 | .val (.ins c ns ds)=>if cs.fld c x then (ns.zip ds).lookup x else none
 | _=>none
noncomputable def mtD (cs:Cs) (r:Rv) (x:Str):Option Str:=match r with
 | .val (.ins c ns _)=>if ns.contains x then none else cs.mt c x
 | _=>none
noncomputable def plainO:Expr→Bool
 | .Name ..=>true
 | .Subscript ..=>true
 | _=>false
noncomputable def Rv.ar:Rv→Ar
 | .val d=>.val d
 | .tmp l=>.val (.lst l)
 | .cell l=>.bor l
 | .scr l=>.scr l
noncomputable def lenD (r:Rv):R Rv:=match r.str? with
 | some s=>if s.length≤sizeLine then .ok (.val (.int s.length)) else .no
 | none=>match seqD r with
  | some l=>.ok (.val (.int l.length))
  | none=>.no
noncomputable def listD (r:Rv):R Rv:=match seqD r with
 | some l=>.ok (.tmp l)
 | none=>.no
noncomputable def intD (r:Rv):R Rv:=match r.int? with
 | some i=>.ok (.val (.int i))
 | none=>match r.bl? with
  | some b=>.ok (.val (.int (if b then 1 else 0)))
  | none=>.no
noncomputable def prD:D→Option (Int×Int)
 | .tup [.int a,.int b]=>some (a,b)
 | _=>none
noncomputable def prsD:List D→Option (List (Int×Int))
 | []=>some []
 | d::l=>match prD d,prsD l with
  | some p,some ps=>some (p::ps)
  | _,_=>none
noncomputable def pD (p:Int×Int):D:=.tup [.int p.1,.int p.2]
noncomputable def lexB (p q:Int×Int):Bool:=decide (p.1 < q.1)||(decide (p.1=q.1)&&decide (p.2≤q.2))
noncomputable def sortP (ps:List (Int×Int)):List (Int×Int):=ps.mergeSort lexB
noncomputable def sortedD (r:Rv):R Rv:=match r.list? with
 | some l=>(match prsD l with | some ps=>if ps.length < 64 then .ok (.tmp ((sortP ps).map pD)) else .no | none=>.no)
 | none=>.no
noncomputable def intsD:List D→Option (List Int)
 | []=>some []
 | .int i::l=>(intsD l).map (i :: ·)
 | _=>none
noncomputable def sumD (r:Rv):R Rv:=match r.list? with
 | some l=>(match intsD l with | some ns=>.ok (.val (.int ns.sum)) | none=>.no)
 | none=>.no
noncomputable def maxD (x y:Rv):R Rv:=int2 x y fun i j=>.ok (.val (.int (if j > i then j else i)))
noncomputable def minD (x y:Rv):R Rv:=int2 x y fun i j=>.ok (.val (.int (if j < i then j else i)))
noncomputable def call1 (f:Str) (x:Rv):R Rv:=
 if f = "len" then lenD x else if f = "list" then listD x else if f = "int" then intD x else if f = "sorted" then sortedD x else if f = "sum" then sumD x else .no
noncomputable def call2 (f:Str) (x y:Rv):R Rv:=
 if f = "max" then maxD x y else if f = "min" then minD x y else .no
noncomputable def foldOk:Expr→Bool
 | .Set ..=>false
 | _=>true
noncomputable def starB:Expr→Bool
 | .Starred ..=>true
 | _=>false
noncomputable def tgNames:Expr→Option (List Str)
 | .Name x _=>some [x]
 | .Tuple es _ _=>es.foldr (fun e r=>match e,r with | .Name x _,some l=>some (x::l) | _,_=>none) (some [])
 | _=>none
noncomputable def setN (Γ:Ct) (x:Str) (d:D) (ρ:Env):R Env:=(R.of (ixOf Γ.N x)).th fun i=>if locB Γ.sc x&&nameOk x then .ok (ρ.set i (.val d)) else .no
noncomputable def setNs (Γ:Ct):List Str→List D→Env→R Env
 | [],[],ρ=>.ok ρ
 | x::xs,d::ds,ρ=>(setN Γ x d ρ).th fun ρ1=>setNs Γ xs ds ρ1
 | _,_,_=>.no
noncomputable def asgD (Γ:Ct) (tg:Expr) (d:D) (ρ:Env):R Env:=match tg with
 | .Name x _=>setN Γ x d ρ
 | .Tuple es _ _=>(R.of (tgNames tg)).th fun xs=>match d with
  | .tup ds=>if es.any starB then .no else setNs Γ xs ds ρ
  | _=>.no
 | _=>.no
noncomputable def tupB:Expr→Bool
 | .Tuple ..=>true
 | _=>false
noncomputable def lend:Sl→Sl
 | .own l=>.bor l
 | s=>s
noncomputable def frOf (N:List Str) (sc:Scope):List Nat:=(List.range N.length).filter fun i=>sc.names.lookup (N.getD i "") == some .free
noncomputable def blkEnv (own:List Str) (fr:List Nat) (ρ:Env):Env:=(own.map fun _=>Sl.no)++fr.map fun i=>lend (ρ.getD i .no)
noncomputable def enumD (l:List D):List D:=(List.range l.length).zipWith (fun (i:Nat) d=>D.tup [.int i,d]) l
noncomputable def zipD (l m:List D):List D:=List.zipWith (fun a b=>D.tup [a,b]) l m
noncomputable def rangeD (lo hi:Int):List D:=(List.range (hi - lo).toNat).map fun i:Nat=>D.int (lo+i)
noncomputable def smallI (i:Int):Bool:=decide (-(2 ^ 62)≤i)&&decide (i < 2 ^ 62)
noncomputable def compL (asg:D→Env→R Env) (test:Env→R (Bool×Env)) (elt:Env→R (D×Env)):List D→Env→List D→R (List D)
 | [],_,acc=>.ok acc
 | d::ds,ρ,acc=>(asg d ρ).th fun ρ1=>(test ρ1).th fun bt=>if bt.1 then (elt bt.2).th fun x=>if acc.length < sizeLine then compL asg test elt ds x.2 (acc++[x.1]) else .no else compL asg test elt ds bt.2 acc
mutual
noncomputable def evR:Nat→Ct→Expr→Env→R (Rv×Env)
 | 0,_,_,_=>.no
 | m+1,Γ,e,ρ=>match e with
  | .Name x _=>(nameR Γ x ρ).th fun r=>.ok (r,ρ)
  | .Constant c _ _=>(constD c).th fun r=>.ok (r,ρ)
  | .BinOp a op b _=>(evR m Γ a ρ).th fun x=>(evR m Γ b x.2).th fun y=>(binD op x.1 y.1).th fun r=>.ok (r,y.2)
  | .UnaryOp .USub a _=>(evR m Γ a ρ).th fun x=>match x.1 with
   | .val (.int i)=>.ok (.val (.int (-i)),x.2)
   | _=>.no
  | .UnaryOp .Not a _=>(evR m Γ a ρ).th fun x=>match x.1 with
   | .val (.bl b)=>.ok (.val (.bl (!b)),x.2)
   | _=>.no
  | .BoolOp _ [a] _=>evR m Γ a ρ
  | .BoolOp .And (a::b::l) p=>(evR m Γ a ρ).th fun x=>match x.1 with
   | .val (.bl true)=>evR m Γ (.BoolOp .And (b::l) p) x.2
   | .val (.bl false)=>.ok (.val (.bl false),x.2)
   | _=>.no
  | .BoolOp .Or (a::b::l) p=>(evR m Γ a ρ).th fun x=>match x.1 with
   | .val (.bl false)=>evR m Γ (.BoolOp .Or (b::l) p) x.2
   | .val (.bl true)=>.ok (.val (.bl true),x.2)
   | _=>.no
  | .Compare a [op] [b] _=>(evR m Γ a ρ).th fun x=>(evR m Γ b x.2).th fun y=>if behindInMarks op b then .no else (R.of (cmpD op x.1 y.1)).th fun r=>.ok (.val (.bl r),y.2)
  | .IfExp c a b _=>(evT m Γ c ρ).th fun t=>if t.1 then evR m Γ a t.2 else evR m Γ b t.2
  | .Subscript a (.Slice lo hi none _) _=>(evR m Γ a ρ).th fun x=>(evO m Γ lo x.2).th fun l=>(evO m Γ hi l.2).th fun h=>(sliceD x.1 l.1 h.1).th fun r=>.ok (r,h.2)
  | .Subscript a (.Slice _ _ (some _) _) _=>.no
  | .Subscript a i _=>(evR m Γ a ρ).th fun x=>(evR m Γ i x.2).th fun y=>(idxD x.1 y.1).th fun r=>.ok (r,y.2)
  | .List es _=>(evEs m Γ es ρ).th fun x=>if x.1.length≤sizeLine then .ok (.tmp x.1,x.2) else .no
  | .Tuple es _ _=>(evEs m Γ es ρ).th fun x=>if x.1.length≤sizeLine then .ok (.val (.tup x.1),x.2) else .no
  | .Call (.Name f p) es [] _=>if nameOk f&&glB Γ.sc f&&(ixOf Γ.N f).isNone then (
    if f = "isinstance" then (match es with
     | [a,b]=>(match b with
      | .Name t _=>if (nameOk t&&glB Γ.sc t&&(ixOf Γ.N t).isNone&&!starB a)=true then (evR m Γ a ρ).th fun x=>(R.of (isiG Γ.cs x.1 t)).th fun b=>.ok (.val (.bl b),x.2) else .no
      | _=>.no)
     | _=>.no)
    else if Γ.tab.contains f then (evAs m Γ es ρ).th fun x=>(Γ.cl f x.1).th fun r=>.ok (r,x.2)
    else if Γ.cs.tab.contains f then (evAs m Γ es ρ).th fun x=>(Γ.nw f x.1).th fun r=>.ok (r,x.2)
    else match es with
     | [a]=>if starB a then .no else (evR m Γ a ρ).th fun x=>(call1 f x.1).th fun r=>.ok (r,x.2)
     | [a,b]=>if starB a||starB b then .no else (evR m Γ a ρ).th fun x=>(evR m Γ b x.2).th fun y=>(call2 f x.1 y.1).th fun r=>.ok (r,y.2)
     | _=>.no) else .no
  | .Attribute o x _=>if plainO o then (evR m Γ o ρ).th fun y=>(R.of (fldD Γ.cs y.1 x)).th fun d=>.ok (.val d,y.2) else .no
  | .Call (.Attribute o x ap) es [] q=>if (plainO o&&(ap.endLine == q.line)&&decide (es.length < 30))=true then (evR m Γ o ρ).th fun y=>(R.of (mtD Γ.cs y.1 x)).th fun f=>(evAs m Γ es y.2).th fun z=>(Γ.cl f (y.1.ar::z.1)).th fun r=>.ok (r,z.2) else .no
  | .ListComp elt [g] sc _=>if g.is_async=0 then (evI m Γ (tupB g.target) g.iter ρ).th fun x=>(R.of (tgNames g.target)).th fun own=>
    let fr:=frOf Γ.N sc
    let Δ:Ct:={ Γ with N:=own++fr.map fun i=>Γ.N.getD i "",sc:=sc }
    if (blkCheck Γ.sc Γ.N fr sc&&decide Δ.N.Nodup&&decide (x.1.length≤sizeLine)&&foldOk g.iter)=true then
     (compL (asgD Δ g.target) (fun ρ1=>evIf m Δ g.ifs ρ1) (fun ρ1=>evE m Δ elt ρ1) x.1 (blkEnv own fr x.2) []).th fun l=>.ok (.tmp l,x.2)
    else .no else .no
  | _=>.no
/-- its thing goes on elsewhere -/
noncomputable def evE:Nat→Ct→Expr→Env→R (D×Env)
 | 0,_,_,_=>.no
 | m+1,Γ,e,ρ=>match e with
  | .Name x _=>nameE Γ x ρ
  | e=>(evR m Γ e ρ).th fun x=>match x.1 with
   | .val d=>.ok (d,x.2)
   | .tmp l=>.ok (.lst l,x.2)
   | _=>.no
noncomputable def evT:Nat→Ct→Expr→Env→R (Bool×Env)
 | 0,_,_,_=>.no
 | m+1,Γ,e,ρ=>match e with
  | .UnaryOp .Not a _=>(evT m Γ a ρ).th fun t=>.ok (!t.1,t.2)
  | .BoolOp _ [a] _=>evT m Γ a ρ
  | .BoolOp .And (a::b::l) p=>(evT m Γ a ρ).th fun t=>if t.1 then evT m Γ (.BoolOp .And (b::l) p) t.2 else .ok (false,t.2)
  | .BoolOp .Or (a::b::l) p=>(evT m Γ a ρ).th fun t=>if t.1 then .ok (true,t.2) else evT m Γ (.BoolOp .Or (b::l) p) t.2
  | .BoolOp _ [] _=>.no
  | .IfExp ..=>.no
  | .Compare a [op] [b] _=>(evR m Γ a ρ).th fun x=>(evR m Γ b x.2).th fun y=>if behindInMarks op b then .no else (R.of (cmpD op x.1 y.1)).th fun r=>.ok (r,y.2)
  | .Compare ..=>.no
  | e=>(evR m Γ e ρ).th fun x=>(R.of (truthD x.1)).th fun b=>.ok (b,x.2)
noncomputable def evEs:Nat→Ct→List Expr→Env→R (List D×Env)
 | 0,_,_,_=>.no
 | m+1,Γ,es,ρ=>match es with
  | []=>.ok ([],ρ)
  | e::l=>if starB e then .no else (evE m Γ e ρ).th fun x=>(evEs m Γ l x.2).th fun y=>.ok (x.1::y.1,y.2)
noncomputable def evAs:Nat→Ct→List Expr→Env→R (List Ar×Env)
 | 0,_,_,_=>.no
 | m+1,Γ,es,ρ=>match es with
  | []=>.ok ([],ρ)
  | e::l=>if starB e then .no else (evR m Γ e ρ).th fun x=>(evAs m Γ l x.2).th fun y=>.ok (x.1.ar::y.1,y.2)
noncomputable def evO:Nat→Ct→Option Expr→Env→R (Option Int×Env)
 | 0,_,_,_=>.no
 | m+1,Γ,o,ρ=>match o with
  | none=>.ok (none,ρ)
  | some e=>(evR m Γ e ρ).th fun x=>match x.1 with
   | .val (.int i)=>.ok (some i,x.2)
   | _=>.no
noncomputable def evIf:Nat→Ct→List Expr→Env→R (Bool×Env)
 | 0,_,_,_=>.no
 | m+1,Γ,es,ρ=>match es with
  | []=>.ok (true,ρ)
  | [c]=>evT m Γ c ρ
  | _=>.no
/-- a list or a tuple that a loop walks;true: a tuple -/
noncomputable def evL:Nat→Ct→Expr→Env→R ((Sk×List D)×Env)
 | 0,_,_,_=>.no
 | m+1,Γ,e,ρ=>match e with
  | .Name x _=>nameL Γ x ρ
  | e=>(evR m Γ e ρ).th fun x=>match x.1 with
   | .val (.lst l)=>.ok ((.lst,l),x.2)
   | .val (.tup l)=>.ok ((.tup,l),x.2)
   | .val (.str z)=>.ok ((.str,sigD z),x.2)
   | .tmp l=>.ok ((.lst,l),x.2)
   | _=>.no
/-- what a loop walks -/
noncomputable def evI:Nat→Ct→Bool→Expr→Env→R (List D×Env)
 | 0,_,_,_,_=>.no
 | m+1,Γ,tb,e,ρ=>match e with
  | .Call (.Name f p) es [] q=>if f = "range" || f = "enumerate" || f = "zip" then (if nameOk f&&glB Γ.sc f&&(ixOf Γ.N f).isNone then (match es with
    | [a]=>if starB a then .no else
      if f = "range" then (evR m Γ a ρ).th fun x=>(match x.1.int? with
       | some n=>if smallI n=true then .ok (rangeD 0 n,x.2) else .no
       | none=>.no)
      else if f = "enumerate" then (if tb then (evL m Γ a ρ).th fun x=>match x.1.1 with | .lst=>.ok (enumD x.1.2,x.2) | _=>.no else .no)
      else .no
    | [a,b]=>if starB a||starB b then .no else
      if f = "range" then (evR m Γ a ρ).th fun x=>(evR m Γ b x.2).th fun y=>(match x.1.int?,y.1.int? with
       | some i,some j=>if smallI i=true∧smallI j=true then .ok (rangeD i j,y.2) else .no
       | _,_=>.no)
      else if f = "zip" then (if tb then (evL m Γ a ρ).th fun x=>(evL m Γ b x.2).th fun y=>match x.1.1,y.1.1 with | .lst,.lst=>.ok (zipD x.1.2 y.1.2,y.2) | _,_=>.no else .no)
      else .no
    | _=>.no) else .no)
   else (evL m Γ (.Call (.Name f p) es [] q) ρ).th fun x=>.ok (x.1.2,x.2)
  | e=>(evL m Γ e ρ).th fun x=>.ok (x.1.2,x.2)
end
end DE
set_option maxHeartbeats 4000000
namespace DE
open PySem L2
noncomputable def Wk {α:Type} (x:R α) (f:α→Prop):Prop:=match x with
 | .ok a=>f a
 | .exc _ _=>False
 | .no=>False
theorem Wk.th {α β:Type} {x:R α} {g:α→R β} {f:β→Prop} (h:Wk (x.th g) f):Wk x fun a=>Wk (g a) f:=by
 cases x<;>exact h
theorem Wk.mono {α:Type} {x:R α} {f g:α→Prop} (h:Wk x f) (i:∀ a,f a→g a):Wk x g:=by
 cases x with
 | ok a=>exact i a h
 | exc c l=>exact h
 | no=>exact h
theorem Wk.of {α:Type} {x:Option α} {f:α→Prop} (h:Wk (R.of x) f):∃ a,x=some a∧f a:=by
 cases x with
 | none=>exact h.elim
 | some a=>exact ⟨a,rfl,h⟩
theorem Wk.iff {α:Type} {c:Prop} [Decidable c] {x:R α} {f:α→Prop} (h:Wk (if c then x else .no) f):c∧Wk x f:=by
 by_cases hc:c
 ·rw [if_pos hc] at h;exact ⟨hc,h⟩
 ·rw [if_neg hc] at h;exact h.elim
theorem Wk.nif {α:Type} {c:Prop} [Decidable c] {x:R α} {f:α→Prop} (h:Wk (if c then .no else x) f):¬ c∧Wk x f:=by
 by_cases hc:c
 ·rw [if_pos hc] at h;exact h.elim
 ·rw [if_neg hc] at h;exact ⟨hc,h⟩
section
variable (κ:KC) (K:PySem.W.Frag) (G₀ H₀:Hp) (Γ:Ct) (m:Nat)
noncomputable def tR (e:Expr):TE:=fun σ H Q=>∃ ρ G,ER κ K G₀ H₀ G H ρ σ∧Wk (evR m Γ e ρ) fun x=>∀ v G' H',Po κ K G₀ H₀ σ G H ρ G' H' x.2→RvR κ K H₀ H G' H' x.2 σ x.1 v→Q v H'
noncomputable def tE (e:Expr):TE:=fun σ H Q=>∃ ρ G,ER κ K G₀ H₀ G H ρ σ∧Wk (evE m Γ e ρ) fun x=>∀ v G' H',Po κ K G₀ H₀ σ G H ρ G' H' x.2→Rep κ G' x.1 v→Q v H'
noncomputable def tT (e:Expr):TT:=fun σ H Q=>∃ ρ G,ER κ K G₀ H₀ G H ρ σ∧Wk (evT m Γ e ρ) fun x=>∀ G' H',Po κ K G₀ H₀ σ G H ρ G' H' x.2→Q x.1 H'
noncomputable def tEs (es:List Expr):TA:=fun σ H Q=>∃ ρ G,ER κ K G₀ H₀ G H ρ σ∧Wk (evEs m Γ es ρ) fun x=>∀ vs G' H',Po κ K G₀ H₀ σ G H ρ G' H' x.2→Reps κ G' x.1 vs→Q vs H'
noncomputable def ArR (G H:Hp):Ar→V→Prop
 | .val d,v=>Rep κ G d v
 | .bor ds,v=>∃ a xs,v=.ref a∧H a=some (.lst xs)∧Reps κ G ds xs
 | .scr ds,v=>∃ a xs,v=.ref a∧SqL K H a xs∧Reps κ G ds xs
noncomputable def ArRs (G H:Hp):List Ar→List V→Prop
 | [],vs=>vs=[]
 | a::l,vs=>∃ v r,vs=v::r∧ArR κ K G H a v∧ArRs G H l r
noncomputable def tAs (es:List Expr):TA:=fun σ H Q=>∃ ρ G,ER κ K G₀ H₀ G H ρ σ∧Wk (evAs m Γ es ρ) fun x=>∀ vs G' H',Po κ K G₀ H₀ σ G H ρ G' H' x.2→ArRs κ K G' H' x.1 vs→Q vs H'
noncomputable def tO (o:Option Expr):TO:=fun σ H Q=>∃ ρ G,ER κ K G₀ H₀ G H ρ σ∧Wk (evO m Γ o ρ) fun x=>∀ G' H',Po κ K G₀ H₀ σ G H ρ G' H' x.2→Q x.1 H'
noncomputable def tF (es:List Expr):TT:=fun σ H Q=>∃ ρ G,ER κ K G₀ H₀ G H ρ σ∧Wk (evIf m Γ es ρ) fun x=>∀ G' H',Po κ K G₀ H₀ σ G H ρ G' H' x.2→Q x.1 H'
noncomputable def SrR (G:Hp) (s:Sk×List D) (v:V):Prop:=match s.1 with
 | .str=>∃ x,v=.str x∧s.2=sigD x
 | .tup=>∃ a xs,v=.ref a∧Reps κ G s.2 xs∧G a=some (.tup xs)
 | .lst=>∃ a xs,v=.ref a∧Reps κ G s.2 xs∧(G a=some (.lst xs)∨SqL K H₀ a xs)
noncomputable def tL (e:Expr):TE:=fun σ H Q=>∃ ρ G,ER κ K G₀ H₀ G H ρ σ∧Wk (evL m Γ e ρ) fun x=>∀ v G' H',Po κ K G₀ H₀ σ G H ρ G' H' x.2→SrR κ K H₀ G' x.1 v→Q v H'
noncomputable def ItR (G₁:Hp) (J:It) (l:List D):Prop:=∀ (i:Nat) (G H:Hp),Same G₁ G→Same H₀ H→Same G H→
 (∀ d,l[i]?=some d→J.go i H∧∀ x H',J.yld i H x H'→∃ G',Same H H'∧Same G G'∧Same G' H'∧(∀ a o,G' a=some o→(∃ o',G a=some o')∨H a=none)∧Rep κ G' d x)∧(l.length=i→J.stop i H)
noncomputable def tI (tb:Bool) (e:Expr):TI:=fun σ H Q=>∃ ρ G,ER κ K G₀ H₀ G H ρ σ∧Wk (evI m Γ tb e ρ) fun x=>∀ J G' H',Po κ K G₀ H₀ σ G H ρ G' H' x.2→ItR κ H₀ G' J x.1→Q J H'
noncomputable def ReR (G' H' H:Hp):Rv→V→Prop
 | .val d,v=>Rep κ G' d v
 | .tmp ds,v=>∃ a xs,v=.ref a∧H' a=some (.lst xs)∧H a=none∧G' a=none∧Reps κ G' ds xs
 | _,_=>False
noncomputable def spF (cl:Str→List Ar→R Rv) (f:Str):Sp:=fun vs H Q _=>∃ G args,Same G H∧ArRs κ K G H args vs∧
 Wk (cl f args) fun r=>∀ v G' H',Same H H'→Same G G'→Same G' H'→(∀ a o,G' a=some o→(∃ o',G a=some o')∨H a=none)→ReR κ G' H' H r v→Q v H'
end
noncomputable def bNames:List Str:=["len","list","tuple","int","bool","str","max","min","isinstance","range","enumerate","zip","sorted","sum"]
structure Gd (κ:KC) (K:PySem.W.Frag) (k:Nat) (X:Cx) (Γ:Ct):Prop where
 hN:X.N=Γ.N
 vis:∀ x,visB Γ.sc x=true→Vis X.env.scope x
 loc:∀ x,locB Γ.sc x=true→L2.Loc X.env.scope x∧(X.fn x=true∨X.env.scope.names.lookup x=some .local)
 glo:∀ x,glB Γ.sc x=true→Gl X x
 cf:∀ x,(Γ.sc.names.lookup x=some .cell∨Γ.sc.names.lookup x=some .free)→X.env.kindOf x=some .cell∨X.env.kindOf x=some .free
 nd:Γ.N.Nodup
 calm:X.calm=true
 hK:X.K=K
 room:Room k X.A
 fns:∀ f,Γ.tab.contains f=true→∃ fa fd ps,FnOk X.prog X.w X.K X.mg X.base CX0 k fa fd ps (spF κ K Γ.cl f)∧X.mg f=some (.ref fa)∧PySem.W.keepIn X.K (.ref fa)=true∧Binds X.K fd ps []
 blt:∀ f∈bNames,X.mg f=none
 gl:∀ x d,Γ.gl x=some d→∃ v u,X.mg x=some u∧RelV v u∧∀ G,Rep κ G d v
 cls:∀ c C,κ c=some C→Cls X.K C
 flds:∀ c x C,Γ.cs.fld c x=true→κ c=some C→NoAttr X.K C x
 mts:∀ c x f,Γ.cs.mt c x=some f→∃ C fa fd ps,κ c=some C∧Meth X.K C x fa∧FnOk X.prog X.w X.K X.mg X.base CX0 k fa fd ps (spF κ K Γ.cl f)∧Binds X.K fd ps []
 mks:∀ f,Γ.cs.tab.contains f=true→(∀ args,Γ.nw f args=.no)∨∃ C fa fd ps sp,Mk X.K C fa∧FnOk X.prog X.w X.K X.mg X.base CX0 (k - 1) fa fd ps sp∧X.mg f=some (.ref C)∧Binds X.K fd ps []∧0 < k∧
  ∀ vs H Q,spF κ K Γ.nw f vs H Q E0→∀ x dx,H x=none→H dx=none→dx≠x→sp (.ref x::vs) (upd (upd H dx (.own x)) x (.ins C dx [])) (fun v H2=>v=.non∧Q (.ref x) H2) E0
 subs:∀ c t b,Γ.cs.sub c t=some b→∃ C T,κ c=some C∧(∀ H p dx fs,H p=some (HO.ins C dx fs)→TyOf X.K H (.ref p) (.ref C))∧X.mg t=some (.ref T)∧PySem.W.kitOne X.K (.ref C) (.ref T)=some b
theorem PE.imp {X:Cx} {e:Expr} {t t':TE} (h:PE X e t') (i:∀ σ H Q,t σ H Q→t' σ H Q):PE X e t:=fun pins s σ H Q I hw=>h pins s σ H Q I (i σ H Q hw)
theorem PT.imp {X:Cx} {e:Expr} {t t':TT} (h:PT X e t') (i:∀ σ H Q,t σ H Q→t' σ H Q):PT X e t:=fun pins s σ H Q I hw=>h pins s σ H Q I (i σ H Q hw)
theorem PA.imp {X:Cx} {es:List Expr} {t t':TA} (h:PA X es t') (i:∀ σ H Q,t σ H Q→t' σ H Q):PA X es t:=fun pos pins s σ H Q I hw=>h pos pins s σ H Q I (i σ H Q hw)
theorem PO.imp {X:Cx} {o:Option Expr} {t t':TO} (h:PO X o t') (i:∀ σ H Q,t σ H Q→t' σ H Q):PO X o t:=fun pins s σ H Q I hw=>h pins s σ H Q I (i σ H Q hw)
theorem PIf.imp {X:Cx} {es:List Expr} {t t':TT} (h:PIf X es t') (i:∀ σ H Q,t σ H Q→t' σ H Q):PIf X es t:=fun pins s σ H Q I hw=>h pins s σ H Q I (i σ H Q hw)
theorem PI.imp {X:Cx} {tg e:Expr} {t t':TI} (h:PI X tg e t') (i:∀ σ H Q,t σ H Q→t' σ H Q):PI X tg e t:=fun pins s σ H Q I hw=>h pins s σ H Q I (i σ H Q hw)
theorem pe_none {X:Cx} {e:Expr} {t:TE} (h:∀ σ H Q,¬ t σ H Q):PE X e t:=fun pins s σ H Q I hw=>absurd hw (h σ H Q)
theorem pt_none {X:Cx} {e:Expr} {t:TT} (h:∀ σ H Q,¬ t σ H Q):PT X e t:=fun pins s σ H Q I hw=>absurd hw (h σ H Q)
theorem pa_none {X:Cx} {e:List Expr} {t:TA} (h:∀ σ H Q,¬ t σ H Q):PA X e t:=fun pos pins s σ H Q I hw=>absurd hw (h σ H Q)
theorem po_no {X:Cx} {e:Option Expr} {t:TO} (h:∀ σ H Q,¬ t σ H Q):PO X e t:=fun pins s σ H Q I hw=>absurd hw (h σ H Q)
theorem pif_none {X:Cx} {e:List Expr} {t:TT} (h:∀ σ H Q,¬ t σ H Q):PIf X e t:=fun pins s σ H Q I hw=>absurd hw (h σ H Q)
theorem pi_none {X:Cx} {tg e:Expr} {t:TI} (h:∀ σ H Q,¬ t σ H Q):PI X tg e t:=fun pins s σ H Q I hw=>absurd hw (h σ H Q)
theorem ixOf_at:∀ {N:List Str} {x:Str} {i:Nat},ixOf N x=some i→N[i]?=some x
 | [],x,i,h=>by cases h
 | y::r,x,i,h=>by
  unfold ixOf at h
  by_cases e:y=x
  ·rw [if_pos e] at h;cases h;rw [e];rfl
  ·rw [if_neg e] at h
   cases q:ixOf r x with
   | none=>rw [q] at h;cases h
   | some j=>
    rw [q] at h
    cases h
    show (y::r)[j+1]?=some x
    rw [List.getElem?_cons_succ]
    exact ixOf_at q
theorem nameOk_is {x:Str} (h:nameOk x=true):(x == ("__debug__" : Str))=false∧(x == ("__classdict__" : Str))=false∧x≠"__name__":=by
 unfold nameOk at h
 simp only [Bool.and_eq_true,Bool.not_eq_true'] at h
 refine ⟨h.1.1,h.1.2,fun z=>?_⟩
 rw [z] at h
 exact absurd h.2 (by decide)
theorem vis_is {sc:Scope} {x:Str} (h:visB sc x=true):Vis sc x:=by
 unfold visB at h
 unfold Vis
 split at h
 ·rename_i e;exact .inl e
 ·rename_i e;exact .inr (.inl e)
 ·rename_i e;exact .inr (.inr e)
 ·cases h
theorem loc_is {sc:Scope} {x:Str} (h:locB sc x=true):L2.Loc sc x:=by
 unfold locB at h
 unfold L2.Loc
 split at h
 ·rename_i e;exact .inl e
 ·rename_i e;exact .inr e
 ·cases h
theorem star_one {e:Expr} {es:List Expr} {env:PySem.Env} (h:starB e=false):starEach (e::es) env=(false,eval e env)::starEach es env:=by
 cases e<;>first | rfl | (simp [starB] at h)
section
variable {κ:KC} {K:PySem.W.Frag} {G₀ H₀:Hp} {k:Nat} {X:Cx} {Γ:Ct}
theorem ER.notOwn {G H:Hp} {ρ:Env} {σ:St} (er:ER κ K G₀ H₀ G H ρ σ) {a:Addr} (h:H a=none):¬ OwnAt ρ σ a:=fun ⟨i,l,e,z⟩=>by
 obtain ⟨b,xs,z',h1,_⟩:=er.sl i _ e
 rw [z] at z'
 injection z' with z'
 injection z' with z'
 injection z' with z'
 rw [←z',h] at h1
 cases h1
theorem ER.newList {G H:Hp} {ρ:Env} {σ:St} (er:ER κ K G₀ H₀ G H ρ σ) {a:Addr} {xs:List V} {l:List D} (h:H a=none) (r:Reps κ G l xs) :
  Po κ K G₀ H₀ σ G H ρ G (upd H a (.lst xs)) ρ∧RvR κ K H₀ H G (upd H a (.lst xs)) ρ σ (.tmp l) (.ref a):=
 ⟨Po.room er (Same.upd h),a,xs,rfl,upd_same,h,Same.none er.base h,Same.none er.sub h,er.notOwn h,r⟩
theorem nameR_ok (gd:Gd κ K k X Γ) (m:Nat) (x:Str) (pos:Pos):PE X (.Name x pos) (tR κ K G₀ H₀ Γ (m+1) (.Name x pos)):=by
 by_cases hok:nameOk x=true
 case neg=>
  refine pe_none fun σ H Q ⟨ρ,G,er,h⟩=>?_
  have h:=Wk.th (x:=nameR Γ x ρ) h
  unfold nameR at h
  exact hok (Wk.iff h).1
 obtain ⟨n1,n2,n3⟩:=nameOk_is hok
 cases hi:ixOf Γ.N x with
 | some i=>
  by_cases hv:visB Γ.sc x=true
  case neg=>
   refine pe_none fun σ H Q ⟨ρ,G,er,h⟩=>?_
   have h:=Wk.th (x:=nameR Γ x ρ) h
   unfold nameR at h
   rw [if_pos hok,hi] at h
   exact hv (Wk.iff h).1
  have hx:=gd.vis x hv
  refine PE.imp (pe_var (i:=i) (by rw [gd.hN];exact ixOf_at hi) hx n1 n2) fun σ H Q ⟨ρ,G,er,h⟩=>?_
  have h:=Wk.th (x:=nameR Γ x ρ) h
  unfold nameR at h
  rw [if_pos hok,hi] at h
  have h:=(Wk.iff h).2
  cases q:ρ[i]? with
  | none=>rw [q] at h;exact h.elim
  | some s=>
   rw [q] at h
   have w:=er.sl i s q
   cases s with
   | no=>exact h.elim
   | val d=>obtain ⟨v,z,r⟩:=w;exact ⟨v,z,h v G H (Po.refl er) r⟩
   | own l=>obtain ⟨a,xs,z,r1,r2,r3,r4⟩:=w;exact ⟨_,z,h _ G H (Po.refl er) ⟨a,xs,rfl,r1,r4⟩⟩
   | bor l=>obtain ⟨a,xs,z,r1,r4⟩:=w;exact ⟨_,z,h _ G H (Po.refl er) ⟨a,xs,rfl,er.base _ _ r1,r4⟩⟩
   | scr l=>obtain ⟨a,xs,z,r1,r4⟩:=w;exact ⟨_,z,h _ G H (Po.refl er) ⟨a,xs,rfl,er.base.seq r1,r4⟩⟩
 | none=>
  by_cases hg:glB Γ.sc x=true
  case neg=>
   refine pe_none fun σ H Q ⟨ρ,G,er,h⟩=>?_
   have h:=Wk.th (x:=nameR Γ x ρ) h
   unfold nameR at h
   rw [if_pos hok,hi] at h
   exact hg (Wk.iff h).1
  cases hd:Γ.gl x with
  | none=>
   refine pe_none fun σ H Q ⟨ρ,G,er,h⟩=>?_
   have h:=Wk.th (x:=nameR Γ x ρ) h
   unfold nameR at h
   rw [if_pos hok,hi] at h
   have h:=(Wk.iff h).2
   rw [hd] at h
   exact h
  | some d=>
   obtain ⟨v,u,e1,e2,e3⟩:=gd.gl x d hd
   refine PE.imp (pe_glob (gd.glo x hg) e1 e2 n1) fun σ H Q ⟨ρ,G,er,h⟩=>?_
   have h:=Wk.th (x:=nameR Γ x ρ) h
   unfold nameR at h
   rw [if_pos hok,hi] at h
   have h:=(Wk.iff h).2
   rw [hd] at h
   exact h v G H (Po.refl er) (e3 G)
theorem nameE_ok (gd:Gd κ K k X Γ) (m:Nat) (x:Str) (pos:Pos):PE X (.Name x pos) (tE κ K G₀ H₀ Γ (m+1) (.Name x pos)):=by
 by_cases hok:nameOk x=true
 case neg=>
  refine pe_none fun σ H Q ⟨ρ,G,er,h⟩=>?_
  have h:Wk (nameE Γ x ρ) _:=h
  unfold nameE at h
  exact hok (Wk.iff h).1
 obtain ⟨n1,n2,n3⟩:=nameOk_is hok
 cases hi:ixOf Γ.N x with
 | some i=>
  by_cases hv:visB Γ.sc x=true
  case neg=>
   refine pe_none fun σ H Q ⟨ρ,G,er,h⟩=>?_
   have h:Wk (nameE Γ x ρ) _:=h
   unfold nameE at h
   rw [if_pos hok,hi] at h
   exact hv (Wk.iff h).1
  have hx:=gd.vis x hv
  refine PE.imp (pe_var (i:=i) (by rw [gd.hN];exact ixOf_at hi) hx n1 n2) fun σ H Q ⟨ρ,G,er,h⟩=>?_
  have h:Wk (nameE Γ x ρ) _:=h
  unfold nameE at h
  rw [if_pos hok,hi] at h
  have h:=(Wk.iff h).2
  cases q:ρ[i]? with
  | none=>rw [q] at h;exact h.elim
  | some s=>
   rw [q] at h
   have w:=er.sl i s q
   cases s with
   | no=>exact h.elim
   | val d=>obtain ⟨v,z,r⟩:=w;exact ⟨v,z,h v G H (Po.refl er) r⟩
   | own l=>obtain ⟨a,xs,z,p,r⟩:=er.froze q;exact ⟨_,z,h _ _ H p r⟩
   | bor l=>exact h.elim
   | scr l=>exact h.elim
 | none=>
  by_cases hg:glB Γ.sc x=true
  case neg=>
   refine pe_none fun σ H Q ⟨ρ,G,er,h⟩=>?_
   have h:Wk (nameE Γ x ρ) _:=h
   unfold nameE at h
   rw [if_pos hok,hi] at h
   exact hg (Wk.iff h).1
  cases hd:Γ.gl x with
  | none=>
   refine pe_none fun σ H Q ⟨ρ,G,er,h⟩=>?_
   have h:Wk (nameE Γ x ρ) _:=h
   unfold nameE at h
   rw [if_pos hok,hi] at h
   have h:=(Wk.iff h).2
   rw [hd] at h
   exact h
  | some d=>
   obtain ⟨v,u,e1,e2,e3⟩:=gd.gl x d hd
   refine PE.imp (pe_glob (gd.glo x hg) e1 e2 n1) fun σ H Q ⟨ρ,G,er,h⟩=>?_
   have h:Wk (nameE Γ x ρ) _:=h
   unfold nameE at h
   rw [if_pos hok,hi] at h
   have h:=(Wk.iff h).2
   rw [hd] at h
   exact h v G H (Po.refl er) (e3 G)
end
end DE
set_option maxHeartbeats 4000000
namespace DE
open PySem L2
section
variable {κ:KC} {K:PySem.W.Frag} {G₀ H₀ Hb Hc G H:Hp} {ρ:Env} {σ:St} {r s:Rv} {x y:V}
theorem RvR.int {i:Int} (h:RvR κ K H₀ Hb G H ρ σ r x) (e:r.int?=some i):x=.int i:=by
 cases r with
 | val d=>cases d<;>simp only [Rv.int?] at e<;>first | (cases e;simpa only [RvR,Rep] using h) | cases e
 | _=>cases e
theorem RvR.str {i:Str} (h:RvR κ K H₀ Hb G H ρ σ r x) (e:r.str?=some i):x=.str i:=by
 cases r with
 | val d=>cases d<;>simp only [Rv.str?] at e<;>first | (cases e;simpa only [RvR,Rep] using h) | cases e
 | _=>cases e
theorem RvR.bl {i:Bool} (h:RvR κ K H₀ Hb G H ρ σ r x) (e:r.bl?=some i):x=.bl i:=by
 cases r with
 | val d=>cases d<;>simp only [Rv.bl?] at e<;>first | (cases e;simpa only [RvR,Rep] using h) | cases e
 | _=>cases e
theorem RvR.tup {l:List D} (h:RvR κ K H₀ Hb G H ρ σ r x) (e:r.tup?=some l):∃ a xs,x=.ref a∧G a=some (.tup xs)∧Reps κ G l xs:=by
 cases r with
 | val d=>cases d<;>simp only [Rv.tup?] at e<;>first | (cases e;simpa only [RvR,Rep] using h) | cases e
 | _=>cases e
theorem RvR.seq (er:ER κ K G₀ H₀ G H ρ σ) {l:List D} (h:RvR κ K H₀ Hb G H ρ σ r x) (e:seqD r=some l):∃ a xs,x=.ref a∧(SqL K H a xs∨SqT K H a xs)∧Reps κ G l xs:=by
 unfold seqD at e
 cases q:r.tup? with
 | some l'=>
  rw [q] at e
  cases e
  obtain ⟨a,xs,e1,e2,e3⟩:=h.tup q
  exact ⟨a,xs,e1,.inr (SqT.of (er.sub _ _ e2)),e3⟩
 | none=>
  rw [q] at e
  obtain ⟨a,xs,e1,e2,e3⟩:=h.list er e
  exact ⟨a,xs,e1,.inl e2,e3⟩
theorem RvR.non (h:RvR κ K H₀ Hb G H ρ σ r x):decide (x=.non)=r.non?:=by
 cases r with
 | val d=>
  cases d<;>simp only [RvR,Rep] at h<;>simp only [Rv.non?]
  ·subst h;rfl
  ·subst h;rfl
  ·subst h;rfl
  ·subst h;rfl
  ·obtain ⟨a,xs,rfl,_⟩:=h;rfl
  ·obtain ⟨a,xs,rfl,_⟩:=h;rfl
  ·obtain ⟨p,dx,C,xs,_,rfl,_⟩:=h;rfl
 | tmp l=>obtain ⟨a,xs,rfl,_⟩:=h;rfl
 | cell l=>obtain ⟨a,xs,rfl,_⟩:=h;rfl
 | scr l=>obtain ⟨a,xs,rfl,_⟩:=h;rfl
mutual
theorem Rep.dv (sub:Same G H):∀ {d:D} {v:V} {p:PyData},Rep κ G d v→toP d=some p→DV K H p v
 | .non,v,p,h,e=>by simp only [toP] at e;cases e;simp only [Rep] at h;simp only [DV];exact h
 | .bl b,v,p,h,e=>by simp only [toP] at e;cases e;simp only [Rep] at h;simp only [DV];exact h
 | .int b,v,p,h,e=>by simp only [toP] at e;cases e;simp only [Rep] at h;simp only [DV];exact h
 | .str b,v,p,h,e=>by simp only [toP] at e;cases e;simp only [Rep] at h;simp only [DV];exact h
 | .lst l,v,p,h,e=>by
  simp only [toP] at e
  obtain ⟨ps,e1,rfl⟩:=Option.map_eq_some_iff.mp e
  simp only [Rep] at h
  obtain ⟨a,xs,rfl,h1,h2⟩:=h
  simp only [DV]
  exact ⟨a,xs,rfl,SqL.of (sub _ _ h1),Reps.dvs sub h2 e1⟩
 | .tup l,v,p,h,e=>by
  simp only [toP] at e
  obtain ⟨ps,e1,rfl⟩:=Option.map_eq_some_iff.mp e
  simp only [Rep] at h
  obtain ⟨a,xs,rfl,h1,h2⟩:=h
  simp only [DV]
  exact ⟨a,xs,rfl,SqT.of (sub _ _ h1),Reps.dvs sub h2 e1⟩
 | .ins c ns l,v,p,h,e=>by simp only [toP] at e;cases e
theorem Reps.dvs (sub:Same G H):∀ {ds:List D} {vs:List V} {ps:List PyData},Reps κ G ds vs→toPs ds=some ps→DVs K H ps vs
 | [],vs,ps,h,e=>by simp only [toPs] at e;cases e;simp only [Reps] at h;simp only [DVs];exact h
 | d::ds,vs,ps,h,e=>by
  simp only [toPs] at e
  obtain ⟨p,e1,e2⟩:=Option.bind_eq_some_iff.mp e
  obtain ⟨qs,e3,rfl⟩:=Option.map_eq_some_iff.mp e2
  simp only [Reps] at h
  obtain ⟨x,r,rfl,h1,h2⟩:=h
  simp only [DVs]
  exact ⟨x,r,rfl,Rep.dv sub h1 e1,Reps.dvs sub h2 e3⟩
end
theorem RvR.dv (er:ER κ K G₀ H₀ G H ρ σ) {p:PyData} (h:RvR κ K H₀ Hb G H ρ σ r x) (e:toP r.data=some p):DV K H p x:=by
 have lst:∀ {l:List D} {a:Addr} {xs:List V},SqL K H a xs→Reps κ G l xs→toP (.lst l)=some p→DV K H p (.ref a):=fun {l a xs} hq hr e=>by
  simp only [toP] at e
  obtain ⟨ps,e1,rfl⟩:=Option.map_eq_some_iff.mp e
  simp only [DV]
  exact ⟨a,xs,rfl,hq,Reps.dvs er.sub hr e1⟩
 cases r with
 | val d=>exact Rep.dv er.sub h e
 | tmp l=>obtain ⟨a,xs,rfl,h1,_,_,_,_,h6⟩:=h;exact lst (SqL.of h1) h6 e
 | cell l=>obtain ⟨a,xs,rfl,h1,h6⟩:=h;exact lst (SqL.of h1) h6 e
 | scr l=>obtain ⟨a,xs,rfl,h1,h6⟩:=h;exact lst h1 h6 e
theorem flat_rep {d:D} {v:V} (h:Rep κ G d v) (f:flatD d=true):v=flV d∧flatV v=true:=by
 cases d<;>simp only [flatD] at f<;>try (exact absurd f (by decide))
 all_goals (simp only [Rep] at h;subst h;exact ⟨rfl,rfl⟩)
theorem flat_reps:∀ {l:List D} {vs:List V},Reps κ G l vs→l.all flatD=true→vs=l.map flV∧vs.all flatV=true
 | [],vs,h,f=>by simp only [Reps] at h;subst h;exact ⟨rfl,rfl⟩
 | d::l,vs,h,f=>by
  simp only [Reps] at h
  obtain ⟨x,r,rfl,h1,h2⟩:=h
  simp only [List.all_cons,Bool.and_eq_true] at f
  obtain ⟨e1,e2⟩:=flat_rep h1 f.1
  obtain ⟨e3,e4⟩:=flat_reps h2 f.2
  subst e1 e3
  exact ⟨rfl,by simp only [List.all_cons,e2,e4,Bool.and_self]⟩
theorem flat_rv (h:RvR κ K H₀ Hb G H ρ σ r x) (f:flatD r.data=true):x=flV r.data∧flatV x=true:=by
 cases r with
 | val d=>exact flat_rep h f
 | _=>simp only [Rv.data,flatD] at f;exact absurd f (by decide)
theorem int2_is {f:Int→Int→R Rv} {F:Rv→Prop} (h:Wk (int2 r s f) F):∃ i j,r.int?=some i∧s.int?=some j∧Wk (f i j) F:=by
 unfold int2 at h
 cases e1:r.int? with
 | none=>rw [e1] at h;exact h.elim
 | some i=>
  cases e2:s.int? with
  | none=>rw [e1,e2] at h;exact h.elim
  | some j=>rw [e1,e2] at h;exact ⟨i,j,rfl,rfl,h⟩
theorem atI_reps {l:List D} {xs:List V} {i:Int} {d:D} (h:Reps κ G l xs) (e:atI l i=some d):∃ v,atI xs i=some v∧Rep κ G d v:=by
 unfold atI at e ⊢
 rw [←h.len]
 obtain ⟨j,e1,e2⟩:=Option.bind_eq_some_iff.mp e
 obtain ⟨v,e3,e4⟩:=h.atD e2
 exact ⟨v,by rw [e1];exact e3,e4⟩
theorem cut_reps {l:List D} {xs:List V} {lo hi:Option Int} (h:Reps κ G l xs):Reps κ G (cutD l lo hi) (cutV xs lo hi):=by
 unfold cutD cutV
 rw [h.len]
 exact (h.drop _).take _
end
section
variable (κ:KC) (K:PySem.W.Frag) (G₀ H₀:Hp)
noncomputable def rBin (op:Operator):R2:=fun x y H Q=>∃ (ρ:Env) (σ:St) (G Hb Hc:Hp) (r s:Rv),ER κ K G₀ H₀ G H ρ σ∧RvR κ K H₀ Hb G H ρ σ r x∧RvR κ K H₀ Hc G H ρ σ s y∧
 Wk (binD op r s) fun z=>∀ v G' H',Po κ K G₀ H₀ σ G H ρ G' H' ρ→RvR κ K H₀ H G' H' ρ σ z v→Q v H'
noncomputable def rCmp (op:CmpOp):R2:=fun x y H Q=>∃ (ρ:Env) (σ:St) (G Hb Hc:Hp) (r s:Rv) (b:Bool),ER κ K G₀ H₀ G H ρ σ∧RvR κ K H₀ Hb G H ρ σ r x∧RvR κ K H₀ Hc G H ρ σ s y∧cmpD op r s=some b∧Q (.bl b) H
noncomputable def rIdx:R2:=fun x y H Q=>∃ (ρ:Env) (σ:St) (G Hb Hc:Hp) (r s:Rv),ER κ K G₀ H₀ G H ρ σ∧RvR κ K H₀ Hb G H ρ σ r x∧RvR κ K H₀ Hc G H ρ σ s y∧
 Wk (idxD r s) fun z=>∀ v G' H',Po κ K G₀ H₀ σ G H ρ G' H' ρ→RvR κ K H₀ H G' H' ρ σ z v→Q v H'
noncomputable def rSli:V→Option Int→Option Int→Hp→VK→Prop:=fun x lo hi H Q=>∃ (ρ:Env) (σ:St) (G Hb:Hp) (r:Rv),ER κ K G₀ H₀ G H ρ σ∧RvR κ K H₀ Hb G H ρ σ r x∧
 Wk (sliceD r lo hi) fun z=>∀ v G' H',Po κ K G₀ H₀ σ G H ρ G' H' ρ→RvR κ K H₀ H G' H' ρ σ z v→Q v H'
noncomputable def rC1 (f:Rv→R Rv):List V→Hp→VK→Prop:=fun xs H Q=>∃ (ρ:Env) (σ:St) (G Hb:Hp) (r:Rv) (x:V),xs=[x]∧ER κ K G₀ H₀ G H ρ σ∧RvR κ K H₀ Hb G H ρ σ r x∧
 Wk (f r) fun z=>∀ v G' H',Po κ K G₀ H₀ σ G H ρ G' H' ρ→RvR κ K H₀ H G' H' ρ σ z v→Q v H'
noncomputable def rC2 (f:Rv→Rv→R Rv):List V→Hp→VK→Prop:=fun xs H Q=>∃ (ρ:Env) (σ:St) (G Hb Hc:Hp) (r s:Rv) (x y:V),xs=[x,y]∧ER κ K G₀ H₀ G H ρ σ∧RvR κ K H₀ Hb G H ρ σ r x∧RvR κ K H₀ Hc G H ρ σ s y∧
 Wk (f r s) fun z=>∀ v G' H',Po κ K G₀ H₀ σ G H ρ G' H' ρ→RvR κ K H₀ H G' H' ρ σ z v→Q v H'
end
section
variable {κ:KC} {K:PySem.W.Frag} {G₀ H₀:Hp} {k:Nat} {X:Cx} {Γ:Ct}
theorem bin_int (op:Operator) {f:Int→Int→R Rv} {C:Int→Int→Prop} {g:Int→Int→Int} (hop:OpR X (binaryOp op) (rI C fun i j=>.int (g i j))) (hf:∀ r s,binD op r s=int2 r s f) (hw:∀ i j F,Wk (f i j) F→C i j∧F (.val (.int (g i j)))) :
  OpR X (binaryOp op) (rBin κ K G₀ H₀ op):=by
 intro pins st σ' H x y v u Q I rx ry ⟨ρ,σ,G,Hb,Hc,r,s,er,h1,h2,h⟩
 rw [hf] at h
 obtain ⟨i,j,e1,e2,h⟩:=int2_is h
 obtain ⟨hc,h⟩:=hw i j _ h
 exact hop pins st σ' H x y v u Q I rx ry ⟨i,j,h1.int e1,h2.int e2,hc,h _ G H (Po.refl er) (by simp only [RvR,Rep])⟩
theorem opI0' {f:Value→Value→Sem Value} {g:Int→Int→V} (h:OpR X f (rI0 g)):OpR X f (rI (fun _ _=>True) g):=fun pins st σ' H x y v u Q I rx ry ⟨i,j,e1,e2,_,q⟩=>h pins st σ' H x y v u Q I rx ry ⟨i,j,e1,e2,q⟩
theorem add_ok:OpR X (binaryOp .Add) (rBin κ K G₀ H₀ .Add):=by
 intro pins st σ' H x y v u Q I rx ry ⟨ρ,σ,G,Hb,Hc,r,s,er,h1,h2,h⟩
 have h:Wk (addD r s) _:=h
 unfold addD at h
 have cat:Wk (match r.plain?,s.plain? with
   | some l,some m=>if l.length+m.length≤sizeLine then R.ok (Rv.tmp (l++m)) else .no
   | _,_=>.no) (fun z=>∀ v G' H',Po κ K G₀ H₀ σ G H ρ G' H' ρ→RvR κ K H₀ H G' H' ρ σ z v→Q v H')→wpAny (model X.prog X.w) X.A (binaryOp .Add v u) (EP X pins σ' Q) X.xe st:=fun h=>by
  cases e1:r.plain? with
  | none=>rw [e1] at h;exact h.elim
  | some l=>
   cases e2:s.plain? with
   | none=>rw [e1,e2] at h;exact h.elim
   | some m=>
    rw [e1,e2] at h
    obtain ⟨hz,h⟩:=Wk.iff h
    obtain ⟨a,xs,q1,q2,q3⟩:=h1.plain er e1
    obtain ⟨b,ys,p1,p2,p3⟩:=h2.plain er e2
    refine op_cat pins st σ' H x y v u Q I rx ry ⟨a,b,xs,ys,q1,p1,q2,p2,by rw [←q3.len,←p3.len];exact hz,fun p hp=>?_⟩
    obtain ⟨z1,z2⟩:=er.newList hp (q3.app p3)
    exact h _ _ _ z1 z2
 have txt:Wk (match r.str?,s.str? with
   | some a,some b=>if a.length+b.length≤sizeLine then R.ok (Rv.val (.str (a++b))) else .no
   | _,_=>match r.plain?,s.plain? with
    | some l,some m=>if l.length+m.length≤sizeLine then R.ok (Rv.tmp (l++m)) else .no
    | _,_=>.no) (fun z=>∀ v G' H',Po κ K G₀ H₀ σ G H ρ G' H' ρ→RvR κ K H₀ H G' H' ρ σ z v→Q v H')→wpAny (model X.prog X.w) X.A (binaryOp .Add v u) (EP X pins σ' Q) X.xe st:=fun h=>by
  cases e1:r.str? with
  | none=>rw [e1] at h;exact cat h
  | some l=>
   cases e2:s.str? with
   | none=>rw [e1,e2] at h;exact cat h
   | some m=>
    rw [e1,e2] at h
    obtain ⟨hz,h⟩:=Wk.iff h
    exact op_add_str pins st σ' H x y v u Q I rx ry ⟨l,m,h1.str e1,h2.str e2,hz,h _ G H (Po.refl er) (by simp only [RvR,Rep])⟩
 cases e1:r.int? with
 | none=>rw [e1] at h;exact txt h
 | some i=>
  cases e2:s.int? with
  | none=>rw [e1,e2] at h;exact txt h
  | some j=>
   rw [e1,e2] at h
   exact op_add pins st σ' H x y v u Q I rx ry ⟨i,j,h1.int e1,h2.int e2,h _ G H (Po.refl er) (by simp only [RvR,Rep])⟩
theorem mulB_is {i j:Int} (h:mulB i j=true):CMul i j:=by
 unfold mulB at h
 simp only [Bool.or_eq_true,Bool.and_eq_true,decide_eq_true_eq] at h
 exact h
theorem bin_ok (op:Operator):OpR X (binaryOp op) (rBin κ K G₀ H₀ op):=by
 cases op with
 | Add=>exact add_ok
 | Sub=>exact bin_int .Sub (opI0' op_sub) (fun _ _=>rfl) fun i j F h=>⟨trivial,h⟩
 | Mult=>exact bin_int .Mult op_mul (fun _ _=>rfl) fun i j F h=>⟨mulB_is (Wk.iff h).1,(Wk.iff h).2⟩
 | FloorDiv=>exact bin_int .FloorDiv op_fdiv (fun _ _=>rfl) fun i j F h=>⟨(Wk.iff h).1,(Wk.iff h).2⟩
 | Mod=>exact bin_int .Mod op_mod (fun _ _=>rfl) fun i j F h=>⟨(Wk.iff h).1,(Wk.iff h).2⟩
 | Pow=>exact bin_int .Pow op_pow (fun _ _=>rfl) fun i j F h=>⟨(Wk.iff h).1,(Wk.iff h).2⟩
 | _=>intro pins st σ' H x y v u Q I rx ry ⟨ρ,σ,G,Hb,Hc,r,s,er,h1,h2,h⟩;exact h.elim
theorem cmp_int (op:CmpOp) {g:Int→Int→Bool} (hop:OpR X (compareOp op) (rI0 fun i j=>.bl (g i j))) (hf:∀ r s,cmpD op r s=cmpI r s g):OpR X (compareOp op) (rCmp κ K G₀ H₀ op):=by
 intro pins st σ' H x y v u Q I rx ry ⟨ρ,σ,G,Hb,Hc,r,s,b,er,h1,h2,h,q⟩
 rw [hf] at h
 unfold cmpI at h
 cases e1:r.int? with
 | none=>rw [e1] at h;cases h
 | some i=>
  cases e2:s.int? with
  | none=>rw [e1,e2] at h;cases h
  | some j=>
   rw [e1,e2] at h
   cases h
   exact hop pins st σ' H x y v u Q I rx ry ⟨i,j,h1.int e1,h2.int e2,q⟩
theorem eqD_is {x y:D} {b:Bool} (h:eqD x y=some b):∃ p q,toP x=some p∧toP y=some q∧SeqAt.shaped p=true∧SeqAt.shaped q=true∧b=PyData.eqv p q:=by
 unfold eqD at h
 cases e1:toP x with
 | none=>rw [e1] at h;cases h
 | some p=>
  cases e2:toP y with
  | none=>rw [e1,e2] at h;cases h
  | some q=>
   rw [e1,e2] at h
   dsimp only at h
   by_cases hs:(SeqAt.shaped p&&SeqAt.shaped q)=true
   ·rw [if_pos hs] at h
    cases h
    rw [Bool.and_eq_true] at hs
    exact ⟨p,q,rfl,rfl,hs.1,hs.2,rfl⟩
   ·rw [if_neg hs] at h;cases h
theorem mem_ok (gd:Gd κ K k X Γ) (neg:Bool) (op:CmpOp) (hs:OpR X (compareOp op) (fun x y H Q=>∃ i j,x=.str i∧y=.str j∧Q (.bl (if neg then !occB i j else occB i j)) H)) (hl:OpR X (compareOp op) (rIn X.K neg))
  (hf:∀ r s,cmpD op r s=(memD r s).map fun b=>if neg then !b else b):OpR X (compareOp op) (rCmp κ K G₀ H₀ op):=by
 intro pins st σ' H x y v u Q I rx ry ⟨ρ,σ,G,Hb,Hc,r,s,b,er,h1,h2,h,q⟩
 rw [hf] at h
 obtain ⟨b',hb',rfl⟩:=Option.map_eq_some_iff.mp h
 replace h:=hb'
 unfold memD at h
 have sq:(seqD s).bind (inD r.data)=some b'→wpAny (model X.prog X.w) X.A (compareOp op v u) (EP X pins σ' Q) X.xe st:=fun h=>by
  obtain ⟨l,e1,e2⟩:=Option.bind_eq_some_iff.mp h
  unfold inD at e2
  by_cases hc:(flatD r.data&&l.all flatD)=true
  ·rw [if_pos hc] at e2
   cases e2
   rw [Bool.and_eq_true] at hc
   obtain ⟨a,xs,p1,p2,p3⟩:=h2.seq er e1
   obtain ⟨f1,f2⟩:=flat_rv h1 hc.1
   obtain ⟨f3,f4⟩:=flat_reps p3 hc.2
   refine hl pins st σ' H x y v u Q I rx ry ⟨a,xs,p1,by rw [gd.hK];exact p2,f2,f4,?_⟩
   rw [f1,f3]
   exact q
  ·rw [if_neg hc] at e2;cases e2
 cases e1:r.str? with
 | none=>rw [e1] at h;exact sq h
 | some i=>
  cases e2:s.str? with
  | none=>rw [e1,e2] at h;exact sq h
  | some j=>
   rw [e1,e2] at h
   cases h
   exact hs pins st σ' H x y v u Q I rx ry ⟨i,j,h1.str e1,h2.str e2,q⟩
theorem cmp_ok (gd:Gd κ K k X Γ) (op:CmpOp):OpR X (compareOp op) (rCmp κ K G₀ H₀ op):=by
 have hu:X.A.units+64 < cLine:=by have:=gd.room.un;omega
 cases op with
 | Eq=>
  intro pins st σ' H x y v u Q I rx ry ⟨ρ,σ,G,Hb,Hc,r,s,b,er,h1,h2,h,q⟩
  obtain ⟨p,p',e1,e2,e3,e4,rfl⟩:=eqD_is h
  exact op_eqD hu pins st σ' H x y v u Q I rx ry ⟨p,p',by rw [gd.hK];exact h1.dv er e1,by rw [gd.hK];exact h2.dv er e2,e3,e4,q⟩
 | NotEq=>
  intro pins st σ' H x y v u Q I rx ry ⟨ρ,σ,G,Hb,Hc,r,s,b,er,h1,h2,h,q⟩
  obtain ⟨b',h',rfl⟩:=Option.map_eq_some_iff.mp h
  obtain ⟨p,p',e1,e2,e3,e4,rfl⟩:=eqD_is h'
  exact op_neD hu pins st σ' H x y v u Q I rx ry ⟨p,p',by rw [gd.hK];exact h1.dv er e1,by rw [gd.hK];exact h2.dv er e2,e3,e4,q⟩
 | Lt=>exact cmp_int .Lt op_lt fun _ _=>rfl
 | LtE=>exact cmp_int .LtE op_le fun _ _=>rfl
 | Gt=>exact cmp_int .Gt op_gt fun _ _=>rfl
 | GtE=>exact cmp_int .GtE op_ge fun _ _=>rfl
 | Is=>
  intro pins st σ' H x y v u Q I rx ry ⟨ρ,σ,G,Hb,Hc,r,s,b,er,h1,h2,h,q⟩
  have h:(if s.non?=true then some r.non? else none)=some b:=h
  by_cases hn:s.non?=true
  ·rw [if_pos hn] at h
   cases h
   refine op_isN pins st σ' H x y v u Q I rx ry ⟨of_decide_eq_true (h2.non.trans hn),?_⟩
   rw [h1.non]
   exact q
  ·rw [if_neg hn] at h;cases h
 | IsNot=>
  intro pins st σ' H x y v u Q I rx ry ⟨ρ,σ,G,Hb,Hc,r,s,b,er,h1,h2,h,q⟩
  have h:(if s.non?=true then some (!r.non?) else none)=some b:=h
  by_cases hn:s.non?=true
  ·rw [if_pos hn] at h
   cases h
   refine op_notN pins st σ' H x y v u Q I rx ry ⟨of_decide_eq_true (h2.non.trans hn),?_⟩
   rw [h1.non]
   exact q
  ·rw [if_neg hn] at h;cases h
 | In=>exact mem_ok gd false .In op_in_str op_in_seq fun r s=>by show memD r s=_;cases memD r s<;>rfl
 | NotIn=>exact mem_ok gd true .NotIn op_notin_str op_notIn_seq fun r s=>rfl
theorem idx_ok (gd:Gd κ K k X Γ):IxR X (rIdx κ K G₀ H₀):=by
 intro value slice pins st σ' H x y v u Q I rx ry ⟨ρ,σ,G,Hb,Hc,r,s,er,h1,h2,h⟩ hs
 unfold idxD at h
 cases e1:s.int? with
 | none=>rw [e1] at h;exact h.elim
 | some i=>
  rw [e1] at h
  dsimp only at h
  cases e2:r.str? with
  | some z=>
   rw [e2] at h
   dsimp only at h
   obtain ⟨hz,h⟩:=Wk.iff h
   cases e3:atI z.cps.toList i with
   | none=>rw [e3] at h;exact h.elim
   | some c=>
    rw [e3] at h
    exact ix_str value slice pins st σ' H x y v u Q I rx ry ⟨z,i,c,h1.str e2,h2.int e1,hz,e3,h _ G H (Po.refl er) (by simp only [RvR,Rep])⟩ hs
  | none=>
   rw [e2] at h
   dsimp only at h
   cases e3:seqD r with
   | none=>rw [e3] at h;exact h.elim
   | some l=>
    rw [e3] at h
    dsimp only at h
    cases e4:atI l i with
    | none=>rw [e4] at h;exact h.elim
    | some d=>
     rw [e4] at h
     obtain ⟨a,xs,p1,p2,p3⟩:=h1.seq er e3
     obtain ⟨w,p4,p5⟩:=atI_reps p3 e4
     rcases p2 with p2 | p2
     ·exact ix_list value slice pins st σ' H x y v u Q I rx ry ⟨a,xs,i,w,p1,h2.int e1,by rw [gd.hK];exact p2,p4,h w G H (Po.refl er) p5⟩ hs
     ·exact ix_tup value slice pins st σ' H x y v u Q I rx ry ⟨a,xs,i,w,p1,h2.int e1,by rw [gd.hK];exact p2,p4,h w G H (Po.refl er) p5⟩ hs
theorem sli_ok (gd:Gd κ K k X Γ):L2.SlR X (rSli κ K G₀ H₀):=by
 intro pins st σ' H x v vl vu lo hi sl Q I rx hs pl pu ⟨ρ,σ,G,Hb,r,er,h1,h⟩
 obtain ⟨l,e1,h⟩:=Wk.of (Wk.th h)
 obtain ⟨a,xs,p1,p2,p3⟩:=h1.list er e1
 refine sl_list pins st σ' H x v vl vu lo hi sl Q I rx hs pl pu ⟨a,xs,p1,by rw [gd.hK];exact p2,fun p hp=>?_⟩
 obtain ⟨z1,z2⟩:=er.newList hp (cut_reps (lo:=lo) (hi:=hi) p3)
 exact h _ _ _ z1 z2
theorem len_ok (gd:Gd κ K k X Γ):CallR X (.builtin "len") (rC1 κ K G₀ H₀ lenD):=by
 intro pins st σ' H xs us Q I rs ⟨ρ,σ,G,Hb,r,x,hx,er,h1,h⟩
 unfold lenD at h
 cases e2:r.str? with
 | some z=>
  rw [e2] at h
  dsimp only at h
  obtain ⟨hz,h⟩:=Wk.iff h
  exact call_len_str pins st σ' H xs us Q I rs ⟨z,by rw [hx,h1.str e2],hz,h _ G H (Po.refl er) (by simp only [RvR,Rep])⟩
 | none=>
  rw [e2] at h
  dsimp only at h
  cases e3:seqD r with
  | none=>rw [e3] at h;exact h.elim
  | some l=>
   rw [e3] at h
   obtain ⟨a,ys,p1,p2,p3⟩:=h1.seq er e3
   refine call_len_seq pins st σ' H xs us Q I rs ⟨a,ys,by rw [hx,p1],by rw [gd.hK];exact p2,?_⟩
   rw [←p3.len]
   exact h _ G H (Po.refl er) (by simp only [RvR,Rep])
theorem list_ok (gd:Gd κ K k X Γ):CallR X (.type "list") (rC1 κ K G₀ H₀ listD):=by
 intro pins st σ' H xs us Q I rs ⟨ρ,σ,G,Hb,r,x,hx,er,h1,h⟩
 unfold listD at h
 cases e3:seqD r with
 | none=>rw [e3] at h;exact h.elim
 | some l=>
  rw [e3] at h
  obtain ⟨a,ys,p1,p2,p3⟩:=h1.seq er e3
  refine call_list_of pins st σ' H xs us Q I rs ⟨a,ys,by rw [hx,p1],by rw [gd.hK];exact p2,fun p hp=>?_⟩
  obtain ⟨z1,z2⟩:=er.newList hp p3
  exact h _ _ _ z1 z2
theorem lexB_trans (a b c:Int×Int) (h1:lexB a b=true) (h2:lexB b c=true):lexB a c=true:=by
 simp only [lexB,Bool.or_eq_true,Bool.and_eq_true,decide_eq_true_eq] at *
 omega
theorem lexB_total (a b:Int×Int):(lexB a b||lexB b a)=true:=by
 simp only [lexB,Bool.or_eq_true,Bool.and_eq_true,decide_eq_true_eq] at *
 omega
theorem sortP_is {ps qs:List (Int×Int)} (p:qs.Perm ps) (s:qs.Pairwise lexle):sortP ps=qs:=by
 have s1:(sortP ps).Pairwise fun a b=>lexB a b=true:=List.pairwise_mergeSort lexB_trans lexB_total ps
 have s2:qs.Pairwise fun a b=>lexB a b=true:=s.imp fun {a b} h=>by
  simp only [lexB,Bool.or_eq_true,Bool.and_eq_true,decide_eq_true_eq]
  exact h
 refine List.Perm.eq_of_pairwise (fun a b _ _ h1 h2=>?_) s1 s2 ((List.mergeSort_perm ps lexB).trans p.symm)
 simp only [lexB,Bool.or_eq_true,Bool.and_eq_true,decide_eq_true_eq] at h1 h2
 exact Prod.ext (by omega) (by omega)
theorem prs_reps {G:Hp}:∀ {l:List D} {xs:List V} {ps:List (Int×Int)},Reps κ G l xs→prsD l=some ps→Paired (fun x (p:Int×Int)=>∃ a,x=V.ref a∧G a=some (.tup [.int p.1,.int p.2])) xs ps
 | [],xs,ps,r,h=>by simp only [Reps] at r;subst r;cases h;exact .nil
 | d::l,xs,ps,r,h=>by
  simp only [Reps] at r
  obtain ⟨x,us,rfl,r1,r2⟩:=r
  unfold prsD at h
  cases e1:prD d with
  | none=>rw [e1] at h;cases h
  | some p=>
   cases e2:prsD l with
   | none=>rw [e1,e2] at h;cases h
   | some qs=>
    rw [e1,e2] at h
    cases h
    refine .cons ?_ (prs_reps r2 e2)
    unfold prD at e1
    split at e1
    ·cases e1
     simp only [Rep,Reps] at r1
     obtain ⟨a,ys,rfl,h1,x1,z1,rfl,rfl,x2,z2,rfl,rfl,rfl⟩:=r1
     exact ⟨a,rfl,h1⟩
    ·cases e1
theorem Paired.memL {α β:Type} {R:α→β→Prop}:∀ {l:List α} {m:List β},Paired R l m→∀ a∈l,∃ b,R a b
 | _,_,.nil,a,h=>by cases h
 | _,_,.cons r rs,a,h=>by
  cases h with
  | head=>exact ⟨_,r⟩
  | tail _ h=>exact Paired.memL rs a h
theorem pairs_reps {G H:Hp} (sub:Same G H) {xs:List V} (f:∀ x∈xs,∃ p:Int×Int,∃ a,x=V.ref a∧G a=some (.tup [.int p.1,.int p.2])) {ys:List V} {qs:List (Int×Int)} (hm:∀ y∈ys,y∈xs) (h:Paired (P2 K H) ys qs):Reps κ G (qs.map pD) ys:=by
 induction h with
 | nil=>exact .nil
 | cons r rs ih=>
  refine .cons ?_ (ih fun z hz=>hm z (List.mem_cons_of_mem _ hz))
  obtain ⟨p,a,rfl,ga⟩:=f _ (hm _ (List.mem_cons_self ..))
  obtain ⟨b,eb,hb⟩:=r
  cases eb
  rw [sub _ _ ga] at hb
  rw [hb] at ga
  simp only [pD,Rep,Reps]
  exact ⟨a,_,rfl,ga,_,_,rfl,rfl,_,_,rfl,rfl,rfl⟩
theorem sorted_ok (gd:Gd κ K k X Γ):CallR X (.builtin "sorted") (rC1 κ K G₀ H₀ sortedD):=by
 intro pins st σ' H xs us Q I rs ⟨ρ,σ,G,Hb,r,x,hx,er,h1,h⟩
 unfold sortedD at h
 cases e3:r.list? with
 | none=>rw [e3] at h;exact h.elim
 | some l=>
  rw [e3] at h
  dsimp only at h
  cases e4:prsD l with
  | none=>rw [e4] at h;exact h.elim
  | some ps=>
   rw [e4] at h
   dsimp only at h
   obtain ⟨h64,h⟩:=Wk.iff h
   obtain ⟨a,ys,p1,p2,p3⟩:=h1.list er e3
   have pr:=prs_reps p3 e4
   have hlen:ys.length < 64:=by
    have:∀ {xs:List V} {ps:List (Int×Int)} {R:V→Int×Int→Prop},Paired R xs ps→xs.length=ps.length:=by
     intro xs ps R q
     induction q with
     | nil=>rfl
     | cons _ _ ih=>simp [ih]
    rw [this pr];exact h64
   have pr2:Paired (P2 X.K H) ys ps:=by
    have:∀ {ys:List V} {ps:List (Int×Int)},Paired (fun x (p:Int×Int)=>∃ a,x=V.ref a∧G a=some (.tup [.int p.1,.int p.2])) ys ps→Paired (P2 X.K H) ys ps:=by
     intro ys ps q
     induction q with
     | nil=>exact .nil
     | cons r rs ih=>obtain ⟨a,e,ga⟩:=r;exact .cons ⟨a,e,er.sub _ _ ga⟩ ih
    exact this pr
   refine call_sorted64 pins st σ' H xs us Q I rs ⟨a,ys,ps,by rw [hx,p1],by rw [gd.hK];exact p2,hlen,pr2,fun p zs qs hp z1 z2 z3 z4=>?_⟩
   have e5:sortP ps=qs:=sortP_is z3 z4
   have rr:Reps κ G ((sortP ps).map pD) zs:=by
    rw [e5]
    refine pairs_reps (K:=X.K) er.sub (fun x hx=>?_) (fun y hy=>z2.mem_iff.mp hy) z1
    obtain ⟨p,hp⟩:=Paired.memL pr x hx
    exact ⟨p,hp⟩
   obtain ⟨w1,w2⟩:=er.newList hp rr
   exact h _ _ _ w1 w2
theorem ints_of {G:Hp}:∀ {l:List D} {xs:List V} {ns:List Int},Reps κ G l xs→intsD l=some ns→xs=ns.map V.int
 | [],xs,ns,r,h=>by simp only [Reps] at r;subst r;cases h;rfl
 | d::l,xs,ns,r,h=>by
  simp only [Reps] at r
  obtain ⟨x,us,rfl,r1,r2⟩:=r
  cases d with
  | int i=>
   unfold intsD at h
   obtain ⟨ms,e1,rfl⟩:=Option.map_eq_some_iff.mp h
   simp only [Rep] at r1
   rw [r1,ints_of r2 e1]
   rfl
  | _=>cases h
theorem sum_ok (gd:Gd κ K k X Γ):CallR X (.builtin "sum") (rC1 κ K G₀ H₀ sumD):=by
 intro pins st σ' H xs us Q I rs ⟨ρ,σ,G,Hb,r,x,hx,er,h1,h⟩
 unfold sumD at h
 cases e3:r.list? with
 | none=>rw [e3] at h;exact h.elim
 | some l=>
  rw [e3] at h
  dsimp only at h
  cases e4:intsD l with
  | none=>rw [e4] at h;exact h.elim
  | some ns=>
   rw [e4] at h
   obtain ⟨a,ys,p1,p2,p3⟩:=h1.list er e3
   rw [ints_of p3 e4] at p2
   exact call_sumI gd.calm pins st σ' H xs us Q I rs ⟨a,ns,by rw [hx,p1],by rw [gd.hK];exact p2,h _ G H (Po.refl er) (by simp only [RvR,Rep])⟩
theorem int_ok:CallR X (.type "int") (rC1 κ K G₀ H₀ intD):=by
 intro pins st σ' H xs us Q I rs ⟨ρ,σ,G,Hb,r,x,hx,er,h1,h⟩
 unfold intD at h
 cases e3:r.int? with
 | some i=>
  rw [e3] at h
  exact call_int1 pins st σ' H xs us Q I rs (.inl ⟨i,by rw [hx,h1.int e3],h _ G H (Po.refl er) (by simp only [RvR,Rep])⟩)
 | none=>
  rw [e3] at h
  dsimp only at h
  cases e4:r.bl? with
  | none=>rw [e4] at h;exact h.elim
  | some b=>
   rw [e4] at h
   exact call_int1 pins st σ' H xs us Q I rs (.inr ⟨b,by rw [hx,h1.bl e4],h _ G H (Po.refl er) (by simp only [RvR,Rep])⟩)
theorem max_ok (gd:Gd κ K k X Γ):CallR X (.builtin "max") (rC2 κ K G₀ H₀ maxD):=by
 intro pins st σ' H xs us Q I rs ⟨ρ,σ,G,Hb,Hc,r,s,x,y,hx,er,h1,h2,h⟩
 obtain ⟨i,j,e1,e2,h⟩:=int2_is h
 exact call_max2 gd.calm pins st σ' H xs us Q I rs ⟨i,j,by rw [hx,h1.int e1,h2.int e2],h _ G H (Po.refl er) (by simp only [RvR,Rep])⟩
theorem min_ok (gd:Gd κ K k X Γ):CallR X (.builtin "min") (rC2 κ K G₀ H₀ minD):=by
 intro pins st σ' H xs us Q I rs ⟨ρ,σ,G,Hb,Hc,r,s,x,y,hx,er,h1,h2,h⟩
 obtain ⟨i,j,e1,e2,h⟩:=int2_is h
 exact call_min2 gd.calm pins st σ' H xs us Q I rs ⟨i,j,by rw [hx,h1.int e1,h2.int e2],h _ G H (Po.refl er) (by simp only [RvR,Rep])⟩
theorem truth_is (gd:Gd κ K k X Γ) {G H Hb:Hp} {ρ:Env} {σ:St} {r:Rv} {x:V} {b:Bool} (er:ER κ K G₀ H₀ G H ρ σ) (h:RvR κ K H₀ Hb G H ρ σ r x) (e:truthD r=some b):TruV X.K x H b:=by
 have sq:∀ {r:Rv},RvR κ K H₀ Hb G H ρ σ r x→(seqD r).map (fun l=>!l.isEmpty)=some b→TruV X.K x H b:=fun {r} h e=>by
  obtain ⟨l,e1,rfl⟩:=Option.map_eq_some_iff.mp e
  obtain ⟨a,xs,rfl,p2,p3⟩:=h.seq er e1
  have hl:(!l.isEmpty) = !xs.isEmpty:=by
   have:=p3.len
   cases l<;>cases xs<;>simp_all
  rw [hl,gd.hK]
  rcases p2 with p2 | p2
  ·exact .inl ⟨xs,p2,rfl⟩
  ·exact .inr (.inl ⟨xs,p2,rfl⟩)
 cases r with
 | val d=>
  cases d with
  | non=>simp only [RvR,Rep] at h;subst h;simp only [truthD] at e;cases e;exact rfl
  | bl c=>simp only [RvR,Rep] at h;subst h;simp only [truthD] at e;cases e;exact rfl
  | int c=>simp only [RvR,Rep] at h;subst h;simp only [truthD] at e;cases e;exact rfl
  | str c=>
   simp only [RvR,Rep] at h;subst h
   simp only [truthD] at e
   by_cases hz:c.length≤sizeLine
   ·rw [if_pos hz] at e;cases e;exact ⟨hz,rfl⟩
   ·rw [if_neg hz] at e;cases e
  | lst l=>exact sq h e
  | tup l=>exact sq h e
  | ins c ns l=>exact sq h e
 | tmp l=>exact sq h e
 | cell l=>exact sq h e
 | scr l=>exact sq h e
end
end DE
set_option maxHeartbeats 4000000
namespace DE
open PySem PySem.Spec PyProof.Rows L2
structure All (κ:KC) (K:PySem.W.Frag) (k:Nat) (X:Cx) (Γ:Ct) (m:Nat):Prop where
 r:∀ G₀ H₀ e,PE X e (tR κ K G₀ H₀ Γ m e)
 e:∀ G₀ H₀ e,PE X e (tE κ K G₀ H₀ Γ m e)
 t:∀ G₀ H₀ e,PT X e (tT κ K G₀ H₀ Γ m e)
 es:∀ G₀ H₀ es,PA X es (tEs κ K G₀ H₀ Γ m es)
 as:∀ G₀ H₀ es,PA X es (tAs κ K G₀ H₀ Γ m es)
 o:∀ G₀ H₀ o,PO X o (tO κ K G₀ H₀ Γ m o)
 f:∀ G₀ H₀ es,PIf X es (tF κ K G₀ H₀ Γ m es)
 l:∀ G₀ H₀ e,PE X e (tL κ K G₀ H₀ Γ m e)
 i:∀ G₀ H₀ tg e,PI X tg e (tI κ K G₀ H₀ Γ m (tupB tg) e)
section
variable {κ:KC} {K:PySem.W.Frag} {G₀ H₀:Hp} {k m:Nat} {X:Cx} {Γ:Ct}
theorem all0:All κ K k X Γ 0:=
 ⟨fun _ _ e=>pe_none fun _ _ _ ⟨_,_,_,h⟩=>h,fun _ _ e=>pe_none fun _ _ _ ⟨_,_,_,h⟩=>h,fun _ _ e=>pt_none fun _ _ _ ⟨_,_,_,h⟩=>h,fun _ _ e=>pa_none fun _ _ _ ⟨_,_,_,h⟩=>h,fun _ _ e=>pa_none fun _ _ _ ⟨_,_,_,h⟩=>h,
  fun _ _ e=>po_no fun _ _ _ ⟨_,_,_,h⟩=>h,fun _ _ e=>pif_none fun _ _ _ ⟨_,_,_,h⟩=>h,fun _ _ e=>pe_none fun _ _ _ ⟨_,_,_,h⟩=>h,fun _ _ _ e=>pi_none fun _ _ _ ⟨_,_,_,h⟩=>h⟩
theorem const_ok (c:Const) (j:Nat) (pos:Pos):PE X (.Constant c j pos) (tR κ K G₀ H₀ Γ (m+1) (.Constant c j pos)):=by
 cases c with
 | none=>exact PE.imp pe_non fun σ H Q ⟨ρ,G,er,h⟩=>h _ G H (Po.refl er) (by simp only [RvR,Rep])
 | bool b=>exact PE.imp pe_bl fun σ H Q ⟨ρ,G,er,h⟩=>h _ G H (Po.refl er) (by simp only [RvR,Rep])
 | int b=>exact PE.imp pe_int fun σ H Q ⟨ρ,G,er,h⟩=>h _ G H (Po.refl er) (by simp only [RvR,Rep])
 | str b=>exact PE.imp pe_str fun σ H Q ⟨ρ,G,er,h⟩=>h _ G H (Po.refl er) (by simp only [RvR,Rep])
 | _=>exact pe_none fun σ H Q ⟨ρ,G,er,h⟩=>h
theorem binop_ok (A:All κ K k X Γ m) (a b:Expr) (op:Operator) (pos:Pos):PE X (.BinOp a op b pos) (tR κ K G₀ H₀ Γ (m+1) (.BinOp a op b pos)):=by
 refine PE.imp (pe_op (bin_ok (κ:=κ) (K:=K) (G₀:=G₀) (H₀:=H₀) op) (A.r G₀ H₀ a) (A.r G₀ H₀ b)) fun σ H Q ⟨ρ,G,er,h⟩=>?_
 refine ⟨ρ,G,er,Wk.mono (Wk.th (x:=evR m Γ a ρ) h) fun x h v G1 H1 p1 r1=>⟨x.2,G1,p1.er,Wk.mono (Wk.th h) fun y h w G2 H2 p2 r2=>?_⟩⟩
 exact ⟨y.2,σ,G2,H,H1,x.1,y.1,p2.er,r1.keep p2,r2,Wk.mono (Wk.th h) fun z h u G3 H3 p3 r3=>h u G3 H3 (p1.trans (p2.trans p3)) (r3.back (p1.trans p2).hs)⟩
theorem neg_ok (A:All κ K k X Γ m) (a:Expr) (pos:Pos):PE X (.UnaryOp .USub a pos) (tR κ K G₀ H₀ Γ (m+1) (.UnaryOp .USub a pos)):=by
 refine PE.imp (pe_un un_neg (A.r G₀ H₀ a)) fun σ H Q ⟨ρ,G,er,h⟩=>?_
 refine ⟨ρ,G,er,Wk.mono (Wk.th (x:=evR m Γ a ρ) h) fun x h v G1 H1 p1 r1=>?_⟩
 obtain ⟨rv,ρ1⟩:=x
 cases rv with
 | val d=>
  cases d with
  | int i=>exact ⟨i,by simpa only [RvR,Rep] using r1,h _ G1 H1 p1 (by simp only [RvR,Rep])⟩
  | _=>exact False.elim h
 | _=>exact False.elim h
theorem notv_ok (A:All κ K k X Γ m) (a:Expr) (pos:Pos):PE X (.UnaryOp .Not a pos) (tR κ K G₀ H₀ Γ (m+1) (.UnaryOp .Not a pos)):=by
 refine PE.imp (pe_not (A.r G₀ H₀ a)) fun σ H Q ⟨ρ,G,er,h⟩=>?_
 refine ⟨ρ,G,er,Wk.mono (Wk.th (x:=evR m Γ a ρ) h) fun x h v G1 H1 p1 r1=>?_⟩
 obtain ⟨rv,ρ1⟩:=x
 cases rv with
 | val d=>
  cases d with
  | bl i=>exact ⟨i,by simpa only [RvR,Rep] using r1,h _ G1 H1 p1 (by simp only [RvR,Rep])⟩
  | _=>exact False.elim h
 | _=>exact False.elim h
theorem cmpv_ok (gd:Gd κ K k X Γ) (A:All κ K k X Γ m) (a b:Expr) (op:CmpOp) (pos:Pos):PE X (.Compare a [op] [b] pos) (tR κ K G₀ H₀ Γ (m+1) (.Compare a [op] [b] pos)):=by
 by_cases hm:behindInMarks op b=true
 ·refine pe_none fun σ H Q ⟨ρ,G,er,h⟩=>?_
  have h:=Wk.th (x:=evR m Γ a ρ) h
  cases e1:evR m Γ a ρ with
  | ok x=>
   rw [e1] at h
   have h:=Wk.th (x:=evR m Γ b x.2) h
   cases e2:evR m Γ b x.2 with
   | ok y=>rw [e2] at h;exact (Wk.nif h).1 hm
   | exc c l=>rw [e2] at h;exact h
   | no=>rw [e2] at h;exact h
  | exc c l=>rw [e1] at h;exact h
  | no=>rw [e1] at h;exact h
 refine PE.imp (pe_cmpR (cmp_ok (G₀:=G₀) (H₀:=H₀) gd op) (A.r G₀ H₀ a) (A.r G₀ H₀ b) (Bool.eq_false_iff.mpr hm)) fun σ H Q ⟨ρ,G,er,h⟩=>?_
 refine ⟨ρ,G,er,Wk.mono (Wk.th (x:=evR m Γ a ρ) h) fun x h v G1 H1 p1 r1=>⟨x.2,G1,p1.er,Wk.mono (Wk.th (x:=evR m Γ b x.2) h) fun y h w G2 H2 p2 r2=>?_⟩⟩
 obtain ⟨c,e,h⟩:=Wk.of (Wk.th (Wk.nif h).2)
 exact ⟨y.2,σ,G2,H,H1,x.1,y.1,c,p2.er,r1.keep p2,r2,e,h _ G2 H2 (p1.trans p2) (by simp only [RvR,Rep])⟩
theorem cmpt_ok (gd:Gd κ K k X Γ) (A:All κ K k X Γ m) (a b:Expr) (op:CmpOp) (pos:Pos):PT X (.Compare a [op] [b] pos) (tT κ K G₀ H₀ Γ (m+1) (.Compare a [op] [b] pos)):=by
 by_cases hm:behindInMarks op b=true
 ·refine pt_none fun σ H Q ⟨ρ,G,er,h⟩=>?_
  have h:=Wk.th (x:=evR m Γ a ρ) h
  cases e1:evR m Γ a ρ with
  | ok x=>
   rw [e1] at h
   have h:=Wk.th (x:=evR m Γ b x.2) h
   cases e2:evR m Γ b x.2 with
   | ok y=>rw [e2] at h;exact (Wk.nif h).1 hm
   | exc c l=>rw [e2] at h;exact h
   | no=>rw [e2] at h;exact h
  | exc c l=>rw [e1] at h;exact h
  | no=>rw [e1] at h;exact h
 refine PT.imp (pt_cmpR (cmp_ok (G₀:=G₀) (H₀:=H₀) gd op) (A.r G₀ H₀ a) (A.r G₀ H₀ b) (Bool.eq_false_iff.mpr hm)) fun σ H Q ⟨ρ,G,er,h⟩=>?_
 refine ⟨ρ,G,er,Wk.mono (Wk.th (x:=evR m Γ a ρ) h) fun x h v G1 H1 p1 r1=>⟨x.2,G1,p1.er,Wk.mono (Wk.th (x:=evR m Γ b x.2) h) fun y h w G2 H2 p2 r2=>?_⟩⟩
 obtain ⟨c,e,h⟩:=Wk.of (Wk.th (Wk.nif h).2)
 exact ⟨y.2,σ,G2,H,H1,x.1,y.1,c,p2.er,r1.keep p2,r2,e,c,rfl,h G2 H2 (p1.trans p2)⟩
theorem and_ok (A:All κ K k X Γ m) (a b:Expr) (l:List Expr) (pos:Pos):PE X (.BoolOp .And (a::b::l) pos) (tR κ K G₀ H₀ Γ (m+1) (.BoolOp .And (a::b::l) pos)):=by
 refine PE.imp (pe_and (A.r G₀ H₀ a) (A.r G₀ H₀ (.BoolOp .And (b::l) pos))) fun σ H Q ⟨ρ,G,er,h⟩=>?_
 refine ⟨ρ,G,er,Wk.mono (Wk.th (x:=evR m Γ a ρ) h) fun x h v G1 H1 p1 r1=>?_⟩
 obtain ⟨rv,ρ1⟩:=x
 cases rv with
 | val d=>
  cases d with
  | bl c=>
   refine ⟨c,by simpa only [RvR,Rep] using r1,?_⟩
   cases c with
   | true=>
    rw [if_pos rfl]
    exact ⟨ρ1,G1,p1.er,Wk.mono h fun y h w G2 H2 p2 r2=>h w G2 H2 (p1.trans p2) (r2.back p1.hs)⟩
   | false=>
    rw [if_neg (fun z=>by cases z)]
    exact h _ G1 H1 p1 (by simp only [RvR,Rep])
  | _=>exact False.elim h
 | _=>exact False.elim h
theorem or_ok (A:All κ K k X Γ m) (a b:Expr) (l:List Expr) (pos:Pos):PE X (.BoolOp .Or (a::b::l) pos) (tR κ K G₀ H₀ Γ (m+1) (.BoolOp .Or (a::b::l) pos)):=by
 refine PE.imp (pe_or (A.r G₀ H₀ a) (A.r G₀ H₀ (.BoolOp .Or (b::l) pos))) fun σ H Q ⟨ρ,G,er,h⟩=>?_
 refine ⟨ρ,G,er,Wk.mono (Wk.th (x:=evR m Γ a ρ) h) fun x h v G1 H1 p1 r1=>?_⟩
 obtain ⟨rv,ρ1⟩:=x
 cases rv with
 | val d=>
  cases d with
  | bl c=>
   refine ⟨c,by simpa only [RvR,Rep] using r1,?_⟩
   cases c with
   | false=>
    rw [if_neg (fun z=>by cases z)]
    exact ⟨ρ1,G1,p1.er,Wk.mono h fun y h w G2 H2 p2 r2=>h w G2 H2 (p1.trans p2) (r2.back p1.hs)⟩
   | true=>
    rw [if_pos rfl]
    exact h _ G1 H1 p1 (by simp only [RvR,Rep])
  | _=>exact False.elim h
 | _=>exact False.elim h
theorem ifx_ok (A:All κ K k X Γ m) (c a b:Expr) (pos:Pos):PE X (.IfExp c a b pos) (tR κ K G₀ H₀ Γ (m+1) (.IfExp c a b pos)):=by
 refine PE.imp (pe_ifExp (A.t G₀ H₀ c) (A.r G₀ H₀ a) (A.r G₀ H₀ b)) fun σ H Q ⟨ρ,G,er,h⟩=>?_
 refine ⟨ρ,G,er,Wk.mono (Wk.th (x:=evT m Γ c ρ) h) fun x h G1 H1 p1=>?_⟩
 obtain ⟨d,ρ1⟩:=x
 cases d with
 | true=>
  rw [if_pos rfl]
  exact ⟨ρ1,G1,p1.er,Wk.mono h fun y h w G2 H2 p2 r2=>h w G2 H2 (p1.trans p2) (r2.back p1.hs)⟩
 | false=>
  rw [if_neg (fun z=>by cases z)]
  exact ⟨ρ1,G1,p1.er,Wk.mono h fun y h w G2 H2 p2 r2=>h w G2 H2 (p1.trans p2) (r2.back p1.hs)⟩
theorem plainIx_of {b:Expr} (h:∀ lo hi st p,b≠.Slice lo hi st p):PlainIx b:=fun o i=>by
 cases b<;>first | rfl | exact absurd rfl (h _ _ _ _)
theorem sub_ok (gd:Gd κ K k X Γ) (A:All κ K k X Γ m) (a b:Expr) (pos:Pos):PE X (.Subscript a b pos) (tR κ K G₀ H₀ Γ (m+1) (.Subscript a b pos)):=by
 have gen:(∀ lo hi st p,b≠.Slice lo hi st p)→(∀ ρ,evR (m+1) Γ (.Subscript a b pos) ρ=(evR m Γ a ρ).th fun x=>(evR m Γ b x.2).th fun y=>(idxD x.1 y.1).th fun r=>.ok (r,y.2))→PE X (.Subscript a b pos) (tR κ K G₀ H₀ Γ (m+1) (.Subscript a b pos)):=fun hb he=>by
  refine PE.imp (pe_ix (idx_ok (G₀:=G₀) (H₀:=H₀) gd) (A.r G₀ H₀ a) (A.r G₀ H₀ b) (plainIx_of hb)) fun σ H Q ⟨ρ,G,er,h⟩=>?_
  rw [he] at h
  refine ⟨ρ,G,er,Wk.mono (Wk.th h) fun x h v G1 H1 p1 r1=>⟨x.2,G1,p1.er,Wk.mono (Wk.th h) fun y h w G2 H2 p2 r2=>?_⟩⟩
  exact ⟨y.2,σ,G2,H,H1,x.1,y.1,p2.er,r1.keep p2,r2,Wk.mono (Wk.th h) fun z h u G3 H3 p3 r3=>h u G3 H3 (p1.trans (p2.trans p3)) (r3.back (p1.trans p2).hs)⟩
 cases b with
 | Slice lo hi st p=>
  cases st with
  | some st=>exact pe_none fun σ H Q ⟨ρ,G,er,h⟩=>h
  | none=>
   refine PE.imp (pe_slice (sli_ok (G₀:=G₀) (H₀:=H₀) gd) (A.r G₀ H₀ a) (A.o G₀ H₀ lo) (A.o G₀ H₀ hi)) fun σ H Q ⟨ρ,G,er,h⟩=>?_
   refine ⟨ρ,G,er,Wk.mono (Wk.th (x:=evR m Γ a ρ) h) fun x h v G1 H1 p1 r1=>⟨x.2,G1,p1.er,Wk.mono (Wk.th (x:=evO m Γ lo x.2) h) fun y h G2 H2 p2=>⟨y.2,G2,p2.er,Wk.mono (Wk.th (x:=evO m Γ hi y.2) h) fun z h G3 H3 p3=>?_⟩⟩⟩
   exact ⟨z.2,σ,G3,H,x.1,p3.er,(r1.keep p2).keep p3,Wk.mono (Wk.th h) fun u h w G4 H4 p4 r4=>h w G4 H4 (p1.trans (p2.trans (p3.trans p4))) (r4.back (p1.trans (p2.trans p3)).hs)⟩
 | _=>exact gen (fun _ _ _ _ z=>by cases z) fun _=>rfl
theorem lst_ok (A:All κ K k X Γ m) (es:List Expr) (pos:Pos):PE X (.List es pos) (tR κ K G₀ H₀ Γ (m+1) (.List es pos)):=by
 refine PE.imp (pe_lst (A.es G₀ H₀ es)) fun σ H Q ⟨ρ,G,er,h⟩=>?_
 refine ⟨ρ,G,er,Wk.mono (Wk.th (x:=evEs m Γ es ρ) h) fun x h vs G1 H1 p1 r1=>?_⟩
 obtain ⟨hz,h⟩:=Wk.iff h
 refine ⟨by rw [←r1.len];exact hz,fun p hp=>?_⟩
 obtain ⟨z1,z2⟩:=p1.er.newList hp r1
 exact h _ _ _ (p1.trans z1) (z2.back p1.hs)
theorem tup_ok (A:All κ K k X Γ m) (es:List Expr) (j:Nat) (pos:Pos):PE X (.Tuple es j pos) (tR κ K G₀ H₀ Γ (m+1) (.Tuple es j pos)):=by
 refine PE.imp (pe_tup (A.es G₀ H₀ es)) fun σ H Q ⟨ρ,G,er,h⟩=>?_
 refine ⟨ρ,G,er,Wk.mono (Wk.th (x:=evEs m Γ es ρ) h) fun x h vs G1 H1 p1 r1=>?_⟩
 obtain ⟨hz,h⟩:=Wk.iff h
 refine ⟨by rw [←r1.len];exact hz,fun p hp=>?_⟩
 have z1:=Po.lay (o:=.tup vs) p1.er hp
 refine h _ _ _ (p1.trans z1) ?_
 simp only [RvR,Rep]
 exact ⟨p,vs,rfl,upd_same,r1.same z1.gs⟩
theorem e_ok (gd:Gd κ K k X Γ) (A:All κ K k X Γ m) (e:Expr):PE X e (tE κ K G₀ H₀ Γ (m+1) e):=by
 have gen:(∀ ρ,evE (m+1) Γ e ρ=(evR m Γ e ρ).th fun x=>match x.1 with
   | .val d=>.ok (d,x.2)
   | .tmp l=>.ok (.lst l,x.2)
   | _=>.no)→PE X e (tE κ K G₀ H₀ Γ (m+1) e):=fun he=>by
  refine PE.imp (A.r G₀ H₀ e) fun σ H Q ⟨ρ,G,er,h⟩=>?_
  rw [he] at h
  refine ⟨ρ,G,er,Wk.mono (Wk.th h) fun x h v G1 H1 p1 r1=>?_⟩
  obtain ⟨rv,ρ1⟩:=x
  cases rv with
  | val d=>exact h v G1 H1 p1 r1
  | tmp l=>
   obtain ⟨a,xs,rfl,h1,h2,h3,h4,h5,h6⟩:=r1
   have p2:=p1.freeze h1 h2 h3 h4 h5
   refine h _ _ H1 p2 ?_
   simp only [Rep]
   exact ⟨a,xs,rfl,upd_same,h6.same (Same.upd h4)⟩
  | cell l=>exact False.elim h
  | scr l=>exact False.elim h
 cases e with
 | Name x pos=>exact nameE_ok gd m x pos
 | _=>exact gen fun _=>rfl
theorem es_ok (A:All κ K k X Γ m):∀ es,PA X es (tEs κ K G₀ H₀ Γ (m+1) es)
 | []=>PA.imp pa_nil fun σ H Q ⟨ρ,G,er,h⟩=>h [] G H (Po.refl er) .nil
 | e::l=>by
  by_cases hs:starB e=true
  ·exact pa_none fun σ H Q ⟨ρ,G,er,h⟩=>(Wk.nif (c:=starB e=true) h).1 hs
  refine PA.imp (pa_cons (A.e G₀ H₀ e) (A.es G₀ H₀ l) (star_one (Bool.eq_false_iff.mpr hs))) fun σ H Q ⟨ρ,G,er,h⟩=>?_
  have h:=(Wk.nif (c:=starB e=true) h).2
  refine ⟨ρ,G,er,Wk.mono (Wk.th h) fun x h v G1 H1 p1 r1=>⟨x.2,G1,p1.er,Wk.mono (Wk.th h) fun y h vs G2 H2 p2 r2=>?_⟩⟩
  exact h _ G2 H2 (p1.trans p2) (.cons (r1.same p2.gs) r2)
theorem as_ok (A:All κ K k X Γ m):∀ es,PA X es (tAs κ K G₀ H₀ Γ (m+1) es)
 | []=>PA.imp pa_nil fun σ H Q ⟨ρ,G,er,h⟩=>h [] G H (Po.refl er) rfl
 | e::l=>by
  by_cases hs:starB e=true
  ·exact pa_none fun σ H Q ⟨ρ,G,er,h⟩=>(Wk.nif (c:=starB e=true) h).1 hs
  refine PA.imp (pa_cons (A.r G₀ H₀ e) (A.as G₀ H₀ l) (star_one (Bool.eq_false_iff.mpr hs))) fun σ H Q ⟨ρ,G,er,h⟩=>?_
  have h:=(Wk.nif (c:=starB e=true) h).2
  refine ⟨ρ,G,er,Wk.mono (Wk.th h) fun x h v G1 H1 p1 r1=>?_⟩
  obtain ⟨rv,ρ1⟩:=x
  cases rv with
  | val d=>exact ⟨ρ1,G1,p1.er,Wk.mono (Wk.th h) fun y h vs G2 H2 p2 r2=>h _ G2 H2 (p1.trans p2) ⟨v,vs,rfl,Rep.same p2.gs r1,r2⟩⟩
  | tmp ds=>
   obtain ⟨a,xs,rfl,h1,h2,h3,h4,h5,h6⟩:=r1
   have p1':=p1.freeze h1 h2 h3 h4 h5
   refine ⟨ρ1,_,p1'.er,Wk.mono (Wk.th h) fun y h vs G2 H2 p2 r2=>h _ G2 H2 (p1'.trans p2) ⟨_,vs,rfl,?_,r2⟩⟩
   show Rep κ G2 (.lst ds) (.ref a)
   simp only [Rep]
   exact ⟨a,xs,rfl,p2.gs _ _ upd_same,(h6.same (Same.upd h4)).same p2.gs⟩
  | cell ds=>
   obtain ⟨a,xs,rfl,h1,h6⟩:=r1
   exact ⟨ρ1,G1,p1.er,Wk.mono (Wk.th h) fun y h vs G2 H2 p2 r2=>h _ G2 H2 (p1.trans p2) ⟨_,vs,rfl,⟨a,xs,rfl,p2.hs _ _ h1,h6.same p2.gs⟩,r2⟩⟩
  | scr ds=>
   obtain ⟨a,xs,rfl,h1,h6⟩:=r1
   exact ⟨ρ1,G1,p1.er,Wk.mono (Wk.th h) fun y h vs G2 H2 p2 r2=>h _ G2 H2 (p1.trans p2) ⟨_,vs,rfl,⟨a,xs,rfl,p2.hs.seq h1,h6.same p2.gs⟩,r2⟩⟩
theorem o_ok (A:All κ K k X Γ m):∀ o,PO X o (tO κ K G₀ H₀ Γ (m+1) o)
 | none=>PO.imp po_none fun σ H Q ⟨ρ,G,er,h⟩=>h G H (Po.refl er)
 | some e=>by
  refine PO.imp (po_some (A.r G₀ H₀ e)) fun σ H Q ⟨ρ,G,er,h⟩=>?_
  refine ⟨ρ,G,er,Wk.mono (Wk.th (x:=evR m Γ e ρ) h) fun x h v G1 H1 p1 r1=>?_⟩
  obtain ⟨rv,ρ1⟩:=x
  cases rv with
  | val d=>
   cases d with
   | int i=>exact ⟨i,by simpa only [RvR,Rep] using r1,h G1 H1 p1⟩
   | _=>exact False.elim h
  | _=>exact False.elim h
theorem f_ok (A:All κ K k X Γ m):∀ es,PIf X es (tF κ K G₀ H₀ Γ (m+1) es)
 | []=>PIf.imp pif_nil fun σ H Q ⟨ρ,G,er,h⟩=>h G H (Po.refl er)
 | [c]=>PIf.imp (pif_one (A.t G₀ H₀ c)) fun σ H Q h=>h
 | _::_::_=>pif_none fun σ H Q ⟨ρ,G,er,h⟩=>h
noncomputable def plainT:Expr→Bool
 | .UnaryOp .Not _ _=>false
 | .BoolOp ..=>false
 | .IfExp ..=>false
 | .Compare ..=>false
 | _=>true
theorem isTrue_of {e:Expr} (h:plainT e=true) (env:PySem.Env):∀ whole,isTrue e env whole=(do let v←whole;standAt e.pos;holding [v] (truthy v)):=by
 intro whole
 cases e with
 | UnaryOp op a pos=>cases op<;>first | rfl | cases h
 | BoolOp=>cases h
 | IfExp=>cases h
 | Compare=>cases h
 | _=>rfl
theorem t_ok (gd:Gd κ K k X Γ) (A:All κ K k X Γ m) (e:Expr):PT X e (tT κ K G₀ H₀ Γ (m+1) e):=by
 have gen:plainT e=true→(∀ ρ,evT (m+1) Γ e ρ=(evR m Γ e ρ).th fun x=>(R.of (truthD x.1)).th fun b=>.ok (b,x.2))→PT X e (tT κ K G₀ H₀ Γ (m+1) e):=fun hp he=>by
  refine PT.imp (pt_truth (A.r G₀ H₀ e) (isTrue_of hp X.env)) fun σ H Q ⟨ρ,G,er,h⟩=>?_
  rw [he] at h
  refine ⟨ρ,G,er,Wk.mono (Wk.th h) fun x h v G1 H1 p1 r1=>?_⟩
  obtain ⟨b,e1,h⟩:=Wk.of (Wk.th h)
  exact ⟨b,truth_is gd p1.er r1 e1,h G1 H1 p1⟩
 cases e with
 | UnaryOp op a pos=>
  cases op with
  | Not=>
   refine PT.imp (pt_not (A.t G₀ H₀ a)) fun σ H Q ⟨ρ,G,er,h⟩=>?_
   exact ⟨ρ,G,er,Wk.mono (Wk.th (x:=evT m Γ a ρ) h) fun x h G1 H1 p1=>h G1 H1 p1⟩
  | _=>exact gen rfl fun _=>rfl
 | BoolOp op vs pos=>
  cases vs with
  | nil=>exact pt_none fun σ H Q ⟨ρ,G,er,h⟩=>by cases op<;>exact h
  | cons a vs=>
   cases vs with
   | nil=>
    cases op with
    | And=>exact PT.imp (PW.pt (pw_and1 (A.t G₀ H₀ a))) fun σ H Q h=>h
    | Or=>exact PT.imp (PW.pt (pw_or1 (A.t G₀ H₀ a))) fun σ H Q h=>h
   | cons b l=>
    cases op with
    | And=>
     intro pins s σ H Q I hw
     obtain ⟨ρ,G,er,h⟩:=hw
     refine isTrue_and (thn (A.t G₀ H₀ a pins s σ H (fun c H1=>if c=true then tT κ K G₀ H₀ Γ m (.BoolOp .And (b::l) pos) σ H1 Q else Q false H1) I ?_) fun c s1 ⟨H1,I1,q1⟩=>?_)
     ·refine ⟨ρ,G,er,Wk.mono (Wk.th (x:=evT m Γ a ρ) h) fun x h G1 H1 p1=>?_⟩
      obtain ⟨d,ρ1⟩:=x
      cases d with
      | true=>
       rw [if_pos rfl]
       exact ⟨ρ1,G1,p1.er,Wk.mono h fun y h G2 H2 p2=>h G2 H2 (p1.trans p2)⟩
      | false=>
       rw [if_neg (fun z=>by cases z)]
       exact h G1 H1 p1
     ·cases c with
      | true=>exact A.t G₀ H₀ (.BoolOp .And (b::l) pos) pins s1 σ H1 Q I1 q1
      | false=>exact ⟨H1,I1,q1⟩
    | Or=>
     intro pins s σ H Q I hw
     obtain ⟨ρ,G,er,h⟩:=hw
     refine isTrue_or (thn (A.t G₀ H₀ a pins s σ H (fun c H1=>if c=true then Q true H1 else tT κ K G₀ H₀ Γ m (.BoolOp .Or (b::l) pos) σ H1 Q) I ?_) fun c s1 ⟨H1,I1,q1⟩=>?_)
     ·refine ⟨ρ,G,er,Wk.mono (Wk.th (x:=evT m Γ a ρ) h) fun x h G1 H1 p1=>?_⟩
      obtain ⟨d,ρ1⟩:=x
      cases d with
      | false=>
       rw [if_neg (fun z=>by cases z)]
       exact ⟨ρ1,G1,p1.er,Wk.mono h fun y h G2 H2 p2=>h G2 H2 (p1.trans p2)⟩
      | true=>
       rw [if_pos rfl]
       exact h G1 H1 p1
     ·cases c with
      | true=>exact ⟨H1,I1,q1⟩
      | false=>exact A.t G₀ H₀ (.BoolOp .Or (b::l) pos) pins s1 σ H1 Q I1 q1
 | IfExp c a b pos=>exact pt_none fun σ H Q ⟨ρ,G,er,h⟩=>h
 | Compare a ops bs pos=>
  cases ops with
  | nil=>exact pt_none fun σ H Q ⟨ρ,G,er,h⟩=>h
  | cons op ops=>
   cases ops with
   | nil=>
    cases bs with
    | nil=>exact pt_none fun σ H Q ⟨ρ,G,er,h⟩=>h
    | cons b bs=>
     cases bs with
     | nil=>exact cmpt_ok gd A a b op pos
     | cons c bs=>exact pt_none fun σ H Q ⟨ρ,G,er,h⟩=>h
   | cons op' ops=>exact pt_none fun σ H Q ⟨ρ,G,er,h⟩=>h
 | _=>exact gen rfl fun _=>rfl
end
end DE
set_option maxHeartbeats 4000000
namespace DE
open PySem PySem.Spec PyProof.Rows L2
section
variable {κ:KC} {K:PySem.W.Frag} {G₀ H₀:Hp} {k m:Nat} {X:Cx} {Γ:Ct}
theorem pi_seq {tg l:Expr} {tl:TE} (hl:PE X l tl):PI X tg l (fun σ H R=>tl σ H fun x H1=>(∃ a,x=.ref a∧(((∃ xs,SqL X.K H1 a xs)∧R (Itl X.K a) H1)∨((∃ xs,SqT X.K H1 a xs)∧R (Itt X.K a) H1)))∨∃ z,x=.str z∧R (Its z) H1):=by
 intro pins s σ H R I h
 refine thn (hl pins s σ H _ I h) fun v s1 ⟨x,H1,I1,r1,q1⟩=>?_
 rcases q1 with ⟨a,e,q⟩ | ⟨x,rfl,q⟩
 ·subst e
  cases r1
  rcases q with ⟨⟨xs,hq⟩,q⟩ | ⟨⟨xs,hq⟩,q⟩
  ·obtain ⟨its,rv,p,hz⟩:=I1.list hq
   refine wpAny_pyIter_list p.isList ?_
   refine ⟨s1.heap.objs.size,[s1.heap.objs.size],_,_,H1,rfl,I1.kept (t':=s1.toks) fun b o e=>Heap.get?_push_of_some _ e,turn_list a _,⟨_,Heap.get?_push_size _ rfl,rfl,rfl⟩,fun b hb=>?_,q⟩
   have e:b=s1.heap.objs.size:=by simpa using hb
   subst e
   exact I1.fpOk (Nat.le_refl _) (I1.hok.fresh (Nat.le_refl _))
  ·obtain ⟨its,rv,p,hz⟩:=I1.tuple hq
   refine wpAny_pyIter_tuple (show s1.heap.IsTuple a its.toArray from p) ?_
   refine ⟨s1.heap.objs.size,[s1.heap.objs.size],_,_,H1,rfl,I1.kept (t':=s1.toks) fun b o e=>Heap.get?_push_of_some _ e,turn_tuple a _,⟨_,Heap.get?_push_size _ rfl,rfl,rfl⟩,fun b hb=>?_,q⟩
   have e:b=s1.heap.objs.size:=by simpa using hb
   subst e
   exact I1.fpOk (Nat.le_refl _) (I1.hok.fresh (Nat.le_refl _))
 ·obtain ⟨t,rfl⟩:=r1
  have fin:∀ (T:String) (o:Obj),(T = "str_ascii_iterator"∨T = "str_iterator")→(∀ A':Around,A'.handled=none→Walks X.prog X.w A' s1.heap.objs.size [s1.heap.objs.size] [s1.heap.objs.size] x.cps.size (SignAt x) (fun i h=>h.IsStrIter s1.heap.objs.size T x t i))→
    (s1.heap.push o).IsStrIter s1.heap.objs.size T x t 0→PIE X pins σ tg R (.ref s1.heap.objs.size) { s1 with heap:=s1.heap.push o }:=fun T o hT W st=>by
   refine ⟨s1.heap.objs.size,[s1.heap.objs.size],_,_,H1,rfl,I1.kept (t':=s1.toks) fun b o e=>Heap.get?_push_of_some _ e,turn_str hT W,st,fun b hb=>?_,q⟩
   have e:b=s1.heap.objs.size:=by simpa using hb
   subst e
   exact I1.fpOk (Nat.le_refl _) (I1.hok.fresh (Nat.le_refl _))
  cases ha:x.cps.all (· < 128)
  ·exact wpAny_pyIter_wide ha (fin _ _ (.inr rfl) (fun A' hA=>Walks.strWide hA _ x t) ⟨_,Heap.get?_push_size _ rfl,rfl,rfl⟩)
  ·exact wpAny_pyIter_ascii ha (fin _ _ (.inl rfl) (fun A' hA=>Walks.strAscii hA _ x t) ⟨_,Heap.get?_push_size _ rfl,rfl,rfl⟩)
theorem nameL_ok (gd:Gd κ K k X Γ) (m:Nat) (x:Str) (pos:Pos):PE X (.Name x pos) (tL κ K G₀ H₀ Γ (m+1) (.Name x pos)):=by
 by_cases hok:nameOk x=true
 case neg=>
  refine pe_none fun σ H Q ⟨ρ,G,er,h⟩=>?_
  have h:Wk (nameL Γ x ρ) _:=h
  unfold nameL at h
  exact hok (Wk.iff h).1
 obtain ⟨n1,n2,n3⟩:=nameOk_is hok
 cases hi:ixOf Γ.N x with
 | none=>
  refine pe_none fun σ H Q ⟨ρ,G,er,h⟩=>?_
  have h:Wk (nameL Γ x ρ) _:=h
  unfold nameL at h
  rw [if_pos hok,hi] at h
  exact h
 | some i=>
  by_cases hv:visB Γ.sc x=true
  case neg=>
   refine pe_none fun σ H Q ⟨ρ,G,er,h⟩=>?_
   have h:Wk (nameL Γ x ρ) _:=h
   unfold nameL at h
   rw [if_pos hok,hi] at h
   exact hv (Wk.iff h).1
  have hx:=gd.vis x hv
  refine PE.imp (pe_var (i:=i) (by rw [gd.hN];exact ixOf_at hi) hx n1 n2) fun σ H Q ⟨ρ,G,er,h⟩=>?_
  have h:Wk (nameL Γ x ρ) _:=h
  unfold nameL at h
  rw [if_pos hok,hi] at h
  have h:=(Wk.iff h).2
  cases q:ρ[i]? with
  | none=>rw [q] at h;exact False.elim h
  | some s=>
   rw [q] at h
   have w:=er.sl i s q
   cases s with
   | no=>exact False.elim h
   | val d=>
    obtain ⟨v,z,r⟩:=w
    cases d with
    | lst l=>
     simp only [Rep] at r
     obtain ⟨a,xs,rfl,r1,r2⟩:=r
     exact ⟨_,z,h _ G H (Po.refl er) ⟨a,xs,rfl,r2,.inl r1⟩⟩
    | str y=>
     simp only [Rep] at r
     subst r
     exact ⟨_,z,h _ G H (Po.refl er) ⟨y,rfl,rfl⟩⟩
    | tup l=>
     simp only [Rep] at r
     obtain ⟨a,xs,rfl,r1,r2⟩:=r
     exact ⟨_,z,h _ G H (Po.refl er) ⟨a,xs,rfl,r2,r1⟩⟩
    | _=>exact False.elim h
   | own l=>
    obtain ⟨a,xs,z,p,r⟩:=er.froze q
    simp only [Rep] at r
    obtain ⟨a',xs',e,r1,r2⟩:=r
    cases e
    exact ⟨_,z,h _ _ H p ⟨a,xs',rfl,r2,.inl r1⟩⟩
   | bor l=>obtain ⟨a,xs,z,r1,r4⟩:=w;exact ⟨_,z,h _ G H (Po.refl er) ⟨a,xs,rfl,r4,.inr (SqL.of r1)⟩⟩
   | scr l=>obtain ⟨a,xs,z,r1,r4⟩:=w;exact ⟨_,z,h _ G H (Po.refl er) ⟨a,xs,rfl,r4,.inr r1⟩⟩
theorem l_ok (gd:Gd κ K k X Γ) (A:All κ K k X Γ m) (e:Expr):PE X e (tL κ K G₀ H₀ Γ (m+1) e):=by
 have gen:(∀ ρ,evL (m+1) Γ e ρ=(evR m Γ e ρ).th fun x=>match x.1 with
   | .val (.lst l)=>.ok ((.lst,l),x.2)
   | .val (.tup l)=>.ok ((.tup,l),x.2)
   | .val (.str z)=>.ok ((.str,sigD z),x.2)
   | .tmp l=>.ok ((.lst,l),x.2)
   | _=>.no)→PE X e (tL κ K G₀ H₀ Γ (m+1) e):=fun he=>by
  refine PE.imp (A.r G₀ H₀ e) fun σ H Q ⟨ρ,G,er,h⟩=>?_
  rw [he] at h
  refine ⟨ρ,G,er,Wk.mono (Wk.th h) fun x h v G1 H1 p1 r1=>?_⟩
  obtain ⟨rv,ρ1⟩:=x
  cases rv with
  | val d=>
   cases d with
   | lst l=>
    simp only [RvR,Rep] at r1
    obtain ⟨a,xs,rfl,q1,q2⟩:=r1
    exact h _ G1 H1 p1 ⟨a,xs,rfl,q2,.inl q1⟩
   | str y=>
    simp only [RvR,Rep] at r1
    subst r1
    exact h _ G1 H1 p1 ⟨y,rfl,rfl⟩
   | tup l=>
    simp only [RvR,Rep] at r1
    obtain ⟨a,xs,rfl,q1,q2⟩:=r1
    exact h _ G1 H1 p1 ⟨a,xs,rfl,q2,q1⟩
   | _=>exact False.elim h
  | tmp l=>
   obtain ⟨a,xs,rfl,h1,h2,h3,h4,h5,h6⟩:=r1
   exact h _ _ H1 (p1.freeze h1 h2 h3 h4 h5) ⟨a,xs,rfl,h6.same (Same.upd h4),.inl upd_same⟩
  | cell l=>exact False.elim h
  | scr l=>exact False.elim h
 cases e with
 | Name x pos=>exact nameL_ok gd m x pos
 | _=>exact gen fun _=>rfl
theorem itl_ok {G:Hp} {a:Addr} {xs:List V} {l:List D} (h:G a=some (.lst xs)∨SqL K H₀ a xs) (r:Reps κ G l xs):ItR κ H₀ G (Itl K a) l:=by
 intro i G1 H1 s1 s2 s3
 have hq:SqL K H1 a xs:=h.elim (fun z=>SqL.of (s3 _ _ (s1 _ _ z))) fun z=>s2.seq z
 refine ⟨fun d e=>?_,fun e=>⟨xs,hq,by rw [←r.len];omega⟩⟩
 obtain ⟨v,e1,e2⟩:=r.atD e
 refine ⟨⟨xs,v,hq,e1⟩,fun x H' ⟨z1,z2⟩=>⟨G1,by rw [z1];exact fun _ _ q=>q,fun _ _ q=>q,by rw [z1];exact s3,fun _ o q=>.inl ⟨o,q⟩,?_⟩⟩
 have:=z2 xs hq
 rw [e1] at this
 cases this
 exact e2.same s1
theorem itt_ok {G:Hp} {a:Addr} {xs:List V} {l:List D} (h:G a=some (.tup xs)) (r:Reps κ G l xs):ItR κ H₀ G (Itt K a) l:=by
 intro i G1 H1 s1 s2 s3
 have hq:SqT K H1 a xs:=SqT.of (s3 _ _ (s1 _ _ h))
 refine ⟨fun d e=>?_,fun e=>⟨xs,hq,by rw [←r.len];omega⟩⟩
 obtain ⟨v,e1,e2⟩:=r.atD e
 refine ⟨⟨xs,v,hq,e1⟩,fun x H' ⟨z1,z2⟩=>⟨G1,by rw [z1];exact fun _ _ q=>q,fun _ _ q=>q,by rw [z1];exact s3,fun _ o q=>.inl ⟨o,q⟩,?_⟩⟩
 have:=z2 xs hq
 rw [e1] at this
 cases this
 exact e2.same s1
theorem its_ok {G:Hp} {x:Str}:ItR κ H₀ G (Its x) (sigD x):=by
 intro i G1 H1 s1 s2 s3
 have hl:(sigD x).length=x.cps.size:=by simp [sigD]
 refine ⟨fun d e=>?_,fun e=>by rw [←e,hl];rfl⟩
 unfold sigD at e
 rw [List.getElem?_map] at e
 obtain ⟨c,e1,rfl⟩:=Option.map_eq_some_iff.mp e
 rw [Array.getElem?_toList] at e1
 refine ⟨(Array.getElem?_eq_some_iff.mp e1).1,fun v H' ⟨z1,c',z2,z3⟩=>⟨G1,by rw [z1];exact fun _ _ q=>q,fun _ _ q=>q,by rw [z1];exact s3,fun _ o q=>.inl ⟨o,q⟩,?_⟩⟩
 rw [e1] at z2
 cases z2
 rw [z3]
 simp only [Rep]
theorem itr_ok {G:Hp} {lo hi:Int}:ItR κ H₀ G (Itr lo (hi - lo).toNat) (rangeD lo hi):=by
 intro i G1 H1 s1 s2 s3
 refine ⟨fun d e=>?_,fun e=>?_⟩
 ·unfold rangeD at e
  rw [List.getElem?_map] at e
  obtain ⟨j,e1,rfl⟩:=Option.map_eq_some_iff.mp e
  obtain ⟨h1,h2⟩:=List.getElem?_eq_some_iff.mp e1
  have hi':i < (hi - lo).toNat:=by simpa using h1
  have hj:j=i:=by rw [←h2];simp
  subst hj
  refine ⟨hi',fun x H' ⟨z1,z2⟩=>⟨G1,by rw [z1];exact fun _ _ q=>q,fun _ _ q=>q,by rw [z1];exact s3,fun _ o q=>.inl ⟨o,q⟩,?_⟩⟩
  rw [z2]
  simp only [Rep]
 ·have hl:(rangeD lo hi).length=(hi - lo).toNat:=by simp only [rangeD,List.length_map,List.length_range]
  show (hi - lo).toNat≤i
  omega
theorem pair_ok {G H:Hp} {T:Addr} {x y:V} {d e:D} (sub:Same G H) (hT:H T=none) (hx:Rep κ G d x) (hy:Rep κ G e y) :
  ∃ G',Same H (upd H T (.tup [x,y]))∧Same G G'∧Same G' (upd H T (.tup [x,y]))∧(∀ a o,G' a=some o→(∃ o',G a=some o')∨H a=none)∧Rep κ G' (.tup [d,e]) (.ref T):=by
 have gT:G T=none:=Same.none sub hT
 have gs:Same G (upd G T (.tup [x,y])):=Same.upd gT
 refine ⟨upd G T (.tup [x,y]),Same.upd hT,gs,fun b u q=>?_,fun b u q=>?_,?_⟩
 ·by_cases hb:b=T
  ·subst hb;rw [upd_same] at q ⊢;exact q
  ·rw [upd_ne hb] at q ⊢;exact sub b u q
 ·by_cases hb:b=T
  ·subst hb;exact .inr hT
  ·rw [upd_ne hb] at q;exact .inl ⟨u,q⟩
 ·simp only [Rep]
  exact ⟨T,_,rfl,upd_same,.cons (hx.same gs) (.cons (hy.same gs) .nil)⟩
theorem ite_ok {G:Hp} {a:Addr} {xs:List V} {l:List D} (h:G a=some (.lst xs)∨SqL K H₀ a xs) (r:Reps κ G l xs):ItR κ H₀ G (Ite K a) (enumD l):=by
 intro i G1 H1 s1 s2 s3
 have hq:SqL K H1 a xs:=h.elim (fun z=>SqL.of (s3 _ _ (s1 _ _ z))) fun z=>s2.seq z
 have hlen:(enumD l).length=l.length:=by simp [enumD]
 refine ⟨fun d e=>?_,fun e=>⟨xs,hq,by rw [←r.len];omega⟩⟩
 have hi:i < l.length:=by rw [←hlen];exact (List.getElem?_eq_some_iff.mp e).1
 have e0:(enumD l)[i]?=some (.tup [.int i,l[i]]):=by
  unfold enumD
  rw [List.getElem?_zipWith]
  simp [hi]
 rw [e0] at e
 cases e
 obtain ⟨v,e1,e2⟩:=r.atD (List.getElem?_eq_getElem hi)
 refine ⟨⟨xs,v,hq,e1⟩,fun x H' z=>?_⟩
 obtain ⟨T,x',rfl,hT,rfl,z2⟩:=z
 have:=z2 xs hq
 rw [e1] at this
 cases this
 exact pair_ok s3 hT (by simp only [Rep]) (e2.same s1)
theorem itz_ok {G:Hp} {a b:Addr} {xs ys:List V} {l n:List D} (h:G a=some (.lst xs)∨SqL K H₀ a xs) (r:Reps κ G l xs) (h':G b=some (.lst ys)∨SqL K H₀ b ys) (r':Reps κ G n ys):ItR κ H₀ G (Itz K a b) (zipD l n):=by
 intro i G1 H1 s1 s2 s3
 have hq:SqL K H1 a xs:=h.elim (fun z=>SqL.of (s3 _ _ (s1 _ _ z))) fun z=>s2.seq z
 have hq':SqL K H1 b ys:=h'.elim (fun z=>SqL.of (s3 _ _ (s1 _ _ z))) fun z=>s2.seq z
 have hlen:(zipD l n).length=min l.length n.length:=by simp [zipD]
 have l1:=r.len
 have l2:=r'.len
 refine ⟨fun d e=>?_,fun e=>⟨xs,ys,hq,hq',by omega⟩⟩
 have hi:i < min l.length n.length:=by rw [←hlen];exact (List.getElem?_eq_some_iff.mp e).1
 have i1:i < l.length:=by omega
 have i2:i < n.length:=by omega
 have e0:(zipD l n)[i]?=some (.tup [l[i],n[i]]):=by
  unfold zipD
  rw [List.getElem?_zipWith]
  simp [i1,i2]
 rw [e0] at e
 cases e
 obtain ⟨v,e1,e2⟩:=r.atD (List.getElem?_eq_getElem i1)
 obtain ⟨w,e3,e4⟩:=r'.atD (List.getElem?_eq_getElem i2)
 refine ⟨⟨xs,ys,v,w,hq,hq',e1,e3⟩,fun x H' z=>?_⟩
 obtain ⟨T,x',y',rfl,hT,rfl,z2⟩:=z
 obtain ⟨z3,z4⟩:=z2 xs ys hq hq'
 rw [e1] at z3
 rw [e3] at z4
 cases z3
 cases z4
 exact pair_ok s3 hT (e2.same s1) (e4.same s1)
theorem smallI_is {i:Int} (h:smallI i=true):-(2 ^ 62)≤i∧i < 2 ^ 62:=by
 unfold smallI at h
 simpa [Bool.and_eq_true] using h
theorem i_gen (gd:Gd κ K k X Γ) (A:All κ K k X Γ m) (tg e:Expr) (he:∀ ρ,evI (m+1) Γ (tupB tg) e ρ=(evL m Γ e ρ).th fun x=>.ok (x.1.2,x.2)):PI X tg e (tI κ K G₀ H₀ Γ (m+1) (tupB tg) e):=by
 refine PI.imp (pi_seq (A.l G₀ H₀ e)) fun σ H Q ⟨ρ,G,er,h⟩=>?_
 rw [he] at h
 refine ⟨ρ,G,er,Wk.mono (Wk.th h) fun x h v G1 H1 p1 r1=>?_⟩
 obtain ⟨⟨b,l⟩,ρ1⟩:=x
 cases b with
 | str=>
  obtain ⟨y,rfl,rfl⟩:=r1
  exact .inr ⟨y,rfl,h _ G1 H1 p1 its_ok⟩
 | tup=>
  obtain ⟨a,xs,rfl,r2,r3⟩:=r1
  exact .inl ⟨a,rfl,.inr ⟨⟨xs,SqT.of (p1.er.sub _ _ r3)⟩,h _ G1 H1 p1 (by rw [gd.hK];exact itt_ok r3 r2)⟩⟩
 | lst=>
  obtain ⟨a,xs,rfl,r2,r3⟩:=r1
  refine .inl ⟨a,rfl,.inl ⟨⟨xs,?_⟩,h _ G1 H1 p1 (by rw [gd.hK];exact itl_ok r3 r2)⟩⟩
  rw [gd.hK]
  exact r3.elim (fun z=>SqL.of (p1.er.sub _ _ z)) fun z=>p1.er.base.seq z
theorem star_two {a b:Expr} {env:PySem.Env} (h1:starB a=false) (h2:starB b=false):starEach [a,b] env=[(false,eval a env),(false,eval b env)]:=by
 rw [star_one h1,star_one h2]
 rfl
theorem i_call1 (gd:Gd κ K k X Γ) (A:All κ K k X Γ m) (tg a:Expr) (f:Str) (p q:Pos) (hf:f = "range"∨f = "enumerate"∨f = "zip") :
  PI X tg (.Call (.Name f p) [a] [] q) (tI κ K G₀ H₀ Γ (m+1) (tupB tg) (.Call (.Name f p) [a] [] q)):=by
 by_cases hn:(nameOk f&&glB Γ.sc f&&(ixOf Γ.N f).isNone)=true
 case neg=>
  refine pi_none fun σ H Q ⟨ρ,G,er,h⟩=>?_
  rcases hf with rfl | rfl | rfl<;>exact hn (Wk.iff (show Wk (if (_&&_&&_)=true then _ else R.no) _ from h)).1
 have hn':=hn
 simp only [Bool.and_eq_true] at hn'
 have hg:=gd.glo _ hn'.1.2
 by_cases hs:starB a=true
 ·refine pi_none fun σ H Q ⟨ρ,G,er,h⟩=>?_
  rcases hf with rfl | rfl | rfl
  all_goals
   have h:=(Wk.iff (show Wk (if (_&&_&&_)=true then _ else R.no) _ from h)).2
   exact (Wk.nif (c:=starB a=true) h).1 hs
 have hs:=Bool.eq_false_iff.mpr hs
 rcases hf with rfl | rfl | rfl
 ·refine PI.imp (pi_range1 hg (gd.blt _ (by decide)) (pa_cons (A.r G₀ H₀ a) pa_nil (star_one hs)) (star_one hs)) fun σ H Q ⟨ρ,G,er,h⟩=>?_
  have h:=(Wk.iff (show Wk (if (_&&_&&_)=true then _ else R.no) _ from h)).2
  have h:=(Wk.nif (c:=starB a=true) h).2
  refine ⟨ρ,G,er,Wk.mono (Wk.th (x:=evR m Γ a ρ) h) fun x h v G1 H1 p1 r1=>?_⟩
  cases e1:x.1.int? with
  | none=>rw [e1] at h;exact False.elim h
  | some n=>
   rw [e1] at h
   obtain ⟨hz,h⟩:=Wk.iff h
   obtain ⟨z1,z2⟩:=smallI_is hz
   refine ⟨n,by rw [r1.int e1],z1,z2,h _ G1 H1 p1 ?_⟩
   have:=itr_ok (κ:=κ) (H₀:=H₀) (G:=G1) (lo:=0) (hi:=n)
   rw [Int.sub_zero] at this
   exact this
 ·cases tg with
  | Tuple es j tp=>
   refine PI.imp (pi_enum hg (gd.blt _ (by decide)) (pa_cons (A.l G₀ H₀ a) pa_nil (star_one hs)) (star_one hs)) fun σ H Q ⟨ρ,G,er,h⟩=>?_
   have h:=(Wk.iff (show Wk (if (_&&_&&_)=true then _ else R.no) _ from h)).2
   have h:=(Wk.nif (c:=starB a=true) h).2
   refine ⟨ρ,G,er,Wk.mono (Wk.th (x:=evL m Γ a ρ) h) fun x h v G1 H1 p1 r1=>?_⟩
   obtain ⟨⟨b,l⟩,ρ1⟩:=x
   cases b with
   | str=>exact False.elim h
   | tup=>exact False.elim h
   | lst=>
    obtain ⟨c,xs,rfl,r2,r3⟩:=r1
    refine ⟨c,rfl,⟨xs,?_⟩,h _ G1 H1 p1 (by rw [gd.hK];exact ite_ok r3 r2)⟩
    rw [gd.hK]
    exact r3.elim (fun z=>SqL.of (p1.er.sub _ _ z)) fun z=>p1.er.base.seq z
  | _=>
   refine pi_none fun σ H Q ⟨ρ,G,er,h⟩=>?_
   have h:=(Wk.iff (show Wk (if (_&&_&&_)=true then _ else R.no) _ from h)).2
   exact (Wk.nif (c:=starB a=true) h).2
 ·refine pi_none fun σ H Q ⟨ρ,G,er,h⟩=>?_
  have h:=(Wk.iff (show Wk (if (_&&_&&_)=true then _ else R.no) _ from h)).2
  exact (Wk.nif (c:=starB a=true) h).2
theorem i_call2 (gd:Gd κ K k X Γ) (A:All κ K k X Γ m) (tg a b:Expr) (f:Str) (p q:Pos) (hf:f = "range"∨f = "enumerate"∨f = "zip") :
  PI X tg (.Call (.Name f p) [a,b] [] q) (tI κ K G₀ H₀ Γ (m+1) (tupB tg) (.Call (.Name f p) [a,b] [] q)):=by
 by_cases hn:(nameOk f&&glB Γ.sc f&&(ixOf Γ.N f).isNone)=true
 case neg=>
  refine pi_none fun σ H Q ⟨ρ,G,er,h⟩=>?_
  rcases hf with rfl | rfl | rfl<;>exact hn (Wk.iff (show Wk (if (_&&_&&_)=true then _ else R.no) _ from h)).1
 have hn':=hn
 simp only [Bool.and_eq_true] at hn'
 have hg:=gd.glo _ hn'.1.2
 by_cases hs:(starB a||starB b)=true
 ·refine pi_none fun σ H Q ⟨ρ,G,er,h⟩=>?_
  rcases hf with rfl | rfl | rfl
  all_goals
   have h:=(Wk.iff (show Wk (if (_&&_&&_)=true then _ else R.no) _ from h)).2
   exact (Wk.nif (c:=(starB a||starB b)=true) h).1 hs
 have hsf:=Bool.eq_false_iff.mpr hs
 rw [Bool.or_eq_false_iff] at hsf
 obtain ⟨s1,s2⟩:=hsf
 rcases hf with rfl | rfl | rfl
 ·refine PI.imp (pi_range2 hg (gd.blt _ (by decide)) (pa_cons (A.r G₀ H₀ a) (pa_cons (A.r G₀ H₀ b) pa_nil (star_one s2)) (star_one s1)) (star_two s1 s2) (star_one s2)) fun σ H Q ⟨ρ,G,er,h⟩=>?_
  have h:=(Wk.iff (show Wk (if (_&&_&&_)=true then _ else R.no) _ from h)).2
  have h:=(Wk.nif (c:=(starB a||starB b)=true) h).2
  refine ⟨ρ,G,er,Wk.mono (Wk.th (x:=evR m Γ a ρ) h) fun x h v G1 H1 p1 r1=>⟨x.2,G1,p1.er,Wk.mono (Wk.th (x:=evR m Γ b x.2) h) fun y h w G2 H2 p2 r2=>?_⟩⟩
  cases e1:x.1.int? with
  | none=>rw [e1] at h;exact False.elim h
  | some i=>
   cases e2:y.1.int? with
   | none=>rw [e1,e2] at h;exact False.elim h
   | some j=>
    rw [e1,e2] at h
    obtain ⟨hz,h⟩:=Wk.iff h
    obtain ⟨z1,z2⟩:=smallI_is hz.1
    obtain ⟨z3,z4⟩:=smallI_is hz.2
    exact ⟨i,j,by rw [r1.int e1,r2.int e2],⟨z1,z2,z3,z4⟩,h _ G2 H2 (p1.trans p2) itr_ok⟩
 ·refine pi_none fun σ H Q ⟨ρ,G,er,h⟩=>?_
  have h:=(Wk.iff (show Wk (if (_&&_&&_)=true then _ else R.no) _ from h)).2
  exact (Wk.nif (c:=(starB a||starB b)=true) h).2
 ·cases tg with
  | Tuple es j tp=>
   refine PI.imp (pi_zip hg (gd.blt _ (by decide)) (pa_cons (A.l G₀ H₀ a) (pa_cons (A.l G₀ H₀ b) pa_nil (star_one s2)) (star_one s1)) (star_two s1 s2) (star_one s2)) fun σ H Q ⟨ρ,G,er,h⟩=>?_
   have h:=(Wk.iff (show Wk (if (_&&_&&_)=true then _ else R.no) _ from h)).2
   have h:=(Wk.nif (c:=(starB a||starB b)=true) h).2
   refine ⟨ρ,G,er,Wk.mono (Wk.th (x:=evL m Γ a ρ) h) fun x h v G1 H1 p1 r1=>⟨x.2,G1,p1.er,Wk.mono (Wk.th (x:=evL m Γ b x.2) h) fun y h w G2 H2 p2 r2=>?_⟩⟩
   obtain ⟨⟨bx,l⟩,ρ1⟩:=x
   obtain ⟨⟨by',n⟩,ρ2⟩:=y
   cases bx with
   | str=>exact False.elim h
   | tup=>exact False.elim h
   | lst=>
    cases by' with
    | str=>exact False.elim h
    | tup=>exact False.elim h
    | lst=>
     obtain ⟨c,xs,rfl,r3,r4⟩:=r1
     obtain ⟨d,ys,rfl,r5,r6⟩:=r2
     have r4':G2 c=some (.lst xs)∨SqL K H₀ c xs:=r4.imp (fun z=>p2.gs _ _ z) id
     have r6:G2 d=some (.lst ys)∨SqL K H₀ d ys:=r6
     refine ⟨c,d,rfl,⟨xs,?_⟩,⟨ys,?_⟩,h _ G2 H2 (p1.trans p2) (by rw [gd.hK];exact itz_ok r4' (r3.same p2.gs) r6 r5)⟩
     ·rw [gd.hK]
      exact r4'.elim (fun z=>SqL.of (p2.er.sub _ _ z)) fun z=>p2.er.base.seq z
     ·rw [gd.hK]
      exact r6.elim (fun z=>SqL.of (p2.er.sub _ _ z)) fun z=>p2.er.base.seq z
  | _=>
   refine pi_none fun σ H Q ⟨ρ,G,er,h⟩=>?_
   have h:=(Wk.iff (show Wk (if (_&&_&&_)=true then _ else R.no) _ from h)).2
   exact (Wk.nif (c:=(starB a||starB b)=true) h).2
theorem i_ok (gd:Gd κ K k X Γ) (A:All κ K k X Γ m) (tg e:Expr):PI X tg e (tI κ K G₀ H₀ Γ (m+1) (tupB tg) e):=by
 cases e with
 | Call fn es kws q=>
  cases fn with
  | Name f p=>
   cases kws with
   | nil=>
    by_cases hf:f = "range"∨f = "enumerate"∨f = "zip"
    ·match es with
     | []=>exact pi_none fun σ H Q ⟨ρ,G,er,h⟩=>by rcases hf with rfl | rfl | rfl<;>exact (Wk.iff (show Wk (if (_&&_&&_)=true then _ else R.no) _ from h)).2
     | [a]=>exact i_call1 gd A tg a f p q hf
     | [a,b]=>exact i_call2 gd A tg a b f p q hf
     | _::_::_::_=>exact pi_none fun σ H Q ⟨ρ,G,er,h⟩=>by rcases hf with rfl | rfl | rfl<;>exact (Wk.iff (show Wk (if (_&&_&&_)=true then _ else R.no) _ from h)).2
    ·refine i_gen gd A tg _ fun ρ=>?_
     have hc:¬ ((decide (f = "range")||decide (f = "enumerate")||decide (f = "zip"))=true):=by
      simp only [Bool.or_eq_true,decide_eq_true_eq]
      intro z
      exact hf (by rcases z with (z | z) | z<;>simp [z])
     show (if (decide (f = "range")||decide (f = "enumerate")||decide (f = "zip"))=true then _ else _)=_
     rw [if_neg hc]
   | cons kw kws=>exact i_gen gd A tg _ fun _=>rfl
  | _=>exact i_gen gd A tg _ fun _=>rfl
 | _=>exact i_gen gd A tg _ fun _=>rfl
end
end DE
set_option maxHeartbeats 4000000
namespace DE
open PySem PySem.Spec PyProof.Rows L2
section
variable {κ:KC} {K:PySem.W.Frag} {G₀ H₀:Hp} {k m:Nat} {X:Cx} {Γ:Ct}
theorem nostar:∀ {es:List Expr} {m:Nat} {ρ:Env} {F:List Ar×Env→Prop},Wk (evAs m Γ es ρ) F→es.any starB=false
 | [],_,_,_,_=>rfl
 | e::l,0,ρ,F,h=>False.elim h
 | e::l,m+1,ρ,F,h=>by
  obtain ⟨h1,h⟩:=Wk.nif (c:=starB e=true) h
  have h:=Wk.th (x:=evR m Γ e ρ) h
  cases e1:evR m Γ e ρ with
  | ok x=>
   rw [e1] at h
   have h2:=nostar (es:=l) (m:=m) (ρ:=x.2) (Wk.th (x:=evAs m Γ l x.2) h)
   simp only [List.any_cons,Bool.eq_false_iff.mpr h1,h2,Bool.or_self]
  | exc c l=>rw [e1] at h;exact False.elim h
  | no=>rw [e1] at h;exact False.elim h
theorem star_any {env:PySem.Env} {pos:Pos}:∀ {es:List Expr},es.any starB=false→(backTo pos (starEach es env)).any (·.1)=false
 | [],_=>rfl
 | e::l,h=>by
  simp only [List.any_cons,Bool.or_eq_false_iff] at h
  rw [star_one h.1]
  show (false||(backTo pos (starEach l env)).any (·.1))=false
  rw [star_any h.2]
  rfl
theorem ReR.rv {G H G1 H1 G2 H2:Hp} {ρ ρ1:Env} {σ:L2.St} {r:Rv} {v:V} (p:Po κ K G₀ H₀ σ G H ρ G1 H1 ρ1) (hs:Same H1 H2) (gs:Same G1 G2) (sub:Same G2 H2) (new:∀ a o,G2 a=some o→(∃ o',G1 a=some o')∨H1 a=none) (h:ReR κ G2 H2 H1 r v) :
  Po κ K G₀ H₀ σ G H ρ G2 H2 ρ1∧RvR κ K H₀ H G2 H2 ρ1 σ r v:=by
 refine ⟨p.trans (Po.more p.er hs gs sub new),?_⟩
 cases r with
 | val d=>exact h
 | tmp ds=>
  obtain ⟨a,xs,rfl,h1,h2,h3,h4⟩:=h
  exact ⟨a,xs,rfl,h1,Same.none p.hs h2,Same.none p.er.base h2,h3,p.er.notOwn h2,h4⟩
 | cell ds=>exact False.elim h
 | scr ds=>exact False.elim h
theorem ucall_ok (gd:Gd κ K k X Γ) (A:All κ K k X Γ m) (f:Str) (es:List Expr) (p q:Pos) (hok:nameOk f=true) (hgl:glB Γ.sc f=true) (ht:Γ.tab.contains f=true)
  (he:∀ ρ,evR (m+1) Γ (.Call (.Name f p) es [] q) ρ=(evAs m Γ es ρ).th fun x=>(Γ.cl f x.1).th fun r=>.ok (r,x.2)):PE X (.Call (.Name f p) es [] q) (tR κ K G₀ H₀ Γ (m+1) (.Call (.Name f p) es [] q)):=by
 by_cases hs:es.any starB=false
 case neg=>
  refine pe_none fun σ H Q ⟨ρ,G,er,h⟩=>?_
  rw [he] at h
  exact hs (nostar (Wk.th h))
 obtain ⟨fa,fd,ps,F,hm,hk,hb⟩:=gd.fns f ht
 obtain ⟨n1,n2,n3⟩:=nameOk_is hok
 have key:∀ σ H Q,tR κ K G₀ H₀ Γ (m+1) (.Call (.Name f p) es [] q) σ H Q→tCall (spF κ K Γ.cl f) [] E0 (tAs κ K G₀ H₀ Γ m es) σ H Q:=fun σ H Q ⟨ρ,G,er,h⟩=>by
  rw [he] at h
  refine ⟨ρ,G,er,Wk.mono (Wk.th h) fun x h vs G1 H1 p1 r1=>?_⟩
  show spF κ K Γ.cl f (vs++[]) H1 Q E0
  rw [List.append_nil]
  refine ⟨G1,x.1,p1.er.sub,r1,Wk.mono (Wk.th h) fun r h v G2 H2 hs gs sub new rr=>?_⟩
  obtain ⟨z1,z2⟩:=ReR.rv p1 hs gs sub new rr
  exact h v G2 H2 z1 z2
 cases es with
 | nil=>
  refine PE.imp (pe_call0 F gd.room (gd.glo f hgl) hm hk hb .nil pass0 n1) fun σ H Q h=>?_
  obtain ⟨ρ,G,er,h⟩:=key σ H Q h
  have hz:∀ {m:Nat},Wk (evAs m Γ [] ρ) (fun x=>∀ vs G' H',Po κ K G₀ H₀ σ G H ρ G' H' x.2→ArRs κ K G' H' x.1 vs→spF κ K Γ.cl f (vs++[]) H' Q E0)→spF κ K Γ.cl f ([]++[]) H Q E0:=fun {m} h=>by
   cases m with
   | zero=>exact False.elim h
   | succ m=>exact h [] G H (Po.refl er) rfl
  exact hz h
 | cons e l=>
  simp only [List.any_cons,Bool.or_eq_false_iff] at hs
  exact PE.imp (pe_call F gd.room (gd.glo f hgl) hm hk hb .nil pass0 (A.as G₀ H₀ (e::l)) n1 (star_one hs.1) (star_any hs.2)) key
theorem call1_ok (gd:Gd κ K k X Γ) (A:All κ K k X Γ m) (f:Str) (a:Expr) (p q:Pos) (hgl:glB Γ.sc f=true)
  (he:∀ ρ,evR (m+1) Γ (.Call (.Name f p) [a] [] q) ρ=if starB a=true then .no else (evR m Γ a ρ).th fun x=>(call1 f x.1).th fun r=>.ok (r,x.2)):PE X (.Call (.Name f p) [a] [] q) (tR κ K G₀ H₀ Γ (m+1) (.Call (.Name f p) [a] [] q)):=by
 by_cases hs:starB a=true
 ·refine pe_none fun σ H Q ⟨ρ,G,er,h⟩=>?_
  rw [he,if_pos hs] at h
  exact h
 have s1:=Bool.eq_false_iff.mpr hs
 have key:∀ (g:Rv→R Rv),(∀ r,call1 f r=g r)→∀ σ H Q,tR κ K G₀ H₀ Γ (m+1) (.Call (.Name f p) [a] [] q) σ H Q→tCB (rC1 κ K G₀ H₀ g) (tCons (tR κ K G₀ H₀ Γ m a) tNil) σ H Q:=fun g hg σ H Q ⟨ρ,G,er,h⟩=>by
  rw [he,if_neg hs] at h
  refine ⟨ρ,G,er,Wk.mono (Wk.th h) fun x h v G1 H1 p1 r1=>?_⟩
  rw [hg] at h
  exact ⟨x.2,σ,G1,H,x.1,v,rfl,p1.er,r1,Wk.mono (Wk.th h) fun z h u G2 H2 p2 r2=>h u G2 H2 (p1.trans p2) (r2.back p1.hs)⟩
 by_cases h1:f = "len"
 ·subst h1
  exact PE.imp (pe_callB (len_ok (G₀:=G₀) (H₀:=H₀) gd) (gd.glo _ hgl) (gd.blt _ (by decide)) PySem.boot_len (pa_cons (A.r G₀ H₀ a) pa_nil (star_one s1)) (by decide) (by decide) (star_one s1) rfl) (key _ fun r=>rfl)
 by_cases h2:f = "list"
 ·subst h2
  exact PE.imp (pe_callTy (list_ok (G₀:=G₀) (H₀:=H₀) gd) (gd.glo _ hgl) (gd.blt _ (by decide)) PyProof.Rows.boot_list (pa_cons (A.r G₀ H₀ a) pa_nil (star_one s1)) (by decide) (by decide) (star_one s1) rfl) (key _ fun r=>rfl)
 by_cases h3:f = "int"
 ·subst h3
  exact PE.imp (pe_callTy (int_ok (κ:=κ) (K:=K) (G₀:=G₀) (H₀:=H₀)) (gd.glo _ hgl) (gd.blt _ (by decide)) PyProof.Rows.boot_int (pa_cons (A.r G₀ H₀ a) pa_nil (star_one s1)) (by decide) (by decide) (star_one s1) rfl) (key _ fun r=>rfl)
 by_cases h4:f = "sorted"
 ·subst h4
  exact PE.imp (pe_callB (sorted_ok (G₀:=G₀) (H₀:=H₀) gd) (gd.glo _ hgl) (gd.blt _ (by decide)) PyProof.Rows.boot_sorted (pa_cons (A.r G₀ H₀ a) pa_nil (star_one s1)) (by decide) (by decide) (star_one s1) rfl) (key _ fun r=>rfl)
 by_cases h5:f = "sum"
 ·subst h5
  exact PE.imp (pe_callB (sum_ok (G₀:=G₀) (H₀:=H₀) gd) (gd.glo _ hgl) (gd.blt _ (by decide)) PyProof.Rows.boot_sum (pa_cons (A.r G₀ H₀ a) pa_nil (star_one s1)) (by decide) (by decide) (star_one s1) rfl) (key _ fun r=>rfl)
 refine pe_none fun σ H Q ⟨ρ,G,er,h⟩=>?_
 rw [he,if_neg hs] at h
 have h:=Wk.th h
 cases e1:evR m Γ a ρ with
 | ok x=>
  rw [e1] at h
  have e2:call1 f x.1=.no:=by unfold call1;rw [if_neg h1,if_neg h2,if_neg h3,if_neg h4,if_neg h5]
  have h:=Wk.th (x:=call1 f x.1) h
  rw [e2] at h
  exact h
 | exc c l=>rw [e1] at h;exact h
 | no=>rw [e1] at h;exact h
theorem call2_ok (gd:Gd κ K k X Γ) (A:All κ K k X Γ m) (f:Str) (a b:Expr) (p q:Pos) (hgl:glB Γ.sc f=true)
  (he:∀ ρ,evR (m+1) Γ (.Call (.Name f p) [a,b] [] q) ρ=if (starB a||starB b)=true then .no else (evR m Γ a ρ).th fun x=>(evR m Γ b x.2).th fun y=>(call2 f x.1 y.1).th fun r=>.ok (r,y.2)):PE X (.Call (.Name f p) [a,b] [] q) (tR κ K G₀ H₀ Γ (m+1) (.Call (.Name f p) [a,b] [] q)):=by
 by_cases hs:(starB a||starB b)=true
 ·refine pe_none fun σ H Q ⟨ρ,G,er,h⟩=>?_
  rw [he,if_pos hs] at h
  exact h
 have hsf:=Bool.eq_false_iff.mpr hs
 rw [Bool.or_eq_false_iff] at hsf
 obtain ⟨s1,s2⟩:=hsf
 have key:∀ (g:Rv→Rv→R Rv),(∀ r s,call2 f r s=g r s)→∀ σ H Q,tR κ K G₀ H₀ Γ (m+1) (.Call (.Name f p) [a,b] [] q) σ H Q→tCB (rC2 κ K G₀ H₀ g) (tCons (tR κ K G₀ H₀ Γ m a) (tCons (tR κ K G₀ H₀ Γ m b) tNil)) σ H Q:=fun g hg σ H Q ⟨ρ,G,er,h⟩=>by
  rw [he,if_neg hs] at h
  refine ⟨ρ,G,er,Wk.mono (Wk.th h) fun x h v G1 H1 p1 r1=>⟨x.2,G1,p1.er,Wk.mono (Wk.th h) fun y h w G2 H2 p2 r2=>?_⟩⟩
  rw [hg] at h
  exact ⟨y.2,σ,G2,H,H1,x.1,y.1,v,w,rfl,p2.er,r1.keep p2,r2,Wk.mono (Wk.th h) fun z h u G3 H3 p3 r3=>h u G3 H3 (p1.trans (p2.trans p3)) (r3.back (p1.trans p2).hs)⟩
 have sa:(backTo q (starEach [b] X.env)).any (·.1)=false:=star_any (by simp [s2])
 by_cases h1:f = "max"
 ·subst h1
  exact PE.imp (pe_callB (max_ok (G₀:=G₀) (H₀:=H₀) gd) (gd.glo _ hgl) (gd.blt _ (by decide)) PyProof.Rows.boot_max (pa_cons (A.r G₀ H₀ a) (pa_cons (A.r G₀ H₀ b) pa_nil (star_one s2)) (star_one s1)) (by decide) (by decide) (star_one s1) sa) (key _ fun r s=>rfl)
 by_cases h2:f = "min"
 ·subst h2
  exact PE.imp (pe_callB (min_ok (G₀:=G₀) (H₀:=H₀) gd) (gd.glo _ hgl) (gd.blt _ (by decide)) PyProof.Rows.boot_min (pa_cons (A.r G₀ H₀ a) (pa_cons (A.r G₀ H₀ b) pa_nil (star_one s2)) (star_one s1)) (by decide) (by decide) (star_one s1) sa) (key _ fun r s=>rfl)
 refine pe_none fun σ H Q ⟨ρ,G,er,h⟩=>?_
 rw [he,if_neg hs] at h
 have h:=Wk.th h
 cases e1:evR m Γ a ρ with
 | ok x=>
  rw [e1] at h
  have h:=Wk.th (x:=evR m Γ b x.2) h
  cases e2:evR m Γ b x.2 with
  | ok y=>
   rw [e2] at h
   have e3:call2 f x.1 y.1=.no:=by unfold call2;rw [if_neg h1,if_neg h2]
   have h:=Wk.th (x:=call2 f x.1 y.1) h
   rw [e3] at h
   exact h
  | exc c l=>rw [e2] at h;exact h
  | no=>rw [e2] at h;exact h
 | exc c l=>rw [e1] at h;exact h
 | no=>rw [e1] at h;exact h
noncomputable def tyN:D→String
 | .non=>"NoneType" | .bl _=>"bool" | .int _=>"int" | .str _=>"str" | .lst _=>"list" | .tup _=>"tuple" | .ins ..=>"object"
theorem ty_rv {G H Hb:Hp} {ρ:Env} {σ:L2.St} {r:Rv} {x:V} {t:Str} {b:Bool} (er:ER κ K G₀ H₀ G H ρ σ) (h:RvR κ K H₀ Hb G H ρ σ r x) (e:isiR r t=some b):TyOf K H x (.type (tyN r.data)):=by
 cases r with
 | val d=>
  cases d<;>simp only [RvR,Rep] at h
  ·subst h;exact .non
  ·subst h;exact .bl _
  ·subst h;exact .int _
  ·subst h;exact .str _
  ·obtain ⟨a,xs,rfl,h1,_⟩:=h;exact .lst (er.sub _ _ h1)
  ·obtain ⟨a,xs,rfl,h1,_⟩:=h;exact .tup (er.sub _ _ h1)
  ·simp only [isiR,Rv.data,isiD] at e;cases e
 | tmp l=>obtain ⟨a,xs,rfl,h1,_⟩:=h;exact .lst h1
 | cell l=>obtain ⟨a,xs,rfl,h1,_⟩:=h;exact .lst h1
 | scr l=>simp only [isiR] at e;cases e
theorem isi_is {r:Rv} {t:Str} {b:Bool} (e:isiR r t=some b):∃ n:String,t=(n:Str)∧n∈["int","bool","str","list","tuple"]∧PySem.W.kitOne K (.type (tyN r.data)) (.type n)=some b:=by
 have main:∀ d:D,isiD d t=some b→∃ n:String,t=(n:Str)∧n∈["int","bool","str","list","tuple"]∧PySem.W.kitOne K (.type (tyN d)) (.type n)=some b:=fun d e=>by
  have e':=e
  unfold isiD at e
  cases d<;>dsimp only at e
  case ins=>cases e
  all_goals
   split at e
   ·rename_i ht;cases e;exact ⟨"int",ht,by decide,rfl⟩
   split at e
   ·rename_i ht;cases e;exact ⟨"bool",ht,by decide,rfl⟩
   split at e
   ·rename_i ht;cases e;exact ⟨"str",ht,by decide,rfl⟩
   split at e
   ·rename_i ht;cases e;exact ⟨"list",ht,by decide,rfl⟩
   split at e
   ·rename_i ht;cases e;exact ⟨"tuple",ht,by decide,rfl⟩
   cases e
 cases r with
 | val d=>exact main d e
 | tmp l=>exact main (.lst l) e
 | cell l=>exact main (.lst l) e
 | scr l=>simp only [isiR] at e;cases e
theorem five_inj:∀ n∈["int","bool","str","list","tuple"],∀ n'∈["int","bool","str","list","tuple"],(Str.ofString n)=(Str.ofString n')→n=n':=by decide +kernel
theorem call_isiC {X:Cx}:CallR X (.builtin "isinstance") (fun vs H Q=>∃ x c t cv b,vs=[x,c]∧TyOf X.K H x t∧RelV c cv∧(∀ u,RelV c u→u=cv)∧PySem.W.kitOne X.K t cv=some b∧Q (.bl b) H):=by
 intro pins s σ H xs us Q I r h
 obtain ⟨x,c,t,cv,b,rfl,ty,rc,uq,e,q⟩:=h
 obtain ⟨u,v,rfl,ru,rv⟩:=vals2 r
 obtain rfl:v=cv:=uq v rv
 exact isinst_ok I ru ty e fun tk=>⟨.bl b,H,I.tok tk,rfl,q⟩
noncomputable def tIsi (κ:KC) (K:PySem.W.Frag) (G₀ H₀:Hp) (Γ:Ct) (m:Nat) (a:Expr) (t:Str):TE:=fun σ H Q=>∃ ρ G,ER κ K G₀ H₀ G H ρ σ∧Wk (if (nameOk t&&glB Γ.sc t&&(ixOf Γ.N t).isNone&&!starB a)=true then (evR m Γ a ρ).th fun x=>(R.of (isiR x.1 t)).th fun b=>.ok (Rv.val (.bl b),x.2) else .no) fun x=>∀ v G' H',Po κ K G₀ H₀ σ G H ρ G' H' x.2→RvR κ K H₀ H G' H' x.2 σ x.1 v→Q v H'
theorem isi_old (gd:Gd κ K k X Γ) (A:All κ K k X Γ m) (a:Expr) (t:Str) (p tp q:Pos) (hgl:glB Γ.sc "isinstance" = true) :
  PE X (.Call (.Name "isinstance" p) [a,.Name t tp] [] q) (tIsi κ K G₀ H₀ Γ m a t):=by
 by_cases hc:(nameOk t&&glB Γ.sc t&&(ixOf Γ.N t).isNone&&!starB a)=true
 case neg=>
  refine pe_none fun σ H Q ⟨ρ,G,er,h⟩=>?_
  rw [if_neg hc] at h
  exact h
 have hc':=hc
 simp only [Bool.and_eq_true,Bool.not_eq_true'] at hc'
 obtain ⟨⟨⟨c1,c2⟩,c3⟩,s1⟩:=hc'
 have key:∀ n:String,n∈["int","bool","str","list","tuple"]→t=(n:Str)→∀ σ H Q,tIsi κ K G₀ H₀ Γ m a t σ H Q→
   tCB (fun vs H Q=>∃ x n t b,vs=[x,.ty n]∧TyOf X.K H x t∧PySem.W.kitOne X.K t (.type n)=some b∧Q (.bl b) H) (tCons (tR κ K G₀ H₀ Γ m a) (tCons (tC (.ty n)) tNil)) σ H Q:=fun n hm hn σ H Q ⟨ρ,G,er,h⟩=>by
  rw [if_pos hc] at h
  refine ⟨ρ,G,er,Wk.mono (Wk.th h) fun x h v G1 H1 p1 r1=>?_⟩
  obtain ⟨b,e1,h⟩:=Wk.of (Wk.th h)
  obtain ⟨n',hn',hm',kt⟩:=isi_is (K:=K) e1
  have:n=n':=five_inj n hm n' hm' (hn.symm.trans hn')
  subst this
  exact ⟨v,n,_,b,rfl,by rw [gd.hK];exact ty_rv p1.er r1 e1,by rw [gd.hK];exact kt,h _ G1 H1 p1 (by simp only [RvR,Rep])⟩
 have go:∀ n:String,n∈["int","bool","str","list","tuple"]→t=(n:Str)→(hb:PE X (.Name t tp) (tC (.ty n)))→PE X (.Call (.Name "isinstance" p) [a,.Name t tp] [] q) (tIsi κ K G₀ H₀ Γ m a t):=fun n hm hn hb=>
  PE.imp (pe_callB call_isi (gd.glo _ hgl) (gd.blt _ (by decide)) PyProof.Rows.boot_isinstance (pa_cons (A.r G₀ H₀ a) (pa_cons hb pa_nil rfl) (star_one s1)) (by decide) (by decide) (star_one s1) rfl) (key n hm hn)
 by_cases h1:t = "int"
 ·subst h1;exact go "int" (by decide) rfl (pe_bltn (gd.glo _ c2) (gd.blt _ (by decide)) PyProof.Rows.boot_int rfl)
 by_cases h2:t = "bool"
 ·subst h2;exact go "bool" (by decide) rfl (pe_bltn (gd.glo _ c2) (gd.blt _ (by decide)) PyProof.Rows.boot_bool rfl)
 by_cases h3:t = "str"
 ·subst h3;exact go "str" (by decide) rfl (pe_bltn (gd.glo _ c2) (gd.blt _ (by decide)) PyProof.Rows.boot_str rfl)
 by_cases h4:t = "list"
 ·subst h4;exact go "list" (by decide) rfl (pe_bltn (gd.glo _ c2) (gd.blt _ (by decide)) PyProof.Rows.boot_list rfl)
 by_cases h5:t = "tuple"
 ·subst h5;exact go "tuple" (by decide) rfl (pe_bltn (gd.glo _ c2) (gd.blt _ (by decide)) PyProof.Rows.boot_tuple rfl)
 refine pe_none fun σ H Q ⟨ρ,G,er,h⟩=>?_
 rw [if_pos hc] at h
 have h:=Wk.th h
 cases e1:evR m Γ a ρ with
 | ok x=>
  rw [e1] at h
  obtain ⟨b,e2,h⟩:=Wk.of (Wk.th (x:=R.of (isiR x.1 t)) h)
  obtain ⟨n,hn,hm,_⟩:=isi_is (K:=K) e2
  simp only [List.mem_cons,List.not_mem_nil,or_false] at hm
  rcases hm with rfl | rfl | rfl | rfl | rfl
  ·exact h1 hn
  ·exact h2 hn
  ·exact h3 hn
  ·exact h4 hn
  ·exact h5 hn
 | exc c l=>rw [e1] at h;exact h
 | no=>rw [e1] at h;exact h
theorem isi_ok (gd:Gd κ K k X Γ) (A:All κ K k X Γ m) (a:Expr) (t:Str) (p tp q:Pos) (hgl:glB Γ.sc "isinstance" = true)
  (he:∀ ρ,evR (m+1) Γ (.Call (.Name "isinstance" p) [a,.Name t tp] [] q) ρ=if (nameOk t&&glB Γ.sc t&&(ixOf Γ.N t).isNone&&!starB a)=true then (evR m Γ a ρ).th fun x=>(R.of (isiG Γ.cs x.1 t)).th fun b=>.ok (.val (.bl b),x.2) else .no) :
  PE X (.Call (.Name "isinstance" p) [a,.Name t tp] [] q) (tR κ K G₀ H₀ Γ (m+1) (.Call (.Name "isinstance" p) [a,.Name t tp] [] q)):=by
 intro pins s σ H Q I ⟨ρ,G,er,h⟩
 rw [he] at h
 obtain ⟨hc,h'⟩:=Wk.iff (c:=(nameOk t&&glB Γ.sc t&&(ixOf Γ.N t).isNone&&!starB a)=true) h
 have hc':=hc
 simp only [Bool.and_eq_true,Bool.not_eq_true'] at hc'
 obtain ⟨⟨⟨c1,c2⟩,c3⟩,s1⟩:=hc'
 have h2:=Wk.th h'
 cases e1:evR m Γ a ρ with
 | exc c l=>rw [e1] at h2;exact h2.elim
 | no=>rw [e1] at h2;exact h2.elim
 | ok x=>
  rw [e1] at h2
  obtain ⟨b,e2,h3⟩:=Wk.of (Wk.th (x:=R.of (isiG Γ.cs x.1 t)) h2)
  by_cases hi:∃ c ns ds,x.1=.val (.ins c ns ds)
  ·obtain ⟨c,ns,ds,ex⟩:=hi
   rw [ex] at e2
   have e2:(if bty.contains t=true then none else Γ.cs.sub c t)=some b:=e2
   have e2:Γ.cs.sub c t=some b:=by
    by_cases hb:bty.contains t=true
    ·rw [if_pos hb] at e2;cases e2
    ·rw [if_neg hb] at e2;exact e2
   obtain ⟨C,T,hC,hty,hT,kt⟩:=gd.subs c t b e2
   refine (pe_callB call_isiC (gd.glo _ hgl) (gd.blt _ (by decide)) PyProof.Rows.boot_isinstance (pa_cons (A.r G₀ H₀ a) (pa_cons (pe_glob (v:=.ref T) (gd.glo _ c2) hT rfl (nameOk_is c1).1) pa_nil rfl) (star_one s1)) (by decide) (by decide) (star_one s1) rfl) pins s σ H Q I ⟨ρ,G,er,?_⟩
   rw [e1]
   intro v G1 H1 p1 r1
   rw [ex] at r1
   simp only [RvR,Rep] at r1
   obtain ⟨p',dx,C',xs,hc',rfl,h4,hl,h5⟩:=r1
   rw [hC] at hc'
   cases hc'
   exact ⟨.ref p',.ref T,.ref C,.ref T,b,rfl,hty _ _ _ _ (p1.er.sub _ _ h4),rfl,fun u hu=>hu,kt,h3 _ G1 H1 p1 (by simp only [RvR,Rep])⟩
  ·have e3:isiR x.1 t=some b:=by
    rw [←e2]
    obtain ⟨r,env⟩:=x
    cases r with
    | val d=>cases d<;>first | rfl | exact absurd ⟨_,_,_,rfl⟩ hi
    | _=>rfl
   refine isi_old gd A a t p tp q hgl pins s σ H Q I ⟨ρ,G,er,?_⟩
   rw [if_pos hc,e1]
   show Wk ((R.of (isiR x.1 t)).th _) _
   rw [e3]
   exact h3
theorem base_is {o:Expr} (h:plainO o=true) (x:Str) (env:PySem.Env):attributeBase o x env (eval o env)=eval o env:=by
 cases o<;>first | rfl | (simp [plainO] at h)
theorem fldD_is {cs:Cs} {r:Rv} {x:Str} {d:D} (h:fldD cs r x=some d):∃ c ns ds,r=.val (.ins c ns ds)∧cs.fld c x=true∧(ns.zip ds).lookup x=some d:=by
 cases r with
 | val e=>
  cases e with
  | ins c ns ds=>
   have h:(if cs.fld c x=true then (ns.zip ds).lookup x else none)=some d:=h
   by_cases hf:cs.fld c x=true
   ·rw [if_pos hf] at h;exact ⟨c,ns,ds,rfl,hf,h⟩
   ·rw [if_neg hf] at h;cases h
  | _=>cases h
 | _=>cases h
theorem mtD_is {cs:Cs} {r:Rv} {x f:Str} (h:mtD cs r x=some f):∃ c ns ds,r=.val (.ins c ns ds)∧ns.contains x=false∧cs.mt c x=some f:=by
 cases r with
 | val e=>
  cases e with
  | ins c ns ds=>
   have h:(if ns.contains x=true then none else cs.mt c x)=some f:=h
   by_cases hf:ns.contains x=true
   ·rw [if_pos hf] at h;cases h
   ·rw [if_neg hf] at h;exact ⟨c,ns,ds,rfl,by simpa using hf,h⟩
  | _=>cases h
 | _=>cases h
theorem zip_look {G:Hp} {x:Str} {d:D}:∀ {ns:List Str} {ds:List D} {xs:List V},Reps κ G ds xs→(ns.zip ds).lookup x=some d→∃ v,(ns.zip xs).lookup x=some v∧Rep κ G d v
 | [],_,_,_,h=>by simp at h
 | n::ns,[],_,_,h=>by simp at h
 | n::ns,e::ds,xs,r,h=>by
  simp only [Reps] at r
  obtain ⟨v,us,rfl,r1,r2⟩:=r
  rw [List.zip_cons_cons,List.lookup_cons] at h
  cases hx:(x == n) with
  | true=>
   rw [hx] at h
   cases h
   exact ⟨v,by rw [List.zip_cons_cons,List.lookup_cons,hx],r1⟩
  | false=>
   rw [hx] at h
   obtain ⟨u,z1,z2⟩:=zip_look r2 h
   exact ⟨u,by rw [List.zip_cons_cons,List.lookup_cons,hx];exact z1,z2⟩
theorem zip_none {x:Str}:∀ {ns:List Str} {xs:List V},ns.contains x=false→(ns.zip xs).lookup x=none
 | [],_,_=>by simp
 | n::ns,[],_=>by simp
 | n::ns,v::xs,h=>by
  simp only [List.contains_cons,Bool.or_eq_false_iff] at h
  rw [List.zip_cons_cons,List.lookup_cons,h.1]
  exact zip_none h.2
theorem fld_ok (gd:Gd κ K k X Γ) (A:All κ K k X Γ m) (o:Expr) (x:Str) (pos:Pos):PE X (.Attribute o x pos) (tR κ K G₀ H₀ Γ (m+1) (.Attribute o x pos)):=by
 by_cases ho:plainO o=true
 case neg=>exact pe_none fun σ H Q ⟨ρ,G,er,h⟩=>ho (Wk.iff (show Wk (if plainO o=true then _ else R.no) _ from h)).1
 refine PE.imp (pe_fld (A.r G₀ H₀ o) (base_is ho x X.env)) fun σ H Q ⟨ρ,G,er,h⟩=>?_
 have h:=(Wk.iff (show Wk (if plainO o=true then _ else R.no) _ from h)).2
 refine ⟨ρ,G,er,Wk.mono (Wk.th (x:=evR m Γ o ρ) h) fun y h v G1 H1 p1 r1=>?_⟩
 obtain ⟨d,e1,h⟩:=Wk.of (Wk.th h)
 obtain ⟨c,ns,ds,e2,e3,e4⟩:=fldD_is e1
 rw [e2] at r1
 simp only [RvR,Rep] at r1
 obtain ⟨p,dx,C,xs,hc,rfl,h1,hl,h2⟩:=r1
 obtain ⟨u,e5,ru⟩:=zip_look h2 e4
 exact ⟨p,C,dx,_,u,rfl,p1.er.sub _ _ h1,gd.cls c C hc,gd.flds c x C e3 hc,e5,h u G1 H1 p1 ru⟩
theorem eval_meth {o:Expr} {x:Str} {ap q:Pos} {es:List Expr} {env:PySem.Env} (ho:plainO o=true) (hs:es.any starB=false) (hl:es.length < 30) (hp:(ap.endLine == q.line)=true) :
  eval (.Call (.Attribute o x ap) es [] q) env=(do
   let ov←eval o env
   standAt ap.atName
   let (f,first)←holding [ov] (getMethod ov x (do return (←importBound o env).getD true))
   callWith q f first (backTo q (starEach es env)) (backToKw q (keywordEach [] env))):=by
 have hm:methodCallForm (es.length+([]:List Keyword).length) (backTo q (starEach es env)) (backToKw q (keywordEach [] env))=true:=by
  have e:=star_any (pos:=q) (env:=env) hs
  unfold methodCallForm
  simp only [Bool.and_eq_true,decide_eq_true_eq]
  refine ⟨⟨?_,rfl⟩,?_⟩
  ·rw [List.all_eq_true]
   intro y hy
   have:=List.any_eq_false.mp e y hy
   simpa using this
  ·show es.length+0+0 < 30
   omega
 show (do
  let ov←attributeBase o x env (eval o env)
  standAt ap.atName
  methodCall o x ap q env ov (es.length+([]:List Keyword).length) (backTo q (starEach es env)) (backToKw q (keywordEach [] env)))=_
 rw [base_is ho]
 unfold methodCall
 simp only [hm,calleeOf,methodCallPos,if_true,hp,Bool.not_true,Bool.false_or]
 rfl
theorem meth_ok (gd:Gd κ K k X Γ) (A:All κ K k X Γ m) (o:Expr) (x:Str) (ap:Pos) (es:List Expr) (q:Pos):PE X (.Call (.Attribute o x ap) es [] q) (tR κ K G₀ H₀ Γ (m+1) (.Call (.Attribute o x ap) es [] q)):=by
 by_cases hc:(plainO o&&(ap.endLine == q.line)&&decide (es.length < 30))=true
 case neg=>exact pe_none fun σ H Q ⟨ρ,G,er,h⟩=>hc (Wk.iff (show Wk (if (plainO o&&(ap.endLine == q.line)&&decide (es.length < 30))=true then _ else R.no) _ from h)).1
 intro pins s σ H Q I ⟨ρ,G,er,h⟩
 have h:=Wk.th (x:=evR m Γ o ρ) (Wk.iff (show Wk (if (plainO o&&(ap.endLine == q.line)&&decide (es.length < 30))=true then _ else R.no) _ from h)).2
 simp only [Bool.and_eq_true,decide_eq_true_eq] at hc
 obtain ⟨⟨ho,hp⟩,hl⟩:=hc
 cases e1:evR m Γ o ρ with
 | exc c l=>rw [e1] at h;exact h.elim
 | no=>rw [e1] at h;exact h.elim
 | ok y=>
  rw [e1] at h
  obtain ⟨f,e2,h⟩:=Wk.of (Wk.th (x:=R.of (mtD Γ.cs y.1 x)) h)
  obtain ⟨c,ns,ds,e3,e4,e5⟩:=mtD_is e2
  obtain ⟨C,fa,fd,ps,hC,M,F,B⟩:=gd.mts c x f e5
  have h:=Wk.th (x:=evAs m Γ es y.2) h
  have hs:=nostar h
  have hs0:=hs
  have key:∀ v G1 H1,Po κ K G₀ H₀ σ G H ρ G1 H1 y.2→RvR κ K H₀ H G1 H1 y.2 σ y.1 v→∃ a dx fs,v=.ref a∧H1 a=some (.ins C dx fs)∧fs.lookup x=none∧tAs κ K G₀ H₀ Γ m es σ H1 fun vs H2=>spF κ K Γ.cl f (v::(vs++[])) H2 Q E0:=fun v G1 H1 p1 r1=>by
   have r1':=r1
   rw [e3] at r1'
   simp only [RvR,Rep] at r1'
   obtain ⟨p',dx,C',xs,hc',rfl,h4,hl,h5⟩:=r1'
   rw [hC] at hc'
   cases hc'
   refine ⟨p',dx,_,rfl,p1.er.sub _ _ h4,zip_none e4,y.2,G1,p1.er,Wk.mono h fun z h vs G2 H2 p2 r2=>?_⟩
   show spF κ K Γ.cl f (V.ref p'::(vs++[])) H2 Q E0
   rw [List.append_nil]
   refine ⟨G2,y.1.ar::z.1,p2.er.sub,⟨_,_,rfl,?_,r2⟩,Wk.mono (Wk.th h) fun r h v G3 H3 hs gs sub new rr=>?_⟩
   ·rw [e3] at r1 ⊢
    exact Rep.same p2.gs r1
   ·obtain ⟨z1,z2⟩:=ReR.rv (p1.trans p2) hs gs sub new rr
    exact h v G3 H3 z1 z2
  have all:tMeth C x (spF κ K Γ.cl f) [] E0 (tR κ K G₀ H₀ Γ m o) (tAs κ K G₀ H₀ Γ m es) σ H Q:=⟨ρ,G,er,by rw [e1];exact key⟩
  cases es with
  | nil=>
   have all0:tMeth C x (spF κ K Γ.cl f) [] E0 (tR κ K G₀ H₀ Γ m o) tNil σ H Q:=by
    refine ⟨ρ,G,er,?_⟩
    rw [e1]
    intro v G1 H1 p1 r1
    obtain ⟨a,dx,fs,z1,z2,z3,ρ',G',er',z⟩:=key v G1 H1 p1 r1
    refine ⟨a,dx,fs,z1,z2,z3,?_⟩
    have hz:∀ {m:Nat},Wk (evAs m Γ [] ρ') (fun x=>∀ vs G'' H',Po κ K G₀ H₀ σ G' H1 ρ' G'' H' x.2→ArRs κ K G'' H' x.1 vs→spF κ K Γ.cl f (v::(vs++[])) H' Q E0)→spF κ K Γ.cl f (v::([]++[])) H1 Q E0:=fun {m} h=>by
     cases m with
     | zero=>exact False.elim h
     | succ m=>exact h [] G' H1 (Po.refl er') rfl
    exact hz z
   exact pe_meth0 (A.r G₀ H₀ _) (gd.cls c C hC) M F gd.room B .nil pass0 (ht:=eval_meth ho hs0 hl hp) pins s σ H Q I all0
  | cons e l=>
   simp only [List.any_cons,Bool.or_eq_false_iff] at hs
   exact pe_meth (A.r G₀ H₀ _) (gd.cls c C hC) M F gd.room B .nil pass0 (A.as G₀ H₀ (e::l)) (star_one hs.1) (star_any hs.2) (ht:=eval_meth ho hs0 hl hp) pins s σ H Q I all
theorem make_ok (gd:Gd κ K k X Γ) (A:All κ K k X Γ m) (f:Str) (es:List Expr) (p q:Pos) (hok:nameOk f=true) (hgl:glB Γ.sc f=true) (ht:Γ.cs.tab.contains f=true)
  (he:∀ ρ,evR (m+1) Γ (.Call (.Name f p) es [] q) ρ=(evAs m Γ es ρ).th fun x=>(Γ.nw f x.1).th fun r=>.ok (r,x.2)):PE X (.Call (.Name f p) es [] q) (tR κ K G₀ H₀ Γ (m+1) (.Call (.Name f p) es [] q)):=by
 by_cases hs:es.any starB=false
 case neg=>
  refine pe_none fun σ H Q ⟨ρ,G,er,h⟩=>?_
  rw [he] at h
  exact hs (nostar (Wk.th h))
 rcases gd.mks f ht with hno | ⟨C,fa,fd,ps,sp,M,F,hm,hb,hk,hsp⟩
 ·refine pe_none fun σ H Q ⟨ρ,G,er,h⟩=>?_
  rw [he] at h
  have h:=Wk.th (x:=evAs m Γ es ρ) h
  cases e1:evAs m Γ es ρ with
  | ok x=>
   rw [e1] at h
   have h:Wk ((Γ.nw f x.1).th _) _:=h
   rw [hno] at h
   exact h
  | exc c l=>rw [e1] at h;exact h
  | no=>rw [e1] at h;exact h
 obtain ⟨n1,n2,n3⟩:=nameOk_is hok
 have rm:Room (k - 1+1) X.A:=by
  rw [show k - 1+1=k by omega]
  exact gd.room
 have key:∀ σ H Q,tR κ K G₀ H₀ Γ (m+1) (.Call (.Name f p) es [] q) σ H Q→tMake C sp [] E0 (tAs κ K G₀ H₀ Γ m es) σ H Q:=fun σ H Q ⟨ρ,G,er,h⟩=>by
  rw [he] at h
  refine ⟨ρ,G,er,Wk.mono (Wk.th h) fun x h vs G1 H1 p1 r1=>?_⟩
  show ∀ x dx,H1 x=none→H1 dx=none→dx≠x→sp (.ref x::(vs++[])) _ _ E0
  rw [List.append_nil]
  refine hsp vs H1 Q ⟨G1,x.1,p1.er.sub,r1,Wk.mono (Wk.th h) fun r h v G2 H2 hs gs sub new rr=>?_⟩
  obtain ⟨z1,z2⟩:=ReR.rv p1 hs gs sub new rr
  exact h v G2 H2 z1 z2
 cases es with
 | nil=>
  refine PE.imp (pe_make0 M F rm (gd.glo f hgl) hm hb .nil pass0 n1) fun σ H Q h=>?_
  obtain ⟨ρ,G,er,h⟩:=key σ H Q h
  have hz:∀ {m:Nat},Wk (evAs m Γ [] ρ) (fun x=>∀ vs G' H',Po κ K G₀ H₀ σ G H ρ G' H' x.2→ArRs κ K G' H' x.1 vs→∀ x dx,H' x=none→H' dx=none→dx≠x→sp (.ref x::(vs++[])) (upd (upd H' dx (.own x)) x (.ins C dx [])) (fun v H2=>v=.non∧Q (.ref x) H2) E0)→tMake C sp [] E0 tNil σ H Q:=fun {m} h=>by
   cases m with
   | zero=>exact False.elim h
   | succ m=>exact h [] G H (Po.refl er) rfl
  exact hz h
 | cons e l=>
  simp only [List.any_cons,Bool.or_eq_false_iff] at hs
  exact PE.imp (pe_make M F rm (gd.glo f hgl) hm hb .nil pass0 (A.as G₀ H₀ (e::l)) n1 (star_one hs.1) (star_any hs.2)) key
end
end DE
set_option maxHeartbeats 4000000
namespace DE
open PySem PySem.Spec PyProof.Rows L2
noncomputable def gT (κ:KC) (K:PySem.W.Frag) (Γ:Ct) (tg:Expr):TG:=fun v σ H Q=>∃ (G₀ H₀:Hp) (ρ:Env) (G:Hp) (d:D),ER κ K G₀ H₀ G H ρ σ∧Rep κ G d v∧Wk (asgD Γ tg d ρ) fun ρ'=>∀ σ',ER κ K G₀ H₀ G H ρ' σ'→Q σ' H
noncomputable def gN (κ:KC) (K:PySem.W.Frag) (Γ:Ct) (x:Str):TG:=fun v σ H Q=>∃ (G₀ H₀:Hp) (ρ:Env) (G:Hp) (d:D),ER κ K G₀ H₀ G H ρ σ∧Rep κ G d v∧Wk (setN Γ x d ρ) fun ρ'=>∀ σ',ER κ K G₀ H₀ G H ρ' σ'→Q σ' H
noncomputable def gNs (κ:KC) (K:PySem.W.Frag) (Γ:Ct) (xs:List Str):TGs:=fun vs σ H Q=>∃ (G₀ H₀:Hp) (ρ:Env) (G:Hp) (ds:List D),ER κ K G₀ H₀ G H ρ σ∧Reps κ G ds vs∧Wk (setNs Γ xs ds ρ) fun ρ'=>∀ σ',ER κ K G₀ H₀ G H ρ' σ'→Q σ' H
theorem PG.imp {X:Cx} {tg:Expr} {t t':TG} (h:PG X tg t') (i:∀ v σ H Q,t v σ H Q→t' v σ H Q):PG X tg t:=fun pins s σ H v u Q I r hw=>h pins s σ H v u Q I r (i v σ H Q hw)
theorem PGs.imp {X:Cx} {tg:List Expr} {t t':TGs} (h:PGs X tg t') (i:∀ v σ H Q,t v σ H Q→t' v σ H Q):PGs X tg t:=fun pins s σ H v u Q I r hw=>h pins s σ H v u Q I r (i v σ H Q hw)
theorem pg_none {X:Cx} {tg:Expr} {t:TG} (h:∀ v σ H Q,¬ t v σ H Q):PG X tg t:=fun pins s σ H v u Q I r hw=>absurd hw (h v σ H Q)
section
variable {κ:KC} {K:PySem.W.Frag} {G₀ H₀:Hp} {k m:Nat} {X:Cx} {Γ:Ct}
theorem gN_ok (gd:Gd κ K k X Γ) (x:Str) (pos:Pos):PG X (.Name x pos) (gN κ K Γ x):=by
 cases hi:ixOf Γ.N x with
 | none=>
  refine pg_none fun v σ H Q ⟨G₀,H₀,ρ,G,d,er,r,h⟩=>?_
  unfold setN at h
  rw [hi] at h
  exact h
 | some i=>
  by_cases hc:(locB Γ.sc x&&nameOk x)=true
  case neg=>
   refine pg_none fun v σ H Q ⟨G₀,H₀,ρ,G,d,er,r,h⟩=>?_
   unfold setN at h
   rw [hi] at h
   exact hc (Wk.iff (Wk.th (x:=R.of (some i)) h)).1
  have hc':=hc
  rw [Bool.and_eq_true] at hc'
  obtain ⟨l1,l2⟩:=gd.loc x hc'.1
  refine PG.imp (pg_name (i:=i) (by rw [gd.hN];exact gd.nd) (by rw [gd.hN];exact ixOf_at hi) l1 l2) fun v σ H Q ⟨G₀,H₀,ρ,G,d,er,r,h⟩=>?_
  unfold setN at h
  rw [hi] at h
  exact (Wk.iff (Wk.th (x:=R.of (some i)) h)).2 _ (er.setVal r)
theorem tgN_cons {e:Expr} {es:List Expr} {j:Nat} {p:Pos} {xs:List Str} (h:tgNames (.Tuple (e::es) j p)=some xs):∃ x pos r,e=.Name x pos∧xs=x::r∧tgNames (.Tuple es j p)=some r:=by
 have q0:tgNames (.Tuple es j p)=(es.foldr (fun e r=>match e,r with | .Name x _,some l=>some (x::l) | _,_=>none) (some []):Option (List Str)):=rfl
 cases e with
 | Name x pos=>
  cases q:(es.foldr (fun e r=>match e,r with | .Name x _,some l=>some (x::l) | _,_=>none) (some []):Option (List Str)) with
  | none=>
   have h':(match (Expr.Name x pos:Expr),(es.foldr (fun e r=>match e,r with | .Name x _,some l=>some (x::l) | _,_=>none) (some []):Option (List Str)) with | .Name x _,some l=>some (x::l) | _,_=>none)=some xs:=h
   rw [q] at h'
   cases h'
  | some l=>
   have h':(match (Expr.Name x pos:Expr),(es.foldr (fun e r=>match e,r with | .Name x _,some l=>some (x::l) | _,_=>none) (some []):Option (List Str)) with | .Name x _,some l=>some (x::l) | _,_=>none)=some xs:=h
   rw [q] at h'
   cases h'
   exact ⟨x,pos,l,rfl,rfl,q0.trans q⟩
 | _=>cases h
theorem gNs_ok (gd:Gd κ K k X Γ) {j:Nat} {p:Pos}:∀ {es:List Expr} {xs:List Str},tgNames (.Tuple es j p)=some xs→PGs X es (gNs κ K Γ xs)
 | [],xs,h=>by
  have e:xs=[]:=by unfold tgNames at h;cases h;rfl
  subst e
  refine PGs.imp pgs_nil fun vs σ H Q ⟨G₀,H₀,ρ,G,ds,er,r,h⟩=>?_
  cases ds with
  | nil=>simp only [Reps] at r;exact ⟨r,h σ er⟩
  | cons d ds=>exact False.elim h
 | e::es,xs,h=>by
  obtain ⟨x,pos,r,rfl,rfl,h'⟩:=tgN_cons h
  refine PGs.imp (pgs_cons (gN_ok gd x pos) (gNs_ok gd h')) fun vs σ H Q ⟨G₀,H₀,ρ,G,ds,er,rr,h⟩=>?_
  cases ds with
  | nil=>exact False.elim h
  | cons d ds=>
   simp only [Reps] at rr
   obtain ⟨v,vr,rfl,r1,r2⟩:=rr
   exact ⟨v,vr,rfl,G₀,H₀,ρ,G,d,er,r1,Wk.mono (Wk.th (x:=setN Γ x d ρ) h) fun ρ1 h σ1 er1=>⟨G₀,H₀,ρ1,G,ds,er1,r2,h⟩⟩
theorem tgs_plain {env:PySem.Env} {j:Nat} {p:Pos}:∀ {es:List Expr} {xs:List Str},tgNames (.Tuple es j p)=some xs→(assignEach es env).length=xs.length∧(assignEach es env).findIdx? (·.1)=none
 | [],xs,h=>by unfold tgNames at h;cases h;exact ⟨rfl,rfl⟩
 | e::es,xs,h=>by
  obtain ⟨x,pos,r,rfl,rfl,h'⟩:=tgN_cons h
  obtain ⟨h1,h2⟩:=tgs_plain (env:=env) h'
  have e:assignEach (.Name x pos::es) env=(false,assign (.Name x pos) env)::assignEach es env:=rfl
  rw [e]
  refine ⟨by simp [h1],?_⟩
  rw [List.findIdx?_cons]
  simp [h2]
theorem setNs_len {xs:List Str}:∀ {ds:List D} {ρ:Env} {F:Env→Prop},Wk (setNs Γ xs ds ρ) F→ds.length=xs.length:=by
 induction xs with
 | nil=>intro ds ρ F h;cases ds with
  | nil=>rfl
  | cons d ds=>exact False.elim h
 | cons x xs ih=>intro ds ρ F h;cases ds with
  | nil=>exact False.elim h
  | cons d ds=>
   have h:=Wk.th (x:=setN Γ x d ρ) h
   cases e:setN Γ x d ρ with
   | ok ρ1=>rw [e] at h;simp [ih h]
   | exc c l=>rw [e] at h;exact False.elim h
   | no=>rw [e] at h;exact False.elim h
theorem gT_ok (gd:Gd κ K k X Γ) (tg:Expr):PG X tg (gT κ K Γ tg):=by
 cases tg with
 | Name x pos=>exact gN_ok gd x pos
 | Tuple es j p=>
  cases hx:tgNames (.Tuple es j p) with
  | none=>
   refine pg_none fun v σ H Q ⟨G₀,H₀,ρ,G,d,er,r,h⟩=>?_
   have h:Wk ((R.of (tgNames (.Tuple es j p))).th _) _:=h
   rw [hx] at h
   exact h
  | some xs=>
   obtain ⟨t1,t2⟩:=tgs_plain (env:=X.env) hx
   refine PG.imp (pg_tup (n:=xs.length) gd.calm (gNs_ok gd hx) t1 t2) fun v σ H Q ⟨G₀,H₀,ρ,G,d,er,r,h⟩=>?_
   have h:Wk ((R.of (tgNames (.Tuple es j p))).th _) _:=h
   rw [hx] at h
   cases d with
   | tup ds=>
    have h:=(Wk.nif (c:=es.any starB=true) h).2
    simp only [Rep] at r
    obtain ⟨a,ys,rfl,r1,r2⟩:=r
    exact ⟨a,ys,rfl,SqT.of (er.sub _ _ r1),by rw [←r2.len];exact setNs_len h,G₀,H₀,ρ,G,ds,er,r2,h⟩
   | _=>exact False.elim h
 | _=>exact pg_none fun v σ H Q ⟨G₀,H₀,ρ,G,d,er,r,h⟩=>h
theorem rel_gl {env:PySem.Env}:∀ {names:List (Str×NameKind)} {x:Str},names.lookup x=some .globalImplicit→
  (names.map fun (n,k)=>if (k == NameKind.free&&env.scope.kind == .function&&env.kindOf n == some .cell) then (n,NameKind.cell) else (n,k)).lookup x=some .globalImplicit
 | [],_,h=>by simp at h
 | (n,k)::r,x,h=>by
  simp only [List.map_cons]
  by_cases hx:x=n
  ·subst hx
   simp [List.lookup_cons] at h
   subst h
   rw [if_neg (by simp)]
   simp [List.lookup_cons]
  ·have hb:(x == n)=false:=by simpa using hx
   rw [List.lookup_cons,hb] at h
   have ih:=rel_gl (env:=env) h
   by_cases hc:(k == NameKind.free&&env.scope.kind == .function&&env.kindOf n == some .cell)=true
   ·rw [if_pos hc];simp only [List.lookup_cons,hb];exact ih
   ·rw [if_neg hc];simp only [List.lookup_cons,hb];exact ih
theorem blk_scope (gd:Gd κ K k X Γ) {own:List Str} {fr:List Nat} {sc:Scope} (h:blkCheck Γ.sc Γ.N fr sc=true):BlkScope X own fr sc:=by
 unfold blkCheck at h
 simp only [Bool.and_eq_true,List.all_eq_true] at h
 obtain ⟨⟨hk,hn⟩,hf⟩:=h
 refine ⟨by simpa using hk,fun x hx=>by simpa using (hn x hx).1.1,fun x hx e=>?_,fun x hx e=>?_,fun i hi=>?_⟩
 ·have:=(hn x hx).1.2
  simpa [e] using this
 ·have:=(hn x hx).2
  exact gd.cf x.1 (by simpa [e] using this)
 ·rw [gd.hN]
  simpa using hf i hi
theorem blk_gd (gd:Gd κ K k X Γ) {own:List Str} {fr:List Nat} {sc:Scope} (B:BlkScope X own fr sc) (hnd:(own++fr.map fun i=>Γ.N.getD i "").Nodup) (cl:List (Str×Addr)) (C:Addr) (fp:List Addr) (s2:Shared) (H2:Hp) :
  Gd κ K k (blk X (blkN X own fr) sc cl C fp s2 H2) { Γ with N:=own++fr.map fun i=>Γ.N.getD i "",sc:=sc } where
 hN:=by show blkN X own fr=_;unfold blkN;rw [gd.hN]
 vis:=fun x h=>by
  have h:=vis_is h
  rcases h with h | h | h
  ·exact .inl (lookup_relabel_local h)
  ·exact absurd rfl (B.nocell _ (PySem.mem_of_lookup h))
  ·rcases rel_free (env:=X.env) h with z | z
   ·exact .inr (.inl z)
   ·exact .inr (.inr z)
 loc:=fun x h=>by
  have h:=loc_is h
  rcases h with h | h
  ·have z:(relabel sc X.env).names.lookup x=some .local:=lookup_relabel_local h
   exact ⟨.inl z,.inr z⟩
  ·exact absurd rfl (B.nocell _ (PySem.mem_of_lookup h))
 glo:=fun x h=>by
  unfold glB at h
  exact rel_gl (env:=X.env) (by simpa using h)
 cf:=fun x h=>by
  rcases h with h | h
  ·exact absurd rfl (B.nocell _ (PySem.mem_of_lookup h))
  ·exact rel_free (env:=X.env) h
 nd:=hnd
 calm:=gd.calm
 hK:=gd.hK
 room:=gd.room
 fns:=gd.fns
 blt:=gd.blt
 gl:=gd.gl
 cls:=gd.cls
 flds:=gd.flds
 mts:=gd.mts
 mks:=gd.mks
 subs:=gd.subs
theorem blk_er {G H:Hp} {ρ:Env} {σ:L2.St} (er:ER κ K G₀ H₀ G H ρ σ) (own:List Str) (fr:List Nat):ER κ K G H G H (blkEnv own fr ρ) (blkSt own fr σ):=by
 refine ⟨by simp [blkEnv,blkSt],er.sub,fun _ _ e=>e,fun _ _ e=>e,fun a o e=>.inl ⟨o,e⟩,fun i s e=>?_,fun i j a l n e1=>?_⟩
 ·unfold blkEnv at e
  unfold blkSt
  by_cases hi:i < own.length
  ·rw [List.getElem?_append_left (by simpa using hi)] at e
   rw [List.getElem?_map] at e
   obtain ⟨_,_,rfl⟩:=Option.map_eq_some_iff.mp e
   trivial
  ·rw [List.getElem?_append_right (by simpa using hi)] at e ⊢
   simp only [List.length_map] at e ⊢
   rw [List.getElem?_map] at e ⊢
   obtain ⟨j,e1,rfl⟩:=Option.map_eq_some_iff.mp e
   rw [e1]
   show SlR κ K G H H (lend (ρ.getD j .no)) (some (σ[j]?).join)
   cases q:ρ[j]? with
   | none=>rw [List.getD_eq_getElem?_getD,q];trivial
   | some s=>
    rw [List.getD_eq_getElem?_getD,q]
    have w:=er.sl j s q
    cases s with
    | no=>trivial
    | val d=>obtain ⟨v,z,r⟩:=w;exact ⟨v,by rw [z];rfl,r⟩
    | own l=>obtain ⟨a,xs,z,r1,r2,r3,r4⟩:=w;exact ⟨a,xs,by rw [z];rfl,r1,r4⟩
    | bor l=>obtain ⟨a,xs,z,r1,r4⟩:=w;exact ⟨a,xs,by rw [z];rfl,er.base _ _ r1,r4⟩
    | scr l=>obtain ⟨a,xs,z,r1,r4⟩:=w;exact ⟨a,xs,by rw [z];rfl,er.base.seq r1,r4⟩
 ·exfalso
  unfold blkEnv at e1
  by_cases hi:i < own.length
  ·rw [List.getElem?_append_left (by simpa using hi),List.getElem?_map] at e1
   obtain ⟨_,_,z⟩:=Option.map_eq_some_iff.mp e1
   cases z
  ·rw [List.getElem?_append_right (by simpa using hi),List.getElem?_map] at e1
   obtain ⟨j,_,z⟩:=Option.map_eq_some_iff.mp e1
   cases q:ρ.getD j .no<;>rw [q] at z<;>cases z
theorem fold_is {it:Expr} (h:foldOk it=true) (env:PySem.Env):∀ x,foldedSetIterable it env x=pure x:=by
 intro x
 cases it<;>first | rfl | (simp [foldOk] at h)
theorem pe_ex (A:All κ K k X Γ m) (e:Expr):PE X e (fun σ H Q=>∃ G₀ H₀,tE κ K G₀ H₀ Γ m e σ H Q):=fun pins s σ H Q I ⟨G₀,H₀,h⟩=>A.e G₀ H₀ e pins s σ H Q I h
theorem pif_ex (A:All κ K k X Γ m) (es:List Expr):PIf X es (fun σ H Q=>∃ G₀ H₀,tF κ K G₀ H₀ Γ m es σ H Q):=fun pins s σ H Q I ⟨G₀,H₀,h⟩=>A.f G₀ H₀ es pins s σ H Q I h
structure CompS (Γ:Ct) (tg it:Expr) (sc:Scope) (own:List Str):Prop where
 nm:tgNames tg=some own
 chk:blkCheck Γ.sc Γ.N (frOf Γ.N sc) sc=true
 nd:(own++(frOf Γ.N sc).map fun i=>Γ.N.getD i "").Nodup
 fold:foldOk it=true
theorem comp_or (elt tg it:Expr) (ifs:List Expr) (sc:Scope) (pos:Pos):(∃ own,CompS Γ tg it sc own)∨∀ σ H Q,¬ tR κ K G₀ H₀ Γ (m+1) (.ListComp elt [⟨tg,it,ifs,0⟩] sc pos) σ H Q:=by
 cases hown:tgNames tg with
 | none=>
  refine .inr fun σ H Q ⟨ρ,G,er,h⟩=>?_
  have h:=(Wk.iff (show Wk (if (0:Int)=0 then _ else R.no) _ from h)).2
  have h:=Wk.th (x:=evI m Γ (tupB tg) it ρ) h
  cases e1:evI m Γ (tupB tg) it ρ with
  | ok x=>
   rw [e1] at h
   obtain ⟨own,e2,_⟩:=Wk.of (Wk.th (x:=R.of (tgNames tg)) h)
   rw [hown] at e2
   cases e2
  | exc c l=>rw [e1] at h;exact h
  | no=>rw [e1] at h;exact h
 | some own=>
  by_cases hst:(blkCheck Γ.sc Γ.N (frOf Γ.N sc) sc&&decide (own++(frOf Γ.N sc).map fun i=>Γ.N.getD i "").Nodup&&foldOk it)=true
  case neg=>
   refine .inr fun σ H Q ⟨ρ,G,er,h⟩=>?_
   have h:=(Wk.iff (show Wk (if (0:Int)=0 then _ else R.no) _ from h)).2
   have h:=Wk.th (x:=evI m Γ (tupB tg) it ρ) h
   cases e1:evI m Γ (tupB tg) it ρ with
   | ok x=>
    rw [e1] at h
    obtain ⟨own',e2,h⟩:=Wk.of (Wk.th (x:=R.of (tgNames tg)) h)
    rw [hown] at e2
    cases e2
    obtain ⟨hc,_⟩:=Wk.iff h
    simp only [Bool.and_eq_true] at hc hst
    exact hst ⟨hc.1.1,hc.2⟩
   | exc c l=>rw [e1] at h;exact h
   | no=>rw [e1] at h;exact h
  simp only [Bool.and_eq_true] at hst
  exact .inl ⟨own,hown,hst.1.1,of_decide_eq_true hst.1.2,hst.2⟩
theorem comp_imp {own:List Str} (elt tg it:Expr) (ifs:List Expr) (sc:Scope) (pos:Pos) (S:CompS Γ tg it sc own):∀ σ H Q,tR κ K G₀ H₀ Γ (m+1) (.ListComp elt [⟨tg,it,ifs,0⟩] sc pos) σ H Q→
  tComp own (frOf Γ.N sc) (tI κ K G₀ H₀ Γ m (tupB tg) it) (gT κ K { Γ with N:=own++(frOf Γ.N sc).map fun i=>Γ.N.getD i "",sc:=sc } tg) (fun σ H Q=>∃ G₀ H₀,tF κ K G₀ H₀ { Γ with N:=own++(frOf Γ.N sc).map fun i=>Γ.N.getD i "",sc:=sc } m ifs σ H Q)
   (fun σ H Q=>∃ G₀ H₀,tE κ K G₀ H₀ { Γ with N:=own++(frOf Γ.N sc).map fun i=>Γ.N.getD i "",sc:=sc } m elt σ H Q) σ H Q:=fun σ H Q ⟨ρ,G,er,h⟩=>by
 have h:=(Wk.iff (show Wk (if (0:Int)=0 then _ else R.no) _ from h)).2
 refine ⟨ρ,G,er,Wk.mono (Wk.th (x:=evI m Γ (tupB tg) it ρ) h) fun x h J G1 H1 p1 it1=>?_⟩
 obtain ⟨own',e2,h⟩:=Wk.of (Wk.th (x:=R.of (tgNames tg)) h)
 rw [S.nm] at e2
 cases e2
 obtain ⟨hc,h⟩:=Wk.iff h
 simp only [Bool.and_eq_true] at hc
 have hz:x.1.length≤sizeLine:=by simpa using hc.1.2
 have h:=Wk.th h
 refine ⟨fun i mm ys σ' H'=>mm=x.1.length - i∧i≤x.1.length∧∃ ρb Gb ds,ER κ K G1 H1 Gb H' ρb σ'∧Reps κ Gb ds ys∧ds.length≤i∧
   Wk (compL (asgD { Γ with N:=own++(frOf Γ.N sc).map fun i=>Γ.N.getD i "",sc:=sc } tg) (fun ρ1=>evIf m { Γ with N:=own++(frOf Γ.N sc).map fun i=>Γ.N.getD i "",sc:=sc } ifs ρ1) (fun ρ1=>evE m { Γ with N:=own++(frOf Γ.N sc).map fun i=>Γ.N.getD i "",sc:=sc } elt ρ1) (x.1.drop i) ρb ds)
    (fun l=>∀ v G' H',Po κ K G₀ H₀ σ G H ρ G' H' x.2→RvR κ K H₀ H G' H' x.2 σ (.tmp l) v→Q v H'),
  ⟨x.1.length,by simp,Nat.zero_le _,blkEnv own (frOf Γ.N sc) x.2,G1,[],blk_er p1.er own (frOf Γ.N sc),.nil,Nat.le_refl _,?_⟩,?_⟩
 ·rw [List.drop_zero]
  exact h
 rintro i mm ys σ' H' ⟨rfl,hi,ρb,Gb,ds,erb,rds,hdl,hw⟩
 have it2:=it1 i Gb H' erb.g0 (fun b o e=>erb.base b o (p1.er.base b o e)) erb.sub
 by_cases hlt:i < x.1.length
 ·obtain ⟨go,yl⟩:=it2.1 x.1[i] (List.getElem?_eq_getElem hlt)
  have hyl:=rds.len
  refine .inr ⟨go,by omega,_,fun ys' σ2 H2 w=>⟨x.1.length - (i+1),by omega,w⟩,fun v H2 hy=>?_⟩
  obtain ⟨G',hs,gs,sub,new,rep⟩:=yl v H2 hy
  have p2:=Po.more erb hs gs sub new
  rw [List.drop_eq_getElem_cons hlt] at hw
  refine ⟨G1,H1,ρb,G',x.1[i],p2.er,rep,Wk.mono (Wk.th hw) fun ρ1 hw σ1 er1=>⟨G1,H1,ρ1,G',er1,Wk.mono (Wk.th hw) fun bt hw G2 H3 p3=>?_⟩⟩
  obtain ⟨b,ρ2⟩:=bt
  cases b with
  | true=>
   rw [if_pos rfl]
   refine ⟨G1,H1,ρ2,G2,p3.er,Wk.mono (Wk.th hw) fun y hw w G3 H4 p4 rep4=>⟨rfl,hlt,y.2,G3,ds++[y.1],p4.er,?_,by simp;omega,(Wk.iff hw).2⟩⟩
   exact (((rds.same gs).same p3.gs).same p4.gs).snoc rep4
  | false=>
   rw [if_neg (fun z=>by cases z)]
   exact ⟨rfl,hlt,ρ2,G2,ds,p3.er,(rds.same gs).same p3.gs,by omega,hw⟩
 ·have e:i=x.1.length:=by omega
  subst e
  refine .inl ⟨it2.2 rfl,fun p hp=>?_⟩
  rw [List.drop_length] at hw
  have p2:=p1.trans (Po.more p1.er erb.base erb.g0 erb.sub erb.fresh)
  obtain ⟨z1,z2⟩:=p2.er.newList hp rds
  exact hw _ _ _ (p2.trans z1) (z2.back p2.hs)
theorem comp_ok (gd:Gd κ K k X Γ) (A:All κ K k X Γ m) (ih:∀ X' Γ',Gd κ K k X' Γ'→All κ K k X' Γ' m) (elt tg it:Expr) (ifs:List Expr) (sc:Scope) (pos:Pos) :
  PE X (.ListComp elt [⟨tg,it,ifs,0⟩] sc pos) (tR κ K G₀ H₀ Γ (m+1) (.ListComp elt [⟨tg,it,ifs,0⟩] sc pos)):=by
 rcases comp_or (κ:=κ) (K:=K) (G₀:=G₀) (H₀:=H₀) (m:=m) (Γ:=Γ) elt tg it ifs sc pos with ⟨own,S⟩ | no
 ·have B:BlkScope X own (frOf Γ.N sc) sc:=blk_scope gd S.chk
  exact PE.imp (pe_comp own (frOf Γ.N sc) gd.calm B (A.i G₀ H₀ tg it) (fun cl C fp s2 H2=>gT_ok (blk_gd gd B S.nd cl C fp s2 H2) tg) (fun cl C fp s2 H2=>pif_ex (ih _ _ (blk_gd gd B S.nd cl C fp s2 H2)) ifs)
   (fun cl C fp s2 H2=>pe_ex (ih _ _ (blk_gd gd B S.nd cl C fp s2 H2)) elt) (fold_is S.fold X.env)) (comp_imp elt tg it ifs sc pos S)
 ·exact pe_none no
theorem call_ok (gd:Gd κ K k X Γ) (A:All κ K k X Γ m) (f:Str) (es:List Expr) (p q:Pos):PE X (.Call (.Name f p) es [] q) (tR κ K G₀ H₀ Γ (m+1) (.Call (.Name f p) es [] q)):=by
 by_cases hn:(nameOk f&&glB Γ.sc f&&(ixOf Γ.N f).isNone)=true
 case neg=>exact pe_none fun σ H Q ⟨ρ,G,er,h⟩=>hn (Wk.iff (show Wk (if (nameOk f&&glB Γ.sc f&&(ixOf Γ.N f).isNone)=true then _ else R.no) _ from h)).1
 have hn':=hn
 simp only [Bool.and_eq_true] at hn'
 obtain ⟨⟨h1,h2⟩,h3⟩:=hn'
 by_cases hi:f = "isinstance"
 ·subst hi
  match es with
  | [a,b]=>
   have non:(∀ ρ,evR (m+1) Γ (.Call (.Name "isinstance" p) [a,b] [] q) ρ=.no)→PE X (.Call (.Name "isinstance" p) [a,b] [] q) (tR κ K G₀ H₀ Γ (m+1) (.Call (.Name "isinstance" p) [a,b] [] q)):=fun he=>pe_none fun σ H Q ⟨ρ,G,er,h⟩=>by
    rw [he] at h
    exact h
   cases b with
   | Name t tp=>
    refine isi_ok gd A a t p tp q h2 fun ρ=>?_
    show (if (nameOk "isinstance" && glB Γ.sc "isinstance" && (ixOf Γ.N "isinstance").isNone)=true then _ else R.no)=_
    rw [if_pos hn]
    rfl
   | _=>
    refine non fun ρ=>?_
    show (if (nameOk "isinstance" && glB Γ.sc "isinstance" && (ixOf Γ.N "isinstance").isNone)=true then _ else R.no)=_
    rw [if_pos hn]
    rfl
  | []=>exact pe_none fun σ H Q ⟨ρ,G,er,h⟩=>(Wk.iff (show Wk (if (nameOk "isinstance" && glB Γ.sc "isinstance" && (ixOf Γ.N "isinstance").isNone)=true then _ else R.no) _ from h)).2
  | [_]=>exact pe_none fun σ H Q ⟨ρ,G,er,h⟩=>(Wk.iff (show Wk (if (nameOk "isinstance" && glB Γ.sc "isinstance" && (ixOf Γ.N "isinstance").isNone)=true then _ else R.no) _ from h)).2
  | a::b::c::l=>exact pe_none fun σ H Q ⟨ρ,G,er,h⟩=>(Wk.iff (show Wk (if (nameOk "isinstance" && glB Γ.sc "isinstance" && (ixOf Γ.N "isinstance").isNone)=true then _ else R.no) _ from h)).2
 by_cases ht:Γ.tab.contains f=true
 ·refine ucall_ok gd A f es p q h1 h2 ht fun ρ=>?_
  show (if (nameOk f&&glB Γ.sc f&&(ixOf Γ.N f).isNone)=true then _ else R.no)=_
  rw [if_pos hn,if_neg hi,if_pos ht]
 by_cases hk:Γ.cs.tab.contains f=true
 ·refine make_ok gd A f es p q h1 h2 hk fun ρ=>?_
  show (if (nameOk f&&glB Γ.sc f&&(ixOf Γ.N f).isNone)=true then _ else R.no)=_
  rw [if_pos hn,if_neg hi,if_neg ht,if_pos hk]
 match es with
 | [a]=>
  refine call1_ok gd A f a p q h2 fun ρ=>?_
  show (if (nameOk f&&glB Γ.sc f&&(ixOf Γ.N f).isNone)=true then _ else R.no)=_
  rw [if_pos hn,if_neg hi,if_neg ht,if_neg hk]
 | [a,b]=>
  refine call2_ok gd A f a b p q h2 fun ρ=>?_
  show (if (nameOk f&&glB Γ.sc f&&(ixOf Γ.N f).isNone)=true then _ else R.no)=_
  rw [if_pos hn,if_neg hi,if_neg ht,if_neg hk]
 | []=>
  refine pe_none fun σ H Q ⟨ρ,G,er,h⟩=>?_
  have h:=(Wk.iff (show Wk (if (nameOk f&&glB Γ.sc f&&(ixOf Γ.N f).isNone)=true then _ else R.no) _ from h)).2
  rw [if_neg hi,if_neg ht,if_neg hk] at h
  exact h
 | a::b::c::l=>
  refine pe_none fun σ H Q ⟨ρ,G,er,h⟩=>?_
  have h:=(Wk.iff (show Wk (if (nameOk f&&glB Γ.sc f&&(ixOf Γ.N f).isNone)=true then _ else R.no) _ from h)).2
  rw [if_neg hi,if_neg ht,if_neg hk] at h
  exact h
theorem r_ok (gd:Gd κ K k X Γ) (A:All κ K k X Γ m) (ih:∀ X' Γ',Gd κ K k X' Γ'→All κ K k X' Γ' m) (e:Expr):PE X e (tR κ K G₀ H₀ Γ (m+1) e):=by
 cases e with
 | Name x pos=>exact nameR_ok gd m x pos
 | Constant c j pos=>exact const_ok c j pos
 | BinOp a op b pos=>exact binop_ok A a b op pos
 | UnaryOp op a pos=>
  cases op with
  | USub=>exact neg_ok A a pos
  | Not=>exact notv_ok A a pos
  | _=>exact pe_none fun σ H Q ⟨ρ,G,er,h⟩=>h
 | BoolOp op vs pos=>
  cases vs with
  | nil=>exact pe_none fun σ H Q ⟨ρ,G,er,h⟩=>by cases op<;>exact h
  | cons a vs=>
   cases vs with
   | nil=>cases op<;>exact PE.imp (pe_one (A.r G₀ H₀ a)) fun σ H Q h=>h
   | cons b l=>
    cases op with
    | And=>exact and_ok A a b l pos
    | Or=>exact or_ok A a b l pos
 | Compare a ops bs pos=>
  cases ops with
  | nil=>exact pe_none fun σ H Q ⟨ρ,G,er,h⟩=>h
  | cons op ops=>
   cases ops with
   | nil=>
    cases bs with
    | nil=>exact pe_none fun σ H Q ⟨ρ,G,er,h⟩=>h
    | cons b bs=>
     cases bs with
     | nil=>exact cmpv_ok gd A a b op pos
     | cons c bs=>exact pe_none fun σ H Q ⟨ρ,G,er,h⟩=>h
   | cons op' ops=>exact pe_none fun σ H Q ⟨ρ,G,er,h⟩=>h
 | IfExp c a b pos=>exact ifx_ok A c a b pos
 | Subscript a b pos=>exact sub_ok gd A a b pos
 | List es pos=>exact lst_ok A es pos
 | Tuple es j pos=>exact tup_ok A es j pos
 | Call fn es kws q=>
  cases fn with
  | Name f p=>
   cases kws with
   | nil=>exact call_ok gd A f es p q
   | cons kw kws=>exact pe_none fun σ H Q ⟨ρ,G,er,h⟩=>h
  | Attribute o x ap=>
   cases kws with
   | nil=>exact meth_ok gd A o x ap es q
   | cons kw kws=>exact pe_none fun σ H Q ⟨ρ,G,er,h⟩=>h
  | _=>exact pe_none fun σ H Q ⟨ρ,G,er,h⟩=>h
 | Attribute o x pos=>exact fld_ok gd A o x pos
 | ListComp elt gens sc pos=>
  cases gens with
  | nil=>exact pe_none fun σ H Q ⟨ρ,G,er,h⟩=>h
  | cons g gens=>
   obtain ⟨tg,it,ifs,as⟩:=g
   cases gens with
   | nil=>
    by_cases ha:as=0
    ·subst ha
     exact comp_ok gd A ih elt tg it ifs sc pos
    ·exact pe_none fun σ H Q ⟨ρ,G,er,h⟩=>ha (Wk.iff (show Wk (if as=0 then _ else R.no) _ from h)).1
   | cons g' gens=>exact pe_none fun σ H Q ⟨ρ,G,er,h⟩=>h
 | _=>exact pe_none fun σ H Q ⟨ρ,G,er,h⟩=>h
theorem all:∀ (m:Nat) (X:Cx) (Γ:Ct),Gd κ K k X Γ→All κ K k X Γ m
 | 0,_,_,_=>all0
 | m+1,X,Γ,gd=>
  have A:=all m X Γ gd
  ⟨fun G₀ H₀ e=>r_ok gd A (all m) e,fun G₀ H₀ e=>e_ok gd A e,fun G₀ H₀ e=>t_ok gd A e,fun G₀ H₀ es=>es_ok A es,fun G₀ H₀ es=>as_ok A es,fun G₀ H₀ o=>o_ok A o,fun G₀ H₀ es=>f_ok A es,fun G₀ H₀ e=>l_ok gd A e,fun G₀ H₀ tg e=>i_ok gd A tg e⟩
end
end DE
set_option maxHeartbeats 4000000
namespace DE
open PySem PySem.Spec PyProof.Rows L2
inductive Fl where
 | next (ρ:Env) | ret (r:Rv)
noncomputable def notComp:Expr→Bool
 | .ListComp ..=>false
 | .SetComp ..=>false
 | .DictComp ..=>false
 | _=>true
noncomputable def notTup:Expr→Bool
 | .Tuple ..=>false
 | _=>true
noncomputable def notSlice:Expr→Bool
 | .Slice ..=>false
 | _=>true
noncomputable def nameX (Γ:Ct) (x:Str) (ρ:Env):R Rv:=if nameOk x then (match ixOf Γ.N x with
 | some i=>if visB Γ.sc x then (match ρ[i]? with
  | some (.val d)=>.ok (.val d)
  | some (.own l)=>.ok (.tmp l)
  | _=>.no) else .no
 | none=>if glB Γ.sc x then (match Γ.gl x with | some d=>.ok (.val d) | none=>.no) else .no) else .no
noncomputable def evX (m:Nat) (Γ:Ct) (e:Expr) (ρ:Env):R Rv:=match e with
 | .Name x _=>nameX Γ x ρ
 | e=>(evR m Γ e ρ).th fun x=>match x.1 with
  | .val d=>.ok (.val d)
  | .tmp l=>.ok (.tmp l)
  | _=>.no
noncomputable def evA (m:Nat) (Γ:Ct) (e:Expr) (ρ:Env):R (Sl×Env):=match e with
 | .Name x _=>(nameE Γ x ρ).th fun r=>.ok (.val r.1,r.2)
 | e=>(evR m Γ e ρ).th fun x=>match x.1 with
  | .val d=>.ok (.val d,x.2)
  | .tmp l=>.ok (.own l,x.2)
  | _=>.no
noncomputable def ownAt (Γ:Ct) (x:Str) (ρ:Env):Option (Nat×List D):=if nameOk x&&visB Γ.sc x then (match ixOf Γ.N x with
 | some i=>(match ρ[i]? with
  | some (.own l)=>some (i,l)
  | _=>none)
 | none=>none) else none
noncomputable def methD (m:Nat) (Γ:Ct) (x meth:Str) (a:Expr) (ρ:Env):R Env:=match ownAt Γ x ρ with
 | none=>.no
 | some _=>if starB a then .no else
  if meth = "append" then (evE m Γ a ρ).th fun y=>(match ownAt Γ x y.2 with
   | some (i,l)=>if l.length < sizeLine then .ok (y.2.set i (.own (l++[y.1]))) else .no
   | none=>.no)
  else if meth = "extend" then (evR m Γ a ρ).th fun y=>(match ownAt Γ x y.2,y.1.plain? with
   | some (i,l),some n=>if l.length+n.length≤sizeLine then .ok (y.2.set i (.own (l++n))) else .no
   | _,_=>.no)
  else .no
noncomputable def setD (m:Nat) (Γ:Ct) (x:Str) (i:Expr) (d:D) (ρ:Env):R Env:=match ownAt Γ x ρ with
 | none=>.no
 | some _=>(evR m Γ i ρ).th fun y=>(match ownAt Γ x y.2,y.1.int? with
  | some (j,l),some n=>(match ixN l.length n with
   | some k=>.ok (y.2.set j (.own (l.set k d)))
   | none=>.no)
  | _,_=>.no)
noncomputable def forL (step:D→Env→R Fl):List D→Env→R Fl
 | [],ρ=>.ok (.next ρ)
 | d::ds,ρ=>(step d ρ).th fun f=>match f with
  | .next ρ1=>forL step ds ρ1
  | .ret r=>.ok (.ret r)
noncomputable def whL (test:Env→R (Bool×Env)) (body:Env→R Fl):Nat→Env→R Fl
 | 0,_=>.no
 | n+1,ρ=>(test ρ).th fun b=>if b.1 then (body b.2).th fun f=>(match f with
  | .next ρ1=>whL test body n ρ1
  | .ret r=>.ok (.ret r)) else .ok (.next b.2)
mutual
noncomputable def evS:Nat→Nat→Ct→Stmt→Env→R Fl
 | 0,_,_,_,_=>.no
 | m+1,w,Γ,st,ρ=>match st with
  | .Pass _=>.ok (.next ρ)
  | .Expr e _=>(match e with
   | .Call (.Attribute (.Name x _) meth ap) [a] [] cp=>if (ap.endLine == cp.line)=true then (methD m Γ x meth a ρ).th fun ρ1=>.ok (.next ρ1) else .no
   | .Call (.Attribute (.Name x _) meth ap) [] [] cp=>if (ap.endLine == cp.line)=true∧meth = "clear" then (match ownAt Γ x ρ with
    | some (i,_)=>.ok (.next (ρ.set i (.own [])))
    | none=>.no) else .no
   | e=>if notComp e=true then (evR m Γ e ρ).th fun x=>.ok (.next x.2) else .no)
  | .Return (some e) _=>(evX m Γ e ρ).th fun r=>.ok (.ret r)
  | .Return none _=>.ok (.ret (.val .non))
  | .Assign [tg] e _=>(match tg with
   | .Name x _=>(evA m Γ e ρ).th fun s=>(R.of (ixOf Γ.N x)).th fun i=>if (locB Γ.sc x&&nameOk x)=true then .ok (.next (s.2.set i s.1)) else .no
   | .Tuple es j p=>if notComp e=true∧notTup e=true then (evE m Γ e ρ).th fun x=>(asgD Γ (.Tuple es j p) x.1 x.2).th fun ρ1=>.ok (.next ρ1) else .no
   | .Subscript (.Name x _) i _=>if notComp e=true∧notSlice i=true then (evE m Γ e ρ).th fun y=>(setD m Γ x i y.1 y.2).th fun ρ1=>.ok (.next ρ1) else .no
   | _=>.no)
  | .If c a b _=>(evT m Γ c ρ).th fun t=>if t.1 then evSs m w Γ a t.2 else evSs m w Γ b t.2
  | .For tg it body [] _=>if foldOk it=true then (evI m Γ (tupB tg) it ρ).th fun x=>forL (fun d ρ1=>(asgD Γ tg d ρ1).th fun ρ2=>evSs m w Γ body ρ2) x.1 x.2 else .no
  | .While c body [] _=>whL (fun ρ1=>evT m Γ c ρ1) (fun ρ1=>evSs m w Γ body ρ1) w ρ
  | _=>.no
noncomputable def evSs:Nat→Nat→Ct→List Stmt→Env→R Fl
 | 0,_,_,_,_=>.no
 | m+1,w,Γ,l,ρ=>match l with
  | []=>.ok (.next ρ)
  | st::l=>(evS m w Γ st ρ).th fun f=>match f with
   | .next ρ1=>evSs m w Γ l ρ1
   | .ret r=>.ok (.ret r)
end
section
variable (κ:KC) (K:PySem.W.Frag) (G₀ H₀:Hp)
noncomputable def FlP (G:Hp) (D:Ends):Fl→Prop
 | .next ρ'=>∀ σ' G' H',ER κ K G₀ H₀ G' H' ρ' σ'→Same G G'→D.nx σ' H'
 | .ret r=>∀ v G' H',Same H₀ H'→Same G₀ G'→Same G' H'→(∀ a o,G' a=some o→(∃ o',G₀ a=some o')∨H₀ a=none)→ReR κ G' H' H₀ r v→D.rt v H'
noncomputable def tS (Γ:Ct) (m w:Nat) (st:Stmt):TS:=fun D σ H=>∃ ρ G,ER κ K G₀ H₀ G H ρ σ∧Wk (evS m w Γ st ρ) (FlP κ K G₀ H₀ G D)
noncomputable def tSs (Γ:Ct) (m w:Nat) (l:List Stmt):TS:=fun D σ H=>∃ ρ G,ER κ K G₀ H₀ G H ρ σ∧Wk (evSs m w Γ l ρ) (FlP κ K G₀ H₀ G D)
end
structure Gs (κ:KC) (K:PySem.W.Frag) (k:Nat) (X:Cx) (Γ:Ct):Prop extends Gd κ K k X Γ where
 own:PassesOwn (model X.prog X.w) X.A X.env X.xe
 sceq:X.env.scope=Γ.sc
 fnk:Γ.sc.kind=.function
theorem PS.imp {X:Cx} {st:Stmt} {t t':TS} (h:PS X st t') (i:∀ D σ H,t D σ H→t' D σ H):PS X st t:=fun pins s σ H D I hw=>h pins s σ H D I (i D σ H hw)
theorem PSs.imp {X:Cx} {st:List Stmt} {t t':TS} (h:PSs X st t') (i:∀ D σ H,t D σ H→t' D σ H):PSs X st t:=fun pins s σ H D I hw=>h pins s σ H D I (i D σ H hw)
theorem ps_none {X:Cx} {st:Stmt} {t:TS} (h:∀ D σ H,¬ t D σ H):PS X st t:=fun pins s σ H D I hw=>absurd hw (h D σ H)
theorem pss_none {X:Cx} {st:List Stmt} {t:TS} (h:∀ D σ H,¬ t D σ H):PSs X st t:=fun pins s σ H D I hw=>absurd hw (h D σ H)
theorem noSwap {e:Expr} (h:notComp e=true) (t:Option Expr) (l:Nat) (env:PySem.Env):swapsWith e t l env=pure false:=by
 cases e<;>first | rfl | (simp [notComp] at h)
section
variable {κ:KC} {K:PySem.W.Frag} {G₀ H₀:Hp} {k m w:Nat} {X:Cx} {Γ:Ct}
theorem ownAt_is {x:Str} {ρ:Env} {i:Nat} {l:List D} (h:ownAt Γ x ρ=some (i,l)):nameOk x=true∧visB Γ.sc x=true∧ixOf Γ.N x=some i∧ρ[i]?=some (.own l):=by
 unfold ownAt at h
 by_cases hc:(nameOk x&&visB Γ.sc x)=true
 ·rw [if_pos hc] at h
  rw [Bool.and_eq_true] at hc
  cases e1:ixOf Γ.N x with
  | none=>rw [e1] at h;cases h
  | some j=>
   rw [e1] at h
   dsimp only at h
   split at h
   ·rename_i l' e2
    cases h
    exact ⟨hc.1,hc.2,rfl,e2⟩
   ·cases h
 ·rw [if_neg hc] at h;cases h
theorem own_ix {x:Str} {ρ ρ':Env} {i j:Nat} {l n:List D} (h:ownAt Γ x ρ=some (i,l)) (h':ownAt Γ x ρ'=some (j,n)):i=j:=by
 have:=(ownAt_is h).2.2.1.symm.trans (ownAt_is h').2.2.1
 cases this
 rfl
noncomputable def slotOk (Γ:Ct) (x:Str):Option Nat:=if nameOk x&&visB Γ.sc x then ixOf Γ.N x else none
theorem ownAt_slot {x:Str} {ρ:Env} {i:Nat} {l:List D} (h:ownAt Γ x ρ=some (i,l)):slotOk Γ x=some i:=by
 obtain ⟨h1,h2,h3,h4⟩:=ownAt_is h
 unfold slotOk
 rw [if_pos (by rw [h1,h2];rfl),h3]
theorem slot_pe (gd:Gd κ K k X Γ) {x:Str} {i:Nat} (h:slotOk Γ x=some i) (pos:Pos):PE X (.Name x pos) (tVar i):=by
 unfold slotOk at h
 by_cases hc:(nameOk x&&visB Γ.sc x)=true
 ·rw [if_pos hc] at h
  rw [Bool.and_eq_true] at hc
  obtain ⟨n1,n2,n3⟩:=nameOk_is hc.1
  exact pe_var (i:=i) (by rw [gd.hN];exact ixOf_at h) (gd.vis x hc.2) n1 n2
 ·rw [if_neg hc] at h;cases h
theorem ER.ownSlot {G H:Hp} {ρ:Env} {σ:L2.St} {i:Nat} {l:List D} (er:ER κ K G₀ H₀ G H ρ σ) (e:ρ[i]?=some (.own l)):∃ a xs,σ[i]?=some (some (.ref a))∧H a=some (.lst xs)∧Reps κ G l xs:=by
 obtain ⟨a,xs,z,h1,h2,h3,h4⟩:=er.sl i _ e
 exact ⟨a,xs,z,h1,h4⟩
theorem append_ok (gd:Gd κ K k X Γ) (A:All κ K k X Γ m) (x:Str) (a:Expr) (xp ap cp p:Pos) (hl:(ap.endLine == cp.line)=true)
  (he:∀ ρ,evS (m+1) w Γ (.Expr (.Call (.Attribute (.Name x xp) "append" ap) [a] [] cp) p) ρ=(methD m Γ x "append" a ρ).th fun ρ1=>.ok (.next ρ1)) :
  PS X (.Expr (.Call (.Attribute (.Name x xp) "append" ap) [a] [] cp) p) (tS κ K G₀ H₀ Γ (m+1) w (.Expr (.Call (.Attribute (.Name x xp) "append" ap) [a] [] cp) p)):=by
 cases hsl:slotOk Γ x with
 | none=>
  refine ps_none fun D σ H ⟨ρ,G,er,h⟩=>?_
  rw [he] at h
  have h:=Wk.th h
  unfold methD at h
  cases e1:ownAt Γ x ρ with
  | none=>rw [e1] at h;exact h
  | some q=>have:=ownAt_slot (i:=q.1) (l:=q.2) e1;rw [hsl] at this;cases this
 | some i=>
  by_cases hs:starB a=true
  ·refine ps_none fun D σ H ⟨ρ,G,er,h⟩=>?_
   rw [he] at h
   have h:=Wk.th h
   unfold methD at h
   cases e1:ownAt Γ x ρ with
   | none=>rw [e1] at h;exact h
   | some q=>rw [e1] at h;exact (Wk.nif (c:=starB a=true) h).1 hs
  have s1:=Bool.eq_false_iff.mpr hs
  have few:((backTo cp (starEach [a] X.env)).all (fun x=>!x.1)&&(backToKw cp (keywordEach [] X.env)).all (fun x=>x.1.isSome)&&decide (([a]:List Expr).length+([]:List Keyword).length+(if ([]:List Keyword).isEmpty then 0 else 1) < 30))=true:=by
   rw [star_one s1]
   rfl
  refine PS.imp (ps_expr (pe_bm PySem.F.plainAttrs_list PySem.F.slot_list_append PySem.F.type_list_append mt_append (slot_pe gd hsl xp) (pa_cons (A.e G₀ H₀ a) pa_nil (star_one s1)) rfl few hl (star_one s1) rfl) rfl) fun D σ H ⟨ρ,G,er,h⟩=>?_
  rw [he] at h
  have h:=Wk.th h
  unfold methD at h
  cases e1:ownAt Γ x ρ with
  | none=>rw [e1] at h;exact False.elim h
  | some q=>
   obtain ⟨i',l0⟩:=q
   have ei:i'=i:=by have:=ownAt_slot e1;rw [hsl] at this;cases this;rfl
   subst ei
   rw [e1] at h
   have h:=(Wk.nif (c:=starB a=true) h).2
   rw [if_pos rfl] at h
   obtain ⟨b,xs,z,h1,h2⟩:=er.ownSlot (ownAt_is e1).2.2.2
   refine ⟨_,z,.inl ⟨rfl,xs,SqL.of h1⟩,ρ,G,er,Wk.mono (Wk.th h) fun y h v G1 H1 p1 r1=>?_⟩
   cases e2:ownAt Γ x y.2 with
   | none=>rw [e2] at h;exact False.elim h
   | some q=>
    obtain ⟨i2,l⟩:=q
    rw [e2] at h
    have ei:=own_ix e1 e2
    subst ei
    obtain ⟨hz,h⟩:=Wk.iff h
    obtain ⟨b',ys,z',h3,h4⟩:=p1.er.ownSlot (ownAt_is e2).2.2.2
    rw [z] at z'
    cases z'
    refine ⟨b,ys,v,rfl,rfl,h3,by rw [←h4.len];exact hz,?_⟩
    exact h σ G1 _ (p1.er.write (ownAt_is e2).2.2.2 z (h4.snoc r1)) p1.gs
theorem extend_ok (gd:Gd κ K k X Γ) (A:All κ K k X Γ m) (x:Str) (a:Expr) (xp ap cp p:Pos) (hl:(ap.endLine == cp.line)=true)
  (he:∀ ρ,evS (m+1) w Γ (.Expr (.Call (.Attribute (.Name x xp) "extend" ap) [a] [] cp) p) ρ=(methD m Γ x "extend" a ρ).th fun ρ1=>.ok (.next ρ1)) :
  PS X (.Expr (.Call (.Attribute (.Name x xp) "extend" ap) [a] [] cp) p) (tS κ K G₀ H₀ Γ (m+1) w (.Expr (.Call (.Attribute (.Name x xp) "extend" ap) [a] [] cp) p)):=by
 cases hsl:slotOk Γ x with
 | none=>
  refine ps_none fun D σ H ⟨ρ,G,er,h⟩=>?_
  rw [he] at h
  have h:=Wk.th h
  unfold methD at h
  cases e1:ownAt Γ x ρ with
  | none=>rw [e1] at h;exact h
  | some q=>have:=ownAt_slot (i:=q.1) (l:=q.2) e1;rw [hsl] at this;cases this
 | some i=>
  by_cases hs:starB a=true
  ·refine ps_none fun D σ H ⟨ρ,G,er,h⟩=>?_
   rw [he] at h
   have h:=Wk.th h
   unfold methD at h
   cases e1:ownAt Γ x ρ with
   | none=>rw [e1] at h;exact h
   | some q=>rw [e1] at h;exact (Wk.nif (c:=starB a=true) h).1 hs
  have s1:=Bool.eq_false_iff.mpr hs
  have few:((backTo cp (starEach [a] X.env)).all (fun x=>!x.1)&&(backToKw cp (keywordEach [] X.env)).all (fun x=>x.1.isSome)&&decide (([a]:List Expr).length+([]:List Keyword).length+(if ([]:List Keyword).isEmpty then 0 else 1) < 30))=true:=by
   rw [star_one s1]
   rfl
  refine PS.imp (ps_expr (pe_bm PySem.F.plainAttrs_list PySem.F.slot_list_extend PySem.F.type_list_extend mt_extend (slot_pe gd hsl xp) (pa_cons (A.r G₀ H₀ a) pa_nil (star_one s1)) rfl few hl (star_one s1) rfl) rfl) fun D σ H ⟨ρ,G,er,h⟩=>?_
  rw [he] at h
  have h:=Wk.th h
  unfold methD at h
  cases e1:ownAt Γ x ρ with
  | none=>rw [e1] at h;exact False.elim h
  | some q=>
   obtain ⟨i',l0⟩:=q
   have ei:i'=i:=by have:=ownAt_slot e1;rw [hsl] at this;cases this;rfl
   subst ei
   rw [e1] at h
   have h:=(Wk.nif (c:=starB a=true) h).2
   rw [if_neg (by decide),if_pos rfl] at h
   obtain ⟨b,xs,z,h1,h2⟩:=er.ownSlot (ownAt_is e1).2.2.2
   refine ⟨_,z,.inl ⟨rfl,xs,SqL.of h1⟩,ρ,G,er,Wk.mono (Wk.th h) fun y h v G1 H1 p1 r1=>?_⟩
   cases e2:ownAt Γ x y.2 with
   | none=>rw [e2] at h;exact False.elim h
   | some q=>
    obtain ⟨i2,l⟩:=q
    cases e3:y.1.plain? with
    | none=>rw [e2,e3] at h;exact False.elim h
    | some n=>
     rw [e2,e3] at h
     have ei:=own_ix e1 e2
     subst ei
     obtain ⟨hz,h⟩:=Wk.iff h
     obtain ⟨b',ys,z',h3,h4⟩:=p1.er.ownSlot (ownAt_is e2).2.2.2
     obtain ⟨c,zs,rfl,h5,h6⟩:=r1.plain p1.er e3
     rw [z] at z'
     cases z'
     refine ⟨b,c,ys,zs,rfl,rfl,h3,h5,by rw [←h4.len,←h6.len];exact hz,?_⟩
     exact h σ G1 _ (p1.er.write (ownAt_is e2).2.2.2 z (h4.app h6)) p1.gs
theorem clear_ok (gd:Gd κ K k X Γ) (x:Str) (xp ap cp p:Pos) (hl:(ap.endLine == cp.line)=true)
  (he:∀ ρ,evS (m+1) w Γ (.Expr (.Call (.Attribute (.Name x xp) "clear" ap) [] [] cp) p) ρ=match ownAt Γ x ρ with | some (i,_)=>.ok (.next (ρ.set i (.own []))) | none=>.no) :
  PS X (.Expr (.Call (.Attribute (.Name x xp) "clear" ap) [] [] cp) p) (tS κ K G₀ H₀ Γ (m+1) w (.Expr (.Call (.Attribute (.Name x xp) "clear" ap) [] [] cp) p)):=by
 cases hsl:slotOk Γ x with
 | none=>
  refine ps_none fun D σ H ⟨ρ,G,er,h⟩=>?_
  rw [he] at h
  cases e1:ownAt Γ x ρ with
  | none=>rw [e1] at h;exact h
  | some q=>have:=ownAt_slot (i:=q.1) (l:=q.2) e1;rw [hsl] at this;cases this
 | some i=>
  refine PS.imp (ps_expr (pe_bm0 PySem.F.plainAttrs_list PySem.F.slot_list_clear PySem.F.type_list_clear mt_clear (slot_pe gd hsl xp) rfl hl) rfl) fun D σ H ⟨ρ,G,er,h⟩=>?_
  rw [he] at h
  cases e1:ownAt Γ x ρ with
  | none=>rw [e1] at h;exact False.elim h
  | some q=>
   obtain ⟨i',l0⟩:=q
   have ei:i'=i:=by have:=ownAt_slot e1;rw [hsl] at this;cases this;rfl
   subst ei
   rw [e1] at h
   obtain ⟨b,xs,z,h1,h2⟩:=er.ownSlot (ownAt_is e1).2.2.2
   exact ⟨_,z,.inl ⟨rfl,xs,SqL.of h1⟩,b,xs,rfl,rfl,h1,h σ G _ (er.write (ownAt_is e1).2.2.2 z .nil) fun _ _ e=>e⟩
theorem ret_ok (gd:Gd κ K k X Γ) (A:All κ K k X Γ m) (e:Expr) (p:Pos):PS X (.Return (some e) p) (tS κ K G₀ H₀ Γ (m+1) w (.Return (some e) p)):=by
 have gen:(∀ ρ,evX m Γ e ρ=(evR m Γ e ρ).th fun x=>match x.1 with
   | .val d=>.ok (.val d)
   | .tmp l=>.ok (.tmp l)
   | _=>.no)→PS X (.Return (some e) p) (tS κ K G₀ H₀ Γ (m+1) w (.Return (some e) p)):=fun he=>by
  refine PS.imp (ps_ret (A.r G₀ H₀ e)) fun D σ H ⟨ρ,G,er,h⟩=>?_
  have h:=Wk.th (x:=evX m Γ e ρ) h
  rw [he] at h
  refine ⟨ρ,G,er,Wk.mono (Wk.th h) fun x h v G1 H1 p1 r1=>?_⟩
  obtain ⟨rv,ρ1⟩:=x
  cases rv with
  | val d=>exact h v G1 H1 p1.er.base p1.er.g0 p1.er.sub p1.er.fresh r1
  | tmp l=>
   obtain ⟨a,xs,rfl,h1,h2,h3,h4,h5,h6⟩:=r1
   exact h _ G1 H1 p1.er.base p1.er.g0 p1.er.sub p1.er.fresh ⟨a,xs,rfl,h1,h3,h4,h6⟩
  | cell l=>exact False.elim h
  | scr l=>exact False.elim h
 cases e with
 | Name x pos=>
  by_cases hok:nameOk x=true
  case neg=>
   refine ps_none fun D σ H ⟨ρ,G,er,h⟩=>?_
   have h:=Wk.th (x:=nameX Γ x ρ) h
   unfold nameX at h
   exact hok (Wk.iff h).1
  obtain ⟨n1,n2,n3⟩:=nameOk_is hok
  cases hi:ixOf Γ.N x with
  | some i=>
   by_cases hv:visB Γ.sc x=true
   case neg=>
    refine ps_none fun D σ H ⟨ρ,G,er,h⟩=>?_
    have h:=Wk.th (x:=nameX Γ x ρ) h
    unfold nameX at h
    rw [if_pos hok,hi] at h
    exact hv (Wk.iff h).1
   refine PS.imp (ps_ret (pe_var (i:=i) (by rw [gd.hN];exact ixOf_at hi) (gd.vis x hv) n1 n2)) fun D σ H ⟨ρ,G,er,h⟩=>?_
   have h:=Wk.th (x:=nameX Γ x ρ) h
   unfold nameX at h
   rw [if_pos hok,hi] at h
   have h:=(Wk.iff h).2
   cases q:ρ[i]? with
   | none=>rw [q] at h;exact False.elim h
   | some s=>
    rw [q] at h
    have w:=er.sl i s q
    cases s with
    | val d=>obtain ⟨v,z,r⟩:=w;exact ⟨v,z,h v G H er.base er.g0 er.sub er.fresh r⟩
    | own l=>obtain ⟨a,xs,z,r1,r2,r3,r4⟩:=w;exact ⟨_,z,h _ G H er.base er.g0 er.sub er.fresh ⟨a,xs,rfl,r1,r2,r3,r4⟩⟩
    | _=>exact False.elim h
  | none=>
   by_cases hg:glB Γ.sc x=true
   case neg=>
    refine ps_none fun D σ H ⟨ρ,G,er,h⟩=>?_
    have h:=Wk.th (x:=nameX Γ x ρ) h
    unfold nameX at h
    rw [if_pos hok,hi] at h
    exact hg (Wk.iff h).1
   cases hd:Γ.gl x with
   | none=>
    refine ps_none fun D σ H ⟨ρ,G,er,h⟩=>?_
    have h:=Wk.th (x:=nameX Γ x ρ) h
    unfold nameX at h
    rw [if_pos hok,hi] at h
    have h:=(Wk.iff h).2
    rw [hd] at h
    exact h
   | some d=>
    obtain ⟨v,u,e1,e2,e3⟩:=gd.gl x d hd
    refine PS.imp (ps_ret (pe_glob (gd.glo x hg) e1 e2 n1)) fun D σ H ⟨ρ,G,er,h⟩=>?_
    have h:=Wk.th (x:=nameX Γ x ρ) h
    unfold nameX at h
    rw [if_pos hok,hi] at h
    have h:=(Wk.iff h).2
    rw [hd] at h
    exact h v G H er.base er.g0 er.sub er.fresh (e3 G)
 | _=>exact gen fun _=>rfl
noncomputable def AsR (κ:KC) (K:PySem.W.Frag) (H₀ G H:Hp) (ρ:Env) (σ:L2.St):Sl→V→Prop
 | .val d,v=>Rep κ G d v
 | .own l,v=>∃ a xs,v=.ref a∧H a=some (.lst xs)∧H₀ a=none∧G a=none∧¬ OwnAt ρ σ a∧Reps κ G l xs
 | _,_=>False
noncomputable def tA (κ:KC) (K:PySem.W.Frag) (G₀ H₀:Hp) (Γ:Ct) (m:Nat) (e:Expr):TE:=fun σ H Q=>∃ ρ G,ER κ K G₀ H₀ G H ρ σ∧Wk (evA m Γ e ρ) fun s=>∀ v G' H',Po κ K G₀ H₀ σ G H ρ G' H' s.2→AsR κ K H₀ G' H' s.2 σ s.1 v→Q v H'
theorem asr_set {G H:Hp} {ρ:Env} {σ:L2.St} {s:Sl} {v:V} {i:Nat} (er:ER κ K G₀ H₀ G H ρ σ) (h:AsR κ K H₀ G H ρ σ s v):ER κ K G₀ H₀ G H (ρ.set i s) (σ.set i (some v)):=by
 cases s with
 | val d=>exact er.setVal h
 | own l=>obtain ⟨a,xs,rfl,h1,h2,h3,h4,h5⟩:=h;exact er.setOwn h1 h2 h3 h4 h5
 | _=>exact False.elim h
theorem rv_a {G H:Hp} {ρ:Env} {σ:L2.St} {F:Sl×Env→Prop} {Q:VK} {e:Expr} {m:Nat} (er:ER κ K G₀ H₀ G H ρ σ)
  (h:Wk ((evR m Γ e ρ).th fun x=>match x.1 with
   | .val d=>R.ok (Sl.val d,x.2)
   | .tmp l=>R.ok (Sl.own l,x.2)
   | _=>.no) fun s=>∀ v G' H',Po κ K G₀ H₀ σ G H ρ G' H' s.2→AsR κ K H₀ G' H' s.2 σ s.1 v→Q v H'):tR κ K G₀ H₀ Γ m e σ H Q:=by
 refine ⟨ρ,G,er,Wk.mono (Wk.th h) fun x h v G1 H1 p1 r1=>?_⟩
 obtain ⟨rv,ρ1⟩:=x
 cases rv with
 | val d=>exact h v G1 H1 p1 r1
 | tmp l=>
  obtain ⟨a,xs,rfl,h1,h2,h3,h4,h5,h6⟩:=r1
  exact h _ G1 H1 p1 ⟨a,xs,rfl,h1,h3,h4,h5,h6⟩
 | cell l=>exact False.elim h
 | scr l=>exact False.elim h
theorem a_ok (gd:Gd κ K k X Γ) (A:All κ K k X Γ m) (A1:All κ K k X Γ (m+1)) (e:Expr):PE X e (tA κ K G₀ H₀ Γ m e):=by
 have gen:(∀ ρ,evA m Γ e ρ=(evR m Γ e ρ).th fun x=>match x.1 with
   | .val d=>.ok (.val d,x.2)
   | .tmp l=>.ok (.own l,x.2)
   | _=>.no)→PE X e (tA κ K G₀ H₀ Γ m e):=fun he=>by
  refine PE.imp (A.r G₀ H₀ e) fun σ H Q ⟨ρ,G,er,h⟩=>?_
  rw [he] at h
  exact rv_a (F:=fun _=>True) er h
 cases e with
 | Name x pos=>
  refine PE.imp (A1.e G₀ H₀ (.Name x pos)) fun σ H Q ⟨ρ,G,er,h⟩=>?_
  refine ⟨ρ,G,er,Wk.mono (Wk.th (x:=nameE Γ x ρ) h) fun y h v G1 H1 p1 r1=>h v G1 H1 p1 r1⟩
 | _=>exact gen fun _=>rfl
theorem set_ok (gs:Gs κ K k X Γ) (A:All κ K k X Γ m) (A1:All κ K k X Γ (m+1)) (x:Str) (e:Expr) (xp p:Pos):PS X (.Assign [.Name x xp] e p) (tS κ K G₀ H₀ Γ (m+1) w (.Assign [.Name x xp] e p)):=by
 have gd:=gs.toGd
 have fail:∀ (D:Ends) (σ:L2.St) (H:Hp),(ixOf Γ.N x=none∨¬ (locB Γ.sc x&&nameOk x)=true)→¬ tS κ K G₀ H₀ Γ (m+1) w (.Assign [.Name x xp] e p) D σ H:=fun D σ H hf ⟨ρ,G,er,h⟩=>by
  have h:=Wk.th (x:=evA m Γ e ρ) h
  cases e1:evA m Γ e ρ with
  | ok s=>
   rw [e1] at h
   obtain ⟨i,e2,h⟩:=Wk.of (Wk.th (x:=R.of (ixOf Γ.N x)) h)
   rcases hf with z | z
   ·rw [e2] at z;cases z
   ·exact z (Wk.iff h).1
  | exc c l=>rw [e1] at h;exact h
  | no=>rw [e1] at h;exact h
 cases hi:ixOf Γ.N x with
 | none=>exact ps_none fun D σ H=>fail D σ H (.inl hi)
 | some i=>
  by_cases hc:(locB Γ.sc x&&nameOk x)=true
  case neg=>exact ps_none fun D σ H=>fail D σ H (.inr hc)
  have hc':=hc
  rw [Bool.and_eq_true] at hc'
  obtain ⟨l1,l2⟩:=gd.loc x hc'.1
  have hN:X.N.Nodup:=by rw [gd.hN];exact gd.nd
  have hxi:X.N[i]?=some x:=by rw [gd.hN];exact ixOf_at hi
  have fin:∀ (D:Ends) (σ:L2.St) (H:Hp),tS κ K G₀ H₀ Γ (m+1) w (.Assign [.Name x xp] e p) D σ H→tA κ K G₀ H₀ Γ m e σ H (fun y H1=>gName i y σ H1 D.nx):=fun D σ H ⟨ρ,G,er,h⟩=>by
   refine ⟨ρ,G,er,Wk.mono (Wk.th (x:=evA m Γ e ρ) h) fun s h v G1 H1 p1 r1=>?_⟩
   obtain ⟨j,e2,h⟩:=Wk.of (Wk.th (x:=R.of (ixOf Γ.N x)) h)
   rw [hi] at e2
   cases e2
   exact (Wk.iff h).2 _ G1 H1 (asr_set p1.er r1) p1.gs
  by_cases hn:notComp e=true
  ·exact PS.imp (ps_set (i:=i) hN hxi l1 (a_ok gd A A1 e) (noSwap hn _ _ _) l2) fin
  cases e with
  | ListComp elt gens sc cp=>
   have hsw:∀ b:Bool,(X.env.blockKind == .function&&X.env.kindOf x == some .local&&xp.line == cp.line&&!(sc.names.any fun (n,k)=>n == x&&(k == .local||k == .cell)))=b→swapsWith (.ListComp elt gens sc cp) (some (.Name x xp)) p.line X.env=pure b:=fun b hb=>by
    rw [←hb]
    rfl
   cases hb:(X.env.blockKind == .function&&X.env.kindOf x == some .local&&xp.line == cp.line&&!(sc.names.any fun (n,k)=>n == x&&(k == .local||k == .cell))) with
   | false=>exact PS.imp (ps_set (i:=i) hN hxi l1 (a_ok gd A A1 _) (hsw false hb) l2) fin
   | true=>
    have hloc:X.env.scope.names.lookup x=some .local:=by
     simp only [Bool.and_eq_true] at hb
     have:=hb.1.1.2
     unfold PySem.Env.kindOf at this
     simpa using this
    cases m with
    | zero=>exact ps_none fun D σ H h=>by obtain ⟨ρ,G,er,h⟩:=fin D σ H h;exact h
    | succ m=>
     have no:(∀ σ H Q,¬ tR κ K G₀ H₀ Γ (m+1) (.ListComp elt gens sc cp) σ H Q)→PS X (.Assign [.Name x xp] (.ListComp elt gens sc cp) p) (tS κ K G₀ H₀ Γ (m+1+1) w (.Assign [.Name x xp] (.ListComp elt gens sc cp) p)):=fun hno=>ps_none fun D σ H h=>by
      obtain ⟨ρ,G,er,h⟩:=fin D σ H h
      exact hno σ H _ (rv_a (F:=fun _=>True) er h)
     cases gens with
     | nil=>exact no fun σ H Q ⟨ρ,G,er,h⟩=>h
     | cons g gens=>
      obtain ⟨tg,it,ifs,as⟩:=g
      cases gens with
      | cons g' gens=>exact no fun σ H Q ⟨ρ,G,er,h⟩=>h
      | nil=>
       by_cases ha:as=0
       case neg=>exact no fun σ H Q ⟨ρ,G,er,h⟩=>ha (Wk.iff (show Wk (if as=0 then _ else R.no) _ from h)).1
       subst ha
       rcases comp_or (κ:=κ) (K:=K) (G₀:=G₀) (H₀:=H₀) (m:=m) (Γ:=Γ) elt tg it ifs sc cp with ⟨own,S⟩ | hno
       ·have B:BlkScope X own (frOf Γ.N sc) sc:=blk_scope gd S.chk
        have A':=all m X Γ gd
        refine PS.imp (ps_setC (i:=i) own (frOf Γ.N sc) hN hxi hloc gd.calm B (A'.i G₀ H₀ tg it) (fun cl C fp s2 H2=>gT_ok (blk_gd gd B S.nd cl C fp s2 H2) tg) (fun cl C fp s2 H2=>pif_ex (all m _ _ (blk_gd gd B S.nd cl C fp s2 H2)) ifs)
         (fun cl C fp s2 H2=>pe_ex (all m _ _ (blk_gd gd B S.nd cl C fp s2 H2)) elt) (hsw true hb) (fold_is S.fold X.env)) fun D σ H h=>?_
        obtain ⟨ρ,G,er,h⟩:=fin D σ H h
        exact comp_imp elt tg it ifs sc cp S σ H _ (rv_a (F:=fun _=>True) er h)
       ·exact no hno
  | SetComp=>exact ps_none fun D σ H h=>by obtain ⟨ρ,G,er,h⟩:=fin D σ H h;cases m<;>exact h
  | DictComp=>exact ps_none fun D σ H h=>by obtain ⟨ρ,G,er,h⟩:=fin D σ H h;cases m<;>exact h
  | _=>exact absurd rfl hn
end
end DE
set_option maxHeartbeats 4000000
namespace DE
open PySem PySem.Spec PyProof.Rows L2
structure AllS (κ:KC) (K:PySem.W.Frag) (X:Cx) (Γ:Ct) (m w:Nat):Prop where
 s:∀ G₀ H₀ st,PS X st (tS κ K G₀ H₀ Γ m w st)
 ss:∀ G₀ H₀ l,PSs X l (tSs κ K G₀ H₀ Γ m w l)
section
variable {κ:KC} {K:PySem.W.Frag} {G₀ H₀:Hp} {k m w:Nat} {X:Cx} {Γ:Ct}
theorem FlP.back {G G1:Hp} {D:Ends} {f:Fl} (h:FlP κ K G₀ H₀ G D f) (g:Same G G1):FlP κ K G₀ H₀ G1 D f:=by
 cases f with
 | next ρ=>exact fun σ' G' H' er g'=>h σ' G' H' er fun b o e=>g' b o (g b o e)
 | ret r=>exact h
theorem noStores {e:Expr} (h:notTup e=true) (es:List Expr) (j:Nat) (p:Pos) (env:PySem.Env):swappedStores [.Tuple es j p] e env=pure none:=by
 cases e<;>first | rfl | (simp [notTup] at h)
theorem tupset_ok (gd:Gd κ K k X Γ) (A:All κ K k X Γ m) (es:List Expr) (j:Nat) (tp:Pos) (e:Expr) (p:Pos):PS X (.Assign [.Tuple es j tp] e p) (tS κ K G₀ H₀ Γ (m+1) w (.Assign [.Tuple es j tp] e p)):=by
 by_cases hc:notComp e=true∧notTup e=true
 case neg=>exact ps_none fun D σ H ⟨ρ,G,er,h⟩=>hc (Wk.iff (show Wk (if notComp e=true∧notTup e=true then _ else R.no) _ from h)).1
 refine PS.imp (ps_asg (A.e G₀ H₀ e) (gT_ok gd (.Tuple es j tp)) (show swapsWithSole [.Tuple es j tp] e p.line X.env=pure false from noSwap hc.1 (some (.Tuple es j tp)) p.line X.env) (noStores hc.2 es j tp _) rfl) fun D σ H ⟨ρ,G,er,h⟩=>?_
 have h:=(Wk.iff (show Wk (if notComp e=true∧notTup e=true then _ else R.no) _ from h)).2
 refine ⟨ρ,G,er,Wk.mono (Wk.th (x:=evE m Γ e ρ) h) fun x h v G1 H1 p1 r1=>?_⟩
 exact ⟨G₀,H₀,x.2,G1,x.1,p1.er,r1,Wk.mono (Wk.th h) fun ρ1 h σ1 er1=>h σ1 G1 H1 er1 p1.gs⟩
noncomputable def gS (κ:KC) (K:PySem.W.Frag) (G₀ H₀:Hp) (Γ:Ct) (m:Nat) (x:Str) (i:Expr):TG:=fun v σ H Q=>∃ (ρ:Env) (G:Hp) (d:D),ER κ K G₀ H₀ G H ρ σ∧Rep κ G d v∧Wk (setD m Γ x i d ρ) fun ρ'=>∀ G' H',ER κ K G₀ H₀ G' H' ρ' σ→Same G G'→Q σ H'
theorem gS_ok (gd:Gd κ K k X Γ) (A:All κ K k X Γ m) (x:Str) (i:Expr) (xp p:Pos) (hs:notSlice i=true):PG X (.Subscript (.Name x xp) i p) (gS κ K G₀ H₀ Γ m x i):=by
 have none1:∀ {v:V} {σ:L2.St} {H:Hp} {Q:L2.St→Hp→Prop},slotOk Γ x=none→¬ gS κ K G₀ H₀ Γ m x i v σ H Q:=fun {v σ H Q} hsl ⟨ρ,G,d,er,r,h⟩=>by
  unfold setD at h
  cases e1:ownAt Γ x ρ with
  | none=>rw [e1] at h;exact h
  | some q=>have:=ownAt_slot (i:=q.1) (l:=q.2) e1;rw [hsl] at this;cases this
 cases hsl:slotOk Γ x with
 | none=>exact pg_none fun v σ H Q=>none1 hsl
 | some j=>
  refine PG.imp (pg_sub (slot_pe gd hsl xp) (A.r G₀ H₀ i) set_list (fun v=>by cases i<;>first | rfl | (simp [notSlice] at hs))) fun v σ H Q ⟨ρ,G,d,er,r,h⟩=>?_
  unfold setD at h
  cases e1:ownAt Γ x ρ with
  | none=>rw [e1] at h;exact False.elim h
  | some q=>
   obtain ⟨j',l0⟩:=q
   have ei:j'=j:=by have:=ownAt_slot e1;rw [hsl] at this;cases this;rfl
   subst ei
   rw [e1] at h
   obtain ⟨b,xs,z,h1,h2⟩:=er.ownSlot (ownAt_is e1).2.2.2
   refine ⟨_,z,ρ,G,er,Wk.mono (Wk.th (x:=evR m Γ i ρ) h) fun y h u G1 H1 p1 r1=>?_⟩
   cases e2:ownAt Γ x y.2 with
   | none=>rw [e2] at h;exact False.elim h
   | some q=>
    obtain ⟨j2,l⟩:=q
    cases e3:y.1.int? with
    | none=>rw [e2,e3] at h;exact False.elim h
    | some n=>
     rw [e2,e3] at h
     dsimp only at h
     have ei:=own_ix e1 e2
     subst ei
     cases e4:ixN l.length n with
     | none=>rw [e4] at h;exact False.elim h
     | some c=>
      rw [e4] at h
      obtain ⟨b',ys,z',h3,h4⟩:=p1.er.ownSlot (ownAt_is e2).2.2.2
      rw [z] at z'
      cases z'
      refine ⟨b,ys,n,c,rfl,r1.int e3,h3,by rw [←h4.len];exact e4,?_⟩
      exact h G1 _ (p1.er.write (ownAt_is e2).2.2.2 z (h4.set c (r.same p1.gs))) p1.gs
theorem subset_ok (gd:Gd κ K k X Γ) (A:All κ K k X Γ m) (x:Str) (i e:Expr) (xp sp p:Pos):PS X (.Assign [.Subscript (.Name x xp) i sp] e p) (tS κ K G₀ H₀ Γ (m+1) w (.Assign [.Subscript (.Name x xp) i sp] e p)):=by
 by_cases hc:notComp e=true∧notSlice i=true
 case neg=>exact ps_none fun D σ H ⟨ρ,G,er,h⟩=>hc (Wk.iff (show Wk (if notComp e=true∧notSlice i=true then _ else R.no) _ from h)).1
 refine PS.imp (ps_asg (A.e G₀ H₀ e) (gS_ok (G₀:=G₀) (H₀:=H₀) gd A x i xp sp hc.2) (show swapsWithSole [.Subscript (.Name x xp) i sp] e p.line X.env=pure false from noSwap hc.1 (some (.Subscript (.Name x xp) i sp)) p.line X.env) rfl rfl) fun D σ H ⟨ρ,G,er,h⟩=>?_
 have h:=(Wk.iff (show Wk (if notComp e=true∧notSlice i=true then _ else R.no) _ from h)).2
 refine ⟨ρ,G,er,Wk.mono (Wk.th (x:=evE m Γ e ρ) h) fun y h v G1 H1 p1 r1=>?_⟩
 exact ⟨y.2,G1,y.1,p1.er,r1,Wk.mono (Wk.th h) fun ρ1 h G2 H2 er1 g2=>h σ G2 H2 er1 fun b o e=>g2 b o (p1.gs b o e)⟩
theorem if_ok (A:All κ K k X Γ m) (S:AllS κ K X Γ m w) (c:Expr) (a b:List Stmt) (p:Pos):PS X (.If c a b p) (tS κ K G₀ H₀ Γ (m+1) w (.If c a b p)):=by
 refine PS.imp (ps_if (A.t G₀ H₀ c) (S.ss G₀ H₀ a) (S.ss G₀ H₀ b)) fun D σ H ⟨ρ,G,er,h⟩=>?_
 refine ⟨ρ,G,er,Wk.mono (Wk.th (x:=evT m Γ c ρ) h) fun t h G1 H1 p1=>?_⟩
 obtain ⟨d,ρ1⟩:=t
 cases d with
 | true=>rw [if_pos rfl];exact ⟨ρ1,G1,p1.er,Wk.mono h fun f hf=>hf.back p1.gs⟩
 | false=>rw [if_neg (fun z=>by cases z)];exact ⟨ρ1,G1,p1.er,Wk.mono h fun f hf=>hf.back p1.gs⟩
theorem for_ok (gs:Gs κ K k X Γ) (A:All κ K k X Γ m) (S:AllS κ K X Γ m w) (tg it:Expr) (body:List Stmt) (p:Pos):PS X (.For tg it body [] p) (tS κ K G₀ H₀ Γ (m+1) w (.For tg it body [] p)):=by
 by_cases hf:foldOk it=true
 case neg=>exact ps_none fun D σ H ⟨ρ,G,er,h⟩=>hf (Wk.iff (show Wk (if foldOk it=true then _ else R.no) _ from h)).1
 refine PS.imp (ps_for gs.own gs.calm (A.i G₀ H₀ tg it) (gT_ok gs.toGd tg) (S.ss G₀ H₀ body) (fold_is hf X.env)) fun D σ H ⟨ρ,G,er,h⟩=>?_
 have h:=(Wk.iff (show Wk (if foldOk it=true then _ else R.no) _ from h)).2
 refine ⟨ρ,G,er,Wk.mono (Wk.th (x:=evI m Γ (tupB tg) it ρ) h) fun x h J G1 H1 p1 it1=>?_⟩
 refine ⟨fun i mm σ' H'=>mm=x.1.length - i∧i≤x.1.length∧∃ ρb Gb,ER κ K G₀ H₀ Gb H' ρb σ'∧Same G1 Gb∧Wk (forL (fun d ρ1=>(asgD Γ tg d ρ1).th fun ρ2=>evSs m w Γ body ρ2) (x.1.drop i) ρb) (FlP κ K G₀ H₀ G D),
  ⟨x.1.length,by simp,Nat.zero_le _,x.2,G1,p1.er,fun _ _ e=>e,by rw [List.drop_zero];exact h⟩,?_⟩
 rintro i mm σ' H' ⟨rfl,hi,ρb,Gb,erb,g1,hw⟩
 have it2:=it1 i Gb H' g1 erb.base erb.sub
 by_cases hlt:i < x.1.length
 ·obtain ⟨go,yl⟩:=it2.1 x.1[i] (List.getElem?_eq_getElem hlt)
  refine .inr ⟨go,_,fun σ2 H2 w=>⟨x.1.length - (i+1),by omega,w⟩,fun v H2 hy=>?_⟩
  obtain ⟨G',hs,gss,sub,new,rep⟩:=yl v H2 hy
  have p2:=Po.more erb hs gss sub new
  rw [List.drop_eq_getElem_cons hlt] at hw
  refine ⟨G₀,H₀,ρb,G',x.1[i],p2.er,rep,Wk.mono (Wk.th (Wk.th hw)) fun ρ2 hw σ2 er2=>⟨ρ2,G',er2,Wk.mono hw fun f hf=>?_⟩⟩
  cases f with
  | next ρ3=>exact fun σ3 G3 H3 er3 g3=>⟨rfl,hlt,ρ3,G3,er3,fun b o e=>g3 b o (gss b o (g1 b o e)),hf⟩
  | ret r=>exact hf
 ·have e:i=x.1.length:=by omega
  subst e
  rw [List.drop_length] at hw
  exact .inl ⟨it2.2 rfl,hw σ' Gb H' erb fun b o e=>g1 b o (p1.gs b o e)⟩
theorem while_ok (gs:Gs κ K k X Γ) (A:All κ K k X Γ m) (S:AllS κ K X Γ m w) (c:Expr) (body:List Stmt) (p:Pos):PS X (.While c body [] p) (tS κ K G₀ H₀ Γ (m+1) w (.While c body [] p)):=by
 refine PS.imp (ps_while gs.own (A.t G₀ H₀ c) (S.ss G₀ H₀ body)) fun D σ H ⟨ρ,G,er,h⟩=>?_
 refine ⟨fun n σ' H'=>∃ ρb Gb,ER κ K G₀ H₀ Gb H' ρb σ'∧Same G Gb∧Wk (whL (fun ρ1=>evT m Γ c ρ1) (fun ρ1=>evSs m w Γ body ρ1) n ρb) (FlP κ K G₀ H₀ G D),⟨w,ρ,G,er,fun _ _ e=>e,h⟩,?_⟩
 rintro n σ' H' ⟨ρb,Gb,erb,g1,hw⟩
 cases n with
 | zero=>exact False.elim hw
 | succ n=>
  refine ⟨ρb,Gb,erb,Wk.mono (Wk.th (x:=evT m Γ c ρb) hw) fun b hw G2 H2 p2=>?_⟩
  obtain ⟨d,ρ2⟩:=b
  cases d with
  | false=>
   rw [if_neg (fun z=>by cases z)]
   exact hw σ' G2 H2 p2.er fun b o e=>p2.gs b o (g1 b o e)
  | true=>
   rw [if_pos rfl]
   refine ⟨_,fun σ3 H3 w=>⟨n,Nat.lt_succ_self n,w⟩,ρ2,G2,p2.er,Wk.mono (Wk.th hw) fun f hf=>?_⟩
   cases f with
   | next ρ3=>exact fun σ3 G3 H3 er3 g3=>⟨ρ3,G3,er3,fun b o e=>g3 b o (p2.gs b o (g1 b o e)),hf⟩
   | ret r=>exact hf
theorem expr_ok (gd:Gd κ K k X Γ) (A:All κ K k X Γ m) (e:Expr) (p:Pos):PS X (.Expr e p) (tS κ K G₀ H₀ Γ (m+1) w (.Expr e p)):=by
 have gen:(∀ ρ,evS (m+1) w Γ (.Expr e p) ρ=if notComp e=true then (evR m Γ e ρ).th fun x=>.ok (.next x.2) else .no)→PS X (.Expr e p) (tS κ K G₀ H₀ Γ (m+1) w (.Expr e p)):=fun he=>by
  by_cases hn:notComp e=true
  case neg=>
   refine ps_none fun D σ H ⟨ρ,G,er,h⟩=>?_
   rw [he,if_neg hn] at h
   exact h
  refine PS.imp (ps_expr (A.r G₀ H₀ e) (noSwap hn _ _ _)) fun D σ H ⟨ρ,G,er,h⟩=>?_
  rw [he,if_pos hn] at h
  exact ⟨ρ,G,er,Wk.mono (Wk.th h) fun x h v G1 H1 p1 r1=>h σ G1 H1 p1.er p1.gs⟩
 cases e with
 | Call fn es kws cp=>
  cases fn with
  | Attribute o meth ap=>
   cases o with
   | Name x xp=>
    cases kws with
    | cons kw kws=>exact gen fun _=>by match es with | []=>rfl | [_]=>rfl | _::_::_=>rfl
    | nil=>
     match es with
     | [a]=>
      by_cases hl:(ap.endLine == cp.line)=true
      case neg=>exact ps_none fun D σ H ⟨ρ,G,er,h⟩=>hl (Wk.iff (show Wk (if (ap.endLine == cp.line)=true then _ else R.no) _ from h)).1
      have he:∀ ρ,evS (m+1) w Γ (.Expr (.Call (.Attribute (.Name x xp) meth ap) [a] [] cp) p) ρ=(methD m Γ x meth a ρ).th fun ρ1=>.ok (.next ρ1):=fun ρ=>by
       show (if (ap.endLine == cp.line)=true then _ else R.no)=_
       rw [if_pos hl]
      by_cases h1:meth = "append"
      ·subst h1;exact append_ok gd A x a xp ap cp p hl he
      by_cases h2:meth = "extend"
      ·subst h2;exact extend_ok gd A x a xp ap cp p hl he
      refine ps_none fun D σ H ⟨ρ,G,er,h⟩=>?_
      rw [he] at h
      have h:=Wk.th h
      unfold methD at h
      cases e1:ownAt Γ x ρ with
      | none=>rw [e1] at h;exact h
      | some q=>
       rw [e1] at h
       have h:=(Wk.nif (c:=starB a=true) h).2
       rw [if_neg h1,if_neg h2] at h
       exact h
     | []=>
      by_cases hl:(ap.endLine == cp.line)=true∧meth = "clear"
      case neg=>exact ps_none fun D σ H ⟨ρ,G,er,h⟩=>hl (Wk.iff (show Wk (if (ap.endLine == cp.line)=true∧meth = "clear" then _ else R.no) _ from h)).1
      obtain ⟨hl,rfl⟩:=hl
      refine clear_ok gd x xp ap cp p hl fun ρ=>?_
      show (if (ap.endLine == cp.line)=true∧("clear" : Str) = "clear" then _ else R.no)=_
      rw [if_pos ⟨hl,rfl⟩]
     | _::_::_=>exact gen fun _=>rfl
   | _=>exact gen fun _=>rfl
  | _=>exact gen fun _=>rfl
 | _=>exact gen fun _=>rfl
theorem s_ok (gs:Gs κ K k X Γ) (A:All κ K k X Γ m) (A1:All κ K k X Γ (m+1)) (S:AllS κ K X Γ m w) (st:Stmt):PS X st (tS κ K G₀ H₀ Γ (m+1) w st):=by
 cases st with
 | Pass p=>exact PS.imp ps_pass fun D σ H ⟨ρ,G,er,h⟩=>h σ G H er fun _ _ e=>e
 | Expr e p=>exact expr_ok gs.toGd A e p
 | Return o p=>
  cases o with
  | some e=>exact ret_ok gs.toGd A e p
  | none=>exact PS.imp ps_retN fun D σ H ⟨ρ,G,er,h⟩=>h .non G H er.base er.g0 er.sub er.fresh (by simp only [ReR,Rep])
 | Assign tgs e p=>
  cases tgs with
  | nil=>exact ps_none fun D σ H ⟨ρ,G,er,h⟩=>h
  | cons tg tgs=>
   cases tgs with
   | cons t2 tgs=>exact ps_none fun D σ H ⟨ρ,G,er,h⟩=>h
   | nil=>
    cases tg with
    | Name x xp=>exact set_ok gs A A1 x e xp p
    | Tuple es j tp=>exact tupset_ok gs.toGd A es j tp e p
    | Subscript o i sp=>
     cases o with
     | Name x xp=>exact subset_ok gs.toGd A x i e xp sp p
     | _=>exact ps_none fun D σ H ⟨ρ,G,er,h⟩=>h
    | _=>exact ps_none fun D σ H ⟨ρ,G,er,h⟩=>h
 | If c a b p=>exact if_ok A S c a b p
 | For tg it body orelse p=>
  cases orelse with
  | nil=>exact for_ok gs A S tg it body p
  | cons s l=>exact ps_none fun D σ H ⟨ρ,G,er,h⟩=>h
 | While c body orelse p=>
  cases orelse with
  | nil=>exact while_ok gs A S c body p
  | cons s l=>exact ps_none fun D σ H ⟨ρ,G,er,h⟩=>h
 | _=>exact ps_none fun D σ H ⟨ρ,G,er,h⟩=>h
theorem ss_ok (S:AllS κ K X Γ m w):∀ l,PSs X l (tSs κ K G₀ H₀ Γ (m+1) w l)
 | []=>PSs.imp pss_nil fun D σ H ⟨ρ,G,er,h⟩=>h σ G H er fun _ _ e=>e
 | st::l=>by
  refine PSs.imp (pss_cons (S.s G₀ H₀ st) (S.ss G₀ H₀ l)) fun D σ H ⟨ρ,G,er,h⟩=>?_
  refine ⟨ρ,G,er,Wk.mono (Wk.th (x:=evS m w Γ st ρ) h) fun f hf=>?_⟩
  cases f with
  | next ρ1=>exact fun σ1 G1 H1 er1 g1=>⟨ρ1,G1,er1,Wk.mono hf fun f hf=>hf.back g1⟩
  | ret r=>exact hf
theorem allS (gs:Gs κ K k X Γ):∀ m,AllS κ K X Γ m w
 | 0=>⟨fun _ _ st=>ps_none fun D σ H ⟨ρ,G,er,h⟩=>h,fun _ _ l=>pss_none fun D σ H ⟨ρ,G,er,h⟩=>h⟩
 | m+1=>
  have S:=allS gs m
  ⟨fun G₀ H₀ st=>s_ok gs (all m X Γ gs.toGd) (all (m+1) X Γ gs.toGd) S st,fun G₀ H₀ l=>ss_ok S l⟩
end
end DE
set_option maxHeartbeats 4000000
namespace DE
open PySem PySem.Spec PyProof.Rows L2
noncomputable def parN (st:Stmt):List Str:=(defArgs st).args.map (·.arg)
noncomputable def fnN (st:Stmt):List Str:=parN st++(defScope st).names.filterMap fun x=>if ((x.2 == .local||x.2 == .cell)&&!(parN st).contains x.1)=true then some x.1 else none
noncomputable def fnCheck (st:Stmt):Bool:=(defScope st).kind == .function&&!(defScope st).isCoroutine&&!(defScope st).isGenerator&&decide (fnN st).Nodup&&(parN st).all (locB (defScope st))&&(defScope st).names.all fun y=>y.2 != .free
noncomputable def toSl:Ar→Sl
 | .val d=>.val d
 | .bor l=>.bor l
 | .scr l=>.scr l
noncomputable def slotsOf (N:List Str) (args:List Ar):Env:=args.map toSl++List.replicate (N.length - args.length) .no
structure Pg where
 defs:List (Str×Stmt)
 gl:Str→Option D
 m:Nat
 w:Nat
 meths:List (Str×Stmt):=[]
 cs:Cs:=Cs.non
 nw:Nat→Str→List Ar→R Rv:=fun _ _ _=>.no
noncomputable def Pg.ct (pg:Pg) (k:Nat) (cl:Str→List Ar→R Rv) (st:Stmt):Ct:=⟨fnN st,defScope st,pg.defs.map (·.1),pg.gl,cl,pg.cs,pg.nw k⟩
noncomputable def flR:Fl→R Rv
 | .next _=>.ok (.val .non)
 | .ret r=>.ok r
noncomputable def evF (pg:Pg) (k:Nat) (cl:Str→List Ar→R Rv) (st:Stmt) (args:List Ar):R Rv:=
 if (fnCheck st&&args.length == (parN st).length)=true then (evSs pg.m pg.w (pg.ct k cl st) (defBody st) (slotsOf (fnN st) args)).th flR else .no
noncomputable def clK (pg:Pg):Nat→Str→List Ar→R Rv
 | 0,_,_=>.no
 | k+1,f,args=>match (pg.defs++pg.meths).lookup f with
  | some st=>evF pg k (clK pg k) st args
  | none=>.no
noncomputable def FnF (K:PySem.W.Frag) (mg:Str→Option Value) (f:Str) (st:Stmt):Prop:=∃ fa fd,Fun K f f st fa fd∧mg f=some (.ref fa)∧Binds K fd (parN st) []
inductive AllF (K:PySem.W.Frag) (mg:Str→Option Value):List (Str×Stmt)→Prop where
 | nil:AllF K mg []
 | cons {f:Str} {st:Stmt} {l:List (Str×Stmt)} (h:FnF K mg f st) (t:AllF K mg l):AllF K mg ((f,st)::l)
theorem AllF.mem {K:PySem.W.Frag} {mg:Str→Option Value}:∀ {l:List (Str×Stmt)} {f:Str} {st:Stmt},AllF K mg l→(f,st)∈l→FnF K mg f st
 | _,_,_,.nil,h=>by cases h
 | _,_,_,.cons h t,m=>by
  cases m with
  | head=>exact h
  | tail _ m=>exact t.mem m
noncomputable def FnAt (P:Program) (wd:World) (κ:KC) (K:PySem.W.Frag) (mg:Str→Option Value) (base:Heap) (pg:Pg) (k:Nat):Prop:=
 (∀ (f:Str) (st:Stmt),pg.defs.lookup f=some st→∃ fa fd,FnOk P wd K mg base CX0 k fa fd (parN st) (spF κ K (clK pg k) f)∧mg f=some (.ref fa)∧PySem.W.keepIn K (.ref fa)=true∧Binds K fd (parN st) [])∧
 ∀ (f:Str) (st:Stmt),pg.meths.lookup f=some st→pg.defs.lookup f=none→∀ nm fa fd,Fun K nm f st fa fd→FnOk P wd K mg base CX0 k fa fd (parN st) (spF κ K (clK pg k) f)
structure PgOk (κ:KC) (K:PySem.W.Frag) (mg:Str→Option Value) (pg:Pg):Prop where
 fn:AllF K mg pg.defs
 blt:∀ f∈bNames,mg f=none
 gl:∀ x d,pg.gl x=some d→∃ v u,mg x=some u∧RelV v u∧∀ G,Rep κ G d v
 cls:∀ c C,κ c=some C→Cls K C
 flds:∀ c x C,pg.cs.fld c x=true→κ c=some C→NoAttr K C x
 mts:∀ c x f,pg.cs.mt c x=some f→∃ C fa fd st nm,κ c=some C∧Meth K C x fa∧pg.meths.lookup f=some st∧pg.defs.lookup f=none∧Fun K nm f st fa fd∧Binds K fd (parN st) []
 mks:∀ P wd base k,(∀ j,j < k→FnAt P wd κ K mg base pg j)→∀ f,pg.cs.tab.contains f=true→(∀ args,pg.nw k f args=.no)∨∃ C fa fd ps sp,Mk K C fa∧FnOk P wd K mg base CX0 (k - 1) fa fd ps sp∧mg f=some (.ref C)∧Binds K fd ps []∧0 < k∧
  ∀ vs H Q,spF κ K (pg.nw k) f vs H Q E0→∀ x dx,H x=none→H dx=none→dx≠x→sp (.ref x::vs) (upd (upd H dx (.own x)) x (.ins C dx [])) (fun v H2=>v=.non∧Q (.ref x) H2) E0
 subs:∀ c t b,pg.cs.sub c t=some b→∃ C T,κ c=some C∧(∀ H p dx fs,H p=some (HO.ins C dx fs)→TyOf K H (.ref p) (.ref C))∧mg t=some (.ref T)∧PySem.W.kitOne K (.ref C) (.ref T)=some b
section
variable {P:Program} {wd:World} {κ:KC} {K:PySem.W.Frag} {mg:Str→Option Value} {base:Heap} {pg:Pg}
theorem ArRs.len {G H:Hp}:∀ {args:List Ar} {vs:List V},ArRs κ K G H args vs→args.length=vs.length
 | [],vs,h=>by simp only [ArRs] at h;subst h;rfl
 | a::l,vs,h=>by
  simp only [ArRs] at h
  obtain ⟨v,r,rfl,_,h2⟩:=h
  simp [ArRs.len h2]
theorem ArRs.at {G H:Hp}:∀ {args:List Ar} {vs:List V} {i:Nat} {a:Ar},ArRs κ K G H args vs→args[i]?=some a→∃ v,vs[i]?=some v∧ArR κ K G H a v
 | [],vs,i,a,h,e=>by simp at e
 | b::l,vs,0,a,h,e=>by
  simp only [ArRs] at h
  obtain ⟨v,r,rfl,h1,h2⟩:=h
  simp at e
  subst e
  exact ⟨v,rfl,h1⟩
 | b::l,vs,i+1,a,h,e=>by
  simp only [ArRs] at h
  obtain ⟨v,r,rfl,h1,h2⟩:=h
  obtain ⟨v',e1,e2⟩:=ArRs.at (i:=i) h2 (by simpa using e)
  exact ⟨v',by simpa using e1,e2⟩
theorem start_er {G H:Hp} {args:List Ar} {vs:List V} {N:List Str} (sub:Same G H) (h:ArRs κ K G H args vs):ER κ K G H G H (slotsOf N args) (L2.start N vs):=by
 have hl:=h.len
 refine ⟨by simp [slotsOf,L2.start,hl],sub,fun _ _ e=>e,fun _ _ e=>e,fun a o e=>.inl ⟨o,e⟩,fun i s e=>?_,fun i j a l n e1=>?_⟩
 ·unfold slotsOf at e
  unfold L2.start
  by_cases hi:i < args.length
  ·rw [List.getElem?_append_left (by simpa using hi),List.getElem?_map] at e
   obtain ⟨b,e1,rfl⟩:=Option.map_eq_some_iff.mp e
   obtain ⟨v,e2,e3⟩:=h.at e1
   rw [List.getElem?_append_left (by rw [List.length_map,←hl];exact hi),List.getElem?_map,e2]
   cases b with
   | val d=>exact ⟨v,rfl,e3⟩
   | bor l=>obtain ⟨a,xs,rfl,h1,h2⟩:=e3;exact ⟨a,xs,rfl,h1,h2⟩
   | scr l=>obtain ⟨a,xs,rfl,h1,h2⟩:=e3;exact ⟨a,xs,rfl,h1,h2⟩
  ·rw [List.getElem?_append_right (by simpa using hi)] at e
   have:s=.no:=by
    have:=List.mem_of_getElem? e
    exact List.eq_of_mem_replicate this
   subst this
   trivial
 ·exfalso
  unfold slotsOf at e1
  by_cases hi:i < args.length
  ·rw [List.getElem?_append_left (by simpa using hi),List.getElem?_map] at e1
   obtain ⟨b,_,z⟩:=Option.map_eq_some_iff.mp e1
   cases b<;>cases z
  ·rw [List.getElem?_append_right (by simpa using hi)] at e1
   have:=List.eq_of_mem_replicate (List.mem_of_getElem? e1)
   cases this
theorem fnScope_of {st:Stmt} (h:fnCheck st=true):FnScope (fnN st) (parN st) (defScope st):=by
 unfold fnCheck at h
 simp only [Bool.and_eq_true,Bool.not_eq_true',List.all_eq_true] at h
 obtain ⟨⟨⟨⟨⟨h1,h2⟩,h3⟩,h4⟩,h5⟩,h6⟩:=h
 refine ⟨by simpa using h1,h2,h3,of_decide_eq_true h4,by simp [fnN],fun x hx=>loc_is (h5 x hx),fun y hy=>by simpa using h6 y hy⟩
theorem clK_succ {k:Nat} {f:Str} {st:Stmt} {args:List Ar} (h:(pg.defs++pg.meths).lookup f=some st):clK pg (k+1) f args=evF pg k (clK pg k) st args:=by
 show (match (pg.defs++pg.meths).lookup f with | some st=>evF pg k (clK pg k) st args | none=>.no)=_
 rw [h]
theorem look_l {f:Str} {st:Stmt}:∀ {l m:List (Str×Stmt)},l.lookup f=some st→(l++m).lookup f=some st
 | [],m,h=>by cases h
 | (g,s)::l,m,h=>by
  rw [List.lookup_cons] at h
  rw [List.cons_append,List.lookup_cons]
  cases e:(f == g) with
  | true=>rw [e] at h;exact h
  | false=>rw [e] at h;exact look_l h
theorem look_r {f:Str}:∀ {l m:List (Str×Stmt)},l.lookup f=none→(l++m).lookup f=m.lookup f
 | [],m,h=>rfl
 | (g,s)::l,m,h=>by
  rw [List.lookup_cons] at h
  rw [List.cons_append,List.lookup_cons]
  cases e:(f == g) with
  | true=>rw [e] at h;cases h
  | false=>rw [e] at h;exact look_r h
theorem lookup_of {f:Str}:∀ {l:List (Str×Stmt)},(l.map (·.1)).contains f=true→∃ st,l.lookup f=some st
 | [],h=>by simp at h
 | (g,st)::l,h=>by
  by_cases e:f=g
  ·subst e;exact ⟨st,by simp [List.lookup_cons]⟩
  ·have hb:(f == g)=false:=by simpa using e
   obtain ⟨s,hs⟩:=lookup_of (l:=l) (f:=f) (by
    simp only [List.map_cons,List.contains_cons,hb,Bool.false_or] at h
    exact h)
   exact ⟨s,by rw [List.lookup_cons,hb];exact hs⟩
theorem fn_succ (ok:PgOk κ K mg pg) {k:Nat} (ih:∀ j,j≤k→FnAt P wd κ K mg base pg j) {nm f:Str} {st:Stmt} {fa:Addr} {fd:FuncData} (F:Fun K nm f st fa fd) (h:(pg.defs++pg.meths).lookup f=some st):FnOk P wd K mg base CX0 (k+1) fa fd (parN st) (spF κ K (clK pg (k+1)) f):=by
  by_cases hc:fnCheck st=true
  case neg=>
   have no:∀ {vs:List V} {H:Hp} {Q:VK} {E:XK},spF κ K (clK pg (k+1)) f vs H Q E→False:=fun {vs H Q E} ⟨G,args,_,_,z⟩=>by
    rw [clK_succ h] at z
    have:=(Wk.iff (show Wk (if (fnCheck st&&args.length == (parN st).length)=true then _ else R.no) _ from z)).1
    rw [Bool.and_eq_true] at this
    exact hc this.1
   exact ⟨fun vs H Q E z=>(no z).elim,fun A outer s H args us vs Q E _ _ _ _ z=>(no z).elim⟩
  refine F.ok (fnScope_of hc) (fun vs H Q E z=>?_) (fun cdv A outer s H vs Q E hr z=>?_)
  ·obtain ⟨G,args,_,ha,z⟩:=z
   rw [clK_succ h] at z
   have:=(Wk.iff (show Wk (if (fnCheck st&&args.length == (parN st).length)=true then _ else R.no) _ from z)).1
   rw [Bool.and_eq_true] at this
   rw [←ha.len]
   simpa using this.2
  ·obtain ⟨G,args,sub,ha,z⟩:=z
   rw [clK_succ h] at z
   have z:=(Wk.iff (show Wk (if (fnCheck st&&args.length == (parN st).length)=true then _ else R.no) _ from z)).2
   have S:=fnScope_of hc
   have gs:Gs κ K k (cxOf CX0 P wd K mg base (fnN st) f (defScope st) fa cdv A outer s H E).nox (pg.ct k (clK pg k) st):=
    {hN:=rfl
     vis:=fun x h=>vis_is h
     loc:=fun x h=>⟨loc_is h,.inl rfl⟩
     glo:=fun x h=>by
      have h:((defScope st).names.lookup x == some NameKind.globalImplicit)=true:=h
      exact (by simpa using h:(defScope st).names.lookup x=some .globalImplicit)
     cf:=fun x h=>h
     nd:=S.nd
     calm:=rfl
     hK:=rfl
     room:=hr
     fns:=fun g hg=>by
      obtain ⟨st',hl⟩:=lookup_of (l:=pg.defs) hg
      obtain ⟨ga,gd,G1,G2,G3,G4⟩:=(ih k (Nat.le_refl k)).1 g st' hl
      exact ⟨ga,gd,parN st',G1,G2,G3,G4⟩
     blt:=ok.blt
     gl:=ok.gl
     cls:=ok.cls
     flds:=ok.flds
     mts:=fun c x f h=>by
      obtain ⟨C,fa,fd,st',nm,m1,m2,m3,m4,m5,m6⟩:=ok.mts c x f h
      exact ⟨C,fa,fd,_,m1,m2,(ih k (Nat.le_refl k)).2 f st' m3 m4 nm fa fd m5,m6⟩
     mks:=ok.mks P wd base k fun j hj=>ih j (Nat.le_of_lt hj)
     subs:=ok.subs
     own:=PassesOwn.never
     sceq:=rfl
     fnk:=S.kind }
   refine ⟨_,(allS gs (w:=pg.w) pg.m).ss G H (defBody st),slotsOf (fnN st) args,G,start_er sub ha,Wk.mono (Wk.th z) fun fl hf=>?_⟩
   cases fl with
   | next ρ=>exact fun σ' G' H' er g'=>hf .non G' H' er.base er.g0 er.sub er.fresh (by simp only [ReR,Rep])
   | ret r=>exact hf
theorem fn_all (ok:PgOk κ K mg pg):∀ k j:Nat,j≤k→FnAt P wd κ K mg base pg j:=by
 have zero:FnAt P wd κ K mg base pg 0:=by
  refine ⟨fun f st h=>?_,fun f st h _ nm fa fd F=>⟨fun vs H Q E ⟨G,args,_,_,z⟩=>False.elim z,fun A outer s H args us vs Q E _ _ _ _ ⟨G,args',_,_,z⟩=>False.elim z⟩⟩
  obtain ⟨fa,fd,F,hm,hb⟩:=ok.fn.mem (PySem.mem_of_lookup h)
  exact ⟨fa,fd,⟨fun vs H Q E ⟨G,args,_,_,z⟩=>False.elim z,fun A outer s H args us vs Q E _ _ _ _ ⟨G,args',_,_,z⟩=>False.elim z⟩,hm,F.kp,hb⟩
 intro k
 induction k with
 | zero=>intro j hj;rw [Nat.le_zero.mp hj];exact zero
 | succ k ih=>
  intro j hj
  rcases Nat.lt_or_ge j (k+1) with h | h
  ·exact ih j (Nat.le_of_lt_succ h)
  ·obtain rfl:j=k+1:=Nat.le_antisymm hj h
   refine ⟨fun f st h=>?_,fun f st h h0 nm fa fd F=>?_⟩
   ·obtain ⟨fa,fd,F,hm,hb⟩:=ok.fn.mem (PySem.mem_of_lookup h)
    exact ⟨fa,fd,fn_succ ok ih F (look_l h),hm,F.kp,hb⟩
   ·exact fn_succ ok ih F ((look_r h0).trans h)
theorem ints_reps (G:Hp):∀ ns:List Int,Reps κ G (ns.map D.int) (ns.map V.int)
 | []=>.nil
 | n::ns=>.cons (by simp only [Rep]) (ints_reps G ns)
theorem law_of {st:Stmt} {k:Nat} {fa:Addr} {fd:FuncData} (ok:PgOk κ K mg pg) (F:Fun K "law" "law" st fa fd) (hl:pg.defs.lookup ("law" : Str)=some st) (hp:parN st=(["_law_script"]:List Str)) :
  FnOk P wd K mg base CX0 (k+1) fa fd (["_law_script"]:List Str) (spF κ K (clK pg (k+1)) "law"):=by
 have:=fn_succ (P:=P) (wd:=wd) (base:=base) ok (fn_all ok k) F (look_l hl)
 rw [hp] at this
 exact this
theorem law_sp {k:Nat} {H:Hp} {a:Addr} {ns:List Int} (hq:SqL K H a (ns.map V.int)) (h:clK pg k "law" [.scr (ns.map D.int)]=.ok (.val (.bl true))):spF κ K (clK pg k) "law" [.ref a] H (fun v _=>v=.bl true) fun _ _ _=>False:=by
 refine ⟨fun _=>none,[.scr (ns.map D.int)],fun _ _ e=>(by cases e),⟨_,_,rfl,⟨a,_,rfl,hq,ints_reps _ ns⟩,rfl⟩,?_⟩
 rw [h]
 intro v G' H' _ _ _ _ r
 simpa only [ReR,Rep] using r
end
end DE
set_option maxHeartbeats 4000000
namespace DE
open PySem L2
inductive B1 where
 | len | list | int | srt | sum
inductive B2 where
 | max | min
inductive Ty where
 | int | bool | str | list | tuple
inductive Tg where
 | one (i:Nat) | many (l:List Nat)
structure Cl where
 f:Str→List Ar→R Rv
 cs:Cs
 nw:Str→List Ar→R Rv
instance:CoeFun Cl (fun _=>Str→List Ar→R Rv):=⟨Cl.f⟩
mutual
inductive E where
 | var (i:Nat) | con (d:D) | bin (op:Operator) (a b:E) | neg (a:E) | not (a:E) | one (a:E) | and (a b:E) | or (a b:E) | cmp (op:CmpOp) (a b:E) | ite (c:T) (a b:E)
 | idx (a i:E) | sli (a:E) (lo hi:O) | lst (l:Es) | tup (l:Es) | call (f:Str) (l:Es) | b1 (f:B1) (a:E) | b2 (f:B2) (a b:E) | isi (t:Ty) (a:E) | isc (t:Str) (a:E) | fld (a:E) (x:Str) | met (a:E) (x:Str) (l:Es) | new (f:Str) (l:Es) | comp (x:E) (src:I) (tg:Tg) (c:F) (n:Nat) (fr:List Nat)
inductive Es where
 | nil | cons (a:E) (l:Es)
inductive T where
 | not (a:T) | one (a:T) | and (a b:T) | or (a b:T) | cmp (op:CmpOp) (a b:E) | val (a:E)
inductive O where
 | none | some (a:E)
inductive F where
 | yes | test (c:T)
inductive I where
 | seq (a:E) | rng (a:E) | rng2 (a b:E) | enum (a:E) | zip (a b:E)
end
noncomputable def slR (ρ:Env) (i:Nat):R Rv:=match ρ[i]? with
 | some (.val d)=>.ok (.val d)
 | some (.own l)=>.ok (.cell l)
 | some (.bor l)=>.ok (.cell l)
 | some (.scr l)=>.ok (.scr l)
 | _=>.no
noncomputable def slE (ρ:Env) (i:Nat):R (D×Env):=match ρ[i]? with
 | some (.val d)=>.ok (d,ρ)
 | some (.own l)=>.ok (.lst l,ρ.set i (.val (.lst l)))
 | _=>.no
noncomputable def slL (ρ:Env) (i:Nat):R ((Sk×List D)×Env):=match ρ[i]? with
 | some (.val (.lst l))=>.ok ((.lst,l),ρ)
 | some (.val (.tup l))=>.ok ((.tup,l),ρ)
 | some (.val (.str z))=>.ok ((.str,sigD z),ρ)
 | some (.own l)=>.ok ((.lst,l),ρ.set i (.val (.lst l)))
 | some (.bor l)=>.ok ((.lst,l),ρ)
 | some (.scr l)=>.ok ((.lst,l),ρ)
 | _=>.no
noncomputable def slX (ρ:Env) (i:Nat):R Rv:=match ρ[i]? with
 | some (.val d)=>.ok (.val d)
 | some (.own l)=>.ok (.tmp l)
 | _=>.no
noncomputable def B1.go:B1→Rv→R Rv
 | .len=>lenD
 | .list=>listD
 | .int=>intD
 | .srt=>sortedD
 | .sum=>sumD
noncomputable def B2.go:B2→Rv→Rv→R Rv
 | .max=>maxD
 | .min=>minD
noncomputable def Ty.of:Ty→D→Option Bool
 | _,.ins ..=>none
 | .int,.int _=>some true
 | .int,.bl _=>some true
 | .bool,.bl _=>some true
 | .str,.str _=>some true
 | .list,.lst _=>some true
 | .tuple,.tup _=>some true
 | _,_=>some false
noncomputable def Ty.go (t:Ty):Rv→Option Bool
 | .scr _=>none
 | r=>t.of r.data
noncomputable def setIs:List Nat→List D→Env→R Env
 | [],[],ρ=>.ok ρ
 | i::l,d::ds,ρ=>setIs l ds (ρ.set i (.val d))
 | _,_,_=>.no
noncomputable def Tg.go:Tg→D→Env→R Env
 | .one i,d,ρ=>.ok (ρ.set i (.val d))
 | .many l,.tup ds,ρ=>setIs l ds ρ
 | _,_,_=>.no
noncomputable def toAr:Rv→Ar
 | .val d=>.val d
 | .tmp l=>.val (.lst l)
 | .cell l=>.bor l
 | .scr l=>.scr l
noncomputable def iBlk (n:Nat) (fr:List Nat) (ρ:Env):Env:=List.replicate n Sl.no++fr.map fun i=>lend (ρ.getD i .no)
noncomputable def valE (x:Rv×Env):R (D×Env):=match x.1 with
 | .val d=>.ok (d,x.2)
 | .tmp l=>.ok (.lst l,x.2)
 | _=>.no
noncomputable def valL (x:Rv×Env):R ((Sk×List D)×Env):=match x.1 with
 | .val (.lst l)=>.ok ((.lst,l),x.2)
 | .val (.tup l)=>.ok ((.tup,l),x.2)
 | .val (.str z)=>.ok ((.str,sigD z),x.2)
 | .tmp l=>.ok ((.lst,l),x.2)
 | _=>.no
noncomputable def escE (e:E) (r:Env→R (Rv×Env)) (ρ:Env):R (D×Env):=match e with
 | .var i=>slE ρ i
 | .con d=>.ok (d,ρ)
 | _=>(r ρ).th valE
noncomputable def escL (e:E) (r:Env→R (Rv×Env)) (ρ:Env):R ((Sk×List D)×Env):=match e with
 | .var i=>slL ρ i
 | _=>(r ρ).th valL
mutual
noncomputable def iR (cl:Cl):E→Env→R (Rv×Env)
 | .var i,ρ=>(slR ρ i).th fun r=>.ok (r,ρ)
 | .con d,ρ=>.ok (.val d,ρ)
 | .bin op a b,ρ=>(iR cl a ρ).th fun x=>(iR cl b x.2).th fun y=>(binD op x.1 y.1).th fun r=>.ok (r,y.2)
 | .neg a,ρ=>(iR cl a ρ).th fun x=>match x.1 with
  | .val (.int i)=>.ok (.val (.int (-i)),x.2)
  | _=>.no
 | .not a,ρ=>(iR cl a ρ).th fun x=>match x.1 with
  | .val (.bl b)=>.ok (.val (.bl (!b)),x.2)
  | _=>.no
 | .one a,ρ=>iR cl a ρ
 | .and a b,ρ=>(iR cl a ρ).th fun x=>match x.1 with
  | .val (.bl true)=>iR cl b x.2
  | .val (.bl false)=>.ok (.val (.bl false),x.2)
  | _=>.no
 | .or a b,ρ=>(iR cl a ρ).th fun x=>match x.1 with
  | .val (.bl false)=>iR cl b x.2
  | .val (.bl true)=>.ok (.val (.bl true),x.2)
  | _=>.no
 | .cmp op a b,ρ=>(iR cl a ρ).th fun x=>(iR cl b x.2).th fun y=>(R.of (cmpD op x.1 y.1)).th fun r=>.ok (.val (.bl r),y.2)
 | .ite c a b,ρ=>(iT cl c ρ).th fun t=>if t.1 then iR cl a t.2 else iR cl b t.2
 | .idx a i,ρ=>(iR cl a ρ).th fun x=>(iR cl i x.2).th fun y=>(idxD x.1 y.1).th fun r=>.ok (r,y.2)
 | .sli a lo hi,ρ=>(iR cl a ρ).th fun x=>(iO cl lo x.2).th fun l=>(iO cl hi l.2).th fun h=>(sliceD x.1 l.1 h.1).th fun r=>.ok (r,h.2)
 | .lst l,ρ=>(iEs cl l ρ).th fun x=>if x.1.length≤sizeLine then .ok (.tmp x.1,x.2) else .no
 | .tup l,ρ=>(iEs cl l ρ).th fun x=>if x.1.length≤sizeLine then .ok (.val (.tup x.1),x.2) else .no
 | .call f l,ρ=>(iAs cl l ρ).th fun x=>(cl f x.1).th fun r=>.ok (r,x.2)
 | .b1 f a,ρ=>(iR cl a ρ).th fun x=>(f.go x.1).th fun r=>.ok (r,x.2)
 | .b2 f a b,ρ=>(iR cl a ρ).th fun x=>(iR cl b x.2).th fun y=>(f.go x.1 y.1).th fun r=>.ok (r,y.2)
 | .isi t a,ρ=>(iR cl a ρ).th fun x=>(R.of (t.go x.1)).th fun b=>.ok (.val (.bl b),x.2)
 | .isc t a,ρ=>(iR cl a ρ).th fun x=>(R.of (isiG cl.cs x.1 t)).th fun b=>.ok (.val (.bl b),x.2)
 | .fld a x,ρ=>(iR cl a ρ).th fun y=>(R.of (fldD cl.cs y.1 x)).th fun d=>.ok (.val d,y.2)
 | .met a x l,ρ=>(iR cl a ρ).th fun y=>(R.of (mtD cl.cs y.1 x)).th fun f=>(iAs cl l y.2).th fun z=>(cl f (toAr y.1::z.1)).th fun r=>.ok (r,z.2)
 | .new f l,ρ=>(iAs cl l ρ).th fun x=>(cl.nw f x.1).th fun r=>.ok (r,x.2)
 | .comp e src tg c n fr,ρ=>(iI cl src ρ).th fun x=>if x.1.length≤sizeLine then (compL tg.go (fun ρ1=>iF cl c ρ1) (escE e (iR cl e)) x.1 (iBlk n fr x.2) []).th fun l=>.ok (.tmp l,x.2) else .no
noncomputable def iT (cl:Cl):T→Env→R (Bool×Env)
 | .not a,ρ=>(iT cl a ρ).th fun t=>.ok (!t.1,t.2)
 | .one a,ρ=>iT cl a ρ
 | .and a b,ρ=>(iT cl a ρ).th fun t=>if t.1 then iT cl b t.2 else .ok (false,t.2)
 | .or a b,ρ=>(iT cl a ρ).th fun t=>if t.1 then .ok (true,t.2) else iT cl b t.2
 | .cmp op a b,ρ=>(iR cl a ρ).th fun x=>(iR cl b x.2).th fun y=>(R.of (cmpD op x.1 y.1)).th fun r=>.ok (r,y.2)
 | .val a,ρ=>(iR cl a ρ).th fun x=>(R.of (truthD x.1)).th fun b=>.ok (b,x.2)
noncomputable def iEs (cl:Cl):Es→Env→R (List D×Env)
 | .nil,ρ=>.ok ([],ρ)
 | .cons e l,ρ=>(escE e (iR cl e) ρ).th fun x=>(iEs cl l x.2).th fun y=>.ok (x.1::y.1,y.2)
noncomputable def iAs (cl:Cl):Es→Env→R (List Ar×Env)
 | .nil,ρ=>.ok ([],ρ)
 | .cons e l,ρ=>(iR cl e ρ).th fun x=>(iAs cl l x.2).th fun y=>.ok (toAr x.1::y.1,y.2)
noncomputable def iO (cl:Cl):O→Env→R (Option Int×Env)
 | .none,ρ=>.ok (none,ρ)
 | .some e,ρ=>(iR cl e ρ).th fun x=>match x.1 with
  | .val (.int i)=>.ok (some i,x.2)
  | _=>.no
noncomputable def iF (cl:Cl):F→Env→R (Bool×Env)
 | .yes,ρ=>.ok (true,ρ)
 | .test c,ρ=>iT cl c ρ
noncomputable def iI (cl:Cl):I→Env→R (List D×Env)
 | .seq a,ρ=>(escL a (iR cl a) ρ).th fun x=>.ok (x.1.2,x.2)
 | .rng a,ρ=>(iR cl a ρ).th fun x=>(match x.1.int? with
  | some n=>if smallI n=true then .ok (rangeD 0 n,x.2) else .no
  | none=>.no)
 | .rng2 a b,ρ=>(iR cl a ρ).th fun x=>(iR cl b x.2).th fun y=>(match x.1.int?,y.1.int? with
  | some i,some j=>if smallI i=true∧smallI j=true then .ok (rangeD i j,y.2) else .no
  | _,_=>.no)
 | .enum a,ρ=>(escL a (iR cl a) ρ).th fun x=>match x.1.1 with | .lst=>.ok (enumD x.1.2,x.2) | _=>.no
 | .zip a b,ρ=>(escL a (iR cl a) ρ).th fun x=>(escL b (iR cl b) x.2).th fun y=>match x.1.1,y.1.1 with | .lst,.lst=>.ok (zipD x.1.2 y.1.2,y.2) | _,_=>.no
end
end DE
set_option maxHeartbeats 4000000
namespace DE
open PySem L2
noncomputable def o2 {α β γ:Type} (a:Option α) (b:Option β) (f:α→β→γ):Option γ:=match a,b with
 | some x,some y=>some (f x y)
 | _,_=>none
theorem o2_some {α β γ:Type} {a:Option α} {b:Option β} {f:α→β→γ} {z:γ} (h:o2 a b f=some z):∃ x y,a=some x∧b=some y∧f x y=z:=by
 cases a with
 | none=>cases h
 | some x=>
  cases b with
  | none=>cases h
  | some y=>exact ⟨x,y,rfl,rfl,Option.some.inj h⟩
noncomputable def oif {α:Type} (c:Bool) (a:Option α):Option α:=match c with
 | true=>a
 | false=>none
theorem oif_some {α:Type} {c:Bool} {a:Option α} {z:α} (h:oif c a=some z):c=true∧a=some z:=by
 cases c with
 | true=>exact ⟨rfl,h⟩
 | false=>cases h
noncomputable def Ct.k (Γ:Ct):Cl:=⟨Γ.cl,Γ.cs,Γ.nw⟩
noncomputable def cName (Γ:Ct) (x:Str):Option E:=oif (nameOk x) (match ixOf Γ.N x with
 | some i=>oif (visB Γ.sc x) (some (.var i))
 | none=>oif (glB Γ.sc x) ((Γ.gl x).map .con))
noncomputable def cConst:Const→Option E
 | .none=>some (.con .non)
 | .bool b=>some (.con (.bl b))
 | .int i=>some (.con (.int i))
 | .str s=>some (.con (.str s))
 | _=>none
noncomputable def tyOf (t:Str):Option Ty:=if t = "int" then some .int else if t = "bool" then some .bool else if t = "str" then some .str else if t = "list" then some .list else if t = "tuple" then some .tuple else none
noncomputable def b1Of (f:Str):Option B1:=if f = "len" then some .len else if f = "list" then some .list else if f = "int" then some .int else if f = "sorted" then some .srt else if f = "sum" then some .sum else none
noncomputable def b2Of (f:Str):Option B2:=if f = "max" then some .max else if f = "min" then some .min else none
noncomputable def cSet (Γ:Ct) (x:Str):Option Nat:=oif (locB Γ.sc x&&nameOk x) (ixOf Γ.N x)
noncomputable def cSets (Γ:Ct):List Str→Option (List Nat)
 | []=>some []
 | x::l=>o2 (cSet Γ x) (cSets Γ l) (· :: ·)
noncomputable def cTg (Γ:Ct) (tg:Expr):Option Tg:=match tg with
 | .Name x _=>(cSet Γ x).map .one
 | .Tuple es j p=>oif (!es.any starB) (match tgNames (.Tuple es j p) with
  | some xs=>(cSets Γ xs).map .many
  | none=>none)
 | _=>none
noncomputable def noVar:E→Option E
 | .var _=>none
 | e=>some e
mutual
noncomputable def cE:Nat→Ct→Expr→Option E
 | 0,_,_=>none
 | m+1,Γ,e=>match e with
  | .Name x _=>cName Γ x
  | .Constant c _ _=>cConst c
  | .BinOp a op b _=>o2 (cE m Γ a) (cE m Γ b) (E.bin op)
  | .UnaryOp .USub a _=>(cE m Γ a).map .neg
  | .UnaryOp .Not a _=>(cE m Γ a).map .not
  | .BoolOp _ [a] _=>(cE m Γ a).map .one
  | .BoolOp .And (a::b::l) p=>o2 (cE m Γ a) (cE m Γ (.BoolOp .And (b::l) p)) .and
  | .BoolOp .Or (a::b::l) p=>o2 (cE m Γ a) (cE m Γ (.BoolOp .Or (b::l) p)) .or
  | .Compare a [op] [b] _=>oif (!behindInMarks op b) (o2 (cE m Γ a) (cE m Γ b) (E.cmp op))
  | .IfExp c a b _=>o2 (cT m Γ c) (o2 (cE m Γ a) (cE m Γ b) Prod.mk) fun c p=>.ite c p.1 p.2
  | .Subscript a (.Slice lo hi none _) _=>o2 (cE m Γ a) (o2 (cO m Γ lo) (cO m Γ hi) Prod.mk) fun a p=>.sli a p.1 p.2
  | .Subscript a (.Slice _ _ (some _) _) _=>none
  | .Subscript a i _=>o2 (cE m Γ a) (cE m Γ i) .idx
  | .List es _=>(cEs m Γ es).map .lst
  | .Tuple es _ _=>(cEs m Γ es).map .tup
  | .Call (.Name f p) es [] _=>oif (nameOk f&&glB Γ.sc f&&(ixOf Γ.N f).isNone) (
    if f = "isinstance" then (match es with
     | [a,b]=>(match b with
      | .Name t _=>oif (nameOk t&&glB Γ.sc t&&(ixOf Γ.N t).isNone&&!starB a) (match tyOf t with | some y=>(cE m Γ a).map (.isi y) | none=>(cE m Γ a).map (.isc t))
      | _=>none)
     | _=>none)
    else if Γ.tab.contains f=true then (cAs m Γ es).map (.call f)
    else if Γ.cs.tab.contains f=true then (cAs m Γ es).map (.new f)
    else match es with
     | [a]=>oif (!starB a) (o2 (b1Of f) (cE m Γ a) .b1)
     | [a,b]=>oif (!(starB a||starB b)) (o2 (b2Of f) (o2 (cE m Γ a) (cE m Γ b) Prod.mk) fun f p=>.b2 f p.1 p.2)
     | _=>none)
  | .Attribute o x _=>oif (plainO o) ((cE m Γ o).map fun a=>.fld a x)
  | .Call (.Attribute o x ap) es [] q=>oif (plainO o&&(ap.endLine == q.line)&&decide (es.length < 30)) (o2 (cE m Γ o) (cAs m Γ es) fun a l=>.met a x l)
  | .ListComp elt [g] sc _=>oif (decide (g.is_async=0)) (match tgNames g.target with
   | some own=>oif (blkCheck Γ.sc Γ.N (frOf Γ.N sc) sc&&decide (own++(frOf Γ.N sc).map fun i=>Γ.N.getD i "").Nodup&&foldOk g.iter)
     (o2 (o2 (cI m Γ (tupB g.target) g.iter) (cTg { Γ with N:=own++(frOf Γ.N sc).map fun i=>Γ.N.getD i "",sc:=sc } g.target) Prod.mk)
      (o2 (cF m { Γ with N:=own++(frOf Γ.N sc).map fun i=>Γ.N.getD i "",sc:=sc } g.ifs) (cX m { Γ with N:=own++(frOf Γ.N sc).map fun i=>Γ.N.getD i "",sc:=sc } elt) Prod.mk)
      fun p q=>.comp q.2 p.1 p.2 q.1 own.length (frOf Γ.N sc))
   | none=>none)
  | _=>none
noncomputable def cX:Nat→Ct→Expr→Option E
 | 0,_,_=>none
 | m+1,Γ,e=>match e with
  | .Name x _=>cName Γ x
  | e=>(cE m Γ e).bind noVar
noncomputable def cT:Nat→Ct→Expr→Option T
 | 0,_,_=>none
 | m+1,Γ,e=>match e with
  | .UnaryOp .Not a _=>(cT m Γ a).map .not
  | .BoolOp _ [a] _=>(cT m Γ a).map .one
  | .BoolOp .And (a::b::l) p=>o2 (cT m Γ a) (cT m Γ (.BoolOp .And (b::l) p)) .and
  | .BoolOp .Or (a::b::l) p=>o2 (cT m Γ a) (cT m Γ (.BoolOp .Or (b::l) p)) .or
  | .BoolOp _ [] _=>none
  | .IfExp ..=>none
  | .Compare a [op] [b] _=>oif (!behindInMarks op b) (o2 (cE m Γ a) (cE m Γ b) (T.cmp op))
  | .Compare ..=>none
  | e=>(cE m Γ e).map .val
noncomputable def cEs:Nat→Ct→List Expr→Option Es
 | 0,_,_=>none
 | m+1,Γ,es=>match es with
  | []=>some .nil
  | e::l=>oif (!starB e) (o2 (cX m Γ e) (cEs m Γ l) .cons)
noncomputable def cAs:Nat→Ct→List Expr→Option Es
 | 0,_,_=>none
 | m+1,Γ,es=>match es with
  | []=>some .nil
  | e::l=>oif (!starB e) (o2 (cE m Γ e) (cAs m Γ l) .cons)
noncomputable def cO:Nat→Ct→Option Expr→Option O
 | 0,_,_=>none
 | m+1,Γ,o=>match o with
  | none=>some .none
  | some e=>(cE m Γ e).map .some
noncomputable def cF:Nat→Ct→List Expr→Option F
 | 0,_,_=>none
 | m+1,Γ,es=>match es with
  | []=>some .yes
  | [c]=>(cT m Γ c).map .test
  | _=>none
noncomputable def cL:Nat→Ct→Expr→Option E
 | 0,_,_=>none
 | m+1,Γ,e=>match e with
  | .Name x _=>oif (nameOk x&&visB Γ.sc x) ((ixOf Γ.N x).map .var)
  | e=>(cE m Γ e).bind noVar
noncomputable def cI:Nat→Ct→Bool→Expr→Option I
 | 0,_,_,_=>none
 | m+1,Γ,tb,e=>match e with
  | .Call (.Name f p) es [] q=>if f = "range" || f = "enumerate" || f = "zip" then oif (nameOk f&&glB Γ.sc f&&(ixOf Γ.N f).isNone) (match es with
    | [a]=>oif (!starB a) (if f = "range" then (cE m Γ a).map .rng else if f = "enumerate" then oif tb ((cL m Γ a).map .enum) else none)
    | [a,b]=>oif (!(starB a||starB b)) (if f = "range" then o2 (cE m Γ a) (cE m Γ b) .rng2 else if f = "zip" then oif tb (o2 (cL m Γ a) (cL m Γ b) .zip) else none)
    | _=>none)
   else (cL m Γ (.Call (.Name f p) es [] q)).map .seq
  | e=>(cL m Γ e).map .seq
end
structure Same2 (m:Nat):Prop where
 r:∀ Γ e x,cE m Γ e=some x→∀ ρ,evR m Γ e ρ=iR Γ.k x ρ
 e:∀ Γ e x,cX m Γ e=some x→∀ ρ,evE m Γ e ρ=escE x (iR Γ.k x) ρ
 t:∀ Γ e x,cT m Γ e=some x→∀ ρ,evT m Γ e ρ=iT Γ.k x ρ
 es:∀ Γ e x,cEs m Γ e=some x→∀ ρ,evEs m Γ e ρ=iEs Γ.k x ρ
 as:∀ Γ e x,cAs m Γ e=some x→∀ ρ,evAs m Γ e ρ=iAs Γ.k x ρ
 o:∀ Γ e x,cO m Γ e=some x→∀ ρ,evO m Γ e ρ=iO Γ.k x ρ
 f:∀ Γ e x,cF m Γ e=some x→∀ ρ,evIf m Γ e ρ=iF Γ.k x ρ
 l:∀ Γ e x,cL m Γ e=some x→∀ ρ,evL m Γ e ρ=escL x (iR Γ.k x) ρ
 i:∀ Γ tb e x,cI m Γ tb e=some x→∀ ρ,evI m Γ tb e ρ=iI Γ.k x ρ
theorem map_some {α β:Type} {o:Option α} {f:α→β} {z:β} (h:o.map f=some z):∃ x,o=some x∧f x=z:=Option.map_eq_some_iff.mp h
section
variable {m:Nat} {Γ:Ct}
theorem name_same {x:Str} {z:E} (h:cName Γ x=some z) (ρ:Env):((nameR Γ x ρ).th fun r=>R.ok (r,ρ))=iR Γ.k z ρ∧nameE Γ x ρ=escE z (iR Γ.k z) ρ:=by
 unfold cName at h
 obtain ⟨h1,h⟩:=oif_some h
 unfold nameR nameE
 rw [if_pos h1,if_pos h1]
 cases hi:ixOf Γ.N x with
 | some i=>
  rw [hi] at h
  obtain ⟨h2,h⟩:=oif_some h
  cases h
  dsimp only
  rw [if_pos h2,if_pos h2]
  exact ⟨rfl,rfl⟩
 | none=>
  rw [hi] at h
  obtain ⟨h2,h⟩:=oif_some h
  obtain ⟨d,h3,rfl⟩:=map_some h
  dsimp only
  rw [if_pos h2,if_pos h2,h3]
  exact ⟨rfl,rfl⟩
theorem ty_same {t:Str} {y:Ty} (h:tyOf t=some y) (r:Rv):isiR r t=y.go r:=by
 unfold tyOf at h
 have main:∀ d:D,isiD d t=y.of d:=fun d=>by
  split at h
  ·rename_i e;cases h;subst e;cases d<;>rfl
  split at h
  ·rename_i e;cases h;subst e;cases d<;>rfl
  split at h
  ·rename_i e;cases h;subst e;cases d<;>rfl
  split at h
  ·rename_i e;cases h;subst e;cases d<;>rfl
  split at h
  ·rename_i e;cases h;subst e;cases d<;>rfl
  cases h
 cases r with
 | val d=>exact main d
 | tmp l=>exact main (.lst l)
 | cell l=>exact main (.lst l)
 | scr l=>rfl
theorem b1_same {f:Str} {b:B1} (h:b1Of f=some b) (r:Rv):call1 f r=b.go r:=by
 unfold b1Of at h
 unfold call1
 by_cases h1:f = "len"
 ·rw [if_pos h1] at h ⊢;cases h;rfl
 by_cases h2:f = "list"
 ·rw [if_neg h1,if_pos h2] at h ⊢;cases h;rfl
 by_cases h3:f = "int"
 ·rw [if_neg h1,if_neg h2,if_pos h3] at h ⊢;cases h;rfl
 by_cases h4:f = "sorted"
 ·rw [if_neg h1,if_neg h2,if_neg h3,if_pos h4] at h ⊢;cases h;rfl
 by_cases h5:f = "sum"
 ·rw [if_neg h1,if_neg h2,if_neg h3,if_neg h4,if_pos h5] at h ⊢;cases h;rfl
 rw [if_neg h1,if_neg h2,if_neg h3,if_neg h4,if_neg h5] at h
 cases h
theorem b2_same {f:Str} {b:B2} (h:b2Of f=some b) (r s:Rv):call2 f r s=b.go r s:=by
 unfold b2Of at h
 split at h
 ·rename_i e;cases h;subst e;rfl
 split at h
 ·rename_i e;cases h;subst e;rfl
 cases h
theorem set_same {x:Str} {i:Nat} (h:cSet Γ x=some i) (d:D) (ρ:Env):setN Γ x d ρ=.ok (ρ.set i (.val d)):=by
 unfold cSet at h
 obtain ⟨h1,h2⟩:=oif_some h
 unfold setN
 rw [h2]
 show (if (locB Γ.sc x&&nameOk x)=true then R.ok (ρ.set i (.val d)) else .no)=_
 rw [if_pos h1]
theorem sets_same:∀ {xs:List Str} {l:List Nat},cSets Γ xs=some l→∀ (ds:List D) (ρ:Env),setNs Γ xs ds ρ=setIs l ds ρ
 | [],l,h,ds,ρ=>by cases h;cases ds<;>rfl
 | x::xs,l,h,ds,ρ=>by
  obtain ⟨i,l',h1,h2,rfl⟩:=o2_some h
  cases ds with
  | nil=>rfl
  | cons d ds=>
   show (setN Γ x d ρ).th (fun ρ1=>setNs Γ xs ds ρ1)=setIs l' ds (ρ.set i (.val d))
   rw [set_same h1]
   exact sets_same h2 ds _
theorem tg_same {tg:Expr} {t:Tg} (h:cTg Γ tg=some t) (d:D) (ρ:Env):asgD Γ tg d ρ=t.go d ρ:=by
 cases tg with
 | Name x p=>
  obtain ⟨i,h1,rfl⟩:=map_some h
  exact set_same h1 d ρ
 | Tuple es j p=>
  obtain ⟨h1,h⟩:=oif_some h
  cases hx:tgNames (.Tuple es j p) with
  | none=>rw [hx] at h;cases h
  | some xs=>
   rw [hx] at h
   obtain ⟨l,h2,rfl⟩:=map_some h
   show (R.of (tgNames (.Tuple es j p))).th _=_
   rw [hx]
   cases d with
   | tup ds=>
    show (if es.any starB=true then R.no else setNs Γ xs ds ρ)=setIs l ds ρ
    rw [if_neg (by simpa using h1)]
    exact sets_same h2 ds ρ
   | _=>rfl
 | _=>cases h
theorem noVar_some {e z:E} (h:noVar e=some z):e=z∧∀ i,z≠.var i:=by
 cases e<;>cases h<;>exact ⟨rfl,fun i z=>by cases z⟩
theorem escE_of {z:E} (h:∀ i,z≠.var i) (cl:Cl) (ρ:Env):escE z (iR cl z) ρ=(iR cl z ρ).th valE:=by
 cases z<;>first | rfl | exact absurd rfl (h _)
theorem escL_of {z:E} (h:∀ i,z≠.var i) (cl:Cl) (ρ:Env):escL z (iR cl z) ρ=(iR cl z ρ).th valL:=by
 cases z<;>first | rfl | exact absurd rfl (h _)
theorem compL_same {a a':D→Env→R Env} {t t':Env→R (Bool×Env)} {e e':Env→R (D×Env)} (ha:∀ d ρ,a d ρ=a' d ρ) (ht:∀ ρ,t ρ=t' ρ) (he:∀ ρ,e ρ=e' ρ) (l:List D) (ρ:Env) (acc:List D):compL a t e l ρ acc=compL a' t' e' l ρ acc:=by
 have h1:a=a':=funext fun d=>funext fun ρ=>ha d ρ
 have h2:t=t':=funext ht
 have h3:e=e':=funext he
 rw [h1,h2,h3]
end
end DE
set_option maxHeartbeats 4000000
namespace DE
open PySem L2
theorem th_congr {α β:Type} {x y:R α} {f g:α→R β} (h:x=y) (i:∀ a,f a=g a):x.th f=y.th g:=by
 subst h
 cases x with
 | ok a=>exact i a
 | _=>rfl
theorem ar_same (r:Rv):r.ar=toAr r:=by cases r<;>rfl
theorem tyG_same {cs:Cs} {t:Str} {y:Ty} (h:tyOf t=some y) (r:Rv):isiG cs r t=y.go r:=by
 have gen:isiR r t=y.go r:=by rw [ty_same h]
 cases r with
 | val d=>
  cases d with
  | ins c ns ds=>
   have hb:bty.contains t=true:=by
    unfold tyOf at h
    by_cases h1:t = "int"
    ·subst h1;decide
    by_cases h2:t = "bool"
    ·subst h2;decide
    by_cases h3:t = "str"
    ·subst h3;decide
    by_cases h4:t = "list"
    ·subst h4;decide
    by_cases h5:t = "tuple"
    ·subst h5;decide
    rw [if_neg h1,if_neg h2,if_neg h3,if_neg h4,if_neg h5] at h
    cases h
   show (if bty.contains t=true then none else cs.sub c t)=_
   rw [if_pos hb]
   cases y<;>rfl
  | _=>exact gen
 | _=>exact gen
section
variable {m:Nat}
theorem r_same (S:Same2 m) (Γ:Ct) (e:Expr) (x:E) (h:cE (m+1) Γ e=some x) (ρ:Env):evR (m+1) Γ e ρ=iR Γ.k x ρ:=by
 cases e with
 | Name y p=>exact (name_same h ρ).1
 | Constant c j p=>cases c<;>cases h<;>rfl
 | BinOp a op b p=>
  obtain ⟨a',b',h1,h2,rfl⟩:=o2_some h
  exact th_congr (S.r Γ a a' h1 ρ) fun x=>th_congr (S.r Γ b b' h2 x.2) fun y=>rfl
 | UnaryOp op a p=>
  cases op with
  | USub=>obtain ⟨a',h1,rfl⟩:=map_some h;exact th_congr (S.r Γ a a' h1 ρ) fun x=>rfl
  | Not=>obtain ⟨a',h1,rfl⟩:=map_some h;exact th_congr (S.r Γ a a' h1 ρ) fun x=>rfl
  | _=>cases h
 | BoolOp op vs p=>
  cases vs with
  | nil=>cases op<;>cases h
  | cons a vs=>
   cases vs with
   | nil=>
    cases op with
    | And=>obtain ⟨a',h1,rfl⟩:=map_some h;exact S.r Γ a a' h1 ρ
    | Or=>obtain ⟨a',h1,rfl⟩:=map_some h;exact S.r Γ a a' h1 ρ
   | cons b l=>
    cases op with
    | And=>
     obtain ⟨a',b',h1,h2,rfl⟩:=o2_some h
     refine th_congr (S.r Γ a a' h1 ρ) fun x=>?_
     obtain ⟨rv,ρ1⟩:=x
     cases rv with
     | val d=>
      cases d with
      | bl c=>cases c with
       | true=>exact S.r Γ _ b' h2 ρ1
       | false=>rfl
      | _=>rfl
     | _=>rfl
    | Or=>
     obtain ⟨a',b',h1,h2,rfl⟩:=o2_some h
     refine th_congr (S.r Γ a a' h1 ρ) fun x=>?_
     obtain ⟨rv,ρ1⟩:=x
     cases rv with
     | val d=>
      cases d with
      | bl c=>cases c with
       | false=>exact S.r Γ _ b' h2 ρ1
       | true=>rfl
      | _=>rfl
     | _=>rfl
 | Compare a ops bs p=>
  cases ops with
  | nil=>cases h
  | cons op ops=>
   cases ops with
   | cons _ _=>cases h
   | nil=>
    cases bs with
    | nil=>cases h
    | cons b bs=>
     cases bs with
     | cons _ _=>cases h
     | nil=>
      obtain ⟨hm,h⟩:=oif_some h
      obtain ⟨a',b',h1,h2,rfl⟩:=o2_some h
      have hm:¬ behindInMarks op b=true:=by simpa using hm
      refine th_congr (S.r Γ a a' h1 ρ) fun x=>th_congr (S.r Γ b b' h2 x.2) fun y=>?_
      rw [if_neg hm]
 | IfExp c a b p=>
  obtain ⟨c',q,h1,h2,rfl⟩:=o2_some h
  obtain ⟨a',b',h3,h4,rfl⟩:=o2_some h2
  refine th_congr (S.t Γ c c' h1 ρ) fun t=>?_
  obtain ⟨d,ρ1⟩:=t
  cases d with
  | true=>exact S.r Γ a a' h3 ρ1
  | false=>exact S.r Γ b b' h4 ρ1
 | Subscript a i p=>
  cases i with
  | Slice lo hi st q=>
   cases st with
   | some st=>cases h
   | none=>
    obtain ⟨a',q,h1,h2,rfl⟩:=o2_some h
    obtain ⟨l',u',h3,h4,rfl⟩:=o2_some h2
    exact th_congr (S.r Γ a a' h1 ρ) fun x=>th_congr (S.o Γ lo l' h3 x.2) fun y=>th_congr (S.o Γ hi u' h4 y.2) fun z=>rfl
  | _=>
   obtain ⟨a',b',h1,h2,rfl⟩:=o2_some h
   exact th_congr (S.r Γ a a' h1 ρ) fun x=>th_congr (S.r Γ _ b' h2 x.2) fun y=>rfl
 | List es p=>obtain ⟨l,h1,rfl⟩:=map_some h;exact th_congr (S.es Γ es l h1 ρ) fun x=>rfl
 | Tuple es j p=>obtain ⟨l,h1,rfl⟩:=map_some h;exact th_congr (S.es Γ es l h1 ρ) fun x=>rfl
 | Call fn es kws q=>
  cases fn with
  | Name f p=>
   cases kws with
   | cons _ _=>cases h
   | nil=>
    obtain ⟨hn,h⟩:=oif_some h
    show (if (nameOk f&&glB Γ.sc f&&(ixOf Γ.N f).isNone)=true then _ else R.no)=_
    rw [if_pos hn]
    by_cases hi:f = "isinstance"
    ·rw [if_pos hi] at h ⊢
     match es,h with
     | [a,b],h=>
      cases b with
      | Name t tp=>
       obtain ⟨hc,h⟩:=oif_some h
       show (if (nameOk t&&glB Γ.sc t&&(ixOf Γ.N t).isNone&&!starB a)=true then _ else R.no)=_
       rw [if_pos hc]
       cases h1:tyOf t with
       | some y=>
        rw [h1] at h
        obtain ⟨a',h2,rfl⟩:=map_some h
        refine th_congr (S.r Γ a a' h2 ρ) fun x=>?_
        rw [tyG_same h1]
       | none=>
        rw [h1] at h
        obtain ⟨a',h2,rfl⟩:=map_some h
        exact th_congr (S.r Γ a a' h2 ρ) fun x=>rfl
      | _=>cases h
     | [],h=>cases h
     | [_],h=>cases h
     | _::_::_::_,h=>cases h
    rw [if_neg hi] at h ⊢
    by_cases ht:Γ.tab.contains f=true
    ·rw [if_pos ht] at h ⊢
     obtain ⟨l,h1,rfl⟩:=map_some h
     exact th_congr (S.as Γ es l h1 ρ) fun x=>rfl
    rw [if_neg ht] at h ⊢
    by_cases hk:Γ.cs.tab.contains f=true
    ·rw [if_pos hk] at h ⊢
     obtain ⟨l,h1,rfl⟩:=map_some h
     exact th_congr (S.as Γ es l h1 ρ) fun x=>rfl
    rw [if_neg hk] at h ⊢
    match es,h with
    | [a],h=>
     obtain ⟨hs,h⟩:=oif_some h
     obtain ⟨y,a',h1,h2,rfl⟩:=o2_some h
     show (if starB a=true then R.no else _)=_
     rw [if_neg (by simpa using hs)]
     refine th_congr (S.r Γ a a' h2 ρ) fun x=>?_
     rw [b1_same h1]
    | [a,b],h=>
     obtain ⟨hs,h⟩:=oif_some h
     obtain ⟨y,q,h1,h2,rfl⟩:=o2_some h
     obtain ⟨a',b',h3,h4,rfl⟩:=o2_some h2
     show (if (starB a||starB b)=true then R.no else _)=_
     rw [if_neg (by simpa using hs)]
     refine th_congr (S.r Γ a a' h3 ρ) fun x=>th_congr (S.r Γ b b' h4 x.2) fun z=>?_
     rw [b2_same h1]
    | [],h=>cases h
    | _::_::_::_,h=>cases h
  | Attribute o x ap=>
   cases kws with
   | cons _ _=>cases h
   | nil=>
    obtain ⟨hc,h⟩:=oif_some h
    obtain ⟨a',l',h1,h2,rfl⟩:=o2_some h
    show (if (plainO o&&(ap.endLine == q.line)&&decide (es.length < 30))=true then _ else R.no)=_
    rw [if_pos hc]
    refine th_congr (S.r Γ o a' h1 ρ) fun y=>th_congr rfl fun f=>th_congr (S.as Γ es l' h2 y.2) fun z=>?_
    rw [ar_same]
    rfl
  | _=>cases h
 | Attribute o x p=>
  obtain ⟨hc,h⟩:=oif_some h
  obtain ⟨a',h1,rfl⟩:=map_some h
  show (if plainO o=true then _ else R.no)=_
  rw [if_pos hc]
  exact th_congr (S.r Γ o a' h1 ρ) fun y=>rfl
 | ListComp elt gens sc p=>
  cases gens with
  | nil=>cases h
  | cons g gens=>
   cases gens with
   | cons _ _=>cases h
   | nil=>
    obtain ⟨ha,h⟩:=oif_some h
    have ha:=of_decide_eq_true ha
    show (if g.is_async=0 then _ else R.no)=_
    rw [if_pos ha]
    cases hx:tgNames g.target with
    | none=>rw [hx] at h;cases h
    | some own=>
     rw [hx] at h
     obtain ⟨hc,h⟩:=oif_some h
     obtain ⟨p1,p2,h1,h2,rfl⟩:=o2_some h
     obtain ⟨src,tg,h3,h4,rfl⟩:=o2_some h1
     obtain ⟨c,el,h5,h6,rfl⟩:=o2_some h2
     refine th_congr (S.i Γ _ g.iter src h3 ρ) fun y=>?_
     show (if (blkCheck Γ.sc Γ.N (frOf Γ.N sc) sc&&decide (own++(frOf Γ.N sc).map fun i=>Γ.N.getD i "").Nodup&&decide (y.1.length≤sizeLine)&&foldOk g.iter)=true then _ else R.no)=_
     simp only [Bool.and_eq_true] at hc
     have ei:iBlk own.length (frOf Γ.N sc) y.2=blkEnv own (frOf Γ.N sc) y.2:=by
      unfold iBlk blkEnv
      rw [List.map_const']
     by_cases hz:y.1.length≤sizeLine
     ·rw [if_pos (by simp only [Bool.and_eq_true];exact ⟨⟨⟨hc.1.1,hc.1.2⟩,decide_eq_true hz⟩,hc.2⟩),if_pos hz]
      rw [ei]
      exact th_congr (compL_same (tg_same h4) (S.f _ _ c h5) (S.e _ _ el h6) _ _ _) fun l=>rfl
     ·rw [if_neg (by simp only [Bool.and_eq_true];intro z;exact hz (of_decide_eq_true z.1.2)),if_neg hz]
 | _=>cases h
theorem e_same (S:Same2 m) (Γ:Ct) (e:Expr) (x:E) (h:cX (m+1) Γ e=some x) (ρ:Env):evE (m+1) Γ e ρ=escE x (iR Γ.k x) ρ:=by
 have gen:(cE m Γ e).bind noVar=some x→(evR m Γ e ρ).th (fun x=>match x.1 with
   | .val d=>.ok (d,x.2)
   | .tmp l=>.ok (.lst l,x.2)
   | _=>.no)=escE x (iR Γ.k x) ρ:=fun h=>by
  obtain ⟨y,h1,h2⟩:=Option.bind_eq_some_iff.mp h
  obtain ⟨rfl,hv⟩:=noVar_some h2
  rw [escE_of hv]
  exact th_congr (S.r Γ e y h1 ρ) fun x=>rfl
 cases e with
 | Name y p=>exact (name_same h ρ).2
 | _=>exact gen h
theorem t_same (S:Same2 m) (Γ:Ct) (e:Expr) (x:T) (h:cT (m+1) Γ e=some x) (ρ:Env):evT (m+1) Γ e ρ=iT Γ.k x ρ:=by
 have gen:(cE m Γ e).map .val=some x→(evR m Γ e ρ).th (fun x=>(R.of (truthD x.1)).th fun b=>.ok (b,x.2))=iT Γ.k x ρ:=fun h=>by
  obtain ⟨y,h1,rfl⟩:=map_some h
  exact th_congr (S.r Γ e y h1 ρ) fun x=>rfl
 cases e with
 | UnaryOp op a p=>
  cases op with
  | Not=>obtain ⟨a',h1,rfl⟩:=map_some h;exact th_congr (S.t Γ a a' h1 ρ) fun x=>rfl
  | _=>exact gen h
 | BoolOp op vs p=>
  cases vs with
  | nil=>cases op<;>cases h
  | cons a vs=>
   cases vs with
   | nil=>
    cases op with
    | And=>obtain ⟨a',h1,rfl⟩:=map_some h;exact S.t Γ a a' h1 ρ
    | Or=>obtain ⟨a',h1,rfl⟩:=map_some h;exact S.t Γ a a' h1 ρ
   | cons b l=>
    cases op with
    | And=>
     obtain ⟨a',b',h1,h2,rfl⟩:=o2_some h
     refine th_congr (S.t Γ a a' h1 ρ) fun t=>?_
     obtain ⟨d,ρ1⟩:=t
     cases d with
     | true=>exact S.t Γ _ b' h2 ρ1
     | false=>rfl
    | Or=>
     obtain ⟨a',b',h1,h2,rfl⟩:=o2_some h
     refine th_congr (S.t Γ a a' h1 ρ) fun t=>?_
     obtain ⟨d,ρ1⟩:=t
     cases d with
     | true=>rfl
     | false=>exact S.t Γ _ b' h2 ρ1
 | IfExp c a b p=>cases h
 | Compare a ops bs p=>
  cases ops with
  | nil=>cases h
  | cons op ops=>
   cases ops with
   | cons _ _=>cases h
   | nil=>
    cases bs with
    | nil=>cases h
    | cons b bs=>
     cases bs with
     | cons _ _=>cases h
     | nil=>
      obtain ⟨hm,h⟩:=oif_some h
      obtain ⟨a',b',h1,h2,rfl⟩:=o2_some h
      have hm:¬ behindInMarks op b=true:=by simpa using hm
      refine th_congr (S.r Γ a a' h1 ρ) fun x=>th_congr (S.r Γ b b' h2 x.2) fun y=>?_
      rw [if_neg hm]
 | _=>exact gen h
theorem es_same (S:Same2 m) (Γ:Ct) (es:List Expr) (x:Es) (h:cEs (m+1) Γ es=some x) (ρ:Env):evEs (m+1) Γ es ρ=iEs Γ.k x ρ:=by
 cases es with
 | nil=>cases h;rfl
 | cons e l=>
  obtain ⟨hs,h⟩:=oif_some h
  obtain ⟨a,b,h1,h2,rfl⟩:=o2_some h
  show (if starB e=true then R.no else _)=_
  rw [if_neg (by simpa using hs)]
  exact th_congr (S.e Γ e a h1 ρ) fun x=>th_congr (S.es Γ l b h2 x.2) fun y=>rfl
theorem as_same (S:Same2 m) (Γ:Ct) (es:List Expr) (x:Es) (h:cAs (m+1) Γ es=some x) (ρ:Env):evAs (m+1) Γ es ρ=iAs Γ.k x ρ:=by
 cases es with
 | nil=>cases h;rfl
 | cons e l=>
  obtain ⟨hs,h⟩:=oif_some h
  obtain ⟨a,b,h1,h2,rfl⟩:=o2_some h
  show (if starB e=true then R.no else _)=_
  rw [if_neg (by simpa using hs)]
  refine th_congr (S.r Γ e a h1 ρ) fun x=>th_congr (S.as Γ l b h2 x.2) fun y=>?_
  obtain ⟨rv,ρ1⟩:=x
  cases rv<;>rfl
theorem o_same (S:Same2 m) (Γ:Ct) (o:Option Expr) (x:O) (h:cO (m+1) Γ o=some x) (ρ:Env):evO (m+1) Γ o ρ=iO Γ.k x ρ:=by
 cases o with
 | none=>cases h;rfl
 | some e=>obtain ⟨a,h1,rfl⟩:=map_some h;exact th_congr (S.r Γ e a h1 ρ) fun x=>rfl
theorem f_same (S:Same2 m) (Γ:Ct) (es:List Expr) (x:F) (h:cF (m+1) Γ es=some x) (ρ:Env):evIf (m+1) Γ es ρ=iF Γ.k x ρ:=by
 match es,h with
 | [],h=>cases h;rfl
 | [c],h=>obtain ⟨a,h1,rfl⟩:=map_some h;exact S.t Γ c a h1 ρ
 | _::_::_,h=>cases h
theorem l_same (S:Same2 m) (Γ:Ct) (e:Expr) (x:E) (h:cL (m+1) Γ e=some x) (ρ:Env):evL (m+1) Γ e ρ=escL x (iR Γ.k x) ρ:=by
 have gen:(cE m Γ e).bind noVar=some x→(evR m Γ e ρ).th (fun x=>match x.1 with
   | .val (.lst l)=>.ok ((.lst,l),x.2)
   | .val (.tup l)=>.ok ((.tup,l),x.2)
   | .val (.str z)=>.ok ((.str,sigD z),x.2)
   | .tmp l=>.ok ((.lst,l),x.2)
   | _=>.no)=escL x (iR Γ.k x) ρ:=fun h=>by
  obtain ⟨y,h1,h2⟩:=Option.bind_eq_some_iff.mp h
  obtain ⟨rfl,hv⟩:=noVar_some h2
  rw [escL_of hv]
  exact th_congr (S.r Γ e y h1 ρ) fun x=>rfl
 cases e with
 | Name y p=>
  obtain ⟨hn,h⟩:=oif_some h
  obtain ⟨i,h1,rfl⟩:=map_some h
  rw [Bool.and_eq_true] at hn
  show nameL Γ y ρ=_
  unfold nameL
  rw [if_pos hn.1,h1]
  dsimp only
  rw [if_pos hn.2]
  rfl
 | _=>exact gen h
theorem i_same (S:Same2 m) (Γ:Ct) (tb:Bool) (e:Expr) (x:I) (h:cI (m+1) Γ tb e=some x) (ρ:Env):evI (m+1) Γ tb e ρ=iI Γ.k x ρ:=by
 have gen:(cL m Γ e).map .seq=some x→(evL m Γ e ρ).th (fun x=>.ok (x.1.2,x.2))=iI Γ.k x ρ:=fun h=>by
  obtain ⟨y,h1,rfl⟩:=map_some h
  exact th_congr (S.l Γ e y h1 ρ) fun x=>rfl
 cases e with
 | Call fn es kws q=>
  cases fn with
  | Name f p=>
   cases kws with
   | cons _ _=>exact gen h
   | nil=>
    have h:(if (decide (f = "range")||decide (f = "enumerate")||decide (f = "zip"))=true then _ else _)=some x:=h
    show (if (decide (f = "range")||decide (f = "enumerate")||decide (f = "zip"))=true then _ else _)=_
    by_cases hf:(decide (f = "range")||decide (f = "enumerate")||decide (f = "zip"))=true
    ·rw [if_pos hf] at h ⊢
     obtain ⟨hn,h⟩:=oif_some h
     rw [if_pos hn]
     match es,h with
     | [a],h=>
      obtain ⟨hs,h⟩:=oif_some h
      show (if starB a=true then R.no else _)=_
      rw [if_neg (by simpa using hs)]
      by_cases h1:f = "range"
      ·rw [if_pos h1] at h ⊢
       obtain ⟨y,h2,rfl⟩:=map_some h
       exact th_congr (S.r Γ a y h2 ρ) fun x=>rfl
      rw [if_neg h1] at h ⊢
      by_cases h2:f = "enumerate"
      ·rw [if_pos h2] at h ⊢
       obtain ⟨ht,h⟩:=oif_some h
       obtain ⟨y,h3,rfl⟩:=map_some h
       rw [if_pos ht]
       exact th_congr (S.l Γ a y h3 ρ) fun x=>rfl
      rw [if_neg h2] at h
      cases h
     | [a,b],h=>
      obtain ⟨hs,h⟩:=oif_some h
      show (if (starB a||starB b)=true then R.no else _)=_
      rw [if_neg (by simpa using hs)]
      by_cases h1:f = "range"
      ·rw [if_pos h1] at h ⊢
       obtain ⟨y,z,h2,h3,rfl⟩:=o2_some h
       exact th_congr (S.r Γ a y h2 ρ) fun x=>th_congr (S.r Γ b z h3 x.2) fun x'=>rfl
      rw [if_neg h1] at h ⊢
      by_cases h2:f = "zip"
      ·rw [if_pos h2] at h ⊢
       obtain ⟨ht,h⟩:=oif_some h
       obtain ⟨y,z,h3,h4,rfl⟩:=o2_some h
       rw [if_pos ht]
       exact th_congr (S.l Γ a y h3 ρ) fun x=>th_congr (S.l Γ b z h4 x.2) fun x'=>rfl
      rw [if_neg h2] at h
      cases h
     | [],h=>cases h
     | _::_::_::_,h=>cases h
    ·rw [if_neg hf] at h ⊢
     exact gen h
  | _=>exact gen h
 | _=>exact gen h
theorem same2:∀ m,Same2 m
 | 0=>{ r:=(fun _ _ _ h=>nomatch h),e:=(fun _ _ _ h=>nomatch h),t:=(fun _ _ _ h=>nomatch h),es:=(fun _ _ _ h=>nomatch h),as:=(fun _ _ _ h=>nomatch h),o:=(fun _ _ _ h=>nomatch h),f:=(fun _ _ _ h=>nomatch h),l:=(fun _ _ _ h=>nomatch h),i:=(fun _ _ _ _ h=>nomatch h) }
 | m+1=>have S:=same2 m;⟨r_same S,e_same S,t_same S,es_same S,as_same S,o_same S,f_same S,l_same S,i_same S⟩
end
end DE
set_option maxHeartbeats 4000000
namespace DE
open PySem L2
mutual
inductive S where
 | pass | expr (e:E) | app (i:Nat) (e:E) | ext (i:Nat) (e:E) | clr (i:Nat) | ret (e:E) | retN | set (i:Nat) (e:E) | setT (tg:Tg) (e:E) | setI (i:Nat) (x e:E) | ite (c:T) (a b:Ss) | for_ (tg:Tg) (src:I) (b:Ss) | whl (c:T) (b:Ss) | stuck
inductive Ss where
 | nil | cons (s:S) (l:Ss)
end
noncomputable def ownI (ρ:Env) (i:Nat):Option (List D):=match ρ[i]? with
 | some (.own l)=>some l
 | _=>none
noncomputable def escX (e:E) (r:Env→R (Rv×Env)) (ρ:Env):R Rv:=match e with
 | .var i=>slX ρ i
 | .con d=>.ok (.val d)
 | _=>(r ρ).th fun x=>match x.1 with
  | .val d=>.ok (.val d)
  | .tmp l=>.ok (.tmp l)
  | _=>.no
noncomputable def escA (e:E) (r:Env→R (Rv×Env)) (ρ:Env):R (Sl×Env):=match e with
 | .var i=>(slE ρ i).th fun r=>.ok (.val r.1,r.2)
 | .con d=>.ok (.val d,ρ)
 | _=>(r ρ).th fun x=>match x.1 with
  | .val d=>.ok (.val d,x.2)
  | .tmp l=>.ok (.own l,x.2)
  | _=>.no
mutual
noncomputable def iS (cl:Cl) (w:Nat):S→Env→R Fl
 | .pass,ρ=>.ok (.next ρ)
 | .expr e,ρ=>(iR cl e ρ).th fun x=>.ok (.next x.2)
 | .app i e,ρ=>(match ownI ρ i with
  | none=>.no
  | some _=>(escE e (iR cl e) ρ).th fun y=>(match ownI y.2 i with
   | some l=>if l.length < sizeLine then .ok (.next (y.2.set i (.own (l++[y.1])))) else .no
   | none=>.no))
 | .ext i e,ρ=>(match ownI ρ i with
  | none=>.no
  | some _=>(iR cl e ρ).th fun y=>(match ownI y.2 i,y.1.plain? with
   | some l,some n=>if l.length+n.length≤sizeLine then .ok (.next (y.2.set i (.own (l++n)))) else .no
   | _,_=>.no))
 | .clr i,ρ=>(match ownI ρ i with
  | some _=>.ok (.next (ρ.set i (.own [])))
  | none=>.no)
 | .ret e,ρ=>(escX e (iR cl e) ρ).th fun r=>.ok (.ret r)
 | .retN,ρ=>.ok (.ret (.val .non))
 | .set i e,ρ=>(escA e (iR cl e) ρ).th fun s=>.ok (.next (s.2.set i s.1))
 | .setT tg e,ρ=>(escE e (iR cl e) ρ).th fun x=>(tg.go x.1 x.2).th fun ρ1=>.ok (.next ρ1)
 | .setI i x e,ρ=>(escE e (iR cl e) ρ).th fun y=>(match ownI y.2 i with
  | none=>.no
  | some _=>(iR cl x y.2).th fun z=>(match ownI z.2 i,z.1.int? with
   | some l,some n=>(match ixN l.length n with
    | some k=>.ok (.next (z.2.set i (.own (l.set k y.1))))
    | none=>.no)
   | _,_=>.no))
 | .ite c a b,ρ=>(iT cl c ρ).th fun t=>if t.1 then iSs cl w a t.2 else iSs cl w b t.2
 | .for_ tg src b,ρ=>(iI cl src ρ).th fun x=>forL (fun d ρ1=>(tg.go d ρ1).th fun ρ2=>iSs cl w b ρ2) x.1 x.2
 | .whl c b,ρ=>whL (fun ρ1=>iT cl c ρ1) (fun ρ1=>iSs cl w b ρ1) w ρ
 | .stuck,_=>.no
noncomputable def iSs (cl:Cl) (w:Nat):Ss→Env→R Fl
 | .nil,ρ=>.ok (.next ρ)
 | .cons s l,ρ=>(iS cl w s ρ).th fun f=>match f with
  | .next ρ1=>iSs cl w l ρ1
  | .ret r=>.ok (.ret r)
end
noncomputable def cOwn (Γ:Ct) (x:Str):Option Nat:=oif (nameOk x&&visB Γ.sc x) (ixOf Γ.N x)
noncomputable def cV (m:Nat) (Γ:Ct) (e:Expr):Option E:=match e with
 | .Name x _=>cName Γ x
 | e=>(cE m Γ e).bind noVar
mutual
noncomputable def cS:Nat→Ct→Stmt→Option S
 | 0,_,_=>none
 | m+1,Γ,st=>match st with
  | .Pass _=>some .pass
  | .Expr e _=>(match e with
   | .Call (.Attribute (.Name x _) meth ap) [a] [] cp=>oif (ap.endLine == cp.line&&!starB a) (
     if meth = "append" then o2 (cOwn Γ x) (cX m Γ a) .app
     else if meth = "extend" then o2 (cOwn Γ x) (cE m Γ a) .ext
     else none)
   | .Call (.Attribute (.Name x _) meth ap) [] [] cp=>oif (ap.endLine == cp.line&&decide (meth = "clear")) ((cOwn Γ x).map .clr)
   | e=>oif (notComp e) ((cE m Γ e).map .expr))
  | .Return (some e) _=>(cV m Γ e).map .ret
  | .Return none _=>some .retN
  | .Assign [tg] e _=>(match tg with
   | .Name x _=>o2 (cSet Γ x) (cV m Γ e) .set
   | .Tuple es j p=>oif (notComp e&&notTup e) (o2 (cTg Γ (.Tuple es j p)) (cX m Γ e) .setT)
   | .Subscript (.Name x _) i _=>oif (notComp e&&notSlice i) (o2 (cOwn Γ x) (o2 (cE m Γ i) (cX m Γ e) Prod.mk) fun x p=>.setI x p.1 p.2)
   | _=>none)
  | .If c a b _=>o2 (cT m Γ c) (o2 (cSs m Γ a) (cSs m Γ b) Prod.mk) fun c p=>.ite c p.1 p.2
  | .For tg it body [] _=>oif (foldOk it) (o2 (o2 (cTg Γ tg) (cI m Γ (tupB tg) it) Prod.mk) (cSs m Γ body) fun p b=>.for_ p.1 p.2 b)
  | .While c body [] _=>o2 (cT m Γ c) (cSs m Γ body) .whl
  | .Raise ..=>some .stuck
  | _=>none
noncomputable def cSs:Nat→Ct→List Stmt→Option Ss
 | 0,_,_=>none
 | m+1,Γ,l=>match l with
  | []=>some .nil
  | st::l=>o2 (cS m Γ st) (cSs m Γ l) .cons
end
section
variable {m w:Nat} {Γ:Ct}
theorem own_same {x:Str} {i:Nat} (h:cOwn Γ x=some i) (ρ:Env):ownAt Γ x ρ=(ownI ρ i).map fun l=>(i,l):=by
 unfold cOwn at h
 obtain ⟨h1,h2⟩:=oif_some h
 unfold ownAt ownI
 rw [if_pos h1,h2]
 dsimp only
 cases ρ[i]? with
 | none=>rfl
 | some s=>cases s<;>rfl
theorem v_same {e:Expr} {z:E} (h:cV m Γ e=some z) (ρ:Env):evX m Γ e ρ=escX z (iR Γ.k z) ρ∧evA m Γ e ρ=escA z (iR Γ.k z) ρ:=by
 have S:=same2 m
 have gen:(cE m Γ e).bind noVar=some z→((evR m Γ e ρ).th (fun x=>match x.1 with
   | .val d=>R.ok (Rv.val d)
   | .tmp l=>R.ok (Rv.tmp l)
   | _=>.no)=escX z (iR Γ.k z) ρ)∧((evR m Γ e ρ).th (fun x=>match x.1 with
   | .val d=>R.ok (Sl.val d,x.2)
   | .tmp l=>R.ok (Sl.own l,x.2)
   | _=>.no)=escA z (iR Γ.k z) ρ):=fun h=>by
  obtain ⟨y,h1,h2⟩:=Option.bind_eq_some_iff.mp h
  obtain ⟨rfl,hv⟩:=noVar_some h2
  rw [S.r Γ e y h1 ρ]
  cases y<;>first | exact ⟨rfl,rfl⟩ | exact absurd rfl (hv _)
 cases e with
 | Name y p=>
  have h:cName Γ y=some z:=h
  refine ⟨?_,?_⟩
  ·unfold cName at h
   obtain ⟨h1,h⟩:=oif_some h
   show nameX Γ y ρ=_
   unfold nameX
   rw [if_pos h1]
   cases hi:ixOf Γ.N y with
   | some i=>
    rw [hi] at h
    obtain ⟨h2,h⟩:=oif_some h
    cases h
    dsimp only
    rw [if_pos h2]
    rfl
   | none=>
    rw [hi] at h
    obtain ⟨h2,h⟩:=oif_some h
    obtain ⟨d,h3,rfl⟩:=map_some h
    dsimp only
    rw [if_pos h2,h3]
    rfl
  ·show (nameE Γ y ρ).th _=_
   rw [(name_same h ρ).2]
   unfold cName at h
   obtain ⟨h1,h⟩:=oif_some h
   cases hi:ixOf Γ.N y with
   | some i=>
    rw [hi] at h
    obtain ⟨h2,h⟩:=oif_some h
    cases h
    rfl
   | none=>
    rw [hi] at h
    obtain ⟨h2,h⟩:=oif_some h
    obtain ⟨d,h3,rfl⟩:=map_some h
    rfl
 | _=>exact gen h
structure Same3 (m w:Nat):Prop where
 s:∀ Γ st x,cS m Γ st=some x→∀ ρ,evS m w Γ st ρ=iS Γ.k w x ρ
 ss:∀ Γ l x,cSs m Γ l=some x→∀ ρ,evSs m w Γ l ρ=iSs Γ.k w x ρ
theorem forL_same {f g:D→Env→R Fl} (h:∀ d ρ,f d ρ=g d ρ) (l:List D) (ρ:Env):forL f l ρ=forL g l ρ:=by
 rw [show f=g from funext fun d=>funext fun ρ=>h d ρ]
theorem whL_same {t t':Env→R (Bool×Env)} {f g:Env→R Fl} (ht:∀ ρ,t ρ=t' ρ) (h:∀ ρ,f ρ=g ρ) (n:Nat) (ρ:Env):whL t f n ρ=whL t' g n ρ:=by
 rw [show t=t' from funext ht,show f=g from funext h]
theorem s_same (S3:Same3 m w) (Γ:Ct) (st:Stmt) (x:S) (h:cS (m+1) Γ st=some x) (ρ:Env):evS (m+1) w Γ st ρ=iS Γ.k w x ρ:=by
 have S:=same2 m
 cases st with
 | Pass p=>cases h;rfl
 | Raise a b c=>cases h;rfl
 | Expr e p=>
  have gen:oif (notComp e) ((cE m Γ e).map .expr)=some x→(if notComp e=true then (evR m Γ e ρ).th fun x=>R.ok (Fl.next x.2) else .no)=iS Γ.k w x ρ:=fun h=>by
   obtain ⟨h1,h⟩:=oif_some h
   obtain ⟨y,h2,rfl⟩:=map_some h
   rw [if_pos h1]
   exact th_congr (S.r Γ e y h2 ρ) fun _=>rfl
  cases e with
  | Call fn es kws cp=>
   cases fn with
   | Attribute o meth ap=>
    cases o with
    | Name y yp=>
     cases kws with
     | cons kw kws=>exact match es,h with | [],h=>gen h | [_],h=>gen h | _::_::_,h=>gen h
     | nil=>
      match es,h with
      | [a],h=>
       obtain ⟨hc,h⟩:=oif_some h
       rw [Bool.and_eq_true] at hc
       show (if (ap.endLine == cp.line)=true then _ else R.no)=_
       rw [if_pos hc.1]
       have hs:¬ starB a=true:=by simpa using hc.2
       by_cases h1:meth = "append"
       ·rw [if_pos h1] at h
        obtain ⟨i,a',h2,h3,rfl⟩:=o2_some h
        show (methD m Γ y meth a ρ).th _=_
        unfold methD
        rw [own_same h2,if_neg hs,if_pos h1]
        show _=(match ownI ρ i with | none=>R.no | some _=>_)
        cases ownI ρ i with
        | none=>rfl
        | some l0=>
         dsimp only [Option.map_some]
         rw [S.e Γ a a' h3 ρ]
         cases escE a' (iR Γ.k a') ρ with
         | ok z=>
          show R.th (match ownAt Γ y z.2 with | some (i,l)=>_ | none=>_) _=(match ownI z.2 i with | some l=>if l.length < sizeLine then _ else _ | none=>R.no)
          rw [own_same h2]
          cases ownI z.2 i with
          | none=>rfl
          | some l=>
           show R.th (if l.length < sizeLine then _ else _) _=(if l.length < sizeLine then _ else _)
           by_cases hz:l.length < sizeLine
           ·rw [if_pos hz,if_pos hz];rfl
           ·rw [if_neg hz,if_neg hz];rfl
         | exc c l=>rfl
         | no=>rfl
       rw [if_neg h1] at h
       by_cases h2':meth = "extend"
       ·rw [if_pos h2'] at h
        obtain ⟨i,a',h2,h3,rfl⟩:=o2_some h
        show (methD m Γ y meth a ρ).th _=_
        unfold methD
        rw [own_same h2,if_neg hs,if_neg h1,if_pos h2']
        show _=(match ownI ρ i with | none=>R.no | some _=>_)
        cases ownI ρ i with
        | none=>rfl
        | some l0=>
         dsimp only [Option.map_some]
         rw [S.r Γ a a' h3 ρ]
         cases iR Γ.k a' ρ with
         | ok z=>
          show R.th (match ownAt Γ y z.2,z.1.plain? with | some (i,l),some n=>_ | _,_=>_) _=_
          rw [own_same h2]
          show _=(match ownI z.2 i,z.1.plain? with | some l,some n=>_ | _,_=>_)
          cases ownI z.2 i with
          | none=>rfl
          | some l=>
           cases z.1.plain? with
           | none=>rfl
           | some n=>
            show R.th (if l.length+n.length≤sizeLine then _ else _) _=(if l.length+n.length≤sizeLine then _ else _)
            by_cases hz:l.length+n.length≤sizeLine
            ·rw [if_pos hz,if_pos hz];rfl
            ·rw [if_neg hz,if_neg hz];rfl
         | exc c l=>rfl
         | no=>rfl
       rw [if_neg h2'] at h
       cases h
      | [],h=>
       obtain ⟨hc,h⟩:=oif_some h
       rw [Bool.and_eq_true] at hc
       obtain ⟨i,h2,rfl⟩:=map_some h
       show (if (ap.endLine == cp.line)=true∧meth = "clear" then _ else R.no)=_
       rw [if_pos ⟨hc.1,of_decide_eq_true hc.2⟩]
       rw [own_same h2]
       show _=(match ownI ρ i with | some _=>_ | none=>_)
       cases ownI ρ i<;>rfl
      | _::_::_,h=>exact gen h
    | _=>exact gen h
   | _=>exact gen h
  | _=>exact gen h
 | Return o p=>
  cases o with
  | none=>cases h;rfl
  | some e=>
   obtain ⟨y,h1,rfl⟩:=map_some h
   exact th_congr (v_same h1 ρ).1 fun _=>rfl
 | Assign tgs e p=>
  match tgs,h with
  | [],h=>cases h
  | _::_::_,h=>cases h
  | [tg],h=>
   cases tg with
   | Name y yp=>
    obtain ⟨i,a,h1,h2,rfl⟩:=o2_some h
    refine th_congr (v_same h2 ρ).2 fun s=>?_
    unfold cSet at h1
    obtain ⟨h3,h4⟩:=oif_some h1
    rw [h4]
    show (if (locB Γ.sc y&&nameOk y)=true then _ else R.no)=_
    rw [if_pos h3]
   | Tuple es j tp=>
    obtain ⟨hc,h⟩:=oif_some h
    obtain ⟨t,a,h1,h2,rfl⟩:=o2_some h
    rw [Bool.and_eq_true] at hc
    show (if notComp e=true∧notTup e=true then _ else R.no)=_
    rw [if_pos hc]
    exact th_congr (S.e Γ e a h2 ρ) fun s=>th_congr (tg_same h1 _ _) fun _=>rfl
   | Subscript o i sp=>
    cases o with
    | Name y yp=>
     obtain ⟨hc,h⟩:=oif_some h
     obtain ⟨j,q,h1,h2,rfl⟩:=o2_some h
     obtain ⟨i',a,h3,h4,rfl⟩:=o2_some h2
     rw [Bool.and_eq_true] at hc
     show (if notComp e=true∧notSlice i=true then _ else R.no)=_
     rw [if_pos hc]
     refine th_congr (S.e Γ e a h4 ρ) fun z=>?_
     show (setD m Γ y i z.1 z.2).th _=_
     unfold setD
     rw [own_same h1]
     show _=(match ownI z.2 j with | none=>R.no | some _=>_)
     cases ownI z.2 j with
     | none=>rfl
     | some l0=>
      dsimp only [Option.map_some]
      rw [S.r Γ i i' h3 z.2]
      cases iR Γ.k i' z.2 with
      | ok u=>
       show R.th (match ownAt Γ y u.2,u.1.int? with | some (j,l),some n=>_ | _,_=>_) _=_
       rw [own_same h1]
       show _=(match ownI u.2 j,u.1.int? with | some l,some n=>_ | _,_=>_)
       cases ownI u.2 j with
       | none=>rfl
       | some l=>
        cases u.1.int? with
        | none=>rfl
        | some n=>
         show R.th (match ixN l.length n with | some k=>_ | none=>_) _=(match ixN l.length n with | some k=>_ | none=>_)
         cases ixN l.length n<;>rfl
      | exc c l=>rfl
      | no=>rfl
    | _=>cases h
   | _=>cases h
 | If c a b p=>
  obtain ⟨c',q,h1,h2,rfl⟩:=o2_some h
  obtain ⟨a',b',h3,h4,rfl⟩:=o2_some h2
  refine th_congr (S.t Γ c c' h1 ρ) fun t=>?_
  obtain ⟨d,ρ1⟩:=t
  cases d with
  | true=>exact S3.ss Γ a a' h3 ρ1
  | false=>exact S3.ss Γ b b' h4 ρ1
 | For tg it body orelse p=>
  cases orelse with
  | cons _ _=>cases h
  | nil=>
   obtain ⟨hf,h⟩:=oif_some h
   obtain ⟨q,b',h1,h2,rfl⟩:=o2_some h
   obtain ⟨t,src,h3,h4,rfl⟩:=o2_some h1
   show (if foldOk it=true then _ else R.no)=_
   rw [if_pos hf]
   exact th_congr (S.i Γ _ it src h4 ρ) fun x=>forL_same (fun d ρ1=>th_congr (tg_same h3 d ρ1) fun ρ2=>S3.ss Γ body b' h2 ρ2) _ _
 | While c body orelse p=>
  cases orelse with
  | cons _ _=>cases h
  | nil=>
   obtain ⟨c',b',h1,h2,rfl⟩:=o2_some h
   exact whL_same (S.t Γ c c' h1) (S3.ss Γ body b' h2) _ _
 | _=>cases h
theorem ss_same (S3:Same3 m w) (Γ:Ct) (l:List Stmt) (x:Ss) (h:cSs (m+1) Γ l=some x) (ρ:Env):evSs (m+1) w Γ l ρ=iSs Γ.k w x ρ:=by
 cases l with
 | nil=>cases h;rfl
 | cons st l=>
  obtain ⟨a,b,h1,h2,rfl⟩:=o2_some h
  refine th_congr (S3.s Γ st a h1 ρ) fun f=>?_
  cases f with
  | next ρ1=>exact S3.ss Γ l b h2 ρ1
  | ret r=>rfl
theorem same3:∀ m,Same3 m w
 | 0=>⟨(fun _ _ _ h=>nomatch h),(fun _ _ _ h=>nomatch h)⟩
 | m+1=>have S3:=same3 m;⟨s_same S3,ss_same S3⟩
end
noncomputable def cDef (pg:Pg) (k:Nat) (cl:Str→List Ar→R Rv) (st:Stmt):Option (Nat×Nat×Ss):=oif (fnCheck st) ((cSs pg.m (pg.ct k cl st) (defBody st)).map fun b=>((parN st).length,(fnN st).length,b))
noncomputable def slN (n:Nat) (args:List Ar):Env:=args.map toSl++List.replicate (n - args.length) .no
noncomputable def runD (cl:Cl) (w:Nat) (c:Nat×Nat×Ss) (args:List Ar):R Rv:=if args.length=c.1 then (iSs cl w c.2.2 (slN c.2.1 args)).th flR else .no
noncomputable def Pg.kk (pg:Pg) (k:Nat):Cl:=⟨clK pg k,pg.cs,pg.nw k⟩
theorem run_of {pg:Pg} {f:Str} {st:Stmt} {c:Nat×Nat×Ss} (hl:(pg.defs++pg.meths).lookup f=some st) (hc:∀ k cl,cDef pg k cl st=some c) (k:Nat) (args:List Ar):clK pg (k+1) f args=runD (pg.kk k) pg.w c args:=by
 obtain ⟨h1,h2⟩:=oif_some (hc k (clK pg k))
 obtain ⟨b,h3,rfl⟩:=map_some h2
 rw [clK_succ hl]
 unfold evF runD
 by_cases hn:args.length=(parN st).length
 ·rw [if_pos (by rw [h1,hn];simp),if_pos hn]
  exact th_congr ((same3 pg.m).ss _ _ _ h3 _) fun _=>rfl
 ·rw [if_neg (by simp [hn]),if_neg hn]
end DE
set_option maxHeartbeats 4000000
namespace DE
open PySem L2
variable {cl:Cl} {w:Nat}
theorem th_ok {α β:Type} (a:α) (f:α→R β):(R.ok a).th f=f a:=(rfl)
theorem of_some {α:Type} (a:α):R.of (some a)=.ok a:=(rfl)
noncomputable def forD (cl:Cl) (w:Nat) (tg:Tg) (b:Ss) (l:List D) (ρ:Env):R Fl:=forL (fun d ρ1=>(tg.go d ρ1).th fun ρ2=>iSs cl w b ρ2) l ρ
noncomputable def whD (cl:Cl) (w:Nat) (c:T) (b:Ss) (n:Nat) (ρ:Env):R Fl:=whL (fun ρ1=>iT cl c ρ1) (fun ρ1=>iSs cl w b ρ1) n ρ
noncomputable def compD (cl:Cl) (e:E) (tg:Tg) (c:F) (l:List D) (ρ:Env) (acc:List D):R (List D):=compL tg.go (fun ρ1=>iF cl c ρ1) (escE e (iR cl e)) l ρ acc
noncomputable def nextR (f:Fl) (g:Env→R Fl):R Fl:=match f with
 | .next ρ1=>g ρ1
 | .ret r=>.ok (.ret r)
section
variable (cl:Cl) (w:Nat) (ρ:Env)
theorem forD_nil (tg:Tg) (b:Ss):forD cl w tg b [] ρ=.ok (.next ρ):=(rfl)
theorem forD_cons (tg:Tg) (b:Ss) (d:D) (l:List D):forD cl w tg b (d::l) ρ=((tg.go d ρ).th fun ρ2=>iSs cl w b ρ2).th fun f=>nextR f fun ρ1=>forD cl w tg b l ρ1:=(rfl)
theorem whD_succ (c:T) (b:Ss) (n:Nat):whD cl w c b (n+1) ρ=(iT cl c ρ).th fun t=>if t.1=true then (iSs cl w b t.2).th fun f=>nextR f fun ρ1=>whD cl w c b n ρ1 else .ok (.next t.2):=(rfl)
theorem compD_nil (e:E) (tg:Tg) (c:F) (acc:List D):compD cl e tg c [] ρ acc=.ok acc:=(rfl)
theorem compD_cons (e:E) (tg:Tg) (c:F) (d:D) (l acc:List D):compD cl e tg c (d::l) ρ acc=(tg.go d ρ).th fun ρ1=>(iF cl c ρ1).th fun bt=>if bt.1=true then (escE e (iR cl e) bt.2).th fun x=>if acc.length < sizeLine then compD cl e tg c l x.2 (acc++[x.1]) else .no else compD cl e tg c l bt.2 acc:=(rfl)
theorem iS_app (i:Nat) (e:E):iS cl w (.app i e) ρ=(match ownI ρ i with
  | none=>.no
  | some _=>(escE e (iR cl e) ρ).th fun y=>(match ownI y.2 i with
   | some l=>if l.length < sizeLine then .ok (.next (y.2.set i (.own (l++[y.1])))) else .no
   | none=>.no)):=(rfl)
theorem iS_ret (e:E):iS cl w (.ret e) ρ=(escX e (iR cl e) ρ).th fun r=>.ok (.ret r):=(rfl)
theorem iS_set (i:Nat) (e:E):iS cl w (.set i e) ρ=(escA e (iR cl e) ρ).th fun s=>.ok (.next (s.2.set i s.1)):=(rfl)
theorem iS_setT (tg:Tg) (e:E):iS cl w (.setT tg e) ρ=(escE e (iR cl e) ρ).th fun x=>(tg.go x.1 x.2).th fun ρ1=>.ok (.next ρ1):=(rfl)
theorem iS_setI (i:Nat) (x e:E):iS cl w (.setI i x e) ρ=(escE e (iR cl e) ρ).th fun y=>(match ownI y.2 i with
  | none=>.no
  | some _=>(iR cl x y.2).th fun z=>(match ownI z.2 i,z.1.int? with
   | some l,some n=>(match ixN l.length n with
    | some k=>.ok (.next (z.2.set i (.own (l.set k y.1))))
    | none=>.no)
   | _,_=>.no)):=(rfl)
theorem iS_ite (c:T) (a b:Ss):iS cl w (.ite c a b) ρ=(iT cl c ρ).th fun t=>if t.1=true then iSs cl w a t.2 else iSs cl w b t.2:=(rfl)
theorem iS_for (tg:Tg) (src:I) (b:Ss):iS cl w (.for_ tg src b) ρ=(iI cl src ρ).th fun x=>forD cl w tg b x.1 x.2:=(rfl)
theorem iSs_cons (s:S) (l:Ss):iSs cl w (.cons s l) ρ=(iS cl w s ρ).th fun f=>nextR f fun ρ1=>iSs cl w l ρ1:=(rfl)
theorem iR_bin (op:Operator) (a b:E):iR cl (.bin op a b) ρ=(iR cl a ρ).th fun x=>(iR cl b x.2).th fun y=>(binD op x.1 y.1).th fun r=>.ok (r,y.2):=(rfl)
theorem iR_neg (a:E):iR cl (.neg a) ρ=(iR cl a ρ).th fun x=>match x.1 with
  | .val (.int i)=>.ok (.val (.int (-i)),x.2)
  | _=>.no:=(rfl)
theorem iR_not (a:E):iR cl (.not a) ρ=(iR cl a ρ).th fun x=>match x.1 with
  | .val (.bl b)=>.ok (.val (.bl (!b)),x.2)
  | _=>.no:=(rfl)
theorem iR_and (a b:E):iR cl (.and a b) ρ=(iR cl a ρ).th fun x=>match x.1 with
  | .val (.bl true)=>iR cl b x.2
  | .val (.bl false)=>.ok (.val (.bl false),x.2)
  | _=>.no:=(rfl)
theorem iR_cmp (op:CmpOp) (a b:E):iR cl (.cmp op a b) ρ=(iR cl a ρ).th fun x=>(iR cl b x.2).th fun y=>(R.of (cmpD op x.1 y.1)).th fun r=>.ok (.val (.bl r),y.2):=(rfl)
theorem iR_idx (a i:E):iR cl (.idx a i) ρ=(iR cl a ρ).th fun x=>(iR cl i x.2).th fun y=>(idxD x.1 y.1).th fun r=>.ok (r,y.2):=(rfl)
theorem iR_sli (a:E) (lo hi:O):iR cl (.sli a lo hi) ρ=(iR cl a ρ).th fun x=>(iO cl lo x.2).th fun l=>(iO cl hi l.2).th fun h=>(sliceD x.1 l.1 h.1).th fun r=>.ok (r,h.2):=(rfl)
theorem iR_lst (l:Es):iR cl (.lst l) ρ=(iEs cl l ρ).th fun x=>if x.1.length≤sizeLine then .ok (.tmp x.1,x.2) else .no:=(rfl)
theorem iR_tup (l:Es):iR cl (.tup l) ρ=(iEs cl l ρ).th fun x=>if x.1.length≤sizeLine then .ok (.val (.tup x.1),x.2) else .no:=(rfl)
theorem iR_call (f:Str) (l:Es):iR cl (.call f l) ρ=(iAs cl l ρ).th fun x=>(cl f x.1).th fun r=>.ok (r,x.2):=(rfl)
theorem iR_b1 (f:B1) (a:E):iR cl (.b1 f a) ρ=(iR cl a ρ).th fun x=>(f.go x.1).th fun r=>.ok (r,x.2):=(rfl)
theorem iR_b2 (f:B2) (a b:E):iR cl (.b2 f a b) ρ=(iR cl a ρ).th fun x=>(iR cl b x.2).th fun y=>(f.go x.1 y.1).th fun r=>.ok (r,y.2):=(rfl)
theorem iR_isi (t:Ty) (a:E):iR cl (.isi t a) ρ=(iR cl a ρ).th fun x=>(R.of (t.go x.1)).th fun b=>.ok (.val (.bl b),x.2):=(rfl)
theorem iR_isc (t:Str) (a:E):iR cl (.isc t a) ρ=(iR cl a ρ).th fun x=>(R.of (isiG cl.cs x.1 t)).th fun b=>.ok (.val (.bl b),x.2):=(rfl)
theorem iR_fld (a:E) (x:Str):iR cl (.fld a x) ρ=(iR cl a ρ).th fun y=>(R.of (fldD cl.cs y.1 x)).th fun d=>.ok (.val d,y.2):=(rfl)
theorem iR_met (a:E) (x:Str) (l:Es):iR cl (.met a x l) ρ=(iR cl a ρ).th fun y=>(R.of (mtD cl.cs y.1 x)).th fun f=>(iAs cl l y.2).th fun z=>(cl f (toAr y.1::z.1)).th fun r=>.ok (r,z.2):=(rfl)
theorem iR_new (f:Str) (l:Es):iR cl (.new f l) ρ=(iAs cl l ρ).th fun x=>(cl.nw f x.1).th fun r=>.ok (r,x.2):=(rfl)
theorem iR_comp (e:E) (src:I) (tg:Tg) (c:F) (n:Nat) (fr:List Nat):iR cl (.comp e src tg c n fr) ρ=(iI cl src ρ).th fun x=>if x.1.length≤sizeLine then (compD cl e tg c x.1 (iBlk n fr x.2) []).th fun l=>.ok (.tmp l,x.2) else .no:=(rfl)
theorem iT_not (a:T):iT cl (.not a) ρ=(iT cl a ρ).th fun t=>.ok (!t.1,t.2):=(rfl)
theorem iT_and (a b:T):iT cl (.and a b) ρ=(iT cl a ρ).th fun t=>if t.1=true then iT cl b t.2 else .ok (false,t.2):=(rfl)
theorem iT_or (a b:T):iT cl (.or a b) ρ=(iT cl a ρ).th fun t=>if t.1=true then .ok (true,t.2) else iT cl b t.2:=(rfl)
theorem iT_cmp (op:CmpOp) (a b:E):iT cl (.cmp op a b) ρ=(iR cl a ρ).th fun x=>(iR cl b x.2).th fun y=>(R.of (cmpD op x.1 y.1)).th fun r=>.ok (r,y.2):=(rfl)
theorem iT_val (a:E):iT cl (.val a) ρ=(iR cl a ρ).th fun x=>(R.of (truthD x.1)).th fun b=>.ok (b,x.2):=(rfl)
theorem iEs_cons (e:E) (l:Es):iEs cl (.cons e l) ρ=(escE e (iR cl e) ρ).th fun x=>(iEs cl l x.2).th fun y=>.ok (x.1::y.1,y.2):=(rfl)
theorem iAs_cons (e:E) (l:Es):iAs cl (.cons e l) ρ=(iR cl e ρ).th fun x=>(iAs cl l x.2).th fun y=>.ok (toAr x.1::y.1,y.2):=(rfl)
theorem iO_some (e:E):iO cl (.some e) ρ=(iR cl e ρ).th fun x=>match x.1 with
  | .val (.int i)=>.ok (some i,x.2)
  | _=>.no:=(rfl)
theorem iI_seq (a:E):iI cl (.seq a) ρ=(escL a (iR cl a) ρ).th fun x=>.ok (x.1.2,x.2):=(rfl)
theorem iI_rng (a:E):iI cl (.rng a) ρ=(iR cl a ρ).th fun x=>(match x.1.int? with
  | some n=>if smallI n=true then .ok (rangeD 0 n,x.2) else .no
  | none=>.no):=(rfl)
theorem iI_rng2 (a b:E):iI cl (.rng2 a b) ρ=(iR cl a ρ).th fun x=>(iR cl b x.2).th fun y=>(match x.1.int?,y.1.int? with
  | some i,some j=>if smallI i=true∧smallI j=true then .ok (rangeD i j,y.2) else .no
  | _,_=>.no):=(rfl)
theorem iI_enum (a:E):iI cl (.enum a) ρ=(escL a (iR cl a) ρ).th fun x=>match x.1.1 with | .lst=>.ok (enumD x.1.2,x.2) | _=>.no:=(rfl)
variable (s:Sl) (i:Nat) (d:D) (l:List D)
theorem slR_s:slR (s::ρ) (i+1)=slR ρ i:=(rfl)
theorem slR_v:slR (.val d::ρ) 0=.ok (.val d):=(rfl)
theorem slR_o:slR (.own l::ρ) 0=.ok (.cell l):=(rfl)
theorem slR_b:slR (.bor l::ρ) 0=.ok (.cell l):=(rfl)
theorem slR_c:slR (.scr l::ρ) 0=.ok (.scr l):=(rfl)
theorem slX_s:slX (s::ρ) (i+1)=slX ρ i:=(rfl)
theorem slX_v:slX (.val d::ρ) 0=.ok (.val d):=(rfl)
theorem slX_o:slX (.own l::ρ) 0=.ok (.tmp l):=(rfl)
theorem slE_s:slE (s::ρ) (i+1)=(slE ρ i).th fun x=>.ok (x.1,s::x.2):=by
 show (match ρ[i]? with | some (.val d)=>_ | some (.own l)=>_ | _=>_)=R.th (match ρ[i]? with | some (.val d)=>_ | some (.own l)=>_ | _=>_) _
 cases ρ[i]? with
 | none=>rfl
 | some z=>cases z<;>rfl
theorem slL_s:slL (s::ρ) (i+1)=(slL ρ i).th fun x=>.ok (x.1,s::x.2):=by
 show (match ρ[i]? with | some (.val (.lst l))=>_ | some (.val (.tup l))=>_ | some (.val (.str z))=>_ | some (.own l)=>_ | some (.bor l)=>_ | some (.scr l)=>_ | _=>_)=R.th (match ρ[i]? with | some (.val (.lst l))=>_ | some (.val (.tup l))=>_ | some (.val (.str z))=>_ | some (.own l)=>_ | some (.bor l)=>_ | some (.scr l)=>_ | _=>_) _
 cases ρ[i]? with
 | none=>rfl
 | some z=>
  cases z with
  | val d=>cases d<;>rfl
  | _=>rfl
theorem ownI_s:ownI (s::ρ) (i+1)=ownI ρ i:=(rfl)
theorem ownI_o:ownI (.own l::ρ) 0=some l:=(rfl)
end
mutual
noncomputable def okD:D→Bool
 | .str s=>PyData.strOk s
 | .lst l=>okDs l
 | .tup l=>okDs l
 | .ins ..=>false
 | .non=>true
 | .bl _=>true
 | .int _=>true
noncomputable def okDs:List D→Bool
 | []=>true
 | d::l=>okD d&&okDs l
end
mutual
noncomputable def dpD:D→Nat
 | .lst l=>dpDs l+1
 | .tup l=>dpDs l+1
 | .str _=>0
 | .ins ..=>0
 | .non=>0
 | .bl _=>0
 | .int _=>0
noncomputable def dpDs:List D→Nat
 | []=>0
 | d::l=>max (dpD d) (dpDs l)
end
mutual
theorem toP_ok:∀ d:D,okD d=true→∃ p,toP d=some p∧p.canLay0=true∧p.depth=dpD d∧PyData.eqv p p=true
 | .non,_=>⟨_,by rw [toP],by rw [PyData.canLay0],by rw [PyData.depth,dpD],by rw [PyData.eqv]⟩
 | .bl b,_=>⟨_,by rw [toP],by rw [PyData.canLay0],by rw [PyData.depth,dpD],by rw [PyData.eqv];simp⟩
 | .int n,_=>⟨_,by rw [toP],by rw [PyData.canLay0],by rw [PyData.depth,dpD],by rw [PyData.eqv];simp⟩
 | .str s,h=>⟨_,by rw [toP],by rw [PyData.canLay0];rw [okD] at h;exact h,by rw [PyData.depth,dpD],by rw [PyData.eqv];simp⟩
 | .lst l,h=>by
  rw [okD] at h
  obtain ⟨p,h1,h2,h3,h4⟩:=toPs_ok l h
  exact ⟨.list p,by rw [toP,h1];rfl,by rw [PyData.canLay0];exact h2,by rw [PyData.depth,dpD,h3],by rw [PyData.eqv];exact h4⟩
 | .tup l,h=>by
  rw [okD] at h
  obtain ⟨p,h1,h2,h3,h4⟩:=toPs_ok l h
  exact ⟨.tuple p,by rw [toP,h1];rfl,by rw [PyData.canLay0];exact h2,by rw [PyData.depth,dpD,h3],by rw [PyData.eqv];exact h4⟩
 | .ins ..,h=>by rw [okD] at h;cases h
theorem toPs_ok:∀ l:List D,okDs l=true→∃ p,toPs l=some p∧PyData.canLayAll0 p=true∧PyData.depthAll p=dpDs l∧PyData.eqvAll p p=true
 | [],_=>⟨[],by rw [toPs],by rw [PyData.canLayAll0],by rw [PyData.depthAll,dpDs],by rw [PyData.eqvAll]⟩
 | d::l,h=>by
  rw [okDs,Bool.and_eq_true] at h
  obtain ⟨p,h1,h2,h3,h4⟩:=toP_ok d h.1
  obtain ⟨q,h5,h6,h7,h8⟩:=toPs_ok l h.2
  exact ⟨p::q,by rw [toPs,h1,h5];rfl,by rw [PyData.canLayAll0,h2,h6];rfl,by rw [PyData.depthAll,dpDs,h3,h7],by rw [PyData.eqvAll,h4,h8];rfl⟩
end
theorem toP_sh {d:D} (h:okD d=true) (hd:dpD d≤64):∃ p,toP d=some p∧SeqAt.shaped p=true∧PyData.eqv p p=true:=by
 obtain ⟨p,h1,h2,h3,h4⟩:=toP_ok d h
 exact ⟨p,h1,by unfold SeqAt.shaped;rw [h2,h3];simpa using hd,h4⟩
theorem eqD_self {d:D} (h:okD d=true) (hd:dpD d≤64):eqD d d=some true:=by
 obtain ⟨p,h1,h2,h3⟩:=toP_sh h hd
 unfold eqD
 rw [h1]
 dsimp only
 rw [h2,h3]
 rfl
theorem eqD_str {a b:Str} (ha:PyData.strOk a=true) (hb:PyData.strOk b=true):eqD (.str a) (.str b)=some (a == b):=by
 unfold eqD
 simp only [toP]
 rw [show SeqAt.shaped (.str a)=true by unfold SeqAt.shaped;simp [PyData.canLay0,PyData.depth,ha],show SeqAt.shaped (.str b)=true by unfold SeqAt.shaped;simp [PyData.canLay0,PyData.depth,hb]]
 simp [PyData.eqv]
theorem sh_non:SeqAt.shaped .none=true:=by unfold SeqAt.shaped;simp [PyData.canLay0,PyData.depth]
theorem sh_int (n:Int):SeqAt.shaped (.int n)=true:=by unfold SeqAt.shaped;simp [PyData.canLay0,PyData.depth]
theorem sh_str {a:Str} (ha:PyData.strOk a=true):SeqAt.shaped (.str a)=true:=by unfold SeqAt.shaped;simp [PyData.canLay0,PyData.depth,ha]
theorem eqD_int (a b:Int):eqD (.int a) (.int b)=some (a == b):=by
 unfold eqD
 simp only [toP,sh_int,Bool.and_self,if_true,PyData.eqv]
theorem eqD_nn:eqD .non .non=some true:=by
 unfold eqD
 simp only [toP,sh_non,Bool.and_self,if_true,PyData.eqv]
theorem eqD_sn {a:Str} (ha:PyData.strOk a=true):eqD (.str a) .non=some false:=by
 unfold eqD
 simp only [toP,sh_non,sh_str ha,Bool.and_self,if_true,PyData.eqv]
theorem atI_nat {α:Type} {l:List α} {i:Int} {j:Nat} (h:i=(j:Int)) (hj:j < l.length):atI l i=some l[j]:=by
 subst h
 unfold atI ixN
 rw [if_pos (by omega),if_pos (by omega)]
 simp [hj]
theorem ixN_last {n:Nat}:ixN (n+1) (-1)=some n:=by
 unfold ixN
 rw [if_neg (by omega),if_pos (by omega),show ((-1:Int)+((n+1:Nat):Int)).toNat=n by omega]
theorem kk_f (pg:Pg) (k:Nat) (f:Str) (args:List Ar):(pg.kk k).f f args=clK pg k f args:=(rfl)
theorem kk_cs (pg:Pg) (k:Nat):(pg.kk k).cs=pg.cs:=(rfl)
theorem kk_nw (pg:Pg) (k:Nat) (f:Str) (args:List Ar):(pg.kk k).nw f args=pg.nw k f args:=(rfl)
end DE
set_option maxHeartbeats 4000000
namespace DE
open PySem L2
theorem at_0 {α:Type} (a:α) (l:List α):atI (a::l) 0=some a:=by
 exact atI_nat (i:=0) (j:=0) rfl (by simp)
theorem at_1 {α:Type} (a b:α) (l:List α):atI (a::b::l) 1=some b:=by
 exact atI_nat (i:=1) (j:=1) rfl (by simp)
theorem at_2 {α:Type} (a b c:α) (l:List α):atI (a::b::c::l) 2=some c:=by
 exact atI_nat (i:=2) (j:=2) rfl (by simp)
theorem at_n {α:Type} {l:List α} {j:Nat} {x:α} (h:l[j]?=some x):atI l (j:Int)=some x:=by
 obtain ⟨h1,h2⟩:=List.getElem?_eq_some_iff.mp h
 rw [atI_nat rfl h1,h2]
noncomputable def enF (i:Nat):List D→List D
 | []=>[]
 | d::l=>.tup [.int i,d]::enF (i+1) l
theorem enF_eq:∀ (l:List D) (i:Nat),(List.range' i l.length).zipWith (fun (i:Nat) d=>D.tup [.int i,d]) l=enF i l
 | [],i=>rfl
 | d::l,i=>by
  rw [List.length_cons,List.range'_succ,List.zipWith_cons_cons,enF_eq l (i+1)]
  rfl
theorem enumD_eq (l:List D):enumD l=enF 0 l:=by
 unfold enumD
 rw [List.range_eq_range',enF_eq]
noncomputable def rgF (i:Int):Nat→List D
 | 0=>[]
 | n+1=>.int i::rgF (i+1) n
theorem rgF_eq:∀ (n:Nat) (lo:Int) (s:Nat),(List.range' s n).map (fun i:Nat=>D.int (lo+i))=rgF (lo+s) n
 | 0,_,_=>rfl
 | n+1,lo,s=>by
  rw [List.range'_succ,List.map_cons,rgF_eq n lo (s+1)]
  show _=D.int (lo+s)::rgF (lo+s+1) n
  rw [show lo+((s+1:Nat):Int)=lo+s+1 by omega]
theorem rangeD_eq (lo hi:Int):rangeD lo hi=rgF lo (hi - lo).toNat:=by
 unfold rangeD
 rw [List.range_eq_range',rgF_eq]
 congr 1
 omega
theorem ixN_app {α:Type} (l:List α) (x:α):ixN (l++[x]).length (-1)=some l.length:=by
 rw [List.length_append]
 exact ixN_last
theorem set_app {α:Type} (l:List α) (x y:α):(l++[x]).set l.length y=l++[y]:=by
 simp
theorem emp_app {α:Type} (l:List α) (x:α):(l++[x]).isEmpty=false:=by cases l<;>rfl
end DE
set_option maxHeartbeats 4000000
namespace DE
open PySem L2
theorem th_assoc {α β γ:Type} (x:R α) (f:α→R β) (g:β→R γ):(x.th f).th g=x.th fun a=>(f a).th g:=by cases x<;>rfl
theorem th_ret {α:Type} (x:R α):x.th R.ok=x:=by cases x<;>rfl
section
variable {β:Type} (cl:Cl) (w:Nat)
noncomputable def kRet (ρ:Env) (K:Rv×Env→R β) (r:Rv):R β:=K (r,ρ)
noncomputable def kBl (ρ:Env) (K:Rv×Env→R β) (b:Bool):R β:=K (.val (.bl b),ρ)
noncomputable def kBo (ρ:Env) (K:Bool×Env→R β) (b:Bool):R β:=K (b,ρ)
noncomputable def kTmp (ρ:Env) (K:Rv×Env→R β) (l:List D):R β:=K (.tmp l,ρ)
noncomputable def kB2 (op:Operator) (u:Rv) (K:Rv×Env→R β) (y:Rv×Env):R β:=(binD op u y.1).th (kRet y.2 K)
noncomputable def kB1 (op:Operator) (b:E) (K:Rv×Env→R β) (x:Rv×Env):R β:=(iR cl b x.2).th (kB2 op x.1 K)
noncomputable def kNeg (K:Rv×Env→R β) (x:Rv×Env):R β:=R.th (match x.1 with
  | .val (.int i)=>.ok (.val (.int (-i)),x.2)
  | _=>.no) K
noncomputable def kNot (K:Rv×Env→R β) (x:Rv×Env):R β:=R.th (match x.1 with
  | .val (.bl b)=>.ok (.val (.bl (!b)),x.2)
  | _=>.no) K
noncomputable def kAnd (b:E) (K:Rv×Env→R β) (x:Rv×Env):R β:=R.th (match x.1 with
  | .val (.bl true)=>iR cl b x.2
  | .val (.bl false)=>.ok (.val (.bl false),x.2)
  | _=>.no) K
noncomputable def kC2 (op:CmpOp) (u:Rv) (K:Rv×Env→R β) (y:Rv×Env):R β:=(R.of (cmpD op u y.1)).th (kBl y.2 K)
noncomputable def kC1 (op:CmpOp) (b:E) (K:Rv×Env→R β) (x:Rv×Env):R β:=(iR cl b x.2).th (kC2 op x.1 K)
noncomputable def kI2 (u:Rv) (K:Rv×Env→R β) (y:Rv×Env):R β:=(idxD u y.1).th (kRet y.2 K)
noncomputable def kI1 (b:E) (K:Rv×Env→R β) (x:Rv×Env):R β:=(iR cl b x.2).th (kI2 x.1 K)
noncomputable def kS3 (v:Rv) (l:Option Int) (K:Rv×Env→R β) (h:Option Int×Env):R β:=(sliceD v l h.1).th (kRet h.2 K)
noncomputable def kS2 (v:Rv) (hi:O) (K:Rv×Env→R β) (l:Option Int×Env):R β:=(iO cl hi l.2).th (kS3 v l.1 K)
noncomputable def kS1 (lo hi:O) (K:Rv×Env→R β) (x:Rv×Env):R β:=(iO cl lo x.2).th (kS2 cl x.1 hi K)
noncomputable def kLst (K:Rv×Env→R β) (x:List D×Env):R β:=if x.1.length≤sizeLine then K (.tmp x.1,x.2) else .no
noncomputable def kTup (K:Rv×Env→R β) (x:List D×Env):R β:=if x.1.length≤sizeLine then K (.val (.tup x.1),x.2) else .no
noncomputable def kCall (f:Str) (K:Rv×Env→R β) (x:List Ar×Env):R β:=(cl f x.1).th (kRet x.2 K)
noncomputable def kF1 (f:B1) (K:Rv×Env→R β) (x:Rv×Env):R β:=(f.go x.1).th (kRet x.2 K)
noncomputable def kG2 (f:B2) (u:Rv) (K:Rv×Env→R β) (y:Rv×Env):R β:=(f.go u y.1).th (kRet y.2 K)
noncomputable def kG1 (f:B2) (b:E) (K:Rv×Env→R β) (x:Rv×Env):R β:=(iR cl b x.2).th (kG2 f x.1 K)
noncomputable def kIsc (t:Str) (K:Rv×Env→R β) (x:Rv×Env):R β:=(R.of (isiG cl.cs x.1 t)).th (kBl x.2 K)
noncomputable def kDat (ρ:Env) (K:Rv×Env→R β) (d:D):R β:=K (.val d,ρ)
noncomputable def kFld (x:Str) (K:Rv×Env→R β) (y:Rv×Env):R β:=(R.of (fldD cl.cs y.1 x)).th (kDat y.2 K)
noncomputable def kMt3 (f:Str) (v:Rv) (K:Rv×Env→R β) (z:List Ar×Env):R β:=(cl f (toAr v::z.1)).th (kRet z.2 K)
noncomputable def kMt2 (v:Rv) (l:Es) (ρ:Env) (K:Rv×Env→R β) (f:Str):R β:=(iAs cl l ρ).th (kMt3 cl f v K)
noncomputable def kMt1 (x:Str) (l:Es) (K:Rv×Env→R β) (y:Rv×Env):R β:=(R.of (mtD cl.cs y.1 x)).th (kMt2 cl y.1 l y.2 K)
noncomputable def kNew (f:Str) (K:Rv×Env→R β) (x:List Ar×Env):R β:=(cl.nw f x.1).th (kRet x.2 K)
noncomputable def kIsi (t:Ty) (K:Rv×Env→R β) (x:Rv×Env):R β:=(R.of (t.go x.1)).th (kBl x.2 K)
noncomputable def kComp (e:E) (tg:Tg) (c:F) (n:Nat) (fr:List Nat) (K:Rv×Env→R β) (x:List D×Env):R β:=if x.1.length≤sizeLine then (compD cl e tg c x.1 (iBlk n fr x.2) []).th (kTmp x.2 K) else .no
noncomputable def kTn (K:Bool×Env→R β) (t:Bool×Env):R β:=K (!t.1,t.2)
noncomputable def kTa (b:T) (K:Bool×Env→R β) (t:Bool×Env):R β:=if t.1=true then (iT cl b t.2).th K else K (false,t.2)
noncomputable def kTo (b:T) (K:Bool×Env→R β) (t:Bool×Env):R β:=if t.1=true then K (true,t.2) else (iT cl b t.2).th K
noncomputable def kD2 (op:CmpOp) (u:Rv) (K:Bool×Env→R β) (y:Rv×Env):R β:=(R.of (cmpD op u y.1)).th (kBo y.2 K)
noncomputable def kD1 (op:CmpOp) (b:E) (K:Bool×Env→R β) (x:Rv×Env):R β:=(iR cl b x.2).th (kD2 op x.1 K)
noncomputable def kTv (K:Bool×Env→R β) (x:Rv×Env):R β:=(R.of (truthD x.1)).th (kBo x.2 K)
noncomputable def kE2 (d:D) (K:List D×Env→R β) (y:List D×Env):R β:=K (d::y.1,y.2)
noncomputable def kE1 (l:Es) (K:List D×Env→R β) (x:D×Env):R β:=(iEs cl l x.2).th (kE2 x.1 K)
noncomputable def kA2 (v:Rv) (K:List Ar×Env→R β) (y:List Ar×Env):R β:=K (toAr v::y.1,y.2)
noncomputable def kA1 (l:Es) (K:List Ar×Env→R β) (x:Rv×Env):R β:=(iAs cl l x.2).th (kA2 x.1 K)
noncomputable def kO (K:Option Int×Env→R β) (x:Rv×Env):R β:=R.th (match x.1 with
  | .val (.int i)=>.ok (some i,x.2)
  | _=>.no) K
noncomputable def kSeq (K:List D×Env→R β) (x:(Sk×List D)×Env):R β:=K (x.1.2,x.2)
noncomputable def kRng (K:List D×Env→R β) (x:Rv×Env):R β:=R.th (match x.1.int? with
  | some n=>if smallI n=true then .ok (rangeD 0 n,x.2) else .no
  | none=>.no) K
noncomputable def kR2 (u:Rv) (K:List D×Env→R β) (y:Rv×Env):R β:=R.th (match u.int?,y.1.int? with
  | some i,some j=>if smallI i=true∧smallI j=true then .ok (rangeD i j,y.2) else .no
  | _,_=>.no) K
noncomputable def kR1 (b:E) (K:List D×Env→R β) (x:Rv×Env):R β:=(iR cl b x.2).th (kR2 x.1 K)
noncomputable def kEnum (K:List D×Env→R β) (x:(Sk×List D)×Env):R β:=R.th (match x.1.1 with | .lst=>.ok (enumD x.1.2,x.2) | _=>.no) K
noncomputable def kVal (K:D×Env→R β) (x:Rv×Env):R β:=(valE x).th K
noncomputable def kValL (K:(Sk×List D)×Env→R β) (x:Rv×Env):R β:=(valL x).th K
noncomputable def kX (K:Rv→R β) (x:Rv×Env):R β:=R.th (match x.1 with
  | .val d=>.ok (.val d)
  | .tmp l=>.ok (.tmp l)
  | _=>.no) K
noncomputable def kAv (K:Sl×Env→R β) (x:D×Env):R β:=K (.val x.1,x.2)
noncomputable def kAx (K:Sl×Env→R β) (x:Rv×Env):R β:=R.th (match x.1 with
  | .val d=>.ok (.val d,x.2)
  | .tmp l=>.ok (.own l,x.2)
  | _=>.no) K
noncomputable def kCons {α:Type} (s:Sl) (K:α×Env→R β) (x:α×Env):R β:=K (x.1,s::x.2)
noncomputable def oGo (o:Option (List D)) (x:R β):R β:=match o with
 | none=>.no
 | some _=>x
noncomputable def kApp2 (i:Nat) (d:D) (ρ:Env) (K:Fl→R β) (o:Option (List D)):R β:=R.th (match o with
   | some l=>if l.length < sizeLine then .ok (.next (ρ.set i (.own (l++[d])))) else .no
   | none=>.no) K
noncomputable def kApp (i:Nat) (K:Fl→R β) (y:D×Env):R β:=kApp2 i y.1 y.2 K (ownI y.2 i)
noncomputable def kRt (K:Fl→R β) (r:Rv):R β:=K (.ret r)
noncomputable def kSet (i:Nat) (K:Fl→R β) (s:Sl×Env):R β:=K (.next (s.2.set i s.1))
noncomputable def kNx (K:Fl→R β) (ρ:Env):R β:=K (.next ρ)
noncomputable def kST (tg:Tg) (K:Fl→R β) (x:D×Env):R β:=(tg.go x.1 x.2).th (kNx K)
noncomputable def kSI4 (i:Nat) (d:D) (ρ:Env) (K:Fl→R β) (l:List D) (o:Option Nat):R β:=R.th (match o with
    | some k=>.ok (.next (ρ.set i (.own (l.set k d))))
    | none=>.no) K
noncomputable def kSI3 (i:Nat) (d:D) (ρ:Env) (K:Fl→R β) (o:Option (List D)) (v:Option Int):R β:=match o,v with
 | some l,some n=>kSI4 i d ρ K l (ixN l.length n)
 | _,_=>.no
noncomputable def kSI2 (i:Nat) (d:D) (K:Fl→R β) (z:Rv×Env):R β:=kSI3 i d z.2 K (ownI z.2 i) z.1.int?
noncomputable def kSI (i:Nat) (x:E) (K:Fl→R β) (y:D×Env):R β:=oGo (ownI y.2 i) ((iR cl x y.2).th (kSI2 i y.1 K))
noncomputable def kIte (a b:Ss) (K:Fl→R β) (t:Bool×Env):R β:=if t.1=true then (iSs cl w a t.2).th K else (iSs cl w b t.2).th K
noncomputable def kFor (tg:Tg) (b:Ss) (K:Fl→R β) (x:List D×Env):R β:=(forD cl w tg b x.1 x.2).th K
noncomputable def kNext (l:Ss) (K:Fl→R β) (f:Fl):R β:=(nextR f fun ρ1=>iSs cl w l ρ1).th K
noncomputable def kFo2 (tg:Tg) (b:Ss) (l:List D) (K:Fl→R β) (f:Fl):R β:=(nextR f fun ρ1=>forD cl w tg b l ρ1).th K
noncomputable def kFo1 (tg:Tg) (b:Ss) (l:List D) (K:Fl→R β) (ρ:Env):R β:=(iSs cl w b ρ).th (kFo2 cl w tg b l K)
noncomputable def kWh2 (c:T) (b:Ss) (n:Nat) (K:Fl→R β) (f:Fl):R β:=(nextR f fun ρ1=>whD cl w c b n ρ1).th K
noncomputable def kWh1 (c:T) (b:Ss) (n:Nat) (K:Fl→R β) (t:Bool×Env):R β:=if t.1=true then (iSs cl w b t.2).th (kWh2 cl w c b n K) else K (.next t.2)
noncomputable def kP3 (e:E) (tg:Tg) (c:F) (l acc:List D) (K:List D→R β) (x:D×Env):R β:=if acc.length < sizeLine then (compD cl e tg c l x.2 (acc++[x.1])).th K else .no
noncomputable def kP2 (e:E) (tg:Tg) (c:F) (l acc:List D) (K:List D→R β) (t:Bool×Env):R β:=if t.1=true then (escE e (iR cl e) t.2).th (kP3 cl e tg c l acc K) else (compD cl e tg c l t.2 acc).th K
noncomputable def kP1 (e:E) (tg:Tg) (c:F) (l acc:List D) (K:List D→R β) (ρ:Env):R β:=(iF cl c ρ).th (kP2 cl e tg c l acc K)
theorem ite_th {α:Type} {c:Prop} [Decidable c] (x y:R α) (K:α→R β):(if c then x else y).th K=if c then x.th K else y.th K:=by split<;>rfl
theorem th_eq {α:Type} (x:R α) {f g:α→R β} (h:∀ a,f a=g a):x.th f=x.th g:=by cases x<;>first | rfl | exact h _
section
variable (ρ:Env) (K:Rv×Env→R β)
theorem xR_var (i:Nat):(iR cl (.var i) ρ).th K=(slR ρ i).th (kRet ρ K):=(th_assoc (slR ρ i) _ _)
theorem xR_con (d:D):(iR cl (.con d) ρ).th K=K (.val d,ρ):=(rfl)
theorem xR_bin (op:Operator) (a b:E):(iR cl (.bin op a b) ρ).th K=(iR cl a ρ).th (kB1 cl op b K):=by
 rw [iR_bin,th_assoc]
 refine th_eq _ fun x=>?_
 rw [th_assoc]
 refine th_eq _ fun y=>?_
 rw [th_assoc]
 rfl
theorem xR_neg (a:E):(iR cl (.neg a) ρ).th K=(iR cl a ρ).th (kNeg K):=by rw [iR_neg,th_assoc];rfl
theorem xR_not (a:E):(iR cl (.not a) ρ).th K=(iR cl a ρ).th (kNot K):=by rw [iR_not,th_assoc];rfl
theorem xR_one (a:E):(iR cl (.one a) ρ).th K=(iR cl a ρ).th K:=(rfl)
theorem xR_and (a b:E):(iR cl (.and a b) ρ).th K=(iR cl a ρ).th (kAnd cl b K):=by rw [iR_and,th_assoc];rfl
theorem xR_cmp (op:CmpOp) (a b:E):(iR cl (.cmp op a b) ρ).th K=(iR cl a ρ).th (kC1 cl op b K):=by
 rw [iR_cmp,th_assoc]
 refine th_eq _ fun x=>?_
 rw [th_assoc]
 refine th_eq _ fun y=>?_
 rw [th_assoc]
 rfl
theorem xR_idx (a b:E):(iR cl (.idx a b) ρ).th K=(iR cl a ρ).th (kI1 cl b K):=by
 rw [iR_idx,th_assoc]
 refine th_eq _ fun x=>?_
 rw [th_assoc]
 refine th_eq _ fun y=>?_
 rw [th_assoc]
 rfl
theorem xR_sli (a:E) (lo hi:O):(iR cl (.sli a lo hi) ρ).th K=(iR cl a ρ).th (kS1 cl lo hi K):=by
 rw [iR_sli,th_assoc]
 refine th_eq _ fun x=>?_
 rw [th_assoc]
 refine th_eq _ fun y=>?_
 rw [th_assoc]
 refine th_eq _ fun z=>?_
 rw [th_assoc]
 rfl
theorem xR_lst (l:Es):(iR cl (.lst l) ρ).th K=(iEs cl l ρ).th (kLst K):=by
 rw [iR_lst,th_assoc]
 refine th_eq _ fun x=>?_
 rw [ite_th]
 rfl
theorem xR_tup (l:Es):(iR cl (.tup l) ρ).th K=(iEs cl l ρ).th (kTup K):=by
 rw [iR_tup,th_assoc]
 refine th_eq _ fun x=>?_
 rw [ite_th]
 rfl
theorem xR_call (f:Str) (l:Es):(iR cl (.call f l) ρ).th K=(iAs cl l ρ).th (kCall cl f K):=by
 rw [iR_call,th_assoc]
 refine th_eq _ fun x=>?_
 rw [th_assoc]
 rfl
theorem xR_b1 (f:B1) (a:E):(iR cl (.b1 f a) ρ).th K=(iR cl a ρ).th (kF1 f K):=by
 rw [iR_b1,th_assoc]
 refine th_eq _ fun x=>?_
 rw [th_assoc]
 rfl
theorem xR_b2 (f:B2) (a b:E):(iR cl (.b2 f a b) ρ).th K=(iR cl a ρ).th (kG1 cl f b K):=by
 rw [iR_b2,th_assoc]
 refine th_eq _ fun x=>?_
 rw [th_assoc]
 refine th_eq _ fun y=>?_
 rw [th_assoc]
 rfl
theorem xR_isc (t:Str) (a:E):(iR cl (.isc t a) ρ).th K=(iR cl a ρ).th (kIsc cl t K):=by
 rw [iR_isc,th_assoc]
 refine th_eq _ fun x=>?_
 rw [th_assoc]
 rfl
theorem xR_fld (a:E) (x:Str):(iR cl (.fld a x) ρ).th K=(iR cl a ρ).th (kFld cl x K):=by
 rw [iR_fld,th_assoc]
 refine th_eq _ fun y=>?_
 rw [th_assoc]
 rfl
theorem xR_met (a:E) (x:Str) (l:Es):(iR cl (.met a x l) ρ).th K=(iR cl a ρ).th (kMt1 cl x l K):=by
 rw [iR_met,th_assoc]
 refine th_eq _ fun y=>?_
 rw [th_assoc]
 refine th_eq _ fun f=>?_
 rw [th_assoc]
 refine th_eq _ fun z=>?_
 rw [th_assoc]
 rfl
theorem xR_new (f:Str) (l:Es):(iR cl (.new f l) ρ).th K=(iAs cl l ρ).th (kNew cl f K):=by
 rw [iR_new,th_assoc]
 refine th_eq _ fun x=>?_
 rw [th_assoc]
 rfl
theorem xR_isi (t:Ty) (a:E):(iR cl (.isi t a) ρ).th K=(iR cl a ρ).th (kIsi t K):=by
 rw [iR_isi,th_assoc]
 refine th_eq _ fun x=>?_
 rw [th_assoc]
 rfl
theorem xR_comp (e:E) (src:I) (tg:Tg) (c:F) (n:Nat) (fr:List Nat):(iR cl (.comp e src tg c n fr) ρ).th K=(iI cl src ρ).th (kComp cl e tg c n fr K):=by
 rw [iR_comp,th_assoc]
 refine th_eq _ fun x=>?_
 rw [ite_th,th_assoc]
 rfl
end
section
variable (ρ:Env) (K:Rv×Env→R β) (v u:Rv)
theorem yRet:kRet ρ K v=K (v,ρ):=(rfl)
theorem yBl (b:Bool):kBl ρ K b=K (.val (.bl b),ρ):=(rfl)
theorem yTmp (l:List D):kTmp ρ K l=K (.tmp l,ρ):=(rfl)
theorem yB1 (op:Operator) (b:E):kB1 cl op b K (v,ρ)=(iR cl b ρ).th (kB2 op v K):=(rfl)
theorem yB2 (op:Operator):kB2 op u K (v,ρ)=(binD op u v).th (kRet ρ K):=(rfl)
theorem yNeg (i:Int):kNeg K (.val (.int i),ρ)=K (.val (.int (-i)),ρ):=(rfl)
theorem yNot (b:Bool):kNot K (.val (.bl b),ρ)=K (.val (.bl (!b)),ρ):=(rfl)
theorem yAnd (b:E) (t:Bool):kAnd cl b K (.val (.bl t),ρ)=if t=true then (iR cl b ρ).th K else K (.val (.bl false),ρ):=by cases t<;>rfl
theorem yC1 (op:CmpOp) (b:E):kC1 cl op b K (v,ρ)=(iR cl b ρ).th (kC2 op v K):=(rfl)
theorem yC2 (op:CmpOp):kC2 op u K (v,ρ)=(R.of (cmpD op u v)).th (kBl ρ K):=(rfl)
theorem yI1 (b:E):kI1 cl b K (v,ρ)=(iR cl b ρ).th (kI2 v K):=(rfl)
theorem yI2:kI2 u K (v,ρ)=(idxD u v).th (kRet ρ K):=(rfl)
theorem yS1 (lo hi:O):kS1 cl lo hi K (v,ρ)=(iO cl lo ρ).th (kS2 cl v hi K):=(rfl)
theorem yS2 (hi:O) (l:Option Int):kS2 cl v hi K (l,ρ)=(iO cl hi ρ).th (kS3 v l K):=(rfl)
theorem yS3 (l h:Option Int):kS3 v l K (h,ρ)=(sliceD v l h).th (kRet ρ K):=(rfl)
theorem yLst (l:List D):kLst K (l,ρ)=if l.length≤sizeLine then K (.tmp l,ρ) else .no:=(rfl)
theorem yTup (l:List D):kTup K (l,ρ)=if l.length≤sizeLine then K (.val (.tup l),ρ) else .no:=(rfl)
theorem yCall (f:Str) (l:List Ar):kCall cl f K (l,ρ)=(cl f l).th (kRet ρ K):=(rfl)
theorem yF1 (f:B1):kF1 f K (v,ρ)=(f.go v).th (kRet ρ K):=(rfl)
theorem yG1 (f:B2) (b:E):kG1 cl f b K (v,ρ)=(iR cl b ρ).th (kG2 f v K):=(rfl)
theorem yG2 (f:B2):kG2 f u K (v,ρ)=(f.go u v).th (kRet ρ K):=(rfl)
theorem yIsc (t:Str):kIsc cl t K (v,ρ)=(R.of (isiG cl.cs v t)).th (kBl ρ K):=(rfl)
theorem yDat (d:D):kDat ρ K d=K (.val d,ρ):=(rfl)
theorem yFld (x:Str):kFld cl x K (v,ρ)=(R.of (fldD cl.cs v x)).th (kDat ρ K):=(rfl)
theorem yMt3 (f:Str) (l:List Ar):kMt3 cl f v K (l,ρ)=(cl f (toAr v::l)).th (kRet ρ K):=(rfl)
theorem yMt2 (f:Str) (l:Es):kMt2 cl v l ρ K f=(iAs cl l ρ).th (kMt3 cl f v K):=(rfl)
theorem yMt1 (x:Str) (l:Es):kMt1 cl x l K (v,ρ)=(R.of (mtD cl.cs v x)).th (kMt2 cl v l ρ K):=(rfl)
theorem yNew (f:Str) (l:List Ar):kNew cl f K (l,ρ)=(cl.nw f l).th (kRet ρ K):=(rfl)
theorem yIsi (t:Ty):kIsi t K (v,ρ)=(R.of (t.go v)).th (kBl ρ K):=(rfl)
theorem yComp (e:E) (tg:Tg) (c:F) (n:Nat) (fr:List Nat) (l:List D):kComp cl e tg c n fr K (l,ρ)=if l.length≤sizeLine then (compD cl e tg c l (iBlk n fr ρ) []).th (kTmp ρ K) else .no:=(rfl)
end
section
variable (ρ:Env) (K:Bool×Env→R β) (v u:Rv) (t:Bool)
theorem xT_not (a:T):(iT cl (.not a) ρ).th K=(iT cl a ρ).th (kTn K):=by rw [iT_not,th_assoc];rfl
theorem xT_one (a:T):(iT cl (.one a) ρ).th K=(iT cl a ρ).th K:=(rfl)
theorem xT_and (a b:T):(iT cl (.and a b) ρ).th K=(iT cl a ρ).th (kTa cl b K):=by
 rw [iT_and,th_assoc]
 refine th_eq _ fun t=>?_
 rw [ite_th]
 rfl
theorem xT_or (a b:T):(iT cl (.or a b) ρ).th K=(iT cl a ρ).th (kTo cl b K):=by
 rw [iT_or,th_assoc]
 refine th_eq _ fun t=>?_
 rw [ite_th]
 rfl
theorem xT_cmp (op:CmpOp) (a b:E):(iT cl (.cmp op a b) ρ).th K=(iR cl a ρ).th (kD1 cl op b K):=by
 rw [iT_cmp,th_assoc]
 refine th_eq _ fun x=>?_
 rw [th_assoc]
 refine th_eq _ fun y=>?_
 rw [th_assoc]
 rfl
theorem xT_val (a:E):(iT cl (.val a) ρ).th K=(iR cl a ρ).th (kTv K):=by
 rw [iT_val,th_assoc]
 refine th_eq _ fun x=>?_
 rw [th_assoc]
 rfl
theorem yBo:kBo ρ K t=K (t,ρ):=(rfl)
theorem yTn:kTn K (t,ρ)=K (!t,ρ):=(rfl)
theorem yTa (b:T):kTa cl b K (t,ρ)=if t=true then (iT cl b ρ).th K else K (false,ρ):=(rfl)
theorem yTo (b:T):kTo cl b K (t,ρ)=if t=true then K (true,ρ) else (iT cl b ρ).th K:=(rfl)
theorem yD1 (op:CmpOp) (b:E):kD1 cl op b K (v,ρ)=(iR cl b ρ).th (kD2 op v K):=(rfl)
theorem yD2 (op:CmpOp):kD2 op u K (v,ρ)=(R.of (cmpD op u v)).th (kBo ρ K):=(rfl)
theorem yTv:kTv K (v,ρ)=(R.of (truthD v)).th (kBo ρ K):=(rfl)
theorem xF_yes:(iF cl .yes ρ).th K=K (true,ρ):=(rfl)
theorem xF_test (c:T):(iF cl (.test c) ρ).th K=(iT cl c ρ).th K:=(rfl)
end
section
variable (ρ:Env)
theorem xEs_nil (K:List D×Env→R β):(iEs cl .nil ρ).th K=K ([],ρ):=(rfl)
theorem xEs_cons (K:List D×Env→R β) (e:E) (l:Es):(iEs cl (.cons e l) ρ).th K=(escE e (iR cl e) ρ).th (kE1 cl l K):=by
 rw [iEs_cons,th_assoc]
 refine th_eq _ fun x=>?_
 rw [th_assoc]
 rfl
theorem yE1 (K:List D×Env→R β) (l:Es) (d:D):kE1 cl l K (d,ρ)=(iEs cl l ρ).th (kE2 d K):=(rfl)
theorem yE2 (K:List D×Env→R β) (d:D) (ds:List D):kE2 d K (ds,ρ)=K (d::ds,ρ):=(rfl)
theorem xAs_nil (K:List Ar×Env→R β):(iAs cl .nil ρ).th K=K ([],ρ):=(rfl)
theorem xAs_cons (K:List Ar×Env→R β) (e:E) (l:Es):(iAs cl (.cons e l) ρ).th K=(iR cl e ρ).th (kA1 cl l K):=by
 rw [iAs_cons,th_assoc]
 refine th_eq _ fun x=>?_
 rw [th_assoc]
 rfl
theorem yA1 (K:List Ar×Env→R β) (l:Es) (v:Rv):kA1 cl l K (v,ρ)=(iAs cl l ρ).th (kA2 v K):=(rfl)
theorem yA2 (K:List Ar×Env→R β) (v:Rv) (l:List Ar):kA2 v K (l,ρ)=K (toAr v::l,ρ):=(rfl)
theorem xO_none (K:Option Int×Env→R β):(iO cl .none ρ).th K=K (none,ρ):=(rfl)
theorem xO_some (K:Option Int×Env→R β) (e:E):(iO cl (.some e) ρ).th K=(iR cl e ρ).th (kO K):=by rw [iO_some,th_assoc];rfl
theorem yO (K:Option Int×Env→R β) (i:Int):kO K (.val (.int i),ρ)=K (some i,ρ):=(rfl)
variable (K:List D×Env→R β)
theorem xI_seq (a:E):(iI cl (.seq a) ρ).th K=(escL a (iR cl a) ρ).th (kSeq K):=by rw [iI_seq,th_assoc];rfl
theorem xI_rng (a:E):(iI cl (.rng a) ρ).th K=(iR cl a ρ).th (kRng K):=by rw [iI_rng,th_assoc];rfl
theorem xI_rng2 (a b:E):(iI cl (.rng2 a b) ρ).th K=(iR cl a ρ).th (kR1 cl b K):=by
 rw [iI_rng2,th_assoc]
 refine th_eq _ fun x=>?_
 rw [th_assoc]
 rfl
theorem xI_enum (a:E):(iI cl (.enum a) ρ).th K=(escL a (iR cl a) ρ).th (kEnum K):=by rw [iI_enum,th_assoc];rfl
theorem ySeq (s:Sk) (l:List D):kSeq K ((s,l),ρ)=K (l,ρ):=(rfl)
theorem yRng (n:Int):kRng K (.val (.int n),ρ)=if smallI n=true then K (rangeD 0 n,ρ) else .no:=by
 show R.th (if smallI n=true then _ else _) K=_
 rw [ite_th]
 rfl
theorem yR1 (b:E) (v:Rv):kR1 cl b K (v,ρ)=(iR cl b ρ).th (kR2 v K):=(rfl)
theorem yR2 (i j:Int):kR2 (.val (.int i)) K (.val (.int j),ρ)=if smallI i=true∧smallI j=true then K (rangeD i j,ρ) else .no:=by
 show R.th (if smallI i=true∧smallI j=true then _ else _) K=_
 rw [ite_th]
 rfl
theorem yEnum (l:List D):kEnum K ((.lst,l),ρ)=K (enumD l,ρ):=(rfl)
end
section
variable (ρ:Env) (s:Sl) (i:Nat) (d:D) (l:List D)
theorem yVal (K:D×Env→R β):kVal K (.val d,ρ)=K (d,ρ):=(rfl)
theorem yValt (K:D×Env→R β):kVal K (.tmp l,ρ)=K (.lst l,ρ):=(rfl)
theorem yValL (K:(Sk×List D)×Env→R β):kValL K (.val (.lst l),ρ)=K ((.lst,l),ρ):=(rfl)
theorem yValLt (K:(Sk×List D)×Env→R β):kValL K (.val (.tup l),ρ)=K ((.tup,l),ρ):=(rfl)
theorem yValLm (K:(Sk×List D)×Env→R β):kValL K (.tmp l,ρ)=K ((.lst,l),ρ):=(rfl)
theorem yX (K:Rv→R β):kX K (.val d,ρ)=K (.val d):=(rfl)
theorem yXt (K:Rv→R β):kX K (.tmp l,ρ)=K (.tmp l):=(rfl)
theorem yAv (K:Sl×Env→R β):kAv K (d,ρ)=K (.val d,ρ):=(rfl)
theorem yAx (K:Sl×Env→R β):kAx K (.val d,ρ)=K (.val d,ρ):=(rfl)
theorem yAxt (K:Sl×Env→R β):kAx K (.tmp l,ρ)=K (.own l,ρ):=(rfl)
theorem yCons {α:Type} (K:α×Env→R β) (x:α):kCons s K (x,ρ)=K (x,s::ρ):=(rfl)
theorem xE_s (K:D×Env→R β):(slE (s::ρ) (i+1)).th K=(slE ρ i).th (kCons s K):=by rw [slE_s,th_assoc];rfl
theorem xE_v (K:D×Env→R β):(slE (.val d::ρ) 0).th K=K (d,.val d::ρ):=(rfl)
theorem xE_o (K:D×Env→R β):(slE (.own l::ρ) 0).th K=K (.lst l,.val (.lst l)::ρ):=(rfl)
variable (K:(Sk×List D)×Env→R β)
theorem xL_s:(slL (s::ρ) (i+1)).th K=(slL ρ i).th (kCons s K):=by rw [slL_s,th_assoc];rfl
theorem xL_l:(slL (.val (.lst l)::ρ) 0).th K=K ((.lst,l),.val (.lst l)::ρ):=(rfl)
theorem xL_z (z:Str):(slL (.val (.str z)::ρ) 0).th K=K ((.str,sigD z),.val (.str z)::ρ):=(rfl)
theorem xL_o:(slL (.own l::ρ) 0).th K=K ((.lst,l),.val (.lst l)::ρ):=(rfl)
theorem xL_b:(slL (.bor l::ρ) 0).th K=K ((.lst,l),.bor l::ρ):=(rfl)
end
section
variable (ρ:Env) (K:Fl→R β) (i:Nat)
theorem xS_stuck:(iS cl w .stuck ρ).th K=.no:=(rfl)
theorem oGo_some (l:List D) (x:R β):oGo (some l) x=x:=(rfl)
theorem xS_app (e:E):(iS cl w (.app i e) ρ).th K=oGo (ownI ρ i) ((escE e (iR cl e) ρ).th (kApp i K)):=by
 rw [iS_app]
 cases ownI ρ i with
 | none=>rfl
 | some l=>
  show R.th (R.th (escE e (iR cl e) ρ) _) K=_
  rw [th_assoc]
  rfl
theorem yApp (d:D):kApp i K (d,ρ)=kApp2 i d ρ K (ownI ρ i):=(rfl)
theorem yApp2 (d:D) (l:List D):kApp2 i d ρ K (some l)=if l.length < sizeLine then K (.next (ρ.set i (.own (l++[d])))) else .no:=by
 show R.th (if l.length < sizeLine then _ else _) K=_
 rw [ite_th]
 rfl
theorem xS_ret (e:E):(iS cl w (.ret e) ρ).th K=(escX e (iR cl e) ρ).th (kRt K):=by rw [iS_ret,th_assoc];rfl
theorem yRt (r:Rv):kRt K r=K (.ret r):=(rfl)
theorem xS_set (e:E):(iS cl w (.set i e) ρ).th K=(escA e (iR cl e) ρ).th (kSet i K):=by rw [iS_set,th_assoc];rfl
theorem ySet (s:Sl):kSet i K (s,ρ)=K (.next (ρ.set i s)):=(rfl)
theorem xS_setT (tg:Tg) (e:E):(iS cl w (.setT tg e) ρ).th K=(escE e (iR cl e) ρ).th (kST tg K):=by
 rw [iS_setT,th_assoc]
 refine th_eq _ fun x=>?_
 rw [th_assoc]
 rfl
theorem yST (tg:Tg) (d:D):kST tg K (d,ρ)=(tg.go d ρ).th (kNx K):=(rfl)
theorem yNx:kNx K ρ=K (.next ρ):=(rfl)
theorem xS_setI (x e:E):(iS cl w (.setI i x e) ρ).th K=(escE e (iR cl e) ρ).th (kSI cl i x K):=by
 rw [iS_setI,th_assoc]
 refine th_eq _ fun y=>?_
 show R.th (match ownI y.2 i with | none=>_ | some _=>_) K=oGo (ownI y.2 i) _
 cases ownI y.2 i with
 | none=>rfl
 | some l=>
  show R.th (R.th (iR cl x y.2) _) K=R.th _ _
  rw [th_assoc]
  refine th_eq _ fun z=>?_
  show R.th (match ownI z.2 i,z.1.int? with | some l,some n=>_ | _,_=>_) K=kSI3 i y.1 z.2 K (ownI z.2 i) z.1.int?
  cases ownI z.2 i with
  | none=>rfl
  | some l=>cases z.1.int?<;>rfl
theorem ySI (x:E) (d:D):kSI cl i x K (d,ρ)=oGo (ownI ρ i) ((iR cl x ρ).th (kSI2 i d K)):=(rfl)
theorem ySI2 (d:D) (v:Rv):kSI2 i d K (v,ρ)=kSI3 i d ρ K (ownI ρ i) v.int?:=(rfl)
theorem ySI3 (d:D) (l:List D) (n:Int):kSI3 i d ρ K (some l) (some n)=kSI4 i d ρ K l (ixN l.length n):=(rfl)
theorem ySI4 (d:D) (l:List D) (k:Nat):kSI4 i d ρ K l (some k)=K (.next (ρ.set i (.own (l.set k d)))):=(rfl)
theorem xS_ite (c:T) (a b:Ss):(iS cl w (.ite c a b) ρ).th K=(iT cl c ρ).th (kIte cl w a b K):=by
 rw [iS_ite,th_assoc]
 refine th_eq _ fun t=>?_
 rw [ite_th]
 rfl
theorem yIte (a b:Ss) (t:Bool):kIte cl w a b K (t,ρ)=if t=true then (iSs cl w a ρ).th K else (iSs cl w b ρ).th K:=(rfl)
theorem xS_for (tg:Tg) (src:I) (b:Ss):(iS cl w (.for_ tg src b) ρ).th K=(iI cl src ρ).th (kFor cl w tg b K):=by rw [iS_for,th_assoc];rfl
theorem yFor (tg:Tg) (b:Ss) (l:List D):kFor cl w tg b K (l,ρ)=(forD cl w tg b l ρ).th K:=(rfl)
theorem xS_whl (c:T) (b:Ss):(iS cl w (.whl c b) ρ).th K=(whD cl w c b w ρ).th K:=(rfl)
theorem xSs_nil:(iSs cl w .nil ρ).th K=K (.next ρ):=(rfl)
theorem xSs_cons (s:S) (l:Ss):(iSs cl w (.cons s l) ρ).th K=(iS cl w s ρ).th (kNext cl w l K):=by rw [iSs_cons,th_assoc];rfl
theorem yNext (l:Ss):kNext cl w l K (.next ρ)=(iSs cl w l ρ).th K:=(rfl)
theorem yNextr (l:Ss) (r:Rv):kNext cl w l K (.ret r)=K (.ret r):=(rfl)
theorem xFo_cons (tg:Tg) (b:Ss) (d:D) (l:List D):(forD cl w tg b (d::l) ρ).th K=(tg.go d ρ).th (kFo1 cl w tg b l K):=by
 rw [forD_cons,th_assoc,th_assoc]
 refine th_eq _ fun ρ2=>?_
 rfl
theorem yFo1 (tg:Tg) (b:Ss) (l:List D):kFo1 cl w tg b l K ρ=(iSs cl w b ρ).th (kFo2 cl w tg b l K):=(rfl)
theorem yFo2 (tg:Tg) (b:Ss) (l:List D):kFo2 cl w tg b l K (.next ρ)=(forD cl w tg b l ρ).th K:=(rfl)
theorem yFo2r (tg:Tg) (b:Ss) (l:List D) (r:Rv):kFo2 cl w tg b l K (.ret r)=K (.ret r):=(rfl)
theorem xWh (c:T) (b:Ss) (n:Nat):(whD cl w c b (n+1) ρ).th K=(iT cl c ρ).th (kWh1 cl w c b n K):=by
 rw [whD_succ,th_assoc]
 refine th_eq _ fun t=>?_
 rw [ite_th,th_assoc]
 rfl
theorem yWh1 (c:T) (b:Ss) (n:Nat) (t:Bool):kWh1 cl w c b n K (t,ρ)=if t=true then (iSs cl w b ρ).th (kWh2 cl w c b n K) else K (.next ρ):=(rfl)
theorem yWh2 (c:T) (b:Ss) (n:Nat):kWh2 cl w c b n K (.next ρ)=(whD cl w c b n ρ).th K:=(rfl)
end
section
variable (ρ:Env) (K:List D→R β) (e:E) (tg:Tg) (c:F) (l acc:List D) (d:D)
theorem xP_cons:(compD cl e tg c (d::l) ρ acc).th K=(tg.go d ρ).th (kP1 cl e tg c l acc K):=by
 rw [compD_cons,th_assoc]
 refine th_eq _ fun ρ1=>?_
 rw [th_assoc]
 refine th_eq _ fun bt=>?_
 rw [ite_th,th_assoc]
 show (if bt.1=true then _ else _)=(if bt.1=true then _ else _)
 by_cases h:bt.1=true
 ·rw [if_pos h,if_pos h]
  refine th_eq _ fun x=>?_
  rw [ite_th]
  rfl
 ·rw [if_neg h,if_neg h]
theorem yP1:kP1 cl e tg c l acc K ρ=(iF cl c ρ).th (kP2 cl e tg c l acc K):=(rfl)
theorem yP2 (t:Bool):kP2 cl e tg c l acc K (t,ρ)=if t=true then (escE e (iR cl e) ρ).th (kP3 cl e tg c l acc K) else (compD cl e tg c l ρ acc).th K:=(rfl)
theorem yP3:kP3 cl e tg c l acc K (d,ρ)=if acc.length < sizeLine then (compD cl e tg c l ρ (acc++[d])).th K else .no:=(rfl)
end
end
section
variable {β:Type} (r:Env→R (Rv×Env)) (ρ:Env)
theorem eE_bin (K:D×Env→R β) (op:Operator) (a b:E):(escE (.bin op a b) r ρ).th K=(r ρ).th (kVal K):=by rw [show escE (.bin op a b) r ρ=(r ρ).th valE from rfl,th_assoc];rfl
theorem eL_bin (K:(Sk×List D)×Env→R β) (op:Operator) (a b:E):(escL (.bin op a b) r ρ).th K=(r ρ).th (kValL K):=by rw [show escL (.bin op a b) r ρ=(r ρ).th valL from rfl,th_assoc];rfl
theorem eA_bin (K:Sl×Env→R β) (op:Operator) (a b:E):(escA (.bin op a b) r ρ).th K=(r ρ).th (kAx K):=th_assoc (r ρ) _ _
theorem eA_neg (K:Sl×Env→R β) (a:E):(escA (.neg a) r ρ).th K=(r ρ).th (kAx K):=th_assoc (r ρ) _ _
theorem eX_and (K:Rv→R β) (a b:E):(escX (.and a b) r ρ).th K=(r ρ).th (kX K):=th_assoc (r ρ) _ _
theorem eE_idx (K:D×Env→R β) (a b:E):(escE (.idx a b) r ρ).th K=(r ρ).th (kVal K):=by rw [show escE (.idx a b) r ρ=(r ρ).th valE from rfl,th_assoc];rfl
theorem eX_idx (K:Rv→R β) (a b:E):(escX (.idx a b) r ρ).th K=(r ρ).th (kX K):=th_assoc (r ρ) _ _
theorem eA_idx (K:Sl×Env→R β) (a b:E):(escA (.idx a b) r ρ).th K=(r ρ).th (kAx K):=th_assoc (r ρ) _ _
theorem eL_sli (K:(Sk×List D)×Env→R β) (a:E) (lo hi:O):(escL (.sli a lo hi) r ρ).th K=(r ρ).th (kValL K):=by rw [show escL (.sli a lo hi) r ρ=(r ρ).th valL from rfl,th_assoc];rfl
theorem eA_lst (K:Sl×Env→R β) (l:Es):(escA (.lst l) r ρ).th K=(r ρ).th (kAx K):=th_assoc (r ρ) _ _
theorem eE_tup (K:D×Env→R β) (l:Es):(escE (.tup l) r ρ).th K=(r ρ).th (kVal K):=by rw [show escE (.tup l) r ρ=(r ρ).th valE from rfl,th_assoc];rfl
theorem eX_tup (K:Rv→R β) (l:Es):(escX (.tup l) r ρ).th K=(r ρ).th (kX K):=th_assoc (r ρ) _ _
theorem eE_call (K:D×Env→R β) (f:Str) (l:Es):(escE (.call f l) r ρ).th K=(r ρ).th (kVal K):=by rw [show escE (.call f l) r ρ=(r ρ).th valE from rfl,th_assoc];rfl
theorem eX_call (K:Rv→R β) (f:Str) (l:Es):(escX (.call f l) r ρ).th K=(r ρ).th (kX K):=th_assoc (r ρ) _ _
theorem eA_call (K:Sl×Env→R β) (f:Str) (l:Es):(escA (.call f l) r ρ).th K=(r ρ).th (kAx K):=th_assoc (r ρ) _ _
theorem eE_b1 (K:D×Env→R β) (f:B1) (a:E):(escE (.b1 f a) r ρ).th K=(r ρ).th (kVal K):=by rw [show escE (.b1 f a) r ρ=(r ρ).th valE from rfl,th_assoc];rfl
theorem eL_b1 (K:(Sk×List D)×Env→R β) (f:B1) (a:E):(escL (.b1 f a) r ρ).th K=(r ρ).th (kValL K):=by rw [show escL (.b1 f a) r ρ=(r ρ).th valL from rfl,th_assoc];rfl
theorem eX_b1 (K:Rv→R β) (f:B1) (a:E):(escX (.b1 f a) r ρ).th K=(r ρ).th (kX K):=th_assoc (r ρ) _ _
theorem eE_b2 (K:D×Env→R β) (f:B2) (a b:E):(escE (.b2 f a b) r ρ).th K=(r ρ).th (kVal K):=by rw [show escE (.b2 f a b) r ρ=(r ρ).th valE from rfl,th_assoc];rfl
theorem eL_fld (K:(Sk×List D)×Env→R β) (a:E) (x:Str):(escL (.fld a x) r ρ).th K=(r ρ).th (kValL K):=by rw [show escL (.fld a x) r ρ=(r ρ).th valL from rfl,th_assoc];rfl
theorem eE_met (K:D×Env→R β) (a:E) (x:Str) (l:Es):(escE (.met a x l) r ρ).th K=(r ρ).th (kVal K):=by rw [show escE (.met a x l) r ρ=(r ρ).th valE from rfl,th_assoc];rfl
theorem eX_met (K:Rv→R β) (a:E) (x:Str) (l:Es):(escX (.met a x l) r ρ).th K=(r ρ).th (kX K):=th_assoc (r ρ) _ _
theorem eA_met (K:Sl×Env→R β) (a:E) (x:Str) (l:Es):(escA (.met a x l) r ρ).th K=(r ρ).th (kAx K):=th_assoc (r ρ) _ _
theorem eX_new (K:Rv→R β) (f:Str) (l:Es):(escX (.new f l) r ρ).th K=(r ρ).th (kX K):=th_assoc (r ρ) _ _
theorem eA_new (K:Sl×Env→R β) (f:Str) (l:Es):(escA (.new f l) r ρ).th K=(r ρ).th (kAx K):=th_assoc (r ρ) _ _
theorem eA_comp (K:Sl×Env→R β) (e:E) (src:I) (tg:Tg) (c:F) (n:Nat) (fr:List Nat):(escA (.comp e src tg c n fr) r ρ).th K=(r ρ).th (kAx K):=th_assoc (r ρ) _ _
theorem eE_var (K:D×Env→R β) (i:Nat):(escE (.var i) r ρ).th K=(slE ρ i).th K:=(rfl)
theorem eE_con (K:D×Env→R β) (d:D):(escE (.con d) r ρ).th K=K (d,ρ):=(rfl)
theorem eL_var (K:(Sk×List D)×Env→R β) (i:Nat):(escL (.var i) r ρ).th K=(slL ρ i).th K:=(rfl)
theorem eX_var (K:Rv→R β) (i:Nat):(escX (.var i) r ρ).th K=(slX ρ i).th K:=(rfl)
theorem eX_con (K:Rv→R β) (d:D):(escX (.con d) r ρ).th K=K (.val d):=(rfl)
theorem eA_var (K:Sl×Env→R β) (i:Nat):(escA (.var i) r ρ).th K=(slE ρ i).th (kAv K):=th_assoc (slE ρ i) _ _
theorem eA_con (K:Sl×Env→R β) (d:D):(escA (.con d) r ρ).th K=K (.val d,ρ):=(rfl)
end
theorem bAdd (a b:Int):binD .Add (.val (.int a)) (.val (.int b))=.ok (.val (.int (a+b))):=(rfl)
theorem bAdds (a b:Str):binD .Add (.val (.str a)) (.val (.str b))=if a.length+b.length≤sizeLine then .ok (.val (.str (a++b))) else .no:=(rfl)
theorem bAddtt (a b:List D):binD .Add (.tmp a) (.tmp b)=if a.length+b.length≤sizeLine then .ok (.tmp (a++b)) else .no:=(rfl)
theorem bSub (a b:Int):binD .Sub (.val (.int a)) (.val (.int b))=.ok (.val (.int (a - b))):=(rfl)
theorem bMult (a b:Int):binD .Mult (.val (.int a)) (.val (.int b))=if mulB a b=true then .ok (.val (.int (a * b))) else .no:=(rfl)
theorem bDiv (a b:Int):binD .FloorDiv (.val (.int a)) (.val (.int b))=if 0 < b∧b < 1073741824 then .ok (.val (.int (a / b))) else .no:=(rfl)
theorem bMod (a b:Int):binD .Mod (.val (.int a)) (.val (.int b))=if 0 < b then .ok (.val (.int (a % b))) else .no:=(rfl)
theorem bPow (a b:Int):binD .Pow (.val (.int a)) (.val (.int b))=if 0≤b∧b≤1000000∧a.natAbs < 2 ^ 64 then .ok (.val (.int (a ^ b.toNat))) else .no:=(rfl)
theorem cEq (x y:Rv):cmpD .Eq x y=eqD x.data y.data:=(rfl)
theorem cNe (x y:Rv):cmpD .NotEq x y=(eqD x.data y.data).map (!·):=(rfl)
theorem cLt (a b:Int):cmpD .Lt (.val (.int a)) (.val (.int b))=some (decide (a < b)):=(rfl)
theorem cLe (a b:Int):cmpD .LtE (.val (.int a)) (.val (.int b))=some (decide (a≤b)):=(rfl)
theorem cGt (a b:Int):cmpD .Gt (.val (.int a)) (.val (.int b))=some (decide (b < a)):=(rfl)
theorem cIs (x:Rv):cmpD .Is x (.val .non)=some x.non?:=(rfl)
theorem cIsN (x:Rv):cmpD .IsNot x (.val .non)=some (!x.non?):=(rfl)
theorem cIn (x y:Rv):cmpD .In x y=memD x y:=(rfl)
theorem cNi (x y:Rv):cmpD .NotIn x y=(memD x y).map (!·):=(rfl)
theorem mIn (a b:Str):memD (.val (.str a)) (.val (.str b))=some (occB a b):=(rfl)
theorem rgoV (i:Nat) (d:D) (ρ:Env):Tg.go (.one i) d ρ=.ok (ρ.set i (.val d)):=(rfl)
theorem rgoT (l:List Nat) (ds:List D) (ρ:Env):Tg.go (.many l) (.tup ds) ρ=setIs l ds ρ:=(rfl)
theorem setIs_nil (ρ:Env):setIs [] [] ρ=.ok ρ:=(rfl)
theorem setIs_cons (i:Nat) (l:List Nat) (d:D) (ds:List D) (ρ:Env):setIs (i::l) (d::ds) ρ=setIs l ds (ρ.set i (.val d)):=(rfl)
end DE
set_option maxHeartbeats 4000000
namespace DE
open PySem L2
section
variable {α β:Type} (f:α→β) (a b:α) (l m:List α) (n:Nat)
theorem g_mapc:List.map f (a::l)=f a::List.map f l:=(rfl)
theorem g_mapn:List.map f []=[]:=(rfl)
theorem g_lenc:(a::l).length=l.length+1:=(rfl)
theorem g_lenn:([]:List α).length=0:=(rfl)
theorem g_rep0:List.replicate 0 a=[]:=(rfl)
theorem g_reps:List.replicate (n+1) a=a::List.replicate n a:=(rfl)
theorem g_appc:(a::l)++m=a::(l++m):=(rfl)
theorem g_appn:[]++m=m:=(rfl)
theorem g_set0:(a::l).set 0 b=b::l:=(rfl)
theorem g_sets:(a::l).set (n+1) b=a::l.set n b:=(rfl)
theorem g_last (l:List α) (x:α):atI (l++[x]) (-1)=some x:=L2.atI_last ..
theorem g_nott:(!true)=false:=(rfl)
theorem g_notf:(!false)=true:=(rfl)
theorem g_omap:Option.map f (some a)=some (f a):=(rfl)
theorem g_ift (x y:α):(if True then x else y)=x:=if_pos trivial
theorem g_iff (x y:α):(if False then x else y)=y:=if_neg id
theorem g_fe:(false=true)=False:=Bool.false_eq_true
theorem g_and (p:Prop):(p∧p)=p:=and_self p
theorem g_dt (h:Decidable True):@decide True h=true:=decide_true ..
theorem g_df (h:Decidable False):@decide False h=false:=decide_false ..
end
end DE
set_option maxHeartbeats 4000000
namespace DE
open PySem PySem.Spec PyProof.Rows L2
noncomputable def Fresh (G G' H:Hp):Prop:=∀ a o,G' a=some o→(∃ o',G a=some o')∨H a=none
noncomputable def But (p:Addr) (H H':Hp):Prop:=∀ a o,a≠p→H a=some o→H' a=some o
noncomputable def spIni (κ:KC) (K:PySem.W.Frag) (ok:Str→Bool) (go:List Ar→Option (List (Str×D))):Sp:=fun vs H Q _=>∃ (G:Hp) (c:Str) (C p dx:Addr) (us:List V) (args:List Ar) (fs:List (Str×D)),vs=.ref p::us∧ok c=true∧κ c=some C∧
 H p=some (.ins C dx [])∧G p=none∧Same G H∧ArRs κ K G H args us∧go args=some fs∧
 ∀ G' H' xs,Same G G'→Same G' H'→G' p=none→But p H H'→Fresh G G' H→H' p=some (.ins C dx ((fs.map (·.1)).zip xs))→xs.length=fs.length→Reps κ G' (fs.map (·.2)) xs→Q .non H'
section
variable {κ:KC} {K:PySem.W.Frag} {G H G' H':Hp}
theorem spF_of {cl:Str→List Ar→R Rv} {f:Str} {args:List Ar} {vs:List V} {r:Rv} {Q:VK} {E:XK} (sub:Same G H) (ha:ArRs κ K G H args vs) (e:cl f args=.ok r)
  (h:∀ v G' H',Same H H'→Same G G'→Same G' H'→Fresh G G' H→ReR κ G' H' H r v→Q v H'):spF κ K cl f vs H Q E:=⟨G,args,sub,ha,by rw [e];exact h⟩
theorem ArR.low {a:Ar} {v:V} (h:ArR κ K G H a v) (gs:Same G G') (hs:∀ b o,H b=some o→(∀ C dx fs,o≠.ins C dx fs)→H' b=some o):(∀ l,a≠.scr l)→ArR κ K G' H' a v:=fun hn=>by
 cases a with
 | val d=>exact Rep.same gs h
 | bor l=>obtain ⟨b,xs,e,h1,h2⟩:=h;exact ⟨b,xs,e,hs _ _ h1 (by intros;intro z;cases z),h2.same gs⟩
 | scr l=>exact absurd rfl (hn l)
theorem make_sp {nw:Str→List Ar→R Rv} {f c:Str} {C:Addr} {ok:Str→Bool} {go:List Ar→Option (List (Str×D))} (hC:κ c=some C) (hok:ok c=true)
  (hgo:∀ args r,nw f args=.ok r→(∀ a∈args,∀ l,a≠.scr l)∧∃ fs,go args=some fs∧r=.val (.ins c (fs.map (·.1)) (fs.map (·.2)))) :
  ∀ vs H Q,spF κ K nw f vs H Q E0→∀ x dx,H x=none→H dx=none→dx≠x→spIni κ K ok go (.ref x::vs) (upd (upd H dx (.own x)) x (.ins C dx [])) (fun v H2=>v=.non∧Q (.ref x) H2) E0:=by
 rintro vs H Q ⟨G,args,sub,ha,hw⟩ x dx hx hdx ne
 cases e:nw f args with
 | no=>rw [e] at hw;exact hw.elim
 | exc c l=>rw [e] at hw;exact hw.elim
 | ok r=>
  rw [e] at hw
  obtain ⟨hs,fs,hg,rfl⟩:=hgo args r e
  have gx:G x=none:=Same.none sub hx
  have gd:G dx=none:=Same.none sub hdx
  have up:Same H (upd (upd H dx (.own x)) x (.ins C dx [])):=fun b o hb=>by
   have nb:b≠x:=fun z=>by rw [z,hx] at hb;cases hb
   have nd:b≠dx:=fun z=>by rw [z,hdx] at hb;cases hb
   rw [upd_ne nb,upd_ne nd];exact hb
  have ha':∀ {args:List Ar} {vs:List V},(∀ a∈args,∀ l,a≠.scr l)→ArRs κ K G H args vs→ArRs κ K G (upd (upd H dx (.own x)) x (.ins C dx [])) args vs:=by
   intro args
   induction args with
   | nil=>intro vs _ h;simp only [ArRs] at h ⊢;exact h
   | cons a l ih=>
    intro vs hn h
    simp only [ArRs] at h ⊢
    obtain ⟨v,r,e,h1,h2⟩:=h
    exact ⟨v,r,e,h1.low (fun _ _ z=>z) (fun b o hb _=>up b o hb) (hn a (List.mem_cons_self ..)),ih (fun b hb=>hn b (List.mem_cons_of_mem _ hb)) h2⟩
  refine ⟨G,c,C,x,dx,vs,args,fs,rfl,hok,hC,upd_same,gx,fun b o hb=>up b o (sub b o hb),ha' hs ha,hg,fun G' H' xs gs sub' gx' but fr hp hl rp=>⟨rfl,?_⟩⟩
  refine hw (.ref x) (upd G' x (.ins C dx ((fs.map (·.1)).zip xs))) H' (fun b o hb=>?_) (fun b o hb=>?_) (fun b o hb=>?_) (fun b o hb=>?_) ?_
  ·exact but b o (fun z=>by rw [z,hx] at hb;cases hb) (up b o hb)
  ·exact Same.upd gx' b o (gs b o hb)
  ·by_cases z:b=x
   ·subst z;rw [upd_same] at hb;cases hb;exact hp
   ·rw [upd_ne z] at hb;exact sub' b o hb
  ·by_cases z:b=x
   ·subst z;exact .inr hx
   ·rw [upd_ne z] at hb
    rcases fr b o hb with q | q
    ·exact .inl q
    ·refine .inr ?_
     cases w:H b with
     | none=>rfl
     | some o'=>rw [up b o' w] at q;cases q
  ·simp only [ReR,Rep]
   exact ⟨x,dx,C,xs,hC,rfl,upd_same,by rw [hl,List.length_map],rp.same (Same.upd gx')⟩
end
end DE
set_option maxHeartbeats 4000000
namespace DG
open PySem L2 DE
noncomputable def clsBody:Stmt→List Stmt
 | .ClassDef _ _ _ b _ _ _ _ _ _ _=>b
 | _=>[]
noncomputable def rk (c:Str):Bool:=c == "Within" || c == "Since" || c == "InRow"
noncomputable def pcs:Cs where
 tab:=["Within","Since","InRow","Book"]
 fld:=fun c x=>(rk c&&(x == "lands" || x == "most" || (x == "span" && c == "Within")||(x == "leave" && c != "Within")))||(c == "Book" && (x == "kept_rules" || x == "kept_papers"))
 mt:=fun c x=>if rk c&&x == "weight" then some "Rule.weight" else if c == "Book" && x == "rules" then some "Book.rules" else if c == "Book" && x == "lifted" then some "Book.lifted" else if c == "Book" && x == "papers" then some "Book.papers" else none
 sub:=fun c t=>if rk c&&t == "Within" then some (c == "Within") else if rk c&&t == "Since" then some (c != "Within") else none
noncomputable def nameD (s:Str):Bool:=decide (1≤s.length)&&decide (s.length≤8)&&s.cps.toList.all fun c=>decide (97≤c)&&decide (c≤122)
noncomputable def landD:D→Option (Str×Int)
 | .tup [.str s,.int w]=>if nameD s&&decide (1≤w)&&decide (w≤9) then some (s,w) else none
 | _=>none
noncomputable def landsA:List Str→List D→Bool
 | _,[]=>true
 | acc,d::l=>match landD d with
  | some p=>!acc.contains p.1&&landsA (acc++[p.1]) l
  | none=>false
noncomputable def landsOk (l:List D):Bool:=decide (1≤l.length)&&decide (l.length≤6)&&landsA [] l
noncomputable def btw (n a b:Int):Bool:=decide (a≤n)&&decide (n≤b)
noncomputable def ruleD:D→Bool
 | .ins c _ _=>rk c
 | _=>false
noncomputable def paperD (many:Int):D→Bool
 | .tup [.int o,.int a,.int b]=>btw o 0 (many - 1)&&btw a 0 1000000000&&btw b 0 1000000000&&decide (a≤b)
 | _=>false
noncomputable def arL:Ar→Option (List D)
 | .val (.lst l)=>some l
 | .bor l=>some l
 | _=>none
noncomputable def arI:Ar→Option Int
 | .val (.int n)=>some n
 | _=>none
noncomputable def goRule:List Ar→Option (List (Str×D))
 | [a,b]=>match arL a,arI b with
  | some l,some m=>if (landsOk l&&btw m 0 1000000000)=true then some [("lands",.tup l),("most",.int m)] else none
  | _,_=>none
 | _=>none
noncomputable def goKind (x:Str):List Ar→Option (List (Str×D))
 | [a,b,c]=>match arL a,arI b,arI c with
  | some l,some m,some s=>if (landsOk l&&btw m 0 1000000000&&btw s 1 1000000000)=true then some [("lands",.tup l),("most",.int m),(x,.int s)] else none
  | _,_,_=>none
 | _=>none
noncomputable def goRow:List Ar→Option (List (Str×D))
 | [a,b]=>match arL a,arI b with
  | some l,some m=>if (landsOk l&&btw m 0 1000000000)=true then some [("lands",.tup l),("most",.int m),("leave",.int 1)] else none
  | _,_=>none
 | _=>none
noncomputable def goBook:List Ar→Option (List (Str×D))
 | [a,b]=>match arL a,arL b with
  | some l,some ps=>if ((decide (l.length≤8)&&l.all ruleD)&&(decide (ps.length≤12)&&ps.all (paperD l.length)))=true then some [("kept_rules",.lst l),("kept_papers",.lst ps)] else none
  | _,_=>none
 | _=>none
noncomputable def ofGo (c:Str):Option (List (Str×D))→R Rv
 | some fs=>.ok (.val (.ins c (fs.map (·.1)) (fs.map (·.2))))
 | none=>.no
noncomputable def pnw (k:Nat) (f:Str) (args:List Ar):R Rv:=if k < 12 then .no else
 if f = "Within" then ofGo "Within" (goKind "span" args) else if f = "Since" then ofGo "Since" (goKind "leave" args) else if f = "InRow" then ofGo "InRow" (goRow args) else if f = "Book" then ofGo "Book" (goBook args) else .no
noncomputable def c_is_whole:Nat×Nat×Ss:=(1,1,(Ss.cons (S.ret (E.and (E.isi Ty.int (E.var 0)) (E.one (E.not (E.isi Ty.bool (E.var 0)))))) Ss.nil))
noncomputable def c_is_between:Nat×Nat×Ss:=(3,3,(Ss.cons (S.ret (E.and (E.call "is_whole" (Es.cons (E.var 0) Es.nil)) (E.and (E.cmp CmpOp.LtE (E.var 1) (E.var 0)) (E.one (E.cmp CmpOp.LtE (E.var 0) (E.var 2)))))) Ss.nil))
noncomputable def c_are_days:Nat×Nat×Ss:=(2,2,(Ss.cons (S.ret (E.and (E.call "is_between" (Es.cons (E.var 0) (Es.cons (E.con (D.int 0)) (Es.cons (E.con (D.int 1000000000)) Es.nil)))) (E.and (E.call "is_between" (Es.cons (E.var 1) (Es.cons (E.con (D.int 0)) (Es.cons (E.con (D.int 1000000000)) Es.nil)))) (E.one (E.cmp CmpOp.LtE (E.var 0) (E.var 1)))))) Ss.nil))
noncomputable def b_is_made_of_0:Ss:=(Ss.cons (S.ite (T.cmp CmpOp.NotIn (E.var 2) (E.var 1)) (Ss.cons (S.ret (E.con (D.bl false))) Ss.nil) Ss.nil) Ss.nil)
theorem u_b_is_made_of_0 {β:Type} (cl:Cl) (w:Nat) (ρ:DE.Env) (K:Fl→R β):(iSs cl w b_is_made_of_0 ρ).th K=(iSs cl w (Ss.cons (S.ite (T.cmp CmpOp.NotIn (E.var 2) (E.var 1)) (Ss.cons (S.ret (E.con (D.bl false))) Ss.nil) Ss.nil) Ss.nil) ρ).th K:=(rfl)
noncomputable def c_is_made_of:Nat×Nat×Ss:=(2,3,(Ss.cons (S.for_ (Tg.one 2) (I.seq (E.var 0)) b_is_made_of_0) (Ss.cons (S.ret (E.con (D.bl true))) Ss.nil)))
noncomputable def c_is_name:Nat×Nat×Ss:=(1,1,(Ss.cons (S.ite (T.not (T.val (E.isi Ty.str (E.var 0)))) (Ss.cons (S.ret (E.con (D.bl false))) Ss.nil) Ss.nil) (Ss.cons (S.ret (E.and (E.cmp CmpOp.LtE (E.con (D.int 1)) (E.b1 B1.len (E.var 0))) (E.and (E.cmp CmpOp.LtE (E.b1 B1.len (E.var 0)) (E.con (D.int 8))) (E.one (E.call "is_made_of" (Es.cons (E.var 0) (Es.cons (E.con (D.str "abcdefghijklmnopqrstuvwxyz")) Es.nil))))))) Ss.nil)))
class CH (pg:Pg):Prop where
 r_is_whole:∀ (k:Nat) (args:List Ar),clK pg (k+1) "is_whole" args=runD (pg.kk k) 1000 c_is_whole args
 r_is_between:∀ (k:Nat) (args:List Ar),clK pg (k+1) "is_between" args=runD (pg.kk k) 1000 c_is_between args
 r_are_days:∀ (k:Nat) (args:List Ar),clK pg (k+1) "are_days" args=runD (pg.kk k) 1000 c_are_days args
 r_is_made_of:∀ (k:Nat) (args:List Ar),clK pg (k+1) "is_made_of" args=runD (pg.kk k) 1000 c_is_made_of args
 r_is_name:∀ (k:Nat) (args:List Ar),clK pg (k+1) "is_name" args=runD (pg.kk k) 1000 c_is_name args
noncomputable def c_is_stay:Nat×Nat×Ss:=(1,1,(Ss.cons (S.ite (T.or (T.not (T.val (E.isi Ty.tuple (E.var 0)))) (T.one (T.cmp CmpOp.NotEq (E.b1 B1.len (E.var 0)) (E.con (D.int 3))))) (Ss.cons (S.ret (E.con (D.bl false))) Ss.nil) Ss.nil) (Ss.cons (S.ret (E.and (E.call "is_name" (Es.cons (E.idx (E.var 0) (E.con (D.int 0))) Es.nil)) (E.one (E.call "are_days" (Es.cons (E.idx (E.var 0) (E.con (D.int 1))) (Es.cons (E.idx (E.var 0) (E.con (D.int 2))) Es.nil)))))) Ss.nil)))
noncomputable def b_stays_of_0:Ss:=(Ss.cons (S.ite (T.or (T.not (T.val (E.call "is_stay" (Es.cons (E.var 3) Es.nil)))) (T.one (T.cmp CmpOp.LtE (E.idx (E.var 3) (E.con (D.int 1))) (E.var 1)))) (Ss.cons S.stuck Ss.nil) Ss.nil) (Ss.cons (S.set 1 (E.idx (E.var 3) (E.con (D.int 2)))) Ss.nil))
theorem u_b_stays_of_0 {β:Type} (cl:Cl) (w:Nat) (ρ:DE.Env) (K:Fl→R β):(iSs cl w b_stays_of_0 ρ).th K=(iSs cl w (Ss.cons (S.ite (T.or (T.not (T.val (E.call "is_stay" (Es.cons (E.var 3) Es.nil)))) (T.one (T.cmp CmpOp.LtE (E.idx (E.var 3) (E.con (D.int 1))) (E.var 1)))) (Ss.cons S.stuck Ss.nil) Ss.nil) (Ss.cons (S.set 1 (E.idx (E.var 3) (E.con (D.int 2)))) Ss.nil)) ρ).th K:=(rfl)
noncomputable def c_stays_of:Nat×Nat×Ss:=(1,4,(Ss.cons (S.ite (T.not (T.val (E.isi Ty.list (E.var 0)))) (Ss.cons S.stuck Ss.nil) Ss.nil) (Ss.cons (S.set 1 (E.neg (E.con (D.int 1)))) (Ss.cons (S.for_ (Tg.many [2,3]) (I.enum (E.var 0)) b_stays_of_0) (Ss.cons (S.ite (T.cmp CmpOp.Gt (E.b1 B1.len (E.var 0)) (E.con (D.int 60))) (Ss.cons S.stuck Ss.nil) Ss.nil) (Ss.cons (S.ret (E.b1 B1.list (E.var 0))) Ss.nil))))))
class ST (pg:Pg):Prop where
 r_is_stay:∀ (k:Nat) (args:List Ar),clK pg (k+1) "is_stay" args=runD (pg.kk k) 1000 c_is_stay args
 r_stays_of:∀ (k:Nat) (args:List Ar),clK pg (k+1) "stays_of" args=runD (pg.kk k) 1000 c_stays_of args
noncomputable def b_land_among_0:Ss:=(Ss.cons (S.ite (T.and (T.cmp CmpOp.LtE (E.var 3) (E.var 1)) (T.one (T.cmp CmpOp.LtE (E.var 1) (E.var 4)))) (Ss.cons (S.ret (E.var 2)) Ss.nil) Ss.nil) Ss.nil)
theorem u_b_land_among_0 {β:Type} (cl:Cl) (w:Nat) (ρ:DE.Env) (K:Fl→R β):(iSs cl w b_land_among_0 ρ).th K=(iSs cl w (Ss.cons (S.ite (T.and (T.cmp CmpOp.LtE (E.var 3) (E.var 1)) (T.one (T.cmp CmpOp.LtE (E.var 1) (E.var 4)))) (Ss.cons (S.ret (E.var 2)) Ss.nil) Ss.nil) Ss.nil) ρ).th K:=(rfl)
noncomputable def c_land_among:Nat×Nat×Ss:=(2,5,(Ss.cons (S.for_ (Tg.many [2,3,4]) (I.seq (E.var 0)) b_land_among_0) (Ss.cons (S.ret (E.con D.non)) Ss.nil)))
class LA (pg:Pg):Prop where
 r_land_among:∀ (k:Nat) (args:List Ar),clK pg (k+1) "land_among" args=runD (pg.kk k) 1000 c_land_among args
noncomputable def b_spread_0:Ss:=(Ss.cons (S.ite (T.and (T.val (E.var 1)) (T.one (T.cmp CmpOp.LtE (E.var 2) (E.bin Operator.Add (E.idx (E.idx (E.var 1) (E.neg (E.con (D.int 1)))) (E.con (D.int 1))) (E.con (D.int 1)))))) (Ss.cons (S.setI 1 (E.neg (E.con (D.int 1))) (E.tup (Es.cons (E.idx (E.idx (E.var 1) (E.neg (E.con (D.int 1)))) (E.con (D.int 0))) (Es.cons (E.b2 B2.max (E.idx (E.idx (E.var 1) (E.neg (E.con (D.int 1)))) (E.con (D.int 1))) (E.var 3)) Es.nil)))) Ss.nil) (Ss.cons (S.app 1 (E.tup (Es.cons (E.var 2) (Es.cons (E.var 3) Es.nil)))) Ss.nil)) Ss.nil)
theorem u_b_spread_0 {β:Type} (cl:Cl) (w:Nat) (ρ:DE.Env) (K:Fl→R β):(iSs cl w b_spread_0 ρ).th K=(iSs cl w (Ss.cons (S.ite (T.and (T.val (E.var 1)) (T.one (T.cmp CmpOp.LtE (E.var 2) (E.bin Operator.Add (E.idx (E.idx (E.var 1) (E.neg (E.con (D.int 1)))) (E.con (D.int 1))) (E.con (D.int 1)))))) (Ss.cons (S.setI 1 (E.neg (E.con (D.int 1))) (E.tup (Es.cons (E.idx (E.idx (E.var 1) (E.neg (E.con (D.int 1)))) (E.con (D.int 0))) (Es.cons (E.b2 B2.max (E.idx (E.idx (E.var 1) (E.neg (E.con (D.int 1)))) (E.con (D.int 1))) (E.var 3)) Es.nil)))) Ss.nil) (Ss.cons (S.app 1 (E.tup (Es.cons (E.var 2) (Es.cons (E.var 3) Es.nil)))) Ss.nil)) Ss.nil) ρ).th K:=(rfl)
noncomputable def c_spread:Nat×Nat×Ss:=(1,4,(Ss.cons (S.set 1 (E.lst Es.nil)) (Ss.cons (S.for_ (Tg.many [2,3]) (I.seq (E.b1 B1.srt (E.var 0))) b_spread_0) (Ss.cons (S.ret (E.var 1)) Ss.nil))))
class SP (pg:Pg):Prop where
 r_spread:∀ (k:Nat) (args:List Ar),clK pg (k+1) "spread" args=runD (pg.kk k) 1000 c_spread args
noncomputable def b_holds_0:Ss:=(Ss.cons (S.ite (T.and (T.cmp CmpOp.LtE (E.var 2) (E.var 1)) (T.one (T.cmp CmpOp.LtE (E.var 1) (E.var 3)))) (Ss.cons (S.ret (E.con (D.bl true))) Ss.nil) Ss.nil) Ss.nil)
theorem u_b_holds_0 {β:Type} (cl:Cl) (w:Nat) (ρ:DE.Env) (K:Fl→R β):(iSs cl w b_holds_0 ρ).th K=(iSs cl w (Ss.cons (S.ite (T.and (T.cmp CmpOp.LtE (E.var 2) (E.var 1)) (T.one (T.cmp CmpOp.LtE (E.var 1) (E.var 3)))) (Ss.cons (S.ret (E.con (D.bl true))) Ss.nil) Ss.nil) Ss.nil) ρ).th K:=(rfl)
noncomputable def c_holds:Nat×Nat×Ss:=(2,4,(Ss.cons (S.for_ (Tg.many [2,3]) (I.seq (E.var 0)) b_holds_0) (Ss.cons (S.ret (E.con (D.bl false))) Ss.nil)))
class HO (pg:Pg):Prop where
 r_holds:∀ (k:Nat) (args:List Ar),clK pg (k+1) "holds" args=runD (pg.kk k) 1000 c_holds args
noncomputable def c_is_land:Nat×Nat×Ss:=(1,1,(Ss.cons (S.ite (T.or (T.not (T.val (E.isi Ty.tuple (E.var 0)))) (T.one (T.cmp CmpOp.NotEq (E.b1 B1.len (E.var 0)) (E.con (D.int 2))))) (Ss.cons (S.ret (E.con (D.bl false))) Ss.nil) Ss.nil) (Ss.cons (S.ret (E.and (E.call "is_name" (Es.cons (E.idx (E.var 0) (E.con (D.int 0))) Es.nil)) (E.one (E.call "is_between" (Es.cons (E.idx (E.var 0) (E.con (D.int 1))) (Es.cons (E.con (D.int 1)) (Es.cons (E.con (D.int 9)) Es.nil))))))) Ss.nil)))
noncomputable def b_are_lands_0:Ss:=(Ss.cons (S.ite (T.or (T.not (T.val (E.call "is_land" (Es.cons (E.var 2) Es.nil)))) (T.one (T.cmp CmpOp.In (E.idx (E.var 2) (E.con (D.int 0))) (E.var 1)))) (Ss.cons (S.ret (E.con (D.bl false))) Ss.nil) Ss.nil) (Ss.cons (S.app 1 (E.idx (E.var 2) (E.con (D.int 0)))) Ss.nil))
theorem u_b_are_lands_0 {β:Type} (cl:Cl) (w:Nat) (ρ:DE.Env) (K:Fl→R β):(iSs cl w b_are_lands_0 ρ).th K=(iSs cl w (Ss.cons (S.ite (T.or (T.not (T.val (E.call "is_land" (Es.cons (E.var 2) Es.nil)))) (T.one (T.cmp CmpOp.In (E.idx (E.var 2) (E.con (D.int 0))) (E.var 1)))) (Ss.cons (S.ret (E.con (D.bl false))) Ss.nil) Ss.nil) (Ss.cons (S.app 1 (E.idx (E.var 2) (E.con (D.int 0)))) Ss.nil)) ρ).th K:=(rfl)
noncomputable def c_are_lands:Nat×Nat×Ss:=(1,3,(Ss.cons (S.ite (T.or (T.not (T.val (E.isi Ty.list (E.var 0)))) (T.or (T.cmp CmpOp.Lt (E.b1 B1.len (E.var 0)) (E.con (D.int 1))) (T.one (T.cmp CmpOp.Gt (E.b1 B1.len (E.var 0)) (E.con (D.int 6)))))) (Ss.cons (S.ret (E.con (D.bl false))) Ss.nil) Ss.nil) (Ss.cons (S.set 1 (E.lst Es.nil)) (Ss.cons (S.for_ (Tg.one 2) (I.seq (E.var 0)) b_are_lands_0) (Ss.cons (S.ret (E.con (D.bl true))) Ss.nil)))))
noncomputable def b_Rule_weight_0:Ss:=(Ss.cons (S.ite (T.cmp CmpOp.Eq (E.var 2) (E.var 1)) (Ss.cons (S.ret (E.var 3)) Ss.nil) Ss.nil) Ss.nil)
theorem u_b_Rule_weight_0 {β:Type} (cl:Cl) (w:Nat) (ρ:DE.Env) (K:Fl→R β):(iSs cl w b_Rule_weight_0 ρ).th K=(iSs cl w (Ss.cons (S.ite (T.cmp CmpOp.Eq (E.var 2) (E.var 1)) (Ss.cons (S.ret (E.var 3)) Ss.nil) Ss.nil) Ss.nil) ρ).th K:=(rfl)
noncomputable def c_Rule_weight:Nat×Nat×Ss:=(2,4,(Ss.cons (S.for_ (Tg.many [2,3]) (I.seq (E.fld (E.var 0) "lands")) b_Rule_weight_0) (Ss.cons (S.ret (E.con (D.int 0))) Ss.nil)))
class RU (pg:Pg):Prop where
 cs:pg.cs=pcs
 nw:pg.nw=pnw
 r_is_land:∀ (k:Nat) (args:List Ar),clK pg (k+1) "is_land" args=runD (pg.kk k) 1000 c_is_land args
 r_are_lands:∀ (k:Nat) (args:List Ar),clK pg (k+1) "are_lands" args=runD (pg.kk k) 1000 c_are_lands args
 r_Rule_weight:∀ (k:Nat) (args:List Ar),clK pg (k+1) "Rule.weight" args=runD (pg.kk k) 1000 c_Rule_weight args
noncomputable def b_are_rules_0:Ss:=(Ss.cons (S.ite (T.and (T.not (T.val (E.isc "Within" (E.var 1)))) (T.one (T.not (T.val (E.isc "Since" (E.var 1)))))) (Ss.cons (S.ret (E.con (D.bl false))) Ss.nil) Ss.nil) Ss.nil)
theorem u_b_are_rules_0 {β:Type} (cl:Cl) (w:Nat) (ρ:DE.Env) (K:Fl→R β):(iSs cl w b_are_rules_0 ρ).th K=(iSs cl w (Ss.cons (S.ite (T.and (T.not (T.val (E.isc "Within" (E.var 1)))) (T.one (T.not (T.val (E.isc "Since" (E.var 1)))))) (Ss.cons (S.ret (E.con (D.bl false))) Ss.nil) Ss.nil) Ss.nil) ρ).th K:=(rfl)
noncomputable def c_are_rules:Nat×Nat×Ss:=(1,2,(Ss.cons (S.ite (T.or (T.not (T.val (E.isi Ty.list (E.var 0)))) (T.one (T.cmp CmpOp.Gt (E.b1 B1.len (E.var 0)) (E.con (D.int 8))))) (Ss.cons (S.ret (E.con (D.bl false))) Ss.nil) Ss.nil) (Ss.cons (S.for_ (Tg.one 1) (I.seq (E.var 0)) b_are_rules_0) (Ss.cons (S.ret (E.con (D.bl true))) Ss.nil))))
noncomputable def c_is_paper:Nat×Nat×Ss:=(2,2,(Ss.cons (S.ite (T.or (T.not (T.val (E.isi Ty.tuple (E.var 0)))) (T.one (T.cmp CmpOp.NotEq (E.b1 B1.len (E.var 0)) (E.con (D.int 3))))) (Ss.cons (S.ret (E.con (D.bl false))) Ss.nil) Ss.nil) (Ss.cons (S.ret (E.and (E.call "is_between" (Es.cons (E.idx (E.var 0) (E.con (D.int 0))) (Es.cons (E.con (D.int 0)) (Es.cons (E.bin Operator.Sub (E.var 1) (E.con (D.int 1))) Es.nil)))) (E.one (E.call "are_days" (Es.cons (E.idx (E.var 0) (E.con (D.int 1))) (Es.cons (E.idx (E.var 0) (E.con (D.int 2))) Es.nil)))))) Ss.nil)))
noncomputable def b_check_papers_0:Ss:=(Ss.cons (S.ite (T.not (T.val (E.call "is_paper" (Es.cons (E.var 3) (Es.cons (E.var 1) Es.nil))))) (Ss.cons S.stuck Ss.nil) Ss.nil) Ss.nil)
theorem u_b_check_papers_0 {β:Type} (cl:Cl) (w:Nat) (ρ:DE.Env) (K:Fl→R β):(iSs cl w b_check_papers_0 ρ).th K=(iSs cl w (Ss.cons (S.ite (T.not (T.val (E.call "is_paper" (Es.cons (E.var 3) (Es.cons (E.var 1) Es.nil))))) (Ss.cons S.stuck Ss.nil) Ss.nil) Ss.nil) ρ).th K:=(rfl)
noncomputable def c_check_papers:Nat×Nat×Ss:=(2,4,(Ss.cons (S.ite (T.not (T.val (E.isi Ty.list (E.var 0)))) (Ss.cons S.stuck Ss.nil) Ss.nil) (Ss.cons (S.for_ (Tg.many [2,3]) (I.enum (E.var 0)) b_check_papers_0) (Ss.cons (S.ite (T.cmp CmpOp.Gt (E.b1 B1.len (E.var 0)) (E.con (D.int 12))) (Ss.cons S.stuck Ss.nil) Ss.nil) Ss.nil))))
noncomputable def c_Book_rules:Nat×Nat×Ss:=(1,1,(Ss.cons (S.ret (E.b1 B1.list (E.fld (E.var 0) "kept_rules"))) Ss.nil))
noncomputable def c_Book_papers:Nat×Nat×Ss:=(1,1,(Ss.cons (S.ret (E.b1 B1.list (E.fld (E.var 0) "kept_papers"))) Ss.nil))
noncomputable def e_Book_lifted_0:E:=(E.tup (Es.cons (E.var 1) (Es.cons (E.var 2) Es.nil)))
theorem u_e_Book_lifted_0 {β:Type} (cl:Cl) (ρ:DE.Env) (K:D×DE.Env→R β):(escE e_Book_lifted_0 (iR cl e_Book_lifted_0) ρ).th K=(escE (E.tup (Es.cons (E.var 1) (Es.cons (E.var 2) Es.nil))) (iR cl (E.tup (Es.cons (E.var 1) (Es.cons (E.var 2) Es.nil)))) ρ).th K:=(rfl)
noncomputable def c_Book_lifted:Nat×Nat×Ss:=(2,2,(Ss.cons (S.ret (E.call "spread" (Es.cons (E.comp e_Book_lifted_0 (I.seq (E.fld (E.var 0) "kept_papers")) (Tg.many [0,1,2]) (F.test (T.cmp CmpOp.Eq (E.var 0) (E.var 3))) 3 [1]) Es.nil))) Ss.nil))
class BO (pg:Pg):Prop where
 r_are_rules:∀ (k:Nat) (args:List Ar),clK pg (k+1) "are_rules" args=runD (pg.kk k) 1000 c_are_rules args
 r_is_paper:∀ (k:Nat) (args:List Ar),clK pg (k+1) "is_paper" args=runD (pg.kk k) 1000 c_is_paper args
 r_check_papers:∀ (k:Nat) (args:List Ar),clK pg (k+1) "check_papers" args=runD (pg.kk k) 1000 c_check_papers args
 r_Book_rules:∀ (k:Nat) (args:List Ar),clK pg (k+1) "Book.rules" args=runD (pg.kk k) 1000 c_Book_rules args
 r_Book_papers:∀ (k:Nat) (args:List Ar),clK pg (k+1) "Book.papers" args=runD (pg.kk k) 1000 c_Book_papers args
 r_Book_lifted:∀ (k:Nat) (args:List Ar),clK pg (k+1) "Book.lifted" args=runD (pg.kk k) 1000 c_Book_lifted args
noncomputable def c_weigh:Nat×Nat×Ss:=(4,4,(Ss.cons (S.ite (T.val (E.call "holds" (Es.cons (E.var 1) (Es.cons (E.var 3) Es.nil)))) (Ss.cons (S.ret (E.con (D.int 0))) Ss.nil) Ss.nil) (Ss.cons (S.ret (E.met (E.var 0) "weight" (Es.cons (E.call "land_among" (Es.cons (E.var 2) (Es.cons (E.var 3) Es.nil))) Es.nil))) Ss.nil)))
class WE (pg:Pg):Prop where
 r_weigh:∀ (k:Nat) (args:List Ar),clK pg (k+1) "weigh" args=runD (pg.kk k) 1000 c_weigh args
noncomputable def c_weight_on:Nat×Nat×Ss:=(4,4,(Ss.cons (S.ret (E.call "weigh" (Es.cons (E.idx (E.met (E.var 0) "rules" Es.nil) (E.var 1)) (Es.cons (E.met (E.var 0) "lifted" (Es.cons (E.var 1) Es.nil)) (Es.cons (E.call "stays_of" (Es.cons (E.var 2) Es.nil)) (Es.cons (E.var 3) Es.nil)))))) Ss.nil))
class WO (pg:Pg):Prop where
 r_weight_on:∀ (k:Nat) (args:List Ar),clK pg (k+1) "weight_on" args=runD (pg.kk k) 1000 c_weight_on args
noncomputable def e_count_within_0:E:=(E.call "weigh" (Es.cons (E.var 1) (Es.cons (E.var 2) (Es.cons (E.var 3) (Es.cons (E.var 0) Es.nil)))))
theorem u_e_count_within_0 {β:Type} (cl:Cl) (ρ:DE.Env) (K:D×DE.Env→R β):(escE e_count_within_0 (iR cl e_count_within_0) ρ).th K=(escE (E.call "weigh" (Es.cons (E.var 1) (Es.cons (E.var 2) (Es.cons (E.var 3) (Es.cons (E.var 0) Es.nil))))) (iR cl (E.call "weigh" (Es.cons (E.var 1) (Es.cons (E.var 2) (Es.cons (E.var 3) (Es.cons (E.var 0) Es.nil)))))) ρ).th K:=(rfl)
noncomputable def c_count_within:Nat×Nat×Ss:=(4,5,(Ss.cons (S.set 4 (E.bin Operator.Add (E.bin Operator.Sub (E.var 3) (E.fld (E.var 0) "span")) (E.con (D.int 1)))) (Ss.cons (S.ret (E.tup (Es.cons (E.var 4) (Es.cons (E.b1 B1.sum (E.comp e_count_within_0 (I.rng2 (E.var 4) (E.bin Operator.Add (E.var 3) (E.con (D.int 1)))) (Tg.one 0) F.yes 1 [0,1,2])) Es.nil)))) Ss.nil)))
noncomputable def t_count_since_0:T:=(T.cmp CmpOp.Lt (E.var 6) (E.fld (E.var 0) "leave"))
theorem u_t_count_since_0 {β:Type} (cl:Cl) (ρ:DE.Env) (K:Bool×DE.Env→R β):(iT cl t_count_since_0 ρ).th K=(iT cl (T.cmp CmpOp.Lt (E.var 6) (E.fld (E.var 0) "leave")) ρ).th K:=(rfl)
noncomputable def b_count_since_0:Ss:=(Ss.cons (S.set 8 (E.call "weigh" (Es.cons (E.var 0) (Es.cons (E.var 1) (Es.cons (E.var 2) (Es.cons (E.var 7) Es.nil)))))) (Ss.cons (S.ite (T.cmp CmpOp.Eq (E.var 8) (E.con (D.int 0))) (Ss.cons (S.set 6 (E.bin Operator.Add (E.var 6) (E.con (D.int 1)))) Ss.nil) (Ss.cons (S.set 6 (E.con (D.int 0))) (Ss.cons (S.set 4 (E.var 7)) (Ss.cons (S.set 5 (E.bin Operator.Add (E.var 5) (E.var 8))) Ss.nil)))) (Ss.cons (S.set 7 (E.bin Operator.Sub (E.var 7) (E.con (D.int 1)))) Ss.nil)))
theorem u_b_count_since_0 {β:Type} (cl:Cl) (w:Nat) (ρ:DE.Env) (K:Fl→R β):(iSs cl w b_count_since_0 ρ).th K=(iSs cl w (Ss.cons (S.set 8 (E.call "weigh" (Es.cons (E.var 0) (Es.cons (E.var 1) (Es.cons (E.var 2) (Es.cons (E.var 7) Es.nil)))))) (Ss.cons (S.ite (T.cmp CmpOp.Eq (E.var 8) (E.con (D.int 0))) (Ss.cons (S.set 6 (E.bin Operator.Add (E.var 6) (E.con (D.int 1)))) Ss.nil) (Ss.cons (S.set 6 (E.con (D.int 0))) (Ss.cons (S.set 4 (E.var 7)) (Ss.cons (S.set 5 (E.bin Operator.Add (E.var 5) (E.var 8))) Ss.nil)))) (Ss.cons (S.set 7 (E.bin Operator.Sub (E.var 7) (E.con (D.int 1)))) Ss.nil))) ρ).th K:=(rfl)
noncomputable def c_count_since:Nat×Nat×Ss:=(4,9,(Ss.cons (S.set 4 (E.bin Operator.Add (E.var 3) (E.con (D.int 1)))) (Ss.cons (S.set 5 (E.con (D.int 0))) (Ss.cons (S.set 6 (E.con (D.int 0))) (Ss.cons (S.set 7 (E.var 3)) (Ss.cons (S.whl t_count_since_0 b_count_since_0) (Ss.cons (S.ret (E.tup (Es.cons (E.var 4) (Es.cons (E.var 5) Es.nil)))) Ss.nil)))))))
noncomputable def c_window_by_days:Nat×Nat×Ss:=(4,4,(Ss.cons (S.ite (T.val (E.isc "Within" (E.var 0))) (Ss.cons (S.ret (E.call "count_within" (Es.cons (E.var 0) (Es.cons (E.var 1) (Es.cons (E.var 2) (Es.cons (E.var 3) Es.nil)))))) Ss.nil) Ss.nil) (Ss.cons (S.ret (E.call "count_since" (Es.cons (E.var 0) (Es.cons (E.var 1) (Es.cons (E.var 2) (Es.cons (E.var 3) Es.nil)))))) Ss.nil)))
class CO (pg:Pg):Prop where
 r_count_within:∀ (k:Nat) (args:List Ar),clK pg (k+1) "count_within" args=runD (pg.kk k) 1000 c_count_within args
 r_count_since:∀ (k:Nat) (args:List Ar),clK pg (k+1) "count_since" args=runD (pg.kk k) 1000 c_count_since args
 r_window_by_days:∀ (k:Nat) (args:List Ar),clK pg (k+1) "window_by_days" args=runD (pg.kk k) 1000 c_window_by_days args
noncomputable def c_count_by_days:Nat×Nat×Ss:=(4,4,(Ss.cons (S.ret (E.idx (E.call "window_by_days" (Es.cons (E.idx (E.met (E.var 0) "rules" Es.nil) (E.var 1)) (Es.cons (E.met (E.var 0) "lifted" (Es.cons (E.var 1) Es.nil)) (Es.cons (E.call "stays_of" (Es.cons (E.var 2) Es.nil)) (Es.cons (E.var 3) Es.nil))))) (E.con (D.int 1)))) Ss.nil))
class CB (pg:Pg):Prop where
 r_count_by_days:∀ (k:Nat) (args:List Ar),clK pg (k+1) "count_by_days" args=runD (pg.kk k) 1000 c_count_by_days args
noncomputable def e_fault_by_days_0:E:=(E.met (E.var 1) "lifted" (Es.cons (E.var 0) Es.nil))
theorem u_e_fault_by_days_0 {β:Type} (cl:Cl) (ρ:DE.Env) (K:D×DE.Env→R β):(escE e_fault_by_days_0 (iR cl e_fault_by_days_0) ρ).th K=(escE (E.met (E.var 1) "lifted" (Es.cons (E.var 0) Es.nil)) (iR cl (E.met (E.var 1) "lifted" (Es.cons (E.var 0) Es.nil))) ρ).th K:=(rfl)
noncomputable def b_fault_by_days_0:Ss:=(Ss.cons (S.set 8 (E.call "window_by_days" (Es.cons (E.var 7) (Es.cons (E.idx (E.var 5) (E.var 4)) (Es.cons (E.var 2) (Es.cons (E.var 6) Es.nil)))))) (Ss.cons (S.ite (T.cmp CmpOp.Gt (E.idx (E.var 8) (E.con (D.int 1))) (E.fld (E.var 7) "most")) (Ss.cons (S.ret (E.tup (Es.cons (E.var 6) (Es.cons (E.var 4) (Es.cons (E.idx (E.var 8) (E.con (D.int 0))) Es.nil))))) Ss.nil) Ss.nil) Ss.nil))
theorem u_b_fault_by_days_0 {β:Type} (cl:Cl) (w:Nat) (ρ:DE.Env) (K:Fl→R β):(iSs cl w b_fault_by_days_0 ρ).th K=(iSs cl w (Ss.cons (S.set 8 (E.call "window_by_days" (Es.cons (E.var 7) (Es.cons (E.idx (E.var 5) (E.var 4)) (Es.cons (E.var 2) (Es.cons (E.var 6) Es.nil)))))) (Ss.cons (S.ite (T.cmp CmpOp.Gt (E.idx (E.var 8) (E.con (D.int 1))) (E.fld (E.var 7) "most")) (Ss.cons (S.ret (E.tup (Es.cons (E.var 6) (Es.cons (E.var 4) (Es.cons (E.idx (E.var 8) (E.con (D.int 0))) Es.nil))))) Ss.nil) Ss.nil) Ss.nil)) ρ).th K:=(rfl)
noncomputable def b_fault_by_days_1:Ss:=(Ss.cons (S.for_ (Tg.many [4,7]) (I.enum (E.var 3)) b_fault_by_days_0) Ss.nil)
theorem u_b_fault_by_days_1 {β:Type} (cl:Cl) (w:Nat) (ρ:DE.Env) (K:Fl→R β):(iSs cl w b_fault_by_days_1 ρ).th K=(iSs cl w (Ss.cons (S.for_ (Tg.many [4,7]) (I.enum (E.var 3)) b_fault_by_days_0) Ss.nil) ρ).th K:=(rfl)
noncomputable def c_fault_by_days:Nat×Nat×Ss:=(2,9,(Ss.cons (S.set 2 (E.call "stays_of" (Es.cons (E.var 1) Es.nil))) (Ss.cons (S.ite (T.not (T.val (E.var 2))) (Ss.cons (S.ret (E.con D.non)) Ss.nil) Ss.nil) (Ss.cons (S.set 3 (E.met (E.var 0) "rules" Es.nil)) (Ss.cons (S.set 5 (E.comp e_fault_by_days_0 (I.rng (E.b1 B1.len (E.var 3))) (Tg.one 0) F.yes 1 [0])) (Ss.cons (S.for_ (Tg.one 6) (I.rng2 (E.idx (E.idx (E.var 2) (E.con (D.int 0))) (E.con (D.int 1))) (E.bin Operator.Add (E.idx (E.idx (E.var 2) (E.neg (E.con (D.int 1)))) (E.con (D.int 2))) (E.con (D.int 1)))) b_fault_by_days_1) (Ss.cons (S.ret (E.con D.non)) Ss.nil)))))))
class FB (pg:Pg):Prop where
 r_fault_by_days:∀ (k:Nat) (args:List Ar),clK pg (k+1) "fault_by_days" args=runD (pg.kk k) 1000 c_fault_by_days args
end DG
namespace FA
open PySem L2 DE DG
noncomputable def c__law_cell_at:Nat×Nat×Ss:=(2,2,(Ss.cons (S.ite (T.cmp CmpOp.Lt (E.var 1) (E.b1 B1.len (E.var 0))) (Ss.cons (S.ret (E.idx (E.var 0) (E.var 1))) Ss.nil) Ss.nil) (Ss.cons (S.ret (E.con (D.int 0))) Ss.nil)))
class LC (pg:Pg):Prop where
 r__law_cell_at:∀ (k:Nat) (args:List Ar),clK pg (k+1) "_law_cell_at" args=runD (pg.kk k) 1000 c__law_cell_at args
noncomputable def b__law_lands_0:Ss:=(Ss.cons (S.set 9 (E.bin Operator.Add (E.bin Operator.Add (E.bin Operator.FloorDiv (E.var 0) (E.con (D.int 64))) (E.bin Operator.Mult (E.bin Operator.Mult (E.con (D.int 5)) (E.var 8)) (E.var 8))) (E.bin Operator.Mult (E.bin Operator.Mult (E.con (D.int 3)) (E.var 6)) (E.b1 B1.int (E.cmp CmpOp.Eq (E.var 8) (E.var 4)))))) (Ss.cons (S.set 7 (E.bin Operator.Add (E.var 7) (E.idx (E.var 2) (E.bin Operator.Mod (E.var 9) (E.con (D.int 26)))))) Ss.nil))
theorem u_b__law_lands_0 {β:Type} (cl:Cl) (w:Nat) (ρ:DE.Env) (K:Fl→R β):(iSs cl w b__law_lands_0 ρ).th K=(iSs cl w (Ss.cons (S.set 9 (E.bin Operator.Add (E.bin Operator.Add (E.bin Operator.FloorDiv (E.var 0) (E.con (D.int 64))) (E.bin Operator.Mult (E.bin Operator.Mult (E.con (D.int 5)) (E.var 8)) (E.var 8))) (E.bin Operator.Mult (E.bin Operator.Mult (E.con (D.int 3)) (E.var 6)) (E.b1 B1.int (E.cmp CmpOp.Eq (E.var 8) (E.var 4)))))) (Ss.cons (S.set 7 (E.bin Operator.Add (E.var 7) (E.idx (E.var 2) (E.bin Operator.Mod (E.var 9) (E.con (D.int 26)))))) Ss.nil)) ρ).th K:=(rfl)
noncomputable def b__law_lands_1:Ss:=(Ss.cons (S.set 7 (E.con (D.str ""))) (Ss.cons (S.for_ (Tg.one 8) (I.rng (E.var 3)) b__law_lands_0) (Ss.cons (S.app 5 (E.var 7)) Ss.nil)))
theorem u_b__law_lands_1 {β:Type} (cl:Cl) (w:Nat) (ρ:DE.Env) (K:Fl→R β):(iSs cl w b__law_lands_1 ρ).th K=(iSs cl w (Ss.cons (S.set 7 (E.con (D.str ""))) (Ss.cons (S.for_ (Tg.one 8) (I.rng (E.var 3)) b__law_lands_0) (Ss.cons (S.app 5 (E.var 7)) Ss.nil))) ρ).th K:=(rfl)
noncomputable def c__law_lands:Nat×Nat×Ss:=(2,10,(Ss.cons (S.set 2 (E.con (D.str "abcdefghijklmnopqrstuvwxyz"))) (Ss.cons (S.set 3 (E.bin Operator.Add (E.con (D.int 1)) (E.bin Operator.Mod (E.var 0) (E.con (D.int 8))))) (Ss.cons (S.set 4 (E.bin Operator.Mod (E.bin Operator.FloorDiv (E.var 0) (E.con (D.int 8))) (E.var 3))) (Ss.cons (S.set 5 (E.lst Es.nil)) (Ss.cons (S.for_ (Tg.one 6) (I.rng (E.var 1)) b__law_lands_1) (Ss.cons (S.ret (E.var 5)) Ss.nil)))))))
class LN (pg:Pg):Prop where
 r__law_lands:∀ (k:Nat) (args:List Ar),clK pg (k+1) "_law_lands" args=runD (pg.kk k) 1000 c__law_lands args
noncomputable def b__law_rule_0:Ss:=(Ss.cons (S.app 3 (E.tup (Es.cons (E.idx (E.var 1) (E.bin Operator.Mod (E.bin Operator.Add (E.bin Operator.FloorDiv (E.var 2) (E.con (D.int 18))) (E.var 4)) (E.b1 B1.len (E.var 1)))) (Es.cons (E.bin Operator.Add (E.con (D.int 1)) (E.bin Operator.Mod (E.bin Operator.FloorDiv (E.bin Operator.FloorDiv (E.var 2) (E.con (D.int 108))) (E.bin Operator.Add (E.var 4) (E.con (D.int 1)))) (E.idx (E.lst (Es.cons (E.con (D.int 9)) (Es.cons (E.con (D.int 2)) (Es.cons (E.con (D.int 2)) Es.nil)))) (E.bin Operator.Mod (E.bin Operator.Add (E.var 2) (E.var 4)) (E.con (D.int 3)))))) Es.nil)))) Ss.nil)
theorem u_b__law_rule_0 {β:Type} (cl:Cl) (w:Nat) (ρ:DE.Env) (K:Fl→R β):(iSs cl w b__law_rule_0 ρ).th K=(iSs cl w (Ss.cons (S.app 3 (E.tup (Es.cons (E.idx (E.var 1) (E.bin Operator.Mod (E.bin Operator.Add (E.bin Operator.FloorDiv (E.var 2) (E.con (D.int 18))) (E.var 4)) (E.b1 B1.len (E.var 1)))) (Es.cons (E.bin Operator.Add (E.con (D.int 1)) (E.bin Operator.Mod (E.bin Operator.FloorDiv (E.bin Operator.FloorDiv (E.var 2) (E.con (D.int 108))) (E.bin Operator.Add (E.var 4) (E.con (D.int 1)))) (E.idx (E.lst (Es.cons (E.con (D.int 9)) (Es.cons (E.con (D.int 2)) (Es.cons (E.con (D.int 2)) Es.nil)))) (E.bin Operator.Mod (E.bin Operator.Add (E.var 2) (E.var 4)) (E.con (D.int 3)))))) Es.nil)))) Ss.nil) ρ).th K:=(rfl)
noncomputable def c__law_rule:Nat×Nat×Ss:=(2,7,(Ss.cons (S.set 2 (E.bin Operator.Mod (E.bin Operator.Mult (E.var 0) (E.con (D.int 1099087573))) (E.con (D.int 10000000000037)))) (Ss.cons (S.set 3 (E.lst Es.nil)) (Ss.cons (S.for_ (Tg.one 4) (I.rng (E.bin Operator.Add (E.con (D.int 1)) (E.bin Operator.Mod (E.bin Operator.FloorDiv (E.var 2) (E.con (D.int 3))) (E.b1 B1.len (E.var 1))))) b__law_rule_0) (Ss.cons (S.set 5 (E.bin Operator.Mod (E.bin Operator.FloorDiv (E.var 2) (E.con (D.int 972))) (E.con (D.int 25)))) (Ss.cons (S.set 6 (E.bin Operator.Add (E.con (D.int 1)) (E.bin Operator.Mod (E.bin Operator.FloorDiv (E.var 2) (E.con (D.int 24300))) (E.con (D.int 40))))) (Ss.cons (S.ite (T.cmp CmpOp.Eq (E.bin Operator.Mod (E.var 2) (E.con (D.int 3))) (E.con (D.int 0))) (Ss.cons (S.ret (E.tup (Es.cons (E.con (D.str "within")) (Es.cons (E.var 3) (Es.cons (E.var 5) (Es.cons (E.var 6) Es.nil)))))) Ss.nil) Ss.nil) (Ss.cons (S.ite (T.cmp CmpOp.Eq (E.bin Operator.Mod (E.var 2) (E.con (D.int 3))) (E.con (D.int 1))) (Ss.cons (S.ret (E.tup (Es.cons (E.con (D.str "since")) (Es.cons (E.var 3) (Es.cons (E.var 5) (Es.cons (E.var 6) Es.nil)))))) Ss.nil) Ss.nil) (Ss.cons (S.ret (E.tup (Es.cons (E.con (D.str "row")) (Es.cons (E.var 3) (Es.cons (E.var 5) (Es.cons (E.con (D.int 1)) Es.nil)))))) Ss.nil)))))))))
class LR (pg:Pg):Prop where
 r__law_rule:∀ (k:Nat) (args:List Ar),clK pg (k+1) "_law_rule" args=runD (pg.kk k) 1000 c__law_rule args
noncomputable def c__law_made:Nat×Nat×Ss:=(1,5,(Ss.cons (S.setT (Tg.many [1,2,3,4]) (E.var 0)) (Ss.cons (S.ite (T.cmp CmpOp.Eq (E.var 1) (E.con (D.str "within"))) (Ss.cons (S.ret (E.new "Within" (Es.cons (E.b1 B1.list (E.var 2)) (Es.cons (E.var 3) (Es.cons (E.var 4) Es.nil))))) Ss.nil) Ss.nil) (Ss.cons (S.ite (T.cmp CmpOp.Eq (E.var 1) (E.con (D.str "since"))) (Ss.cons (S.ret (E.new "Since" (Es.cons (E.b1 B1.list (E.var 2)) (Es.cons (E.var 3) (Es.cons (E.var 4) Es.nil))))) Ss.nil) Ss.nil) (Ss.cons (S.ret (E.new "InRow" (Es.cons (E.b1 B1.list (E.var 2)) (Es.cons (E.var 3) Es.nil)))) Ss.nil)))))
class LM (pg:Pg):Prop where
 r__law_made:∀ (k:Nat) (args:List Ar),clK pg (k+1) "_law_made" args=runD (pg.kk k) 1000 c__law_made args
noncomputable def c__law_paper:Nat×Nat×Ss:=(3,5,(Ss.cons (S.set 3 (E.bin Operator.Mod (E.bin Operator.Mult (E.var 0) (E.con (D.int 982451653))) (E.con (D.int 10000000000037)))) (Ss.cons (S.set 4 (E.bin Operator.Add (E.var 2) (E.bin Operator.Mod (E.bin Operator.FloorDiv (E.var 3) (E.con (D.int 8))) (E.con (D.int 60))))) (Ss.cons (S.ret (E.tup (Es.cons (E.bin Operator.Mod (E.var 3) (E.var 1)) (Es.cons (E.var 4) (Es.cons (E.bin Operator.Add (E.var 4) (E.bin Operator.Mod (E.bin Operator.FloorDiv (E.var 3) (E.con (D.int 480))) (E.con (D.int 9)))) Es.nil))))) Ss.nil))))
class LP (pg:Pg):Prop where
 r__law_paper:∀ (k:Nat) (args:List Ar),clK pg (k+1) "_law_paper" args=runD (pg.kk k) 1000 c__law_paper args
noncomputable def b__law_stays_0:Ss:=(Ss.cons (S.set 6 (E.bin Operator.Mod (E.bin Operator.Mult (E.var 5) (E.con (D.int 1099087573))) (E.con (D.int 10000000000037)))) (Ss.cons (S.set 7 (E.bin Operator.Add (E.var 4) (E.bin Operator.Mult (E.bin Operator.Mod (E.var 6) (E.con (D.int 6))) (E.bin Operator.Mod (E.bin Operator.FloorDiv (E.var 6) (E.con (D.int 6))) (E.con (D.int 3)))))) (Ss.cons (S.set 8 (E.bin Operator.Add (E.var 7) (E.bin Operator.Mod (E.bin Operator.FloorDiv (E.var 6) (E.con (D.int 18))) (E.con (D.int 9))))) (Ss.cons (S.ite (T.cmp CmpOp.LtE (E.var 8) (E.bin Operator.Add (E.var 2) (E.con (D.int 59)))) (Ss.cons (S.app 3 (E.tup (Es.cons (E.idx (E.var 1) (E.bin Operator.Mod (E.bin Operator.FloorDiv (E.var 6) (E.con (D.int 162))) (E.b1 B1.len (E.var 1)))) (Es.cons (E.var 7) (Es.cons (E.var 8) Es.nil))))) (Ss.cons (S.set 4 (E.bin Operator.Add (E.var 8) (E.con (D.int 1)))) Ss.nil)) Ss.nil) Ss.nil))))
theorem u_b__law_stays_0 {β:Type} (cl:Cl) (w:Nat) (ρ:DE.Env) (K:Fl→R β):(iSs cl w b__law_stays_0 ρ).th K=(iSs cl w (Ss.cons (S.set 6 (E.bin Operator.Mod (E.bin Operator.Mult (E.var 5) (E.con (D.int 1099087573))) (E.con (D.int 10000000000037)))) (Ss.cons (S.set 7 (E.bin Operator.Add (E.var 4) (E.bin Operator.Mult (E.bin Operator.Mod (E.var 6) (E.con (D.int 6))) (E.bin Operator.Mod (E.bin Operator.FloorDiv (E.var 6) (E.con (D.int 6))) (E.con (D.int 3)))))) (Ss.cons (S.set 8 (E.bin Operator.Add (E.var 7) (E.bin Operator.Mod (E.bin Operator.FloorDiv (E.var 6) (E.con (D.int 18))) (E.con (D.int 9))))) (Ss.cons (S.ite (T.cmp CmpOp.LtE (E.var 8) (E.bin Operator.Add (E.var 2) (E.con (D.int 59)))) (Ss.cons (S.app 3 (E.tup (Es.cons (E.idx (E.var 1) (E.bin Operator.Mod (E.bin Operator.FloorDiv (E.var 6) (E.con (D.int 162))) (E.b1 B1.len (E.var 1)))) (Es.cons (E.var 7) (Es.cons (E.var 8) Es.nil))))) (Ss.cons (S.set 4 (E.bin Operator.Add (E.var 8) (E.con (D.int 1)))) Ss.nil)) Ss.nil) Ss.nil)))) ρ).th K:=(rfl)
noncomputable def c__law_stays:Nat×Nat×Ss:=(3,9,(Ss.cons (S.set 3 (E.lst Es.nil)) (Ss.cons (S.set 4 (E.var 2)) (Ss.cons (S.for_ (Tg.one 5) (I.seq (E.var 0)) b__law_stays_0) (Ss.cons (S.ret (E.var 3)) Ss.nil)))))
class LS (pg:Pg):Prop where
 r__law_stays:∀ (k:Nat) (args:List Ar),clK pg (k+1) "_law_stays" args=runD (pg.kk k) 1000 c__law_stays args
end FA
set_option maxHeartbeats 4000000
namespace DG
open PySem L2 DE
open CH ST LA SP HO RU BO WE WO CO CB FB
section
variable {pg:Pg} [CH pg]
theorem whole_ok (k:Nat) (n:Int):clK pg (k+1) "is_whole" [.val (.int n)]=.ok (.val (.bl true)):=by
 rw [r_is_whole]
 simp? only [c_is_whole]
theorem between_ok (k:Nat) (n a b:Int) (h1:a≤n) (h2:n≤b):clK pg (k+2) "is_between" [.val (.int n),.val (.int a),.val (.int b)]=.ok (.val (.bl true)):=by
 rw [r_is_between]
 simp? only [c_is_between,whole_ok,h1,h2,decide_true]
theorem days_ok (k:Nat) (a b:Int) (h0:0≤a) (h1:a≤b) (h2:b≤1000000000):clK pg (k+3) "are_days" [.val (.int a),.val (.int b)]=.ok (.val (.bl true)):=by
 have h3:a≤1000000000:=by omega
 have h4:0≤b:=by omega
 rw [r_are_days]
 simp? only [c_are_days,between_ok k a 0 1000000000 h0 h3,between_ok k b 0 1000000000 h4 h2,h1,decide_true]
noncomputable def isLet (c:Nat):Prop:=97≤c∧c < 123
theorem occ_let (c:Nat) (h:isLet c):occB ⟨#[c]⟩ "abcdefghijklmnopqrstuvwxyz" = true:=by
 have key:∀ j:Fin 26,occB ⟨#[97+j.val]⟩ "abcdefghijklmnopqrstuvwxyz" = true:=by decide +kernel
 have:=key ⟨c - 97,by unfold isLet at h;omega⟩
 rw [show 97+(c - 97)=c by unfold isLet at h;omega] at this
 exact this
theorem made_loop (k:Nat) (z:Str):∀ (l:List Nat) (s:Sl),(∀ c∈l,isLet c)→∃ s',forD (pg.kk k) 1000 (.one 2) b_is_made_of_0 (l.map fun c=>D.str ⟨#[c]⟩) [.val (.str z),.val (.str "abcdefghijklmnopqrstuvwxyz"),s]=.ok (.next [.val (.str z),.val (.str "abcdefghijklmnopqrstuvwxyz"),s'])
 | [],s,_=>⟨s,by rw [List.map_nil,forD_nil]⟩
 | c::l,s,h=>by
  obtain ⟨s',e⟩:=made_loop k z l (.val (.str ⟨#[c]⟩)) fun x hx=>h x (by simp [hx])
  refine ⟨s',?_⟩
  refine (th_ret _).symm.trans ?_
  rw [List.map_cons]
  simp? only [u_b_is_made_of_0,occ_let c (h c (by simp)),e]
theorem made_ok (k:Nat) (z:Str) (h:∀ c∈z.cps.toList,isLet c):clK pg (k+1) "is_made_of" [.val (.str z),.val (.str "abcdefghijklmnopqrstuvwxyz")]=.ok (.val (.bl true)):=by
 rw [r_is_made_of]
 obtain ⟨s',e⟩:=made_loop (pg:=pg) k z z.cps.toList .no h
 simp? only [c_is_made_of,Nat.reduceAdd,Nat.reduceSub,sigD,e]
structure NameOk (z:Str):Prop where
 one:1≤z.cps.size
 eight:z.cps.size≤8
 lets:∀ c∈z.cps.toList,isLet c
theorem name_ok (k:Nat) (z:Str) (h:NameOk z):clK pg (k+2) "is_name" [.val (.str z)]=.ok (.val (.bl true)):=by
 have hz:z.length≤sizeLine:=by
  have:=h.eight
  show z.cps.size≤2 ^ 24
  omega
 have h1:(1:Int)≤(z.length:Int):=by
  have:=h.one
  show (1:Int)≤(z.cps.size:Int)
  omega
 have h8:(z.length:Int)≤8:=by
  have:=h.eight
  show (z.cps.size:Int)≤8
  omega
 rw [r_is_name]
 simp? only [c_is_name,hz,h1,h8,decide_true,made_ok k z h.lets]
noncomputable def stD (s:Str×Int×Int):D:=.tup [.str s.1,.int s.2.1,.int s.2.2]
theorem stD_eq (s:Str×Int×Int):stD s=.tup [.str s.1,.int s.2.1,.int s.2.2]:=rfl
structure StOk (e:Int) (s:Str×Int×Int):Prop where
 nm:NameOk s.1
 lo:e < s.2.1
 ab:s.2.1≤s.2.2
 hi:s.2.2≤1000000000
end
section
variable {pg:Pg} [CH pg] [ST pg]
theorem stay_ok (k:Nat) (e:Int) (s:Str×Int×Int) (he:-1≤e) (h:StOk e s):clK pg (k+4) "is_stay" [.val (stD s)]=.ok (.val (.bl true)):=by
 have hlo:=h.lo
 have hab:=h.ab
 rw [r_is_stay]
 have e0:atI [D.str s.1,D.int s.2.1,D.int s.2.2] 0=some (.str s.1):=by rfl
 have e1:atI [D.str s.1,D.int s.2.1,D.int s.2.2] 1=some (.int s.2.1):=by rfl
 have e2:atI [D.str s.1,D.int s.2.1,D.int s.2.2] 2=some (.int s.2.2):=by rfl
 simp? only [c_is_stay,stD,e0,e1,e2,eqD_int,name_ok (k+1) s.1 h.nm,days_ok k s.2.1 s.2.2 (by omega) h.ab h.hi,show ((((0+1+1+1:Nat):Int) == 3)=true) from rfl]
noncomputable def Ch:Int→List (Str×Int×Int)→Prop
 | _,[]=>True
 | e,s::l=>StOk e s∧Ch s.2.2 l
theorem stays_loop (k:Nat) (v:Sl):∀ (l:List (Str×Int×Int)) (i:Nat) (e:Int) (s2 s3:Sl),-1≤e→Ch e l→∃ e' s2' s3',forD (pg.kk (k+4)) 1000 (.many [2,3]) b_stays_of_0 (enF i (l.map stD)) [v,.val (.int e),s2,s3]=.ok (.next [v,.val (.int e'),s2',s3'])
 | [],i,e,s2,s3,_,_=>⟨e,s2,s3,rfl⟩
 | s::l,i,e,s2,s3,he,h=>by
  have h1:=h.1.lo
  have h2:=h.1.ab
  obtain ⟨e',s2',s3',ih⟩:=stays_loop k v l (i+1) s.2.2 (.val (.int i)) (.val (stD s)) (by omega) h.2
  refine ⟨e',s2',s3',?_⟩
  have hn:¬ s.2.1≤e:=by omega
  have st:=stay_ok (pg:=pg) k e s he h.1
  simp only [stD_eq] at st ih
  refine (th_ret _).symm.trans ?_
  rw [List.map_cons,enF]
  simp? only [u_b_stays_of_0,stD_eq,st,hn,ih]
noncomputable def aL (b:Bool) (l:List D):Ar:=match b with
 | true=>.bor l
 | false=>.val (.lst l)
theorem stays_ok (k:Nat) (b:Bool) (l:List (Str×Int×Int)) (h:Ch (-1) l) (hl:l.length≤60):clK pg (k+5) "stays_of" [aL b (l.map stD)]=.ok (.tmp (l.map stD)):=by
 have h6:¬ (60:Int) < ((l.map stD).length:Int):=by rw [List.length_map];omega
 cases b with
 | false=>
  obtain ⟨e',s2',s3',ih⟩:=stays_loop (pg:=pg) k (.val (.lst (l.map stD))) l 0 (-1) .no .no (by omega) h
  rw [r_stays_of]
  simp? only [aL,c_stays_of,Nat.reduceAdd,Nat.reduceSub,enumD_eq,ih,h6,decide_false]
 | true=>
  obtain ⟨e',s2',s3',ih⟩:=stays_loop (pg:=pg) k (.bor (l.map stD)) l 0 (-1) .no .no (by omega) h
  rw [r_stays_of]
  simp? only [aL,c_stays_of,Nat.reduceAdd,Nat.reduceSub,enumD_eq,ih,h6,decide_false]
end
theorem NameOk.of {z:Str} (h:nameD z=true):NameOk z:=by
 unfold nameD at h
 simp only [Bool.and_eq_true,decide_eq_true_eq,List.all_eq_true] at h
 refine ⟨h.1.1,h.1.2,fun c hc=>?_⟩
 have:=h.2 c hc
 unfold isLet
 omega
theorem landD_is {d:D} {p:Str×Int} (h:landD d=some p):d=.tup [.str p.1,.int p.2]∧NameOk p.1∧1≤p.2∧p.2≤9:=by
 unfold landD at h
 split at h
 ·rename_i s w
  split at h
  ·rename_i hc
   cases h
   simp only [Bool.and_eq_true,decide_eq_true_eq] at hc
   exact ⟨rfl,NameOk.of hc.1.1,hc.1.2,hc.2⟩
  ·cases h
 ·cases h
section
variable {pg:Pg} [CH pg] [RU pg]
theorem land_ok (k:Nat) (s:Str) (w:Int) (hs:NameOk s) (h1:1≤w) (h9:w≤9):clK pg (k+3) "is_land" [.val (.tup [.str s,.int w])]=.ok (.val (.bl true)):=by
 rw [r_is_land]
 have e0:atI [D.str s,D.int w] 0=some (.str s):=by rfl
 have e1:atI [D.str s,D.int w] 1=some (.int w):=by rfl
 simp? only [c_is_land,e0,e1,eqD_int,name_ok k s hs,between_ok k w 1 9 h1 h9,show ((((0+1+1:Nat):Int) == 2)=true) from rfl]
end
theorem in_names (s:Str) (acc:List Str):inD (.str s) (acc.map D.str)=some (acc.contains s):=by
 have e:∀ acc:List Str,inV (V.str s) (acc.map V.str)=acc.contains s:=by
  intro acc
  induction acc with
  | nil=>rfl
  | cons z l ih=>
   rw [List.map_cons,List.contains_cons,←ih]
   show (eqV (V.str z) (V.str s)||_)=_
   congr 1
   exact BEq.comm
 unfold inD
 rw [if_pos (by simp [flatD]),show (acc.map D.str).map flV=acc.map V.str by simp [flV]]
 exact congrArg some (e acc)
theorem mem_names (s:Str) (acc:List Str):memD (.val (.str s)) (.cell (acc.map D.str))=some (acc.contains s):=in_names s acc
section
variable {pg:Pg} [CH pg] [RU pg]
theorem lands_loop (k:Nat) (v:Sl):∀ (l:List D) (acc:List Str) (s2:Sl),landsA acc l=true→acc.length+l.length < 1000→∃ acc' s2',forD (pg.kk (k+3)) 1000 (.one 2) b_are_lands_0 l [v,.own (acc.map D.str),s2]=.ok (.next [v,.own acc',s2'])
 | [],acc,s2,_,_=>⟨_,s2,rfl⟩
 | d::l,acc,s2,h,hl=>by
  unfold landsA at h
  cases e:landD d with
  | none=>rw [e] at h;cases h
  | some p=>
   rw [e] at h
   simp only [Bool.and_eq_true,Bool.not_eq_true'] at h
   obtain ⟨rfl,hn,h1,h9⟩:=landD_is e
   rw [List.length_cons] at hl
   obtain ⟨acc',s2',ih⟩:=lands_loop k v l (acc++[p.1]) (.val (.tup [.str p.1,.int p.2])) h.2 (by simp;omega)
   refine ⟨acc',s2',?_⟩
   rw [List.map_append,List.map_cons,List.map_nil] at ih
   have e0:atI [D.str p.1,D.int p.2] 0=some (.str p.1):=by rfl
   have hs:(acc.map D.str).length < sizeLine:=by
    rw [List.length_map]
    show acc.length < 2 ^ 24
    omega
   refine (th_ret _).symm.trans ?_
   simp? only [u_b_are_lands_0,e0,land_ok k p.1 p.2 hn h1 h9,mem_names,h.1,hs,ih]
theorem arelands_ok (k:Nat) (b:Bool) (l:List D) (h:landsOk l=true):clK pg (k+4) "are_lands" [aL b l]=.ok (.val (.bl true)):=by
 unfold landsOk at h
 simp only [Bool.and_eq_true,decide_eq_true_eq] at h
 have h1:¬ (l.length:Int) < 1:=by have:=h.1.1;omega
 have h2:¬ (6:Int) < (l.length:Int):=by have:=h.1.2;omega
 rw [r_are_lands]
 cases b with
 | false=>
  obtain ⟨acc',s2',ih⟩:=lands_loop (pg:=pg) k (.val (.lst l)) l [] .no h.2 (by have:=h.1.2;simp;omega)
  rw [List.map_nil] at ih
  simp? only [aL,c_are_lands,h1,h2,show (0:Nat)≤sizeLine by decide +kernel,ih]
 | true=>
  obtain ⟨acc',s2',ih⟩:=lands_loop (pg:=pg) k (.bor l) l [] .no h.2 (by have:=h.1.2;simp;omega)
  rw [List.map_nil] at ih
  simp? only [aL,c_are_lands,h1,h2,show (0:Nat)≤sizeLine by decide +kernel,ih]
end
section
variable {pg:Pg} [CH pg]
theorem btw_ok (k:Nat) (n a b:Int) (h:btw n a b=true):clK pg (k+2) "is_between" [.val (.int n),.val (.int a),.val (.int b)]=.ok (.val (.bl true)):=by
 unfold btw at h
 simp only [Bool.and_eq_true,decide_eq_true_eq] at h
 exact between_ok k n a b h.1 h.2
end
theorem rules_loop (cl:Cl) (hc:cl.cs=pcs) (v:Sl):∀ (l:List D) (s1:Sl),l.all ruleD=true→∃ s1',forD cl 1000 (.one 1) b_are_rules_0 l [v,s1]=.ok (.next [v,s1'])
 | [],s1,_=>⟨s1,rfl⟩
 | d::l,s1,h=>by
  rw [List.all_cons,Bool.and_eq_true] at h
  cases d with
  | ins c ns ds=>
   obtain ⟨s1',ih⟩:=rules_loop cl hc v l (.val (.ins c ns ds)) h.2
   refine ⟨s1',?_⟩
   have hk:rk c=true:=h.1
   have i1:isiG pcs (.val (.ins c ns ds)) "Within" = some (c == "Within"):=by
    show (if bty.contains "Within" then none else (if (rk c&&_)=true then _ else _))=_
    rw [hk];rfl
   have i2:isiG pcs (.val (.ins c ns ds)) "Since" = some (c != "Within"):=by
    show (if bty.contains "Since" then none else (if (rk c&&false)=true then _ else if (rk c&&true)=true then _ else _))=_
    rw [hk];rfl
   refine (th_ret _).symm.trans ?_
   by_cases hw:(c == "Within")=true
   ·simp? only [u_b_are_rules_0,hc,i1,hw,ih]
   ·have hw:(c == "Within")=false:=by simpa using hw
    have hn:(c != "Within")=true:=by simp [bne,hw]
    simp? only [u_b_are_rules_0,hc,i1,i2,hw,hn,ih]
  | _=>cases h.1
section
variable {pg:Pg} [CH pg] [RU pg] [BO pg]
theorem arerules_ok (k:Nat) (b:Bool) (l:List D) (h:(decide (l.length≤8)&&l.all ruleD)=true):clK pg (k+1) "are_rules" [aL b l]=.ok (.val (.bl true)):=by
 simp only [Bool.and_eq_true,decide_eq_true_eq] at h
 have h2:¬ (8:Int) < (l.length:Int):=by have:=h.1;omega
 rw [r_are_rules]
 cases b with
 | false=>
  obtain ⟨s1',ih⟩:=rules_loop (pg.kk k) RU.cs (.val (.lst l)) l .no h.2
  simp? only [aL,c_are_rules,h2,ih]
 | true=>
  obtain ⟨s1',ih⟩:=rules_loop (pg.kk k) RU.cs (.bor l) l .no h.2
  simp? only [aL,c_are_rules,h2,ih]
end
theorem paperD_is {n:Int} {d:D} (h:paperD n d=true):∃ o a b,d=.tup [.int o,.int a,.int b]∧0≤o∧o≤n - 1∧0≤a∧a≤b∧b≤1000000000:=by
 unfold paperD at h
 split at h
 ·rename_i o a b
  simp only [btw,Bool.and_eq_true,decide_eq_true_eq] at h
  exact ⟨o,a,b,rfl,by omega,by omega,by omega,by omega,by omega⟩
 ·cases h
section
variable {pg:Pg} [CH pg] [BO pg]
theorem paper_ok (k:Nat) (n:Int) (d:D) (h:paperD n d=true):clK pg (k+4) "is_paper" [.val d,.val (.int n)]=.ok (.val (.bl true)):=by
 obtain ⟨o,a,b,rfl,h1,h2,h3,h4,h5⟩:=paperD_is h
 have e0:atI [D.int o,D.int a,D.int b] 0=some (.int o):=by rfl
 have e1:atI [D.int o,D.int a,D.int b] 1=some (.int a):=by rfl
 have e2:atI [D.int o,D.int a,D.int b] 2=some (.int b):=by rfl
 rw [r_is_paper]
 simp? only [c_is_paper,e0,e1,e2,eqD_int,between_ok (k+1) o 0 (n - 1) h1 h2,days_ok k a b h3 h4 h5,show ((((0+1+1+1:Nat):Int) == 3)=true) from rfl]
theorem papers_loop (k:Nat) (v:Sl) (n:Int):∀ (l:List D) (i:Nat) (s2 s3:Sl),l.all (paperD n)=true→∃ s2' s3',forD (pg.kk (k+4)) 1000 (.many [2,3]) b_check_papers_0 (enF i l) [v,.val (.int n),s2,s3]=.ok (.next [v,.val (.int n),s2',s3'])
 | [],i,s2,s3,_=>⟨s2,s3,rfl⟩
 | d::l,i,s2,s3,h=>by
  rw [List.all_cons,Bool.and_eq_true] at h
  obtain ⟨s2',s3',ih⟩:=papers_loop k v n l (i+1) (.val (.int i)) (.val d) h.2
  refine ⟨s2',s3',?_⟩
  refine (th_ret _).symm.trans ?_
  rw [enF]
  simp? only [u_b_check_papers_0,paper_ok k n d h.1,ih]
theorem checkpapers_ok (k:Nat) (b:Bool) (ps:List D) (n:Int) (h:(decide (ps.length≤12)&&ps.all (paperD n))=true):clK pg (k+5) "check_papers" [aL b ps,.val (.int n)]=.ok (.val .non):=by
 simp only [Bool.and_eq_true,decide_eq_true_eq] at h
 have h2:¬ (12:Int) < (ps.length:Int):=by have:=h.1;omega
 rw [r_check_papers]
 cases b with
 | false=>
  obtain ⟨s2',s3',ih⟩:=papers_loop (pg:=pg) k (.val (.lst ps)) n ps 0 .no .no h.2
  simp? only [aL,c_check_papers,enumD_eq,ih,h2]
 | true=>
  obtain ⟨s2',s3',ih⟩:=papers_loop (pg:=pg) k (.bor ps) n ps 0 .no .no h.2
  simp? only [aL,c_check_papers,enumD_eq,ih,h2]
end
end DG
set_option maxHeartbeats 4000000
namespace DG
open PySem PySem.Spec PyProof.Rows L2 DE
theorem fresh_none {G G' H:Hp} {p:Addr} {o:L2.HO} (fr:Fresh G G' H) (g:G p=none) (h:H p=some o):G' p=none:=by
 cases e:G' p with
 | none=>rfl
 | some o'=>
  rcases fr p o' e with ⟨o'',z⟩ | z
  ·rw [g] at z;cases z
  ·rw [h] at z;cases z
theorem Fresh.trans {G G1 G2 H H1:Hp} (a:Fresh G G1 H) (s:Same H H1) (b:Fresh G1 G2 H1):Fresh G G2 H:=fun x o h=>by
 rcases b x o h with ⟨o',z⟩ | z
 ·exact a x o' z
 ·exact .inr (Same.none s z)
theorem Fresh.transB {G G1 G2 H H1:Hp} {p:Addr} {o:L2.HO} (a:Fresh G G1 H) (s:But p H H1) (hp:H1 p=some o) (b:Fresh G1 G2 H1):Fresh G G2 H:=fun x o h=>by
 rcases b x o h with ⟨o',z⟩ | z
 ·exact a x o' z
 ·refine .inr ?_
  have nx:x≠p:=fun q=>by rw [q,hp] at z;cases z
  cases w:H x with
  | none=>rfl
  | some o'=>rw [s x o' nx w] at z;cases z
noncomputable def aA (b:Bool) (l:List D):Ar:=match b with
 | true=>.bor l
 | false=>.val (.lst l)
theorem arL_is {a:Ar} {l:List D} (e:arL a=some l):∃ b,a=aA b l:=by
 unfold arL at e
 split at e
 ·cases e;exact ⟨false,rfl⟩
 ·cases e;exact ⟨true,rfl⟩
 ·cases e
theorem arI_is {a:Ar} {n:Int} (e:arI a=some n):a=.val (.int n):=by
 unfold arI at e
 split at e
 ·cases e;rfl
 ·cases e
theorem arL_rep {κ:KC} {K:PySem.W.Frag} {G H:Hp} {b:Bool} {l:List D} {v:V} (sub:Same G H) (h:ArR κ K G H (aA b l) v):∃ p xs,v=.ref p∧H p=some (.lst xs)∧Reps κ G l xs:=by
 cases b with
 | false=>
  simp only [aA,ArR,Rep] at h
  obtain ⟨a,xs,e,h1,h2⟩:=h
  exact ⟨a,xs,e,sub _ _ h1,h2⟩
 | true=>exact h
theorem aA_low {κ:KC} {K:PySem.W.Frag} {G H G' H':Hp} {b:Bool} {l:List D} {v:V} (h:ArR κ K G H (aA b l) v) (gs:Same G G') (hs:Same H H'):ArR κ K G' H' (aA b l) v:=h.low gs (fun b o e _=>hs b o e) (fun l'=>by cases b<;>(intro z;cases z))
theorem goRule_is {args:List Ar} {fs:List (Str×D)} (h:goRule args=some fs):∃ b l m,args=[aA b l,.val (.int m)]∧landsOk l=true∧btw m 0 1000000000=true∧fs=([("lands",.tup l),("most",.int m)]:List (Str×D)):=by
 unfold goRule at h
 split at h
 ·split at h
  ·rename_i e1 e2
   split at h
   ·rename_i hc
    cases h
    rw [Bool.and_eq_true] at hc
    obtain ⟨b,rfl⟩:=arL_is e1
    obtain rfl:=arI_is e2
    exact ⟨b,_,_,rfl,hc.1,hc.2,rfl⟩
   ·cases h
  ·cases h
 ·cases h
theorem goKind_is {x:Str} {args:List Ar} {fs:List (Str×D)} (h:goKind x args=some fs):∃ b l m s,args=[aA b l,.val (.int m),.val (.int s)]∧landsOk l=true∧btw m 0 1000000000=true∧btw s 1 1000000000=true∧fs=([("lands",.tup l),("most",.int m),(x,.int s)]:List (Str×D)):=by
 unfold goKind at h
 split at h
 ·split at h
  ·rename_i e1 e2 e3
   split at h
   ·rename_i hc
    cases h
    rw [Bool.and_eq_true,Bool.and_eq_true] at hc
    obtain ⟨b,rfl⟩:=arL_is e1
    obtain rfl:=arI_is e2
    obtain rfl:=arI_is e3
    exact ⟨b,_,_,_,rfl,hc.1.1,hc.1.2,hc.2,rfl⟩
   ·cases h
  ·cases h
 ·cases h
theorem goRow_is {args:List Ar} {fs:List (Str×D)} (h:goRow args=some fs):∃ b l m,args=[aA b l,.val (.int m)]∧landsOk l=true∧btw m 0 1000000000=true∧fs=([("lands",.tup l),("most",.int m),("leave",.int 1)]:List (Str×D)):=by
 unfold goRow at h
 split at h
 ·split at h
  ·rename_i e1 e2
   split at h
   ·rename_i hc
    cases h
    rw [Bool.and_eq_true] at hc
    obtain ⟨b,rfl⟩:=arL_is e1
    obtain rfl:=arI_is e2
    exact ⟨b,_,_,rfl,hc.1,hc.2,rfl⟩
   ·cases h
  ·cases h
 ·cases h
theorem goBook_is {args:List Ar} {fs:List (Str×D)} (h:goBook args=some fs):∃ b c l ps,args=[aA b l,aA c ps]∧(decide (l.length≤8)&&l.all ruleD)=true∧(decide (ps.length≤12)&&ps.all (paperD l.length))=true∧fs=([("kept_rules",.lst l),("kept_papers",.lst ps)]:List (Str×D)):=by
 unfold goBook at h
 split at h
 ·split at h
  ·rename_i e1 e2
   split at h
   ·rename_i hc
    cases h
    rw [Bool.and_eq_true] at hc
    obtain ⟨b,rfl⟩:=arL_is e1
    obtain ⟨c,rfl⟩:=arL_is e2
    exact ⟨b,c,_,_,rfl,hc.1,hc.2,rfl⟩
   ·cases h
  ·cases h
 ·cases h
theorem goRule_of {b:Bool} {l:List D} {m:Int} (ol:landsOk l=true) (om:btw m 0 1000000000=true):goRule [aA b l,.val (.int m)]=some ([("lands",.tup l),("most",.int m)]:List (Str×D)):=by
 cases b<;>(show (if (landsOk l&&btw m 0 1000000000)=true then _ else none)=_;rw [if_pos (by rw [ol,om];rfl)])
theorem goKind_of {x:Str} {b:Bool} {l:List D} {m s:Int} (ol:landsOk l=true) (om:btw m 0 1000000000=true) (os:btw s 1 1000000000=true):goKind x [aA b l,.val (.int m),.val (.int s)]=some ([("lands",.tup l),("most",.int m),(x,.int s)]:List (Str×D)):=by
 cases b<;>(show (if (landsOk l&&btw m 0 1000000000&&btw s 1 1000000000)=true then _ else none)=_;rw [if_pos (by rw [ol,om,os];rfl)])
structure Tx (κ:KC) (K:PySem.W.Frag) (mg:Str→Option Value):Prop where
 tup:mg "tuple" = none
 lst:mg "list" = none
 len:mg "len" = none
 gG:∃ t,mg "GREATEST" = some (.int 1000000000 t)
 cls:∀ c C,κ c=some C→Cls K C
 nA:∀ c x C,pcs.fld c x=true→κ c=some C→NoAttr K C x
structure Ck (pg:Pg) (j:Nat):Prop where
 lands:∀ b l,landsOk l=true→clK pg j "are_lands" [aA b l]=.ok (.val (.bl true))
 rules:∀ b l,(decide (l.length≤8)&&l.all ruleD)=true→clK pg j "are_rules" [aA b l]=.ok (.val (.bl true))
 papers:∀ b (ps:List D) (n:Int),(decide (ps.length≤12)&&ps.all (paperD n))=true→clK pg j "check_papers" [aA b ps,.val (.int n)]=.ok (.val .non)
 btw:∀ n a b,btw n a b=true→clK pg j "is_between" [.val (.int n),.val (.int a),.val (.int b)]=.ok (.val (.bl true))
theorem rk_lands {c:Str} (h:rk c=true):pcs.fld c "lands" = true∧pcs.fld c "most" = true:=by
 constructor
 ·show ((rk c&&(true||_||_||_))||_)=true
  rw [h];rfl
 ·show ((rk c&&(false||true||_||_))||_)=true
  rw [h];rfl
noncomputable def okW (c:Str):Bool:=c == "Within"
noncomputable def okS (c:Str):Bool:=c == "Since" || c == "InRow"
noncomputable def okI (c:Str):Bool:=c == "InRow"
noncomputable def okB (c:Str):Bool:=c == "Book"
theorem okW_rk {c:Str} (h:okW c=true):rk c=true:=by unfold okW at h;unfold rk;rw [h];rfl
theorem okS_rk {c:Str} (h:okS c=true):rk c=true:=by
 unfold okS at h;unfold rk
 rw [Bool.or_assoc,h,Bool.or_true]
theorem okI_okS {c:Str} (h:okI c=true):okS c=true:=by unfold okI at h;unfold okS;rw [h,Bool.or_true]
theorem ok_span {c:Str} (h:okW c=true):pcs.fld c "span" = true:=by
 have e:c = "Within":=by simpa [okW] using h
 subst e;decide
theorem ok_leave {c:Str} (h:okS c=true):pcs.fld c "leave" = true:=by
 have e:c = "Since"∨c = "InRow":=by simpa [okS] using h
 rcases e with e | e<;>subst e<;>decide
theorem ok_book {c:Str} (h:okB c=true):pcs.fld c "kept_rules" = true∧pcs.fld c "kept_papers" = true:=by
 have e:c = "Book":=by simpa [okB] using h
 subst e;decide
end DG
set_option maxHeartbeats 4000000
namespace DG
open PySem PySem.Spec PyProof.Rows L2 DE
theorem aA_aL (b:Bool) (l:List D):aA b l=aL b l:=by cases b<;>rfl
theorem ck_of {pg:Pg} [CH pg] [RU pg] [BO pg] (j:Nat):Ck pg (j+5) where
 lands:=fun b l h=>by rw [aA_aL];exact arelands_ok (j+1) b l h
 rules:=fun b l h=>by rw [aA_aL];exact arerules_ok (j+4) b l h
 papers:=fun b ps n h=>by rw [aA_aL];exact checkpapers_ok j b ps n h
 btw:=fun n a b h=>btw_ok (j+3) n a b h
noncomputable def kap (cW cS cI cB:Addr):KC:=fun c=>if c = "Within" then some cW else if c = "Since" then some cS else if c = "InRow" then some cI else if c = "Book" then some cB else none
theorem kap_is {cW cS cI cB C:Addr} {c:Str} (h:kap cW cS cI cB c=some C):(c = "Within"∧C=cW)∨(c = "Since"∧C=cS)∨(c = "InRow"∧C=cI)∨(c = "Book"∧C=cB):=by
 unfold kap at h
 split at h
 ·cases h;exact .inl ⟨‹_›,rfl⟩
 split at h
 ·cases h;exact .inr (.inl ⟨‹_›,rfl⟩)
 split at h
 ·cases h;exact .inr (.inr (.inl ⟨‹_›,rfl⟩))
 split at h
 ·cases h;exact .inr (.inr (.inr ⟨‹_›,rfl⟩))
 cases h
theorem rk_is {c:Str} (h:rk c=true):c = "Within"∨c = "Since"∨c = "InRow":=by
 unfold rk at h
 simpa [or_assoc] using h
theorem fld_is {c x:Str} (h:pcs.fld c x=true):(rk c=true∧(x = "lands"∨x = "most"))∨(c = "Within"∧x = "span")∨((c = "Since"∨c = "InRow")∧x = "leave")∨(c = "Book"∧(x = "kept_rules"∨x = "kept_papers")):=by
 have h:((rk c&&(x == "lands" || x == "most" || (x == "span" && c == "Within")||(x == "leave" && c != "Within")))||(c == "Book" && (x == "kept_rules" || x == "kept_papers")))=true:=h
 simp only [Bool.or_eq_true,Bool.and_eq_true,beq_iff_eq,bne_iff_ne] at h
 rcases h with ⟨h1,((h2 | h2) | h2) | h2⟩ | h2
 ·exact .inl ⟨h1,.inl h2⟩
 ·exact .inl ⟨h1,.inr h2⟩
 ·exact .inr (.inl ⟨h2.2,h2.1⟩)
 ·refine .inr (.inr (.inl ⟨?_,h2.1⟩))
  rcases rk_is h1 with q | q
  ·exact absurd q h2.2
  ·exact q
 ·exact .inr (.inr (.inr h2))
theorem mt_is {c x f:Str} (h:pcs.mt c x=some f):(rk c=true∧x = "weight"∧f = "Rule.weight")∨(c = "Book"∧x = "rules"∧f = "Book.rules")∨(c = "Book"∧x = "lifted"∧f = "Book.lifted")∨(c = "Book"∧x = "papers"∧f = "Book.papers"):=by
 have h:(if (rk c&&x == "weight")=true then some ("Rule.weight" : Str) else if (c == "Book" && x == "rules")=true then some ("Book.rules" : Str) else if (c == "Book" && x == "lifted")=true then some ("Book.lifted" : Str) else if (c == "Book" && x == "papers")=true then some ("Book.papers" : Str) else none)=some f:=h
 split at h
 ·rename_i q;simp only [Bool.and_eq_true,beq_iff_eq] at q;cases h;exact .inl ⟨q.1,q.2,rfl⟩
 split at h
 ·rename_i q;simp only [Bool.and_eq_true,beq_iff_eq] at q;cases h;exact .inr (.inl ⟨q.1,q.2,rfl⟩)
 split at h
 ·rename_i q;simp only [Bool.and_eq_true,beq_iff_eq] at q;cases h;exact .inr (.inr (.inl ⟨q.1,q.2,rfl⟩))
 split at h
 ·rename_i q;simp only [Bool.and_eq_true,beq_iff_eq] at q;cases h;exact .inr (.inr (.inr ⟨q.1,q.2,rfl⟩))
 cases h
theorem sub_is {c t:Str} {b:Bool} (h:pcs.sub c t=some b):rk c=true∧((t = "Within"∧b=(c == "Within"))∨(t = "Since"∧b=(c != "Within"))):=by
 have h:(if (rk c&&t == "Within")=true then some (c == "Within") else if (rk c&&t == "Since")=true then some (c != "Within") else none)=some b:=h
 split at h
 ·rename_i q;simp only [Bool.and_eq_true,beq_iff_eq] at q;cases h;exact ⟨q.1,.inl ⟨q.2,rfl⟩⟩
 split at h
 ·rename_i q;simp only [Bool.and_eq_true,beq_iff_eq] at q;cases h;exact ⟨q.1,.inr ⟨q.2,rfl⟩⟩
 cases h
theorem ofGo_is {c:Str} {o:Option (List (Str×D))} {r:Rv} (h:ofGo c o=.ok r):∃ fs,o=some fs∧r=.val (.ins c (fs.map (·.1)) (fs.map (·.2))):=by
 cases o with
 | none=>cases h
 | some fs=>cases h;exact ⟨fs,rfl,rfl⟩
theorem aA_scr (b:Bool) (l l':List D):aA b l≠.scr l':=by cases b<;>(intro z;cases z)
theorem nw_w {j:Nat} {args:List Ar} {r:Rv} (h:pnw (j+12) "Within" args=.ok r):(∀ a∈args,∀ l,a≠.scr l)∧∃ fs,goKind "span" args=some fs∧r=.val (.ins "Within" (fs.map (·.1)) (fs.map (·.2))):=by
 have h:(if j+12 < 12 then R.no else ofGo "Within" (goKind "span" args))=.ok r:=h
 rw [if_neg (by omega)] at h
 obtain ⟨fs,e,er⟩:=ofGo_is h
 obtain ⟨b,l,m,s,rfl,_⟩:=goKind_is e
 refine ⟨fun a ha=>?_,fs,e,er⟩
 simp only [List.mem_cons,List.not_mem_nil,or_false] at ha
 rcases ha with rfl | rfl | rfl
 ·exact fun l'=>aA_scr b l l'
 ·exact fun l' z=>by cases z
 ·exact fun l' z=>by cases z
theorem nw_s {j:Nat} {args:List Ar} {r:Rv} (h:pnw (j+12) "Since" args=.ok r):(∀ a∈args,∀ l,a≠.scr l)∧∃ fs,goKind "leave" args=some fs∧r=.val (.ins "Since" (fs.map (·.1)) (fs.map (·.2))):=by
 have h:(if j+12 < 12 then R.no else ofGo "Since" (goKind "leave" args))=.ok r:=h
 rw [if_neg (by omega)] at h
 obtain ⟨fs,e,er⟩:=ofGo_is h
 obtain ⟨b,l,m,s,rfl,_⟩:=goKind_is e
 refine ⟨fun a ha=>?_,fs,e,er⟩
 simp only [List.mem_cons,List.not_mem_nil,or_false] at ha
 rcases ha with rfl | rfl | rfl
 ·exact fun l'=>aA_scr b l l'
 ·exact fun l' z=>by cases z
 ·exact fun l' z=>by cases z
theorem nw_i {j:Nat} {args:List Ar} {r:Rv} (h:pnw (j+12) "InRow" args=.ok r):(∀ a∈args,∀ l,a≠.scr l)∧∃ fs,goRow args=some fs∧r=.val (.ins "InRow" (fs.map (·.1)) (fs.map (·.2))):=by
 have h:(if j+12 < 12 then R.no else ofGo "InRow" (goRow args))=.ok r:=h
 rw [if_neg (by omega)] at h
 obtain ⟨fs,e,er⟩:=ofGo_is h
 obtain ⟨b,l,m,rfl,_⟩:=goRow_is e
 refine ⟨fun a ha=>?_,fs,e,er⟩
 simp only [List.mem_cons,List.not_mem_nil,or_false] at ha
 rcases ha with rfl | rfl
 ·exact fun l'=>aA_scr b l l'
 ·exact fun l' z=>by cases z
theorem nw_b {j:Nat} {args:List Ar} {r:Rv} (h:pnw (j+12) "Book" args=.ok r):(∀ a∈args,∀ l,a≠.scr l)∧∃ fs,goBook args=some fs∧r=.val (.ins "Book" (fs.map (·.1)) (fs.map (·.2))):=by
 have h:(if j+12 < 12 then R.no else ofGo "Book" (goBook args))=.ok r:=h
 rw [if_neg (by omega)] at h
 obtain ⟨fs,e,er⟩:=ofGo_is h
 obtain ⟨b,c,l,ps,rfl,_⟩:=goBook_is e
 refine ⟨fun a ha=>?_,fs,e,er⟩
 simp only [List.mem_cons,List.not_mem_nil,or_false] at ha
 rcases ha with rfl | rfl
 ·exact fun l'=>aA_scr b l l'
 ·exact fun l'=>aA_scr c ps l'
structure Kl (K:PySem.W.Frag) (C:Addr):Prop where
 cls:Cls K C
 tc:PySem.W.findIn K (.ref C) "__class__" = some (some (.builtin "object.__class__"))
 mo:PySem.W.mroIn K C (.type "object")=some true
structure Kr (K:PySem.W.Frag) (fw C cW cS:Addr) (x:Str) (b:Bool):Prop where
 kl:Kl K C
 la:NoAttr K C "lands"
 mo:NoAttr K C "most"
 fx:NoAttr K C x
 wt:Meth K C "weight" fw
 iw:PySem.W.kitOne K (.ref C) (.ref cW)=some b
 is:PySem.W.kitOne K (.ref C) (.ref cS)=some (!b)
structure Kb (K:PySem.W.Frag) (fr fl fp C:Addr):Prop where
 kl:Kl K C
 a1:NoAttr K C "kept_rules"
 a2:NoAttr K C "kept_papers"
 m1:Meth K C "rules" fr
 m2:Meth K C "lifted" fl
 m3:Meth K C "papers" fp
section
variable {K:PySem.W.Frag} {mg:Str→Option Value} {cW cS cI cB fw fr fl fp:Addr} (W:Kr K fw cW cW cS "span" true) (S:Kr K fw cS cW cS "leave" false) (I:Kr K fw cI cW cS "leave" false) (B:Kb K fr fl fp cB)
include W S I B
theorem cls_of (c:Str) (C:Addr) (h:kap cW cS cI cB c=some C):Cls K C:=by
 rcases kap_is h with ⟨_,rfl⟩ | ⟨_,rfl⟩ | ⟨_,rfl⟩ | ⟨_,rfl⟩
 ·exact W.kl.cls
 ·exact S.kl.cls
 ·exact I.kl.cls
 ·exact B.kl.cls
theorem flds_of (c x:Str) (C:Addr) (hf:pcs.fld c x=true) (h:kap cW cS cI cB c=some C):NoAttr K C x:=by
 rcases fld_is hf with ⟨hr,rfl | rfl⟩ | ⟨rfl,rfl⟩ | ⟨rfl | rfl,rfl⟩ | ⟨rfl,rfl | rfl⟩
 ·rcases rk_is hr with rfl | rfl | rfl
  ·cases h;exact W.la
  ·cases h;exact S.la
  ·cases h;exact I.la
 ·rcases rk_is hr with rfl | rfl | rfl
  ·cases h;exact W.mo
  ·cases h;exact S.mo
  ·cases h;exact I.mo
 ·cases h;exact W.fx
 ·cases h;exact S.fx
 ·cases h;exact I.fx
 ·cases h;exact B.a1
 ·cases h;exact B.a2
theorem ty_of {C:Addr} (k:Kl K C) (n:PySem.W.specialIn K (.builtin "object.__class__") "__get__" = some (some (.builtin "getset_descriptor.__get__"))) (tk:PySem.W.takesIn K (.builtin "object.__class__")=some true) :
  ∀ (H:Hp) (p dx:Addr) (fs:List (Str×V)),H p=some (L2.HO.ins C dx fs)→TyOf K H (.ref p) (.ref C):=fun H p dx fs hp=>.ins hp k.cls k.tc n tk k.mo
theorem subs_of (n:PySem.W.specialIn K (.builtin "object.__class__") "__get__" = some (some (.builtin "getset_descriptor.__get__"))) (tk:PySem.W.takesIn K (.builtin "object.__class__")=some true) (mW:mg "Within" = some (.ref cW)) (mS:mg "Since" = some (.ref cS))
  (c t:Str) (b:Bool) (h:pcs.sub c t=some b):∃ C T,kap cW cS cI cB c=some C∧(∀ H p dx fs,H p=some (L2.HO.ins C dx fs)→TyOf K H (.ref p) (.ref C))∧mg t=some (.ref T)∧PySem.W.kitOne K (.ref C) (.ref T)=some b:=by
 obtain ⟨hr,⟨rfl,rfl⟩ | ⟨rfl,rfl⟩⟩:=sub_is h
 ·rcases rk_is hr with rfl | rfl | rfl
  ·exact ⟨cW,cW,rfl,ty_of W S I B W.kl n tk,mW,W.iw⟩
  ·exact ⟨cS,cW,rfl,ty_of W S I B S.kl n tk,mW,S.iw⟩
  ·exact ⟨cI,cW,rfl,ty_of W S I B I.kl n tk,mW,I.iw⟩
 ·rcases rk_is hr with rfl | rfl | rfl
  ·exact ⟨cW,cS,rfl,ty_of W S I B W.kl n tk,mS,W.is⟩
  ·exact ⟨cS,cS,rfl,ty_of W S I B S.kl n tk,mS,S.is⟩
  ·exact ⟨cI,cS,rfl,ty_of W S I B I.kl n tk,mS,I.is⟩
end
noncomputable def FnIn (K:PySem.W.Frag) (f:Addr) (n q:Str) (st:Stmt):Prop:=∃ oc od kV dc pm an cd ct sl,K.lookup f=some ⟨oc,od,.func (PySem.W.fnOf n q (defArgs st) (defBody st) (defScope st) .none kV dc pm an cd ct),sl⟩∧PySem.W.codeIn K cd q=true∧PySem.W.keepIn K (.ref f)=true
section
variable {K:PySem.W.Frag} {f:Addr} {n q:Str} {st:Stmt} {mg:Str→Option Value} {h:Heap}
theorem FnIn.fn (i:FnIn K f n q st):∃ fd,Fun K n q st f fd:=by
 obtain ⟨oc,od,kV,dc,pm,an,cd,ct,sl,l,c,k⟩:=i
 exact ⟨_,fun_mk l c k⟩
theorem FnIn.kp (i:FnIn K f n q st):PySem.W.keepIn K (.ref f)=true:=by
 obtain ⟨oc,od,kV,dc,pm,an,cd,ct,sl,l,c,k⟩:=i
 exact k
noncomputable def Bd (n q:Str) (st:Stmt) (ps:List Str):Prop:=∀ (kV doc pm:Value) (an:Option Addr) (cdv ct:Value) (us:List Value),us.length=ps.length→bindArgs (PySem.W.fnOf n q (defArgs st) (defBody st) (defScope st) .none kV doc pm an cdv ct) ⟨us,[]⟩=pure (ps.zip us)
theorem fnF_of (X:K.In h) (G:h.Ns mainGlobals mg) (a:PySem.W.nsIn K mainGlobals n=some (some (.ref f))) (i:FnIn K f n n st) {ps:List Str} (hp:parN st=ps) (hb:Bd n n st ps):FnF K mg n st:=by
 obtain ⟨fd,F⟩:=i.fn
 exact ⟨f,fd,F,PySem.W.mg_of X G a,hp▸F.binds hb⟩
theorem fnB_of (i:FnIn K f n q st) {ps:List Str} (hb:Bd n q st ps):∃ fd,Fun K n q st f fd∧Binds K fd ps []:=by
 obtain ⟨fd,F⟩:=i.fn
 exact ⟨fd,F,F.binds hb⟩
theorem law_fn (i:FnIn K f n n st) (hb:Bd n n st ["_law_script"]):∃ fd,Fun K n n st f fd∧∀ (s:Shared) (v:Value),BindsTo s fd ⟨[v],[]⟩ [("_law_script",v)]:=by
 obtain ⟨oc,od,kV,dc,pm,an,cd,ct,sl,l,c,k⟩:=i
 exact ⟨_,fun_mk l c k,fun s v=>.of_eq (hb _ _ _ _ _ _ [v] rfl)⟩
end
end DG
set_option maxHeartbeats 4000000
namespace FA
open PySem L2 DE DG
open LC LN LR LM LP LS
theorem mulB_r {i j:Int} (h1:-(2 ^ 64) < j) (h2:j < 2 ^ 64):mulB i j=true:=by
 unfold mulB
 rw [decide_eq_true h1,decide_eq_true h2]
 simp
theorem mulB_l {i j:Int} (h1:-(2 ^ 64) < i) (h2:i < 2 ^ 64):mulB i j=true:=by
 unfold mulB
 rw [decide_eq_true h1,decide_eq_true h2]
 simp
noncomputable def cellAt (ns:List Int) (i:Nat):Int:=ns.getD i 0
section
variable {pg:Pg} [LC pg]
theorem cell_ok (k:Nat) (ns:List Int) (i:Nat):clK pg (k+1) "_law_cell_at" [.scr (ns.map D.int),.val (.int (i:Int))]=.ok (.val (.int (cellAt ns i))):=by
 rw [r__law_cell_at]
 by_cases h:i < ns.length
 ·have h1:(i:Int) < ((ns.map D.int).length:Int):=by rw [List.length_map];omega
  have h2:atI (ns.map D.int) (i:Int)=some (.int (cellAt ns i)):=at_n (by simp [h,cellAt])
  simp? only [c__law_cell_at,Nat.reduceAdd,Nat.reduceSub,h1,h2,decide_true]
 ·have h1:¬ (i:Int) < ((ns.map D.int).length:Int):=by rw [List.length_map];omega
  have h2:cellAt ns i=0:=by simp [cellAt,h]
  simp? only [c__law_cell_at,Nat.reduceAdd,Nat.reduceSub,h1,h2,decide_false]
end
theorem let_at (i:Int) (h0:0≤i) (h1:i < 26):atI (Str.cps "abcdefghijklmnopqrstuvwxyz").toList i=some (97+i.toNat)∧isLet (97+i.toNat):=by
 have key:∀ j:Fin 26,atI (Str.cps "abcdefghijklmnopqrstuvwxyz").toList (j.val:Int)=some (97+j.val):=by decide +kernel
 obtain ⟨j,rfl⟩:=Int.eq_ofNat_of_zero_le h0
 exact ⟨key ⟨j,by omega⟩,by unfold isLet;simp;omega⟩
theorem app_list (z:Str) (c:Nat):(z++(⟨#[c]⟩:Str)).cps.toList=z.cps.toList++[c]:=by
 show (z.cps ++ #[c]).toList=_
 simp
noncomputable def ltr (cell at' k:Int) (j:Nat):Nat:=97+((cell / 64+5 * (j:Int) * (j:Int)+3 * k * (if ((j:Int) == at')=true then 1 else 0)) % 26).toNat
theorem ltr_let (cell at' k:Int) (j:Nat):isLet (ltr cell at' k j):=by
 unfold isLet ltr
 omega
noncomputable def Nm (cell at' k:Int) (j:Nat) (z:Str):Prop:=z.cps.toList=(List.range j).map (ltr cell at' k)
theorem Nm.ok {cell at' k:Int} {m:Nat} {z:Str} (h:Nm cell at' k m z) (h1:1≤m) (h8:m≤8):NameOk z:=by
 have e:z.cps.size=m:=by rw [←Array.length_toList,h];simp
 refine ⟨by omega,by omega,fun c hc=>?_⟩
 rw [h] at hc
 obtain ⟨j,_,rfl⟩:=List.mem_map.mp hc
 exact ltr_let ..
theorem Nm.ne {cell at' k k':Int} {m:Nat} {z z':Str} (h:Nm cell at' k m z) (h':Nm cell at' k' m z') (h0:0≤at') (h1:at' < m) (hk:0≤k∧k < 4) (hk':0≤k'∧k' < 4) (ne:k≠k'):z≠z':=by
 rintro rfl
 have e:(List.range m).map (ltr cell at' k)=(List.range m).map (ltr cell at' k'):=h.symm.trans h'
 have e2:=congrArg (fun l=>l[at'.toNat]?) e
 simp only [List.getElem?_map] at e2
 rw [List.getElem?_range (by omega)] at e2
 simp only [Option.map_some,Option.some.injEq] at e2
 unfold ltr at e2
 have ea:((at'.toNat:Nat):Int)=at':=by omega
 rw [ea,beq_self_eq_true,if_pos rfl] at e2
 omega
theorem lands_step (cl:Cl) (v1 v3 v5 s9:Sl) (cell at' k:Int) (j:Nat) (z:Str) (hj:j < 8) (hz:z.cps.size < 8) :
  ∃ s9',iSs cl 1000 b__law_lands_0 [.val (.int cell),v1,.val (.str "abcdefghijklmnopqrstuvwxyz"),v3,.val (.int at'),v5,.val (.int k),.val (.str z),.val (.int j),s9]=.ok (.next [.val (.int cell),v1,.val (.str "abcdefghijklmnopqrstuvwxyz"),v3,.val (.int at'),v5,.val (.int k),.val (.str (z++(⟨#[ltr cell at' k j]⟩:Str))),.val (.int j),s9']):=by
 have m1:mulB 5 (j:Int)=true:=mulB_l (by decide) (by decide)
 have m2:mulB (5 * (j:Int)) (j:Int)=true:=mulB_r (by omega) (by omega)
 have m3:mulB 3 k=true:=mulB_l (by decide) (by decide)
 have m4:mulB (3 * k) (if ((j:Int) == at')=true then 1 else 0)=true:=mulB_r (by split<;>decide) (by split<;>decide)
 have h1:=(let_at ((cell / 64+5 * j * j+3 * k * (if ((j:Int) == at')=true then 1 else 0)) % 26) (Int.emod_nonneg _ (by decide)) (Int.emod_lt_of_pos _ (by decide))).1
 have hl:z.length+(⟨#[ltr cell at' k j]⟩:Str).length≤sizeLine:=by
  show z.cps.size+1≤2 ^ 24
  omega
 have h26:("abcdefghijklmnopqrstuvwxyz" : Str).length≤sizeLine:=by decide +kernel
 refine ⟨.val (.int (cell / 64+5 * j * j+3 * k * (if ((j:Int) == at')=true then 1 else 0))),?_⟩
 unfold ltr at hl ⊢
 refine (th_ret _).symm.trans ?_
 simp? only [u_b__law_lands_0,m1,m2,m3,m4,eqD_int,h1,hl,h26]
theorem lands_in (cl:Cl) (v1 v3 v5:Sl) (cell at' k:Int) (n:Nat):∀ (j:Nat) (z:Str) (s8 s9:Sl),j+n≤8→Nm cell at' k j z→
  ∃ z' s8' s9',forD cl 1000 (.one 8) b__law_lands_0 (rgF (j:Int) n) [.val (.int cell),v1,.val (.str "abcdefghijklmnopqrstuvwxyz"),v3,.val (.int at'),v5,.val (.int k),.val (.str z),s8,s9]=.ok (.next [.val (.int cell),v1,.val (.str "abcdefghijklmnopqrstuvwxyz"),v3,.val (.int at'),v5,.val (.int k),.val (.str z'),s8',s9'])∧Nm cell at' k (j+n) z':=by
 induction n with
 | zero=>exact fun j z s8 s9 _ hz=>⟨z,s8,s9,rfl,hz⟩
 | succ n ih=>
  intro j z s8 s9 hn hz
  have sz:z.cps.size=j:=by rw [←Array.length_toList,hz];simp
  obtain ⟨t9,st⟩:=lands_step cl v1 v3 v5 s9 cell at' k j z (by omega) (by omega)
  obtain ⟨z',s8',s9',ih,e1⟩:=ih (j+1) (z++(⟨#[ltr cell at' k j]⟩:Str)) (.val (.int j)) t9 (by omega) (by
   unfold Nm at hz ⊢
   rw [app_list,hz,List.range_succ,List.map_append]
   rfl)
  refine ⟨z',s8',s9',?_,by rw [show j+(n+1)=j+1+n by omega];exact e1⟩
  rw [show ((j+1:Nat):Int)=(j:Int)+1 from by omega] at ih
  refine (th_ret _).symm.trans ?_
  rw [rgF]
  simp only [xFo_cons,rgoV,List.set_cons_succ,List.set_cons_zero,th_ok,yFo1,st,yFo2,ih]
noncomputable def Nms (cell at':Int) (m:Nat) (zs:List Str):Prop:=∀ (i:Nat) (z:Str),zs[i]?=some z→Nm cell at' (i:Int) m z
theorem lands_out (cl:Cl) (v1:Sl) (cell at':Int) (m:Nat) (hm:1≤m∧m≤8):∀ (n:Nat) (zs:List Str) (s6 s7 s8 s9:Sl),zs.length+n < 1000→Nms cell at' m zs→
  ∃ (zs':List Str) (s6' s7' s8' s9':Sl),forD cl 1000 (.one 6) b__law_lands_1 (rgF (zs.length:Int) n) [.val (.int cell),v1,.val (.str "abcdefghijklmnopqrstuvwxyz"),.val (.int (m:Int)),.val (.int at'),.own (zs.map D.str),s6,s7,s8,s9]=.ok (.next [.val (.int cell),v1,.val (.str "abcdefghijklmnopqrstuvwxyz"),.val (.int (m:Int)),.val (.int at'),.own (zs'.map D.str),s6',s7',s8',s9'])∧zs'.length=zs.length+n∧Nms cell at' m zs'
 | 0,zs,s6,s7,s8,s9,_,hz=>⟨zs,s6,s7,s8,s9,rfl,rfl,hz⟩
 | n+1,zs,s6,s7,s8,s9,hl,hz=>by
  obtain ⟨z,s8',s9',e,h1⟩:=lands_in cl v1 (.val (.int (m:Int))) (.own (zs.map D.str)) cell at' (zs.length:Int) m 0 "" s8 s9 (by omega) rfl
  rw [Nat.zero_add] at h1
  obtain ⟨zs',t6,t7,t8,t9,ih,h3,h4⟩:=lands_out cl v1 cell at' m hm n (zs++[z]) (.val (.int (zs.length:Int))) (.val (.str z)) s8' s9' (by simp;omega) (fun i x hx=>by
   by_cases q:i < zs.length
   ·rw [List.getElem?_append_left q] at hx
    exact hz i x hx
   ·rw [List.getElem?_append_right (by omega)] at hx
    have:i - zs.length=0:=by
     have:=(List.getElem?_eq_some_iff.mp hx).1
     simp at this
     omega
    rw [this] at hx
    simp at hx
    subst hx
    have:i=zs.length:=by omega
    subst this
    exact h1)
  refine ⟨zs',t6,t7,t8,t9,?_,by rw [h3];simp;omega,h4⟩
  have hs:smallI (m:Int)=true:=by
   unfold smallI
   simp
   omega
  have hz':(zs.map D.str).length < sizeLine:=by
   rw [List.length_map]
   show _ < 2 ^ 24
   omega
  rw [List.length_append,List.length_singleton,show ((zs.length+1:Nat):Int)=(zs.length:Int)+1 from by omega] at ih
  refine (th_ret _).symm.trans ?_
  rw [rgF]
  rw [show ((0:Nat):Int)=0 from rfl] at e
  simp only [List.map_append,List.map_cons,List.map_nil] at ih
  simp? only [u_b__law_lands_1,hs,rangeD_eq,Int.sub_zero,Int.toNat_natCast,e,hz',ih]
structure NamesOk (zs:List Str):Prop where
 two:2≤zs.length
 four:zs.length≤4
 ok:∀ z∈zs,NameOk z
 once:∀ (i j:Nat) (z:Str),zs[i]?=some z→zs[j]?=some z→i=j
section
variable {pg:Pg} [LN pg]
theorem lands_ok (k:Nat) (cell:Int) (n:Nat) (hn:2≤n∧n≤4):∃ zs:List Str,clK pg (k+1) "_law_lands" [.val (.int cell),.val (.int (n:Int))]=.ok (.tmp (zs.map D.str))∧zs.length=n∧NamesOk zs:=by
 have hm:∃ m:Nat,(1+cell % 8:Int)=(m:Int)∧1≤m∧m≤8:=⟨(1+cell % 8).toNat,by omega,by omega,by omega⟩
 obtain ⟨m,e,h1,h2⟩:=hm
 have a0:0≤cell / 8 % (m:Int):=Int.emod_nonneg _ (by omega)
 have a1:cell / 8 % (m:Int) < m:=Int.emod_lt_of_pos _ (by omega)
 obtain ⟨zs,s6,s7,s8,s9,h,h3,h4⟩:=lands_out (pg.kk k) (.val (.int (n:Int))) cell (cell / 8 % (m:Int)) m ⟨h1,h2⟩ n [] .no .no .no .no (by simp;omega) (fun i z hz=>by simp at hz)
 simp at h3
 refine ⟨zs,?_,h3,⟨by omega,by omega,fun z hz=>?_,fun i j z hi hj=>?_⟩⟩
 ·rw [List.map_nil] at h
  have hp:(0:Int) < (m:Int):=by omega
  have hs:smallI (n:Int)=true:=by
   unfold smallI
   simp
   omega
  rw [show ((([]:List Str).length:Nat):Int)=0 from rfl] at h
  rw [r__law_lands]
  simp? only [c__law_lands,Nat.reduceAdd,Nat.reduceSub,e,hp,show (0:Nat)≤sizeLine by decide +kernel,hs,rangeD_eq,Int.sub_zero,Int.toNat_natCast,h]
 ·obtain ⟨i,hi⟩:=List.getElem?_of_mem hz
  exact (h4 i z hi).ok h1 h2
 ·by_cases q:i=j
  ·exact q
  ·have li:=(List.getElem?_eq_some_iff.mp hi).1
   have lj:=(List.getElem?_eq_some_iff.mp hj).1
   exact absurd rfl (Nm.ne (h4 i z hi) (h4 j z hj) a0 a1 ⟨by omega,by omega⟩ ⟨by omega,by omega⟩ (by omega))
end
end FA
set_option maxHeartbeats 4000000
namespace FA
open PySem L2 DE DG
open LC LN LR LM LP LS
noncomputable def lnD (p:Str×Int):D:=.tup [.str p.1,.int p.2]
theorem lnD_eq (p:Str×Int):lnD p=.tup [.str p.1,.int p.2]:=rfl
theorem nameD_of {z:Str} (h:NameOk z):nameD z=true:=by
 unfold nameD
 simp only [Bool.and_eq_true,decide_eq_true_eq,List.all_eq_true]
 refine ⟨⟨h.one,h.eight⟩,fun c hc=>?_⟩
 have:=h.lets c hc
 unfold isLet at this
 omega
structure LnOk (p:Str×Int):Prop where
 nm:NameOk p.1
 one:1≤p.2
 nine:p.2≤9
theorem landD_of {p:Str×Int} (h:LnOk p):landD (lnD p)=some p:=by
 show (if (nameD p.1&&decide (1≤p.2)&&decide (p.2≤9))=true then some (p.1,p.2) else none)=_
 rw [if_pos (by rw [nameD_of h.nm,decide_eq_true h.one,decide_eq_true h.nine];rfl)]
theorem landsA_of:∀ (l:List (Str×Int)) (acc:List Str),(∀ p∈l,LnOk p)→(acc++l.map (·.1)).Nodup→landsA acc (l.map lnD)=true
 | [],acc,_,_=>rfl
 | p::l,acc,h,nd=>by
  rw [List.map_cons]
  unfold landsA
  rw [landD_of (h p (by simp))]
  have e:acc++(p::l).map (·.1)=(acc++[p.1])++l.map (·.1):=by simp
  rw [e] at nd
  have n1:p.1∉acc:=by
   have:=(List.nodup_append.mp nd).1
   have:=(List.nodup_append.mp this).2.2
   intro hm
   exact this p.1 hm p.1 (by simp) rfl
  simp only [Bool.and_eq_true,Bool.not_eq_true']
  exact ⟨by simpa using n1,landsA_of l (acc++[p.1]) (fun q hq=>h q (by simp [hq])) nd⟩
theorem landsOk_of {l:List (Str×Int)} (h:∀ p∈l,LnOk p) (nd:(l.map (·.1)).Nodup) (h1:1≤l.length) (h6:l.length≤6):landsOk (l.map lnD)=true:=by
 unfold landsOk
 rw [List.length_map,decide_eq_true h1,decide_eq_true h6,landsA_of l [] h (by simpa using nd)]
 rfl
theorem at_names {zs:List Str} (i:Int) (h0:0≤i) (h1:i < zs.length):∃ z,atI (zs.map D.str) i=some (.str z)∧zs[i.toNat]?=some z:=by
 obtain ⟨j,rfl⟩:=Int.eq_ofNat_of_zero_le h0
 have hj:j < zs.length:=by omega
 exact ⟨zs[j],at_n (by rw [List.getElem?_map,List.getElem?_eq_getElem hj];rfl),by simp [hj]⟩
theorem len_names (zs:List Str):((zs.map D.str).length:Int)=(zs.length:Int):=by rw [List.length_map]
noncomputable def Lns (zs:List Str) (a:Int) (l:List (Str×Int)):Prop:=∀ (i:Nat) (p:Str×Int),l[i]?=some p→zs[((a+(i:Int)) % (zs.length:Int)).toNat]?=some p.1∧LnOk p
theorem rule_loop (cl:Cl) (v0:Sl) (n:Int) (hn:0≤n) (zs:List Str) (hz:NamesOk zs):∀ (m:Nat) (l:List (Str×Int)) (s4 s5 s6:Sl),l.length+m≤100→Lns zs (n / 18) l→
  ∃ (l':List (Str×Int)) (s4':Sl),forD cl 1000 (.one 4) b__law_rule_0 (rgF (l.length:Int) m) [v0,.bor (zs.map D.str),.val (.int n),.own (l.map lnD),s4,s5,s6]=.ok (.next [v0,.bor (zs.map D.str),.val (.int n),.own (l'.map lnD),s4',s5,s6])∧l'.length=l.length+m∧Lns zs (n / 18) l'
 | 0,l,s4,s5,s6,_,h=>⟨l,s4,rfl,rfl,h⟩
 | m+1,l,s4,s5,s6,hl,h=>by
  have hL:(0:Int) < (zs.length:Int):=by have:=hz.two;omega
  obtain ⟨z,e1,e2⟩:=at_names (zs:=zs) ((n / 18+(l.length:Int)) % (zs.length:Int)) (Int.emod_nonneg _ (by omega)) (Int.emod_lt_of_pos _ hL)
  have h3:∃ q:Int,atI [D.int 9,D.int 2,D.int 2] ((n+(l.length:Int)) % 3)=some (.int q)∧2≤q∧q≤9:=by
   have a0:0≤(n+(l.length:Int)) % 3:=Int.emod_nonneg _ (by decide)
   have a1:(n+(l.length:Int)) % 3 < 3:=Int.emod_lt_of_pos _ (by decide)
   have:(n+(l.length:Int)) % 3=0∨(n+(l.length:Int)) % 3=1∨(n+(l.length:Int)) % 3=2:=by omega
   rcases this with e | e | e<;>rw [e]
   ·exact ⟨9,rfl,by decide,by decide⟩
   ·exact ⟨2,rfl,by decide,by decide⟩
   ·exact ⟨2,rfl,by decide,by decide⟩
  obtain ⟨q,e3,q2,q9⟩:=h3
  have hq:(0:Int) < q:=by omega
  have w0:0≤n / 108 / ((l.length:Int)+1) % q:=Int.emod_nonneg _ (by omega)
  have w1:n / 108 / ((l.length:Int)+1) % q < q:=Int.emod_lt_of_pos _ hq
  obtain ⟨l',s4',ih,i1,i2⟩:=rule_loop cl v0 n hn zs hz m (l++[(z,1+n / 108 / ((l.length:Int)+1) % q)]) (.val (.int (l.length:Int))) s5 s6 (by simp;omega) (fun i p hp=>by
   by_cases hi:i < l.length
   ·rw [List.getElem?_append_left hi] at hp
    exact h i p hp
   ·rw [List.getElem?_append_right (by omega)] at hp
    have hlt:=(List.getElem?_eq_some_iff.mp hp).1
    simp at hlt
    have hi:i=l.length:=by omega
    subst hi
    simp at hp
    subst hp
    exact ⟨e2,hz.ok z (List.mem_of_getElem? e2),by show 1≤1+_;omega,by show 1+_≤9;omega⟩)
  refine ⟨l',s4',?_,by rw [i1];simp;omega,i2⟩
  have hs:l.length < sizeLine:=by
   show _ < 2 ^ 24
   omega
  have two:0+1+1≤sizeLine:=by decide +kernel
  have three:0+1+1+1≤sizeLine:=by decide +kernel
  have hd:(0:Int) < (l.length:Int)+1∧(l.length:Int)+1 < 1073741824:=⟨by omega,by omega⟩
  rw [List.length_append,List.length_singleton,show ((l.length+1:Nat):Int)=(l.length:Int)+1 from by omega] at ih
  simp only [List.map_append,List.map_cons,List.map_nil,lnD_eq] at ih
  refine (th_ret _).symm.trans ?_
  rw [rgF]
  simp? only [u_b__law_rule_0,List.length_map,hL,e1,e3,hd,hq,two,three,hs,ih,lnD_eq]
inductive Kd where
 | wi | si | ro
noncomputable def Kd.nm:Kd→Str
 | .wi=>"within"
 | .si=>"since"
 | .ro=>"row"
structure Ru where
 kd:Kd
 lands:List (Str×Int)
 most:Int
 days:Int
noncomputable def ruD (r:Ru):D:=.tup [.str r.kd.nm,.lst (r.lands.map lnD),.int r.most,.int r.days]
structure RuOk (r:Ru):Prop where
 lands:landsOk (r.lands.map lnD)=true
 ok:∀ p∈r.lands,LnOk p
 m0:0≤r.most
 m1:r.most≤24
 d0:1≤r.days
 d1:r.days≤40
 row:r.kd=.ro→r.days=1
theorem Lns.nodup {zs:List Str} (hz:NamesOk zs) {a:Int} {l:List (Str×Int)} (h:Lns zs a l) (hl:l.length≤zs.length):(l.map (·.1)).Nodup:=by
 rw [List.nodup_iff_pairwise_ne,List.pairwise_iff_getElem]
 intro i j hi hj hij e
 rw [List.length_map] at hi hj
 rw [List.getElem_map,List.getElem_map] at e
 have h1:=(h i _ (List.getElem?_eq_getElem hi)).1
 have h2:=(h j _ (List.getElem?_eq_getElem hj)).1
 rw [e] at h1
 have:=hz.once _ _ _ h1 h2
 have hL:(0:Int) < (zs.length:Int):=by have:=hz.two;omega
 have a0:0≤(a+(i:Int)) % (zs.length:Int):=Int.emod_nonneg _ (by omega)
 have b0:0≤(a+(j:Int)) % (zs.length:Int):=Int.emod_nonneg _ (by omega)
 have e3:(a+(i:Int)) % (zs.length:Int)=(a+(j:Int)) % (zs.length:Int):=by omega
 have e4:=Int.emod_emod_of_dvd (a+j - (a+i)) (Int.dvd_refl (zs.length:Int))
 have e5:(a+(j:Int) - (a+(i:Int))) % (zs.length:Int)=0:=by rw [Int.sub_emod,e3,Int.sub_self,Int.zero_emod]
 rw [show a+(j:Int) - (a+(i:Int))=((j - i:Nat):Int) by omega] at e5
 rw [Int.emod_eq_of_lt (by omega) (by omega)] at e5
 omega
section
variable {pg:Pg} [LR pg]
theorem rule_ok (k:Nat) (c:Int) (zs:List Str) (hz:NamesOk zs):∃ r:Ru,RuOk r∧clK pg (k+1) "_law_rule" [.val (.int c),.bor (zs.map D.str)]=.ok (.val (ruD r)):=by
 have hL:(0:Int) < (zs.length:Int):=by have:=hz.two;omega
 have hn:0≤c * 1099087573 % 10000000000037:=Int.emod_nonneg _ (by decide)
 generalize hN:c * 1099087573 % 10000000000037=n at hn
 have m0:0≤n / 3 % (zs.length:Int):=Int.emod_nonneg _ (by omega)
 have m1:n / 3 % (zs.length:Int) < zs.length:=Int.emod_lt_of_pos _ hL
 have four:=hz.four
 obtain ⟨m,em⟩:∃ m:Nat,1+n / 3 % (zs.length:Int)=(m:Int):=⟨(1+n / 3 % (zs.length:Int)).toNat,by omega⟩
 obtain ⟨l,s4',e,e1,e2⟩:=rule_loop (pg.kk k) (.val (.int c)) n hn zs hz m [] .no .no .no (by simp;omega) (fun i p hp=>by simp at hp)
 simp at e1
 rw [List.map_nil,show ((([]:List (Str×Int)).length:Nat):Int)=0 from rfl] at e
 have ok:∀ p∈l,LnOk p:=fun p hp=>by
  obtain ⟨i,hi⟩:=List.getElem?_of_mem hp
  exact (e2 i p hi).2
 have lok:landsOk (l.map lnD)=true:=landsOk_of ok (e2.nodup hz (by omega)) (by omega) (by omega)
 have t0:0≤n / 972 % 25:=Int.emod_nonneg _ (by decide)
 have t1:n / 972 % 25 < 25:=Int.emod_lt_of_pos _ (by decide)
 have d0:0≤n / 24300 % 40:=Int.emod_nonneg _ (by decide)
 have d1:n / 24300 % 40 < 40:=Int.emod_lt_of_pos _ (by decide)
 have mul:mulB c 1099087573=true:=mulB_r (by decide) (by decide)
 have sm:smallI (m:Int)=true:=by
  unfold smallI
  simp
  omega
 have four':0+1+1+1+1≤sizeLine:=by decide +kernel
 have zero:(0:Nat)≤sizeLine:=by decide +kernel
 by_cases c0:n % 3=0
 ·refine ⟨⟨.wi,l,n / 972 % 25,1+n / 24300 % 40⟩,⟨lok,ok,t0,by show n / 972 % 25≤24;omega,by show 1≤1+_;omega,by show 1+_≤40;omega,fun z=>by cases z⟩,?_⟩
  have hb:(n % 3 == 0)=true:=by simpa using c0
  rw [r__law_rule]
  simp? only [c__law_rule,List.length_map,mul,hN,hL,em,sm,rangeD_eq,Int.sub_zero,Int.toNat_natCast,e,eqD_int,hb,four',zero,ruD,Kd.nm]
 by_cases c1:n % 3=1
 ·refine ⟨⟨.si,l,n / 972 % 25,1+n / 24300 % 40⟩,⟨lok,ok,t0,by show n / 972 % 25≤24;omega,by show 1≤1+_;omega,by show 1+_≤40;omega,fun z=>by cases z⟩,?_⟩
  have hb:(n % 3 == 0)=false:=by simpa using c0
  have hc:(n % 3 == 1)=true:=by simpa using c1
  rw [r__law_rule]
  simp? only [c__law_rule,List.length_map,mul,hN,hL,em,sm,rangeD_eq,Int.sub_zero,Int.toNat_natCast,e,eqD_int,hb,hc,four',zero,ruD,Kd.nm]
 ·refine ⟨⟨.ro,l,n / 972 % 25,1⟩,⟨lok,ok,t0,by show n / 972 % 25≤24;omega,by show (1:Int)≤1;omega,by show (1:Int)≤40;omega,fun _=>rfl⟩,?_⟩
  have hb:(n % 3 == 0)=false:=by simpa using c0
  have hc:(n % 3 == 1)=false:=by simpa using c1
  rw [r__law_rule]
  simp? only [c__law_rule,List.length_map,mul,hN,hL,em,sm,rangeD_eq,Int.sub_zero,Int.toNat_natCast,e,eqD_int,hb,hc,four',zero,ruD,Kd.nm]
end
end FA
namespace Dy
noncomputable abbrev P:=Int×Int
noncomputable def stp (acc:List P) (p:P):List P:=match acc.getLast? with
 | some l=>if p.1≤l.2+1 then acc.dropLast++[(l.1,if p.2 > l.2 then p.2 else l.2)] else acc++[p]
 | none=>[p]
theorem stp_nil (p:P):stp [] p=[p]:=rfl
theorem stp_snoc (a:List P) (l p:P):stp (a++[l]) p=if p.1≤l.2+1 then a++[(l.1,if p.2 > l.2 then p.2 else l.2)] else (a++[l])++[p]:=by
 unfold stp
 rw [List.getLast?_append]
 simp
theorem snoc_of {α:Type} (l:List α):l=[]∨∃ a x,l=a++[x]:=by
 cases l with
 | nil=>exact .inl rfl
 | cons a r=>exact .inr ⟨(a::r).dropLast,(a::r).getLast (by simp),(List.dropLast_concat_getLast (by simp)).symm⟩
end Dy
namespace Dy
noncomputable def dayB (A:List P) (d:Int):Bool:=A.any fun p=>decide (p.1≤d)&&decide (d≤p.2)
end Dy
set_option maxHeartbeats 4000000
namespace DG
open PySem L2 DE FA Dy
open CH ST LA SP HO RU BO WE WO CO CB FB
theorem prsD_of:∀ ps:List (Int×Int),prsD (ps.map pD)=some ps
 | []=>rfl
 | p::ps=>by
  rw [List.map_cons,prsD,prsD_of ps]
  rfl
theorem pD_eq (p:Int×Int):pD p=.tup [.int p.1,.int p.2]:=rfl
noncomputable def spr (ps:List (Int×Int)):List (Int×Int):=(sortP ps).foldl stp []
theorem stp_len (acc:List (Int×Int)) (p:Int×Int):(stp acc p).length≤acc.length+1:=by
 rcases snoc_of acc with rfl | ⟨a,l,rfl⟩
 ·simp [stp_nil]
 ·rw [stp_snoc]
  split<;>simp
theorem size_lt {n:Nat} (h:n < 100000):n < sizeLine:=Nat.lt_trans h (by decide +kernel)
theorem size_le {n:Nat} (h:n < 100000):n≤sizeLine:=Nat.le_of_lt (size_lt h)
theorem spread_loop (cl:Cl) (v:Sl):∀ (ps acc:List (Int×Int)) (s2 s3:Sl),acc.length+ps.length < 10000→∃ s2' s3',forD cl 1000 (.many [2,3]) b_spread_0 (ps.map pD) [v,.own (acc.map pD),s2,s3]=.ok (.next [v,.own ((ps.foldl stp acc).map pD),s2',s3'])
 | [],acc,s2,s3,_=>⟨s2,s3,rfl⟩
 | p::ps,acc,s2,s3,hl=>by
  rw [List.length_cons] at hl
  have:=stp_len acc p
  obtain ⟨s2',s3',ih⟩:=spread_loop cl v ps (stp acc p) (.val (.int p.1)) (.val (.int p.2)) (by omega)
  refine ⟨s2',s3',?_⟩
  have hs:acc.length < sizeLine:=size_lt (by omega)
  have two:0+1+1≤sizeLine:=by decide +kernel
  rw [List.foldl_cons]
  rcases snoc_of acc with rfl | ⟨a,l,rfl⟩
  ·rw [stp_nil] at ih ⊢
   simp only [List.map_cons,List.map_nil,pD_eq] at ih
   refine (th_ret _).symm.trans ?_
   simp? only [u_b_spread_0,pD_eq,List.isEmpty_nil,two,show (0:Nat) < sizeLine by decide +kernel,ih]
  ·rw [stp_snoc] at ih ⊢
   by_cases hc:p.1≤l.2+1
   ·rw [if_pos hc] at ih ⊢
    simp only [List.map_append,List.map_cons,List.map_nil,pD_eq] at ih
    refine (th_ret _).symm.trans ?_
    simp? only [u_b_spread_0,pD_eq,List.map_append,hc,two,ih]
   ·rw [if_neg hc] at ih ⊢
    simp only [List.map_append,List.map_cons,List.map_nil,pD_eq] at ih
    have hs':(a.map pD++[D.tup [.int l.1,.int l.2]]).length < sizeLine:=by simpa using hs
    refine (th_ret _).symm.trans ?_
    simp? only [u_b_spread_0,pD_eq,List.map_append,hc,two,hs',ih]
theorem spread_ok {pg:Pg} [SP pg] (k:Nat) (b:Bool) (ps:List (Int×Int)) (hl:ps.length < 64):clK pg (k+1) "spread" [aL b (ps.map pD)]=.ok (.tmp ((spr ps).map pD)):=by
 have hl':(sortP ps).length < 10000:=by unfold sortP;rw [List.length_mergeSort];omega
 rw [r_spread]
 cases b with
 | false=>
  obtain ⟨s2,s3,e⟩:=spread_loop (pg.kk k) (.val (.lst (ps.map pD))) (sortP ps) [] .no .no (by simpa using hl')
  rw [List.map_nil] at e
  simp? only [aL,c_spread,sortedD,prsD_of,hl,show (0:Nat)≤sizeLine by decide +kernel,e,spr]
 | true=>
  obtain ⟨s2,s3,e⟩:=spread_loop (pg.kk k) (.bor (ps.map pD)) (sortP ps) [] .no .no (by simpa using hl')
  rw [List.map_nil] at e
  simp? only [aL,c_spread,sortedD,prsD_of,hl,show (0:Nat)≤sizeLine by decide +kernel,e,spr]
theorem holds_loop (cl:Cl) (v:Sl) (d:Int):∀ (l:List (Int×Int)) (s2 s3:Sl),(dayB l d=true→forD cl 1000 (.many [2,3]) b_holds_0 (l.map pD) [v,.val (.int d),s2,s3]=.ok (.ret (.val (.bl true))))∧(dayB l d=false→∃ s2' s3',forD cl 1000 (.many [2,3]) b_holds_0 (l.map pD) [v,.val (.int d),s2,s3]=.ok (.next [v,.val (.int d),s2',s3']))
 | [],s2,s3=>⟨fun h=>(by cases h),fun _=>⟨s2,s3,rfl⟩⟩
 | p::l,s2,s3=>by
  have ih:=holds_loop cl v d l (.val (.int p.1)) (.val (.int p.2))
  by_cases h1:p.1≤d
  ·by_cases h2:d≤p.2
   ·have e:dayB (p::l) d=true:=by simp [dayB,h1,h2]
    refine ⟨fun _=>?_,fun z=>(by rw [e] at z;cases z)⟩
    refine (th_ret _).symm.trans ?_
    rw [List.map_cons]
    simp? only [u_b_holds_0,pD_eq,h1,h2]
   ·have e:dayB (p::l) d=dayB l d:=by simp [dayB,h2]
    rw [e]
    refine ⟨fun z=>?_,fun z=>?_⟩
    ·have i:=ih.1 z
     refine (th_ret _).symm.trans ?_
     rw [List.map_cons]
     simp? only [u_b_holds_0,pD_eq,h1,h2,i]
    ·obtain ⟨s2',s3',i⟩:=ih.2 z
     refine ⟨s2',s3',?_⟩
     refine (th_ret _).symm.trans ?_
     rw [List.map_cons]
     simp? only [u_b_holds_0,pD_eq,h1,h2,i]
  ·have e:dayB (p::l) d=dayB l d:=by simp [dayB,h1]
   rw [e]
   refine ⟨fun z=>?_,fun z=>?_⟩
   ·have i:=ih.1 z
    refine (th_ret _).symm.trans ?_
    rw [List.map_cons]
    simp? only [u_b_holds_0,pD_eq,h1,i]
   ·obtain ⟨s2',s3',i⟩:=ih.2 z
    refine ⟨s2',s3',?_⟩
    refine (th_ret _).symm.trans ?_
    rw [List.map_cons]
    simp? only [u_b_holds_0,pD_eq,h1,i]
theorem holds_ok {pg:Pg} [HO pg] (k:Nat) (b:Bool) (l:List (Int×Int)) (d:Int):clK pg (k+1) "holds" [aL b (l.map pD),.val (.int d)]=.ok (.val (.bl (dayB l d))):=by
 rw [r_holds]
 cases b with
 | false=>
  obtain ⟨i1,i2⟩:=holds_loop (pg.kk k) (.val (.lst (l.map pD))) d l .no .no
  cases h:dayB l d with
  | true=>have i:=i1 h;simp? only [aL,c_holds,i]
  | false=>obtain ⟨s2,s3,i⟩:=i2 h;simp? only [aL,c_holds,i]
 | true=>
  obtain ⟨i1,i2⟩:=holds_loop (pg.kk k) (.bor (l.map pD)) d l .no .no
  cases h:dayB l d with
  | true=>have i:=i1 h;simp? only [aL,c_holds,i]
  | false=>obtain ⟨s2,s3,i⟩:=i2 h;simp? only [aL,c_holds,i]
end DG
set_option maxHeartbeats 4000000
namespace DG
open PySem L2 DE FA Dy
open CH ST LA SP HO RU BO WE WO CO CB FB
noncomputable def _root_.FA.Kd.cls:Kd→Str
 | .wi=>"Within"
 | .si=>"Since"
 | .ro=>"InRow"
noncomputable def _root_.FA.Kd.fld:Kd→Str
 | .wi=>"span"
 | .si=>"leave"
 | .ro=>"leave"
noncomputable def _root_.FA.Kd.isW:Kd→Bool
 | .wi=>true
 | .si=>false
 | .ro=>false
noncomputable def ruI (r:Ru):D:=.ins r.kd.cls ["lands","most",r.kd.fld] [.tup (r.lands.map lnD),.int r.most,.int r.days]
theorem fl_lands (r:Ru):fldD pcs (.val (ruI r)) "lands" = some (.tup (r.lands.map lnD)):=by
 obtain ⟨kd,l,m,d⟩:=r
 cases kd<;>rfl
theorem fl_most (r:Ru):fldD pcs (.val (ruI r)) "most" = some (.int r.most):=by
 obtain ⟨kd,l,m,d⟩:=r
 cases kd<;>rfl
theorem fl_span (r:Ru) (h:r.kd.isW=true):fldD pcs (.val (ruI r)) "span" = some (.int r.days):=by
 obtain ⟨kd,l,m,d⟩:=r
 cases kd<;>first | rfl | cases h
theorem fl_leave (r:Ru) (h:r.kd.isW=false):fldD pcs (.val (ruI r)) "leave" = some (.int r.days):=by
 obtain ⟨kd,l,m,d⟩:=r
 cases kd<;>first | rfl | cases h
theorem mt_weight (r:Ru):mtD pcs (.val (ruI r)) "weight" = some ("Rule.weight" : Str):=by
 obtain ⟨kd,l,m,d⟩:=r
 cases kd<;>rfl
theorem is_within (r:Ru):isiG pcs (.val (ruI r)) "Within" = some r.kd.isW:=by
 obtain ⟨kd,l,m,d⟩:=r
 cases kd<;>rfl
noncomputable abbrev St:=Str×Int×Int
noncomputable abbrev Pa:=Int×Int×Int
noncomputable def paD (p:Pa):D:=.tup [.int p.1,.int p.2.1,.int p.2.2]
theorem paD_eq (p:Pa):paD p=.tup [.int p.1,.int p.2.1,.int p.2.2]:=rfl
noncomputable def bkI (rs:List Ru) (ps:List Pa):D:=.ins "Book" ["kept_rules","kept_papers"] [.lst (rs.map ruI),.lst (ps.map paD)]
theorem fl_rules (rs:List Ru) (ps:List Pa):fldD pcs (.val (bkI rs ps)) "kept_rules" = some (.lst (rs.map ruI)):=rfl
theorem fl_papers (rs:List Ru) (ps:List Pa):fldD pcs (.val (bkI rs ps)) "kept_papers" = some (.lst (ps.map paD)):=rfl
theorem mt_rules (rs:List Ru) (ps:List Pa):mtD pcs (.val (bkI rs ps)) "rules" = some ("Book.rules" : Str):=rfl
theorem mt_lifted (rs:List Ru) (ps:List Pa):mtD pcs (.val (bkI rs ps)) "lifted" = some ("Book.lifted" : Str):=rfl
noncomputable def landAt:List St→Int→Option Str
 | [],_=>none
 | s::l,d=>if s.2.1≤d∧d≤s.2.2 then some s.1 else landAt l d
noncomputable def landV:Option Str→D
 | some z=>.str z
 | none=>.non
theorem land_loop (cl:Cl) (v:Sl) (d:Int):∀ (l:List St) (s2 s3 s4:Sl),(∀ z,landAt l d=some z→forD cl 1000 (.many [2,3,4]) b_land_among_0 (l.map stD) [v,.val (.int d),s2,s3,s4]=.ok (.ret (.val (.str z))))∧(landAt l d=none→∃ s2' s3' s4',forD cl 1000 (.many [2,3,4]) b_land_among_0 (l.map stD) [v,.val (.int d),s2,s3,s4]=.ok (.next [v,.val (.int d),s2',s3',s4']))
 | [],s2,s3,s4=>⟨fun z h=>(by cases h),fun _=>⟨s2,s3,s4,rfl⟩⟩
 | s::l,s2,s3,s4=>by
  have ih:=land_loop cl v d l (.val (.str s.1)) (.val (.int s.2.1)) (.val (.int s.2.2))
  unfold landAt
  by_cases h1:s.2.1≤d
  ·by_cases h2:d≤s.2.2
   ·rw [if_pos ⟨h1,h2⟩]
    refine ⟨fun z e=>?_,fun z=>(by cases z)⟩
    cases e
    refine (th_ret _).symm.trans ?_
    rw [List.map_cons]
    simp? only [u_b_land_among_0,stD_eq,h1,h2]
   ·rw [if_neg (fun z=>h2 z.2)]
    refine ⟨fun z e=>?_,fun e=>?_⟩
    ·have i:=ih.1 z e
     refine (th_ret _).symm.trans ?_
     rw [List.map_cons]
     simp? only [u_b_land_among_0,stD_eq,h1,h2,i]
    ·obtain ⟨s2',s3',s4',i⟩:=ih.2 e
     refine ⟨s2',s3',s4',?_⟩
     refine (th_ret _).symm.trans ?_
     rw [List.map_cons]
     simp? only [u_b_land_among_0,stD_eq,h1,h2,i]
  ·rw [if_neg (fun z=>h1 z.1)]
   refine ⟨fun z e=>?_,fun e=>?_⟩
   ·have i:=ih.1 z e
    refine (th_ret _).symm.trans ?_
    rw [List.map_cons]
    simp? only [u_b_land_among_0,stD_eq,h1,i]
   ·obtain ⟨s2',s3',s4',i⟩:=ih.2 e
    refine ⟨s2',s3',s4',?_⟩
    refine (th_ret _).symm.trans ?_
    rw [List.map_cons]
    simp? only [u_b_land_among_0,stD_eq,h1,i]
theorem land_ok' {pg:Pg} [LA pg] (k:Nat) (b:Bool) (l:List St) (d:Int):clK pg (k+1) "land_among" [aL b (l.map stD),.val (.int d)]=.ok (.val (landV (landAt l d))):=by
 rw [r_land_among]
 cases b with
 | false=>
  obtain ⟨i1,i2⟩:=land_loop (pg.kk k) (.val (.lst (l.map stD))) d l .no .no .no
  cases h:landAt l d with
  | some z=>have i:=i1 z h;simp? only [aL,c_land_among,i,landV]
  | none=>obtain ⟨s2,s3,s4,i⟩:=i2 h;simp? only [aL,c_land_among,i,landV]
 | true=>
  obtain ⟨i1,i2⟩:=land_loop (pg.kk k) (.bor (l.map stD)) d l .no .no .no
  cases h:landAt l d with
  | some z=>have i:=i1 z h;simp? only [aL,c_land_among,i,landV]
  | none=>obtain ⟨s2,s3,s4,i⟩:=i2 h;simp? only [aL,c_land_among,i,landV]
noncomputable def wt:List (Str×Int)→Option Str→Int
 | [],_=>0
 | p::l,o=>if o=some p.1 then p.2 else wt l o
theorem strOk_of {z:Str} (h:NameOk z):PyData.strOk z=true:=by
 unfold PyData.strOk
 rw [←Array.all_toList,List.all_eq_true]
 intro c hc
 have:=h.lets c hc
 unfold isLet at this
 rw [decide_eq_true_eq]
 omega
theorem eq_land {p:Str} (hp:NameOk p) {o:Option Str} (ho:∀ z,o=some z→NameOk z):eqD (.str p) (landV o)=some (decide (o=some p)):=by
 cases o with
 | none=>
  show eqD (.str p) .non=_
  rw [eqD_sn (strOk_of hp)]
  simp
 | some z=>
  show eqD (.str p) (.str z)=_
  rw [eqD_str (strOk_of hp) (strOk_of (ho z rfl))]
  congr 1
  rw [Bool.eq_iff_iff,beq_iff_eq,decide_eq_true_eq]
  constructor
  ·rintro rfl;rfl
  ·intro e;cases e;rfl
theorem weight_loop (cl:Cl) (v:Sl) (o:Option Str) (ho:∀ z,o=some z→NameOk z):∀ (l:List (Str×Int)) (s2 s3:Sl),(∀ p∈l,LnOk p)→(forD cl 1000 (.many [2,3]) b_Rule_weight_0 (l.map lnD) [v,.val (landV o),s2,s3]=.ok (.ret (.val (.int (wt l o)))))∨(wt l o=0∧∃ s2' s3',forD cl 1000 (.many [2,3]) b_Rule_weight_0 (l.map lnD) [v,.val (landV o),s2,s3]=.ok (.next [v,.val (landV o),s2',s3']))
 | [],s2,s3,_=>.inr ⟨rfl,s2,s3,rfl⟩
 | p::l,s2,s3,h=>by
  have ih:=weight_loop cl v o ho l (.val (.str p.1)) (.val (.int p.2)) fun q hq=>h q (by simp [hq])
  have e:=eq_land (h p (by simp)).nm ho
  unfold wt
  by_cases hc:o=some p.1
  ·rw [if_pos hc]
   left
   rw [decide_eq_true hc] at e
   refine (th_ret _).symm.trans ?_
   rw [List.map_cons]
   simp? only [u_b_Rule_weight_0,lnD_eq,e]
  ·rw [if_neg hc]
   rw [decide_eq_false hc] at e
   rcases ih with i | ⟨i0,s2',s3',i⟩
   ·left
    refine (th_ret _).symm.trans ?_
    rw [List.map_cons]
    simp? only [u_b_Rule_weight_0,lnD_eq,e,i]
   ·refine .inr ⟨i0,s2',s3',?_⟩
    refine (th_ret _).symm.trans ?_
    rw [List.map_cons]
    simp? only [u_b_Rule_weight_0,lnD_eq,e,i]
theorem weight_ok {pg:Pg} [RU pg] (k:Nat) (r:Ru) (h:∀ p∈r.lands,LnOk p) (o:Option Str) (ho:∀ z,o=some z→NameOk z):clK pg (k+1) "Rule.weight" [.val (ruI r),.val (landV o)]=.ok (.val (.int (wt r.lands o))):=by
 rw [r_Rule_weight]
 rcases weight_loop (pg.kk k) (.val (ruI r)) o ho r.lands .no .no h with i | ⟨i0,s2,s3,i⟩
 ·simp? only [c_Rule_weight,RU.cs,fl_lands,i]
 ·simp? only [c_Rule_weight,RU.cs,fl_lands,i,i0]
theorem rules_ok {pg:Pg} [RU pg] [BO pg] (k:Nat) (rs:List Ru) (ps:List Pa):clK pg (k+1) "Book.rules" [.val (bkI rs ps)]=.ok (.tmp (rs.map ruI)):=by
 rw [r_Book_rules]
 simp? only [c_Book_rules,RU.cs,fl_rules]
noncomputable def ofN (n:Int) (ps:List Pa):List (Int×Int):=(ps.filter fun p=>p.1 == n).map fun p=>(p.2.1,p.2.2)
noncomputable def lift (n:Int) (ps:List Pa):List (Int×Int):=spr (ofN n ps)
theorem lifted_loop (cl:Cl) (n:Int):∀ (ps:List Pa) (acc:List (Int×Int)) (s0 s1 s2:Sl),acc.length+ps.length < 10000→compD cl e_Book_lifted_0 (.many [0,1,2]) (.test (.cmp .Eq (.var 0) (.var 3))) (ps.map paD) [s0,s1,s2,.val (.int n)] (acc.map pD)=.ok ((acc++ofN n ps).map pD)
 | [],acc,s0,s1,s2,_=>by simp [ofN,compD_nil]
 | p::ps,acc,s0,s1,s2,hl=>by
  rw [List.length_cons] at hl
  have two:0+1+1≤sizeLine:=by decide +kernel
  have hs:(acc.map pD).length < sizeLine:=by rw [List.length_map];exact size_lt (by omega)
  cases hc:(p.1 == n) with
  | true=>
   have ih:=lifted_loop cl n ps (acc++[(p.2.1,p.2.2)]) (.val (.int p.1)) (.val (.int p.2.1)) (.val (.int p.2.2)) (by simp;omega)
   have e:ofN n (p::ps)=(p.2.1,p.2.2)::ofN n ps:=by simp [ofN,hc]
   rw [e]
   simp only [List.map_append,List.map_cons,List.map_nil,pD_eq,List.append_assoc,List.cons_append,List.nil_append] at ih ⊢
   refine (th_ret _).symm.trans ?_
   simp? only [u_e_Book_lifted_0,paD_eq,eqD_int,hc,two,hs,ih]
  | false=>
   have ih:=lifted_loop cl n ps acc (.val (.int p.1)) (.val (.int p.2.1)) (.val (.int p.2.2)) (by omega)
   have e:ofN n (p::ps)=ofN n ps:=by simp [ofN,hc]
   rw [e]
   refine (th_ret _).symm.trans ?_
   rw [List.map_cons]
   simp? only [u_e_Book_lifted_0,paD_eq,eqD_int,hc,two,hs,ih]
theorem ofN_len (n:Int) (ps:List Pa):(ofN n ps).length≤ps.length:=by
 unfold ofN
 rw [List.length_map]
 exact List.length_filter_le ..
theorem lifted_ok {pg:Pg} [RU pg] [BO pg] [SP pg] (k:Nat) (rs:List Ru) (ps:List Pa) (n:Int) (hl:ps.length < 64):clK pg (k+2) "Book.lifted" [.val (bkI rs ps),.val (.int n)]=.ok (.tmp ((lift n ps).map pD)):=by
 have i:=lifted_loop (pg.kk (k+1)) n ps [] .no .no .no (by simp;omega)
 have s:=spread_ok (pg:=pg) k false (ofN n ps) (Nat.lt_of_le_of_lt (ofN_len n ps) hl)
 have hs:(ps.map paD).length≤sizeLine:=by rw [List.length_map];exact size_le (by omega)
 simp only [aL] at s
 rw [List.map_nil,List.nil_append] at i
 rw [r_Book_lifted]
 simp? only [c_Book_lifted,RU.cs,fl_papers,iBlk,lend,List.getD_cons_succ,List.getD_cons_zero,hs,i,s,lift]
noncomputable def wgt (r:Ru) (lf:List (Int×Int)) (st:List St) (d:Int):Int:=if dayB lf d=true then 0 else wt r.lands (landAt st d)
theorem landAt_ok {st:List St} (h:∀ s∈st,NameOk s.1) (d:Int):∀ z,landAt st d=some z→NameOk z:=by
 intro z e
 induction st with
 | nil=>cases e
 | cons s l ih=>
  unfold landAt at e
  split at e
  ·cases e;exact h s (by simp)
  ·exact ih (fun x hx=>h x (by simp [hx])) e
theorem weigh_ok {pg:Pg} [RU pg] [HO pg] [LA pg] [WE pg] (k:Nat) (b:Bool) (r:Ru) (hr:∀ p∈r.lands,LnOk p) (lf:List (Int×Int)) (st:List St) (hs:∀ s∈st,NameOk s.1) (d:Int) :
  clK pg (k+2) "weigh" [.val (ruI r),.val (.lst (lf.map pD)),aL b (st.map stD),.val (.int d)]=.ok (.val (.int (wgt r lf st d))):=by
 have h:=holds_ok (pg:=pg) k false lf d
 have l:=land_ok' (pg:=pg) k b st d
 have w:=weight_ok (pg:=pg) k r hr (landAt st d) (landAt_ok hs d)
 simp only [aL] at h
 rw [r_weigh]
 unfold wgt
 cases b with
 | false=>
  simp only [aL] at l
  cases e:dayB lf d with
  | true=>rw [e] at h;simp? only [aL,c_weigh,h]
  | false=>rw [e] at h;simp? only [aL,c_weigh,h,l,RU.cs,mt_weight,w]
 | true=>
  simp only [aL] at l
  cases e:dayB lf d with
  | true=>rw [e] at h;simp? only [aL,c_weigh,h]
  | false=>rw [e] at h;simp? only [aL,c_weigh,h,l,RU.cs,mt_weight,w]
end DG
set_option maxHeartbeats 4000000
namespace DG
open PySem L2 DE FA Dy
open CH ST LA SP HO RU BO WE WO CO CB FB
noncomputable def ws (f:Int→Int) (lo:Int):Nat→List Int
 | 0=>[]
 | n+1=>f lo::ws f (lo+1) n
theorem intsD_of:∀ l:List Int,intsD (l.map D.int)=some l
 | []=>rfl
 | n::l=>by
  rw [List.map_cons,intsD,intsD_of l]
  rfl
theorem rgF_len:∀ (n:Nat) (lo:Int),(rgF lo n).length=n
 | 0,_=>rfl
 | n+1,lo=>by rw [rgF,List.length_cons,rgF_len n]
theorem smallI_of {i:Int} (h1:-1000000000000≤i) (h2:i≤1000000000000):smallI i=true:=by
 unfold smallI
 simp
 omega
section
variable {pg:Pg} [RU pg] [HO pg] [LA pg] [WE pg]
theorem within_loop (k:Nat) (b:Bool) (r:Ru) (hr:∀ p∈r.lands,LnOk p) (lf:List (Int×Int)) (st:List St) (hs:∀ s∈st,NameOk s.1):∀ (n:Nat) (lo:Int) (acc:List Int) (s0:Sl),acc.length+n < 100000→
  compD (pg.kk (k+2)) e_count_within_0 (.one 0) .yes (rgF lo n) [s0,.val (ruI r),.val (.lst (lf.map pD)),toSl (aL b (st.map stD))] (acc.map D.int)=.ok ((acc++ws (wgt r lf st) lo n).map D.int)
 | 0,lo,acc,s0,_=>by simp [ws,rgF,compD_nil]
 | n+1,lo,acc,s0,hl=>by
  have ih:=within_loop k b r hr lf st hs n (lo+1) (acc++[wgt r lf st lo]) (.val (.int lo)) (by simp;omega)
  have w:=weigh_ok (pg:=pg) k b r hr lf st hs lo
  have hz:(acc.map D.int).length < sizeLine:=by rw [List.length_map];exact size_lt (by omega)
  rw [ws]
  simp only [List.map_append,List.map_cons,List.map_nil,List.append_assoc,List.cons_append,List.nil_append] at ih ⊢
  refine (th_ret _).symm.trans ?_
  rw [rgF]
  cases b with
  | false=>
   simp only [aL,toSl] at ih w ⊢
   simp? only [u_e_count_within_0,w,hz,ih]
  | true=>
   simp only [aL,toSl] at ih w ⊢
   simp? only [u_e_count_within_0,w,hz,ih]
noncomputable def sinceL (f:Int→Int) (leave:Int):Nat→Int→Int→Int→Int→Int×Int
 | 0,fi,to,_,_=>(fi,to)
 | n+1,fi,to,em,ba=>if em < leave then (if f ba=0 then sinceL f leave n fi to (em+1) (ba - 1) else sinceL f leave n ba (to+f ba) 0 (ba - 1)) else (fi,to)
noncomputable def ms (lo leave em ba:Int):Int:=if lo≤ba then ba - lo+1+leave else leave - em
theorem since_loop (k:Nat) (b:Bool) (r:Ru) (hk:r.kd.isW=false) (hr:∀ p∈r.lands,LnOk p) (lf:List (Int×Int)) (st:List St) (hs:∀ s∈st,NameOk s.1) (v3:Sl) (lo:Int) (hlo:∀ x,x < lo→wgt r lf st x=0):∀ (n:Nat) (fi to em ba:Int) (s8:Sl),0≤em→em≤r.days→ms lo r.days em ba < n→
  ∃ s6 s7 s8',whD (pg.kk (k+2)) 1000 t_count_since_0 b_count_since_0 n [.val (ruI r),.val (.lst (lf.map pD)),toSl (aL b (st.map stD)),v3,.val (.int fi),.val (.int to),.val (.int em),.val (.int ba),s8]=.ok (.next [.val (ruI r),.val (.lst (lf.map pD)),toSl (aL b (st.map stD)),v3,.val (.int (sinceL (wgt r lf st) r.days n fi to em ba).1),.val (.int (sinceL (wgt r lf st) r.days n fi to em ba).2),s6,s7,s8'])
 | 0,fi,to,em,ba,s8,h0,h1,hm=>by
  unfold ms at hm
  split at hm<;>omega
 | n+1,fi,to,em,ba,s8,h0,h1,hm=>by
  have w:=weigh_ok (pg:=pg) k b r hr lf st hs ba
  unfold sinceL
  by_cases hc:em < r.days
  ·rw [if_pos hc]
   by_cases hz:wgt r lf st ba=0
   ·rw [if_pos hz]
    obtain ⟨s6,s7,s8',ih⟩:=since_loop k b r hk hr lf st hs v3 lo hlo n fi to (em+1) (ba - 1) (.val (.int (wgt r lf st ba))) (by omega) (by omega) (by unfold ms at hm ⊢;split at hm<;>split<;>omega)
    refine ⟨s6,s7,s8',?_⟩
    have hb:(wgt r lf st ba == 0)=true:=by simpa using hz
    refine (th_ret _).symm.trans ?_
    cases b with
    | false=>
     simp only [aL,toSl] at ih w ⊢
     simp? only [u_t_count_since_0,u_b_count_since_0,RU.cs,fl_leave r hk,hc,w,eqD_int,hb,ih]
    | true=>
     simp only [aL,toSl] at ih w ⊢
     simp? only [u_t_count_since_0,u_b_count_since_0,RU.cs,fl_leave r hk,hc,w,eqD_int,hb,ih]
   ·rw [if_neg hz]
    have hlb:lo≤ba:=by
     by_cases q:ba < lo
     ·exact absurd (hlo ba q) hz
     ·omega
    obtain ⟨s6,s7,s8',ih⟩:=since_loop k b r hk hr lf st hs v3 lo hlo n ba (to+wgt r lf st ba) 0 (ba - 1) (.val (.int (wgt r lf st ba))) (by omega) (by omega) (by unfold ms at hm ⊢;rw [if_pos hlb] at hm;split<;>omega)
    refine ⟨s6,s7,s8',?_⟩
    have hb:(wgt r lf st ba == 0)=false:=by simpa using hz
    refine (th_ret _).symm.trans ?_
    cases b with
    | false=>
     simp only [aL,toSl] at ih w ⊢
     simp? only [u_t_count_since_0,u_b_count_since_0,RU.cs,fl_leave r hk,hc,w,eqD_int,hb,ih]
    | true=>
     simp only [aL,toSl] at ih w ⊢
     simp? only [u_t_count_since_0,u_b_count_since_0,RU.cs,fl_leave r hk,hc,w,eqD_int,hb,ih]
  ·rw [if_neg hc]
   refine ⟨.val (.int em),.val (.int ba),s8,?_⟩
   refine (th_ret _).symm.trans ?_
   simp? only [u_t_count_since_0,RU.cs,fl_leave r hk,hc]
end
noncomputable def win (r:Ru) (f:Int→Int) (d:Int):Int×Int:=if r.kd.isW=true then (d - r.days+1,(ws f (d - r.days+1) r.days.toNat).sum) else sinceL f r.days 1000 (d+1) 0 0 d
structure WinOk (r:Ru) (f:Int→Int) (d:Int):Prop where
 d0:-1000000000≤d
 d1:d≤100000000000
 y0:1≤r.days
 y1:r.days < 50000
 si:r.kd.isW=false→∃ lo,(∀ x,x < lo→f x=0)∧d - lo+1+r.days < 1000∧r.days < 1000
section
variable {pg:Pg} [RU pg] [HO pg] [LA pg] [WE pg] [CO pg]
theorem countwithin_ok (k:Nat) (b:Bool) (r:Ru) (hk:r.kd.isW=true) (hr:∀ p∈r.lands,LnOk p) (lf:List (Int×Int)) (st:List St) (hs:∀ s∈st,NameOk s.1) (d:Int) (hw:WinOk r (wgt r lf st) d) :
  clK pg (k+3) "count_within" [.val (ruI r),.val (.lst (lf.map pD)),aL b (st.map stD),.val (.int d)]=.ok (.val (.tup [.int (win r (wgt r lf st) d).1,.int (win r (wgt r lf st) d).2])):=by
 have h1:=hw.d0
 have h2:=hw.d1
 have h3:=hw.y0
 have h4:=hw.y1
 have i:=within_loop (pg:=pg) k b r hr lf st hs r.days.toNat (d - r.days+1) [] .no (by simp;omega)
 rw [List.map_nil,List.nil_append] at i
 have e:(d+1 - (d - r.days+1)).toNat=r.days.toNat:=by omega
 have z1:smallI (d - r.days+1)=true:=smallI_of (by omega) (by omega)
 have z2:smallI (d+1)=true:=smallI_of (by omega) (by omega)
 have z3:(rgF (d - r.days+1) r.days.toNat).length≤sizeLine:=by rw [rgF_len];exact size_le (by omega)
 have two:0+1+1≤sizeLine:=by decide +kernel
 unfold win
 rw [if_pos hk,r_count_within]
 cases b with
 | false=>
  simp only [aL,toSl] at i
  simp? only [aL,c_count_within,RU.cs,fl_span r hk,z1,z2,rangeD_eq,e,z3,iBlk,lend,List.getD_cons_succ,List.getD_cons_zero,i,sumD,intsD_of,two]
 | true=>
  simp only [aL,toSl] at i
  simp? only [aL,c_count_within,RU.cs,fl_span r hk,z1,z2,rangeD_eq,e,z3,iBlk,lend,List.getD_cons_succ,List.getD_cons_zero,i,sumD,intsD_of,two]
theorem countsince_ok (k:Nat) (b:Bool) (r:Ru) (hk:r.kd.isW=false) (hr:∀ p∈r.lands,LnOk p) (lf:List (Int×Int)) (st:List St) (hs:∀ s∈st,NameOk s.1) (d:Int) (hw:WinOk r (wgt r lf st) d) :
  clK pg (k+3) "count_since" [.val (ruI r),.val (.lst (lf.map pD)),aL b (st.map stD),.val (.int d)]=.ok (.val (.tup [.int (win r (wgt r lf st) d).1,.int (win r (wgt r lf st) d).2])):=by
 have h3:=hw.y0
 obtain ⟨lo,hlo,hl1,hl2⟩:=hw.si hk
 obtain ⟨s6,s7,s8,i⟩:=since_loop (pg:=pg) k b r hk hr lf st hs (.val (.int d)) lo hlo 1000 (d+1) 0 0 d .no (by omega) (by omega) (by unfold ms;split<;>omega)
 have two:0+1+1≤sizeLine:=by decide +kernel
 unfold win
 rw [if_neg (by rw [hk];simp),r_count_since]
 cases b with
 | false=>
  simp only [aL,toSl] at i
  simp? only [aL,c_count_since,i,two]
 | true=>
  simp only [aL,toSl] at i
  simp? only [aL,c_count_since,i,two]
theorem window_ok (k:Nat) (b:Bool) (r:Ru) (hr:∀ p∈r.lands,LnOk p) (lf:List (Int×Int)) (st:List St) (hs:∀ s∈st,NameOk s.1) (d:Int) (hw:WinOk r (wgt r lf st) d) :
  clK pg (k+4) "window_by_days" [.val (ruI r),.val (.lst (lf.map pD)),aL b (st.map stD),.val (.int d)]=.ok (.val (.tup [.int (win r (wgt r lf st) d).1,.int (win r (wgt r lf st) d).2])):=by
 rw [r_window_by_days]
 cases hk:r.kd.isW with
 | true=>
  have c:=countwithin_ok (pg:=pg) k b r hk hr lf st hs d hw
  have iw:=is_within r
  rw [hk] at iw
  cases b<;>(simp only [aL] at c;simp? only [aL,c_window_by_days,RU.cs,iw,c])
 | false=>
  have c:=countsince_ok (pg:=pg) k b r hk hr lf st hs d hw
  have iw:=is_within r
  rw [hk] at iw
  cases b<;>(simp only [aL] at c;simp? only [aL,c_window_by_days,RU.cs,iw,c])
end
theorem at_rule {rs:List Ru} {n:Nat} {r:Ru} (h:rs[n]?=some r):atI (rs.map ruI) (n:Int)=some (ruI r):=at_n (by rw [List.getElem?_map,h];rfl)
section
variable {pg:Pg} [CH pg] [ST pg] [RU pg] [BO pg] [SP pg] [HO pg] [LA pg] [WE pg] [WO pg]
theorem weighton_ok (k:Nat) (b:Bool) (rs:List Ru) (ps:List Pa) (hp:ps.length < 64) (n:Nat) (r:Ru) (hn:rs[n]?=some r) (hr:∀ p∈r.lands,LnOk p) (st:List St) (hs:∀ s∈st,NameOk s.1) (hc:Ch (-1) st) (h6:st.length≤60) (d:Int) :
  clK pg (k+6) "weight_on" [.val (bkI rs ps),.val (.int n),aL b (st.map stD),.val (.int d)]=.ok (.val (.int (wgt r (lift n ps) st d))):=by
 have a:=rules_ok (pg:=pg) (k+4) rs ps
 have l:=lifted_ok (pg:=pg) (k+3) rs ps (n:Int) hp
 have s:=stays_ok (pg:=pg) k b st hc h6
 have w:=weigh_ok (pg:=pg) (k+3) false r hr (lift n ps) st hs d
 have e:=at_rule hn
 rw [r_weight_on]
 cases b<;>(simp only [aL] at s w;simp? only [aL,c_weight_on,RU.cs,mt_rules,mt_lifted,a,l,s,w,e])
end
section
variable {pg:Pg} [CH pg] [ST pg] [RU pg] [BO pg] [SP pg] [HO pg] [LA pg] [WE pg] [CO pg] [CB pg]
theorem countby_ok (k:Nat) (b:Bool) (rs:List Ru) (ps:List Pa) (hp:ps.length < 64) (n:Nat) (r:Ru) (hn:rs[n]?=some r) (hr:∀ p∈r.lands,LnOk p) (st:List St) (hs:∀ s∈st,NameOk s.1) (hc:Ch (-1) st) (h6:st.length≤60) (d:Int) (hw:WinOk r (wgt r (lift n ps) st) d) :
  clK pg (k+6) "count_by_days" [.val (bkI rs ps),.val (.int n),aL b (st.map stD),.val (.int d)]=.ok (.val (.int (win r (wgt r (lift n ps) st) d).2)):=by
 have a:=rules_ok (pg:=pg) (k+4) rs ps
 have l:=lifted_ok (pg:=pg) (k+3) rs ps (n:Int) hp
 have s:=stays_ok (pg:=pg) k b st hc h6
 have w:=window_ok (pg:=pg) (k+1) false r hr (lift n ps) st hs d hw
 have e:=at_rule hn
 rw [r_count_by_days]
 cases b<;>(simp only [aL] at s w;simp? only [aL,c_count_by_days,RU.cs,mt_rules,mt_lifted,a,l,s,w,e])
end
noncomputable abbrev Rl:=Ru×List (Int×Int)
noncomputable def fltDay (st:List St) (d:Int):Nat→List Rl→Option (Int×Int×Int)
 | _,[]=>none
 | i,x::l=>if x.1.most < (win x.1 (wgt x.1 x.2 st) d).2 then some (d,(i:Int),(win x.1 (wgt x.1 x.2 st) d).1) else fltDay st d (i+1) l
noncomputable def flt (st:List St) (rs:List Rl) (lo:Int):Nat→Option (Int×Int×Int)
 | 0=>none
 | n+1=>match fltDay st lo 0 rs with
  | some x=>some x
  | none=>flt st rs (lo+1) n
noncomputable def f3D (x:Int×Int×Int):D:=.tup [.int x.1,.int x.2.1,.int x.2.2]
noncomputable def fltV:Option (Int×Int×Int)→D
 | none=>.non
 | some x=>f3D x
noncomputable def slL' (b:Bool) (l:List D):Sl:=match b with
 | true=>.own l
 | false=>.val (.lst l)
section
variable {pg:Pg} [RU pg] [HO pg] [LA pg] [WE pg] [CO pg]
theorem fault_in (k:Nat) (v0 v1 v3:Sl) (lfs:List D) (st:List St) (hs:∀ s∈st,NameOk s.1) (d:Int):∀ (rs:List Rl) (i:Nat) (s4 s7 s8:Sl),(∀ (j:Nat) x,rs[j]?=some x→lfs[i+j]?=some (.lst (x.2.map pD))∧(∀ p∈x.1.lands,LnOk p)∧WinOk x.1 (wgt x.1 x.2 st) d)→
  (∀ z,fltDay st d i rs=some z→forD (pg.kk (k+4)) 1000 (.many [4,7]) b_fault_by_days_0 (enF i (rs.map fun x=>ruI x.1)) [v0,v1,.own (st.map stD),v3,s4,.own lfs,.val (.int d),s7,s8]=.ok (.ret (.val (f3D z))))∧
  (fltDay st d i rs=none→∃ s4' s7' s8',forD (pg.kk (k+4)) 1000 (.many [4,7]) b_fault_by_days_0 (enF i (rs.map fun x=>ruI x.1)) [v0,v1,.own (st.map stD),v3,s4,.own lfs,.val (.int d),s7,s8]=.ok (.next [v0,v1,.own (st.map stD),v3,s4',.own lfs,.val (.int d),s7',s8']))
 | [],i,s4,s7,s8,_=>⟨fun z h=>(by cases h),fun _=>⟨s4,s7,s8,rfl⟩⟩
 | x::rs,i,s4,s7,s8,h=>by
  obtain ⟨e1,e2,e3⟩:=h 0 x rfl
  have ih:=fault_in k v0 v1 v3 lfs st hs d rs (i+1) (.val (.int i)) (.val (ruI x.1)) (.val (.tup [.int (win x.1 (wgt x.1 x.2 st) d).1,.int (win x.1 (wgt x.1 x.2 st) d).2])) (fun j y hy=>by
   have:=h (j+1) y hy
   rwa [show i+(j+1)=i+1+j by omega] at this)
  have w:=window_ok (pg:=pg) k true x.1 e2 x.2 st hs d e3
  simp only [aL] at w
  have a:atI lfs (i:Int)=some (.lst (x.2.map pD)):=at_n e1
  have three:0+1+1+1≤sizeLine:=by decide +kernel
  unfold fltDay
  by_cases hc:x.1.most < (win x.1 (wgt x.1 x.2 st) d).2
  ·rw [if_pos hc]
   refine ⟨fun z e=>?_,fun e=>(by cases e)⟩
   cases e
   refine (th_ret _).symm.trans ?_
   rw [List.map_cons,enF]
   simp? only [u_b_fault_by_days_0,a,w,RU.cs,fl_most,hc,three,f3D]
  ·rw [if_neg hc]
   refine ⟨fun z e=>?_,fun e=>?_⟩
   ·have i':=ih.1 z e
    refine (th_ret _).symm.trans ?_
    rw [List.map_cons,enF]
    simp? only [u_b_fault_by_days_0,a,w,RU.cs,fl_most,hc,i']
   ·obtain ⟨s4',s7',s8',i'⟩:=ih.2 e
    refine ⟨s4',s7',s8',?_⟩
    refine (th_ret _).symm.trans ?_
    rw [List.map_cons,enF]
    simp? only [u_b_fault_by_days_0,a,w,RU.cs,fl_most,hc,i']
theorem fault_out (k:Nat) (v0 v1:Sl) (rs:List Rl) (lfs:List D) (hl:∀ (j:Nat) x,rs[j]?=some x→lfs[j]?=some (.lst (x.2.map pD))∧(∀ p∈x.1.lands,LnOk p)) (st:List St) (hs:∀ s∈st,NameOk s.1):∀ (n:Nat) (lo:Int) (b:Bool) (s4 s6 s7 s8:Sl),(∀ x∈rs,∀ d,lo≤d→d < lo+n→WinOk x.1 (wgt x.1 x.2 st) d)→
  (∀ z,flt st rs lo n=some z→forD (pg.kk (k+4)) 1000 (.one 6) b_fault_by_days_1 (rgF lo n) [v0,v1,.own (st.map stD),slL' b (rs.map fun x=>ruI x.1),s4,.own lfs,s6,s7,s8]=.ok (.ret (.val (f3D z))))∧
  (flt st rs lo n=none→∃ ρ',forD (pg.kk (k+4)) 1000 (.one 6) b_fault_by_days_1 (rgF lo n) [v0,v1,.own (st.map stD),slL' b (rs.map fun x=>ruI x.1),s4,.own lfs,s6,s7,s8]=.ok (.next ρ'))
 | 0,lo,b,s4,s6,s7,s8,_=>⟨fun z h=>(by cases h),fun _=>⟨_,rfl⟩⟩
 | n+1,lo,b,s4,s6,s7,s8,hw=>by
  have fin:=fault_in (pg:=pg) k v0 v1 (.val (.lst (rs.map fun x=>ruI x.1))) lfs st hs lo rs 0 s4 s7 s8 (fun j x hx=>by
   have:=hl j x hx
   rw [Nat.zero_add]
   exact ⟨this.1,this.2,hw x (List.mem_of_getElem? hx) lo (by omega) (by omega)⟩)
  unfold flt
  cases e:fltDay st lo 0 rs with
  | some z0=>
   dsimp only
   refine ⟨fun z h=>?_,fun h=>(by cases h)⟩
   cases h
   have i:=fin.1 z0 e
   refine (th_ret _).symm.trans ?_
   rw [rgF]
   cases b<;>(simp only [slL'] ;simp? only [u_b_fault_by_days_1,enumD_eq,i])
  | none=>
   dsimp only
   obtain ⟨s4',s7',s8',i⟩:=fin.2 e
   have ih:=fault_out k v0 v1 rs lfs hl st hs n (lo+1) false s4' (.val (.int lo)) s7' s8' (fun x hx d h1 h2=>hw x hx d (by omega) (by omega))
   simp only [slL'] at ih
   refine ⟨fun z h=>?_,fun h=>?_⟩
   ·have i2:=ih.1 z h
    refine (th_ret _).symm.trans ?_
    rw [rgF]
    cases b<;>(simp only [slL'] ;simp? only [u_b_fault_by_days_1,enumD_eq,i,i2])
   ·obtain ⟨ρ',i2⟩:=ih.2 h
    refine ⟨ρ',?_⟩
    refine (th_ret _).symm.trans ?_
    rw [rgF]
    cases b<;>(simp only [slL'] ;simp? only [u_b_fault_by_days_1,enumD_eq,i,i2])
end
end DG
set_option maxHeartbeats 4000000
namespace DG
open PySem L2 DE FA Dy
open CH ST LA SP HO RU BO WE WO CO CB FB
noncomputable def rlF (ps:List Pa):Nat→List Ru→List Rl
 | _,[]=>[]
 | i,r::l=>(r,lift i ps)::rlF ps (i+1) l
theorem rlF_ru (ps:List Pa):∀ (i:Nat) (rs:List Ru),(rlF ps i rs).map (fun x=>ruI x.1)=rs.map ruI
 | _,[]=>rfl
 | i,r::l=>by
  rw [rlF,List.map_cons,List.map_cons,rlF_ru ps (i+1) l]
theorem rlF_get (ps:List Pa):∀ (i:Nat) (rs:List Ru) (j:Nat),(rlF ps i rs)[j]?=(rs[j]?).map fun r=>(r,lift ((i+j:Nat):Int) ps)
 | _,[],j=>by simp [rlF]
 | i,r::l,0=>by simp [rlF]
 | i,r::l,j+1=>by
  rw [rlF,List.getElem?_cons_succ,rlF_get ps (i+1) l j,List.getElem?_cons_succ,show i+1+j=i+(j+1) by omega]
theorem rlF_mem {ps:List Pa} {i:Nat} {rs:List Ru} {x:Rl} (h:x∈rlF ps i rs):∃ j:Nat,rs[j]?=some x.1∧x.2=lift ((i+j:Nat):Int) ps:=by
 obtain ⟨j,hj⟩:=List.getElem?_of_mem h
 rw [rlF_get] at hj
 obtain ⟨r,e1,e2⟩:=Option.map_eq_some_iff.mp hj
 exact ⟨j,by rw [e1,←e2],by rw [←e2]⟩
noncomputable def lifts (ps:List Pa) (lo:Nat):Nat→List D
 | 0=>[]
 | n+1=>.lst ((lift lo ps).map pD)::lifts ps (lo+1) n
theorem lifts_get (ps:List Pa):∀ (n lo j:Nat),j < n→(lifts ps lo n)[j]?=some (.lst ((lift ((lo+j:Nat):Int) ps).map pD))
 | 0,_,_,h=>by omega
 | n+1,lo,0,_=>by simp [lifts]
 | n+1,lo,j+1,h=>by
  rw [lifts,List.getElem?_cons_succ,lifts_get ps n (lo+1) j (by omega),show lo+1+j=lo+(j+1) by omega]
noncomputable def fstD:List St→Int
 | []=>0
 | s::_=>s.2.1
noncomputable def lstD (st:List St):Int:=match st.getLast? with
 | some s=>s.2.2
 | none=>0
noncomputable def faultOf (rs:List Ru) (ps:List Pa) (st:List St):Option (Int×Int×Int):=match st with
 | []=>none
 | s::l=>flt (s::l) (rlF ps 0 rs) s.2.1 (lstD (s::l)+1 - s.2.1).toNat
section
variable {pg:Pg} [CH pg] [ST pg] [RU pg] [BO pg] [SP pg] [HO pg] [LA pg] [WE pg] [CO pg] [FB pg]
theorem lifts_loop (k:Nat) (rs:List Ru) (ps:List Pa) (hp:ps.length < 64):∀ (n lo:Nat) (acc:List D) (s0:Sl),acc.length+n < 10000→
  compD (pg.kk (k+2)) e_fault_by_days_0 (.one 0) .yes (rgF (lo:Int) n) [s0,.val (bkI rs ps)] acc=.ok (acc++lifts ps lo n)
 | 0,lo,acc,s0,_=>by simp [lifts,rgF,compD_nil]
 | n+1,lo,acc,s0,hl=>by
  have ih:=lifts_loop k rs ps hp n (lo+1) (acc++[.lst ((lift lo ps).map pD)]) (.val (.int lo)) (by simp;omega)
  have l:=lifted_ok (pg:=pg) k rs ps (lo:Int) hp
  have hz:acc.length < sizeLine:=size_lt (by omega)
  rw [show ((lo+1:Nat):Int)=(lo:Int)+1 by omega] at ih
  simp only [List.append_assoc,List.cons_append,List.nil_append] at ih
  rw [lifts]
  refine (th_ret _).symm.trans ?_
  rw [rgF]
  simp? only [u_e_fault_by_days_0,RU.cs,mt_lifted,l,hz,ih]
theorem faultby_ok (k:Nat) (b:Bool) (rs:List Ru) (ps:List Pa) (hp:ps.length < 64) (hrs:rs.length < 1000) (hr:∀ r∈rs,∀ p∈r.lands,LnOk p) (st:List St) (hs:∀ s∈st,NameOk s.1) (hc:Ch (-1) st) (h6:st.length≤60)
  (hw:∀ x∈rlF ps 0 rs,∀ d,fstD st≤d→d≤lstD st→WinOk x.1 (wgt x.1 x.2 st) d) (hb:-1000000000≤fstD st∧fstD st≤lstD st+1∧lstD st≤100000000000) :
  clK pg (k+6) "fault_by_days" [.val (bkI rs ps),aL b (st.map stD)]=.ok (.val (fltV (faultOf rs ps st))):=by
 have a:=rules_ok (pg:=pg) (k+4) rs ps
 have s:=stays_ok (pg:=pg) k b st hc h6
 have li:=lifts_loop (pg:=pg) (k+3) rs ps hp rs.length 0 [] .no (by simp;omega)
 rw [List.nil_append] at li
 have sm:smallI (rs.length:Int)=true:=smallI_of (by omega) (by omega)
 have hz:(rgF 0 rs.length).length≤sizeLine:=by rw [rgF_len];exact size_le (by omega)
 rw [r_fault_by_days]
 cases st with
 | nil=>
  cases b<;>(simp only [aL,List.map_nil] at s ⊢;simp? only [c_fault_by_days,s,List.isEmpty_nil,faultOf,fltV])
 | cons s0 l=>
  obtain ⟨t,ht⟩:∃ t,(s0::l).getLast?=some t:=⟨_,List.getLast?_eq_some_getLast (by simp)⟩
  have el:lstD (s0::l)=t.2.2:=by unfold lstD;rw [ht]
  have a0:atI ((s0::l).map stD) 0=some (.tup [.str s0.1,.int s0.2.1,.int s0.2.2]):=by rw [List.map_cons,at_0];rfl
  have a1:atI ((s0::l).map stD) (-1)=some (.tup [.str t.1,.int t.2.1,.int t.2.2]):=by
   obtain ⟨q,hq⟩:=List.getLast?_eq_some_iff.mp ht
   rw [hq,List.map_append,List.map_cons,List.map_nil,g_last]
   rfl
  have em:((s0::l).map stD).isEmpty=false:=rfl
  have i2:atI [D.str t.1,.int t.2.1,.int t.2.2] 2=some (.int t.2.2):=by rfl
  have i1:atI [D.str s0.1,.int s0.2.1,.int s0.2.2] 1=some (.int s0.2.1):=by rfl
  have hf:fstD (s0::l)=s0.2.1:=rfl
  rw [el,hf] at hb
  rw [el,hf] at hw
  have z1:smallI s0.2.1=true:=smallI_of (by omega) (by omega)
  have z2:smallI (t.2.2+1)=true:=smallI_of (by omega) (by omega)
  have e0:(t.2.2+1 - s0.2.1).toNat=(lstD (s0::l)+1 - s0.2.1).toNat:=by rw [el]
  have key:=fun v1=>fault_out (pg:=pg) (k+1) (.val (bkI rs ps)) v1 (rlF ps 0 rs) (lifts ps 0 rs.length) (fun j x hx=>by
   rw [rlF_get] at hx
   obtain ⟨r,e1,e2⟩:=Option.map_eq_some_iff.mp hx
   have hj:=(List.getElem?_eq_some_iff.mp e1).1
   rw [lifts_get ps rs.length 0 j hj,←e2]
   exact ⟨rfl,hr r (List.mem_of_getElem? e1)⟩) (s0::l) hs (lstD (s0::l)+1 - s0.2.1).toNat s0.2.1 true .no .no .no .no (fun x hx d h1 h2=>hw x hx d h1 (by rw [el] at h2;omega))
  simp only [slL',rlF_ru] at key
  generalize hS:s0::l=S at *
  have fo:faultOf rs ps S=flt S (rlF ps 0 rs) s0.2.1 (lstD S+1 - s0.2.1).toNat:=by rw [←hS];rfl
  rw [fo]
  rw [show ((0:Nat):Int)=0 from rfl] at li
  cases e:flt S (rlF ps 0 rs) s0.2.1 (lstD S+1 - s0.2.1).toNat with
  | some z=>
   cases b with
   | false=>
    have i:=(key (.val (.lst (S.map stD)))).1 z e
    simp only [aL] at s ⊢
    simp? only [c_fault_by_days,s,em,RU.cs,mt_rules,a,List.length_map,sm,rangeD_eq,Int.sub_zero,Int.toNat_natCast,hz,iBlk,lend,List.getD_cons_succ,List.getD_cons_zero,li,a0,a1,i1,i2,z1,z2,e0,i,fltV]
   | true=>
    have i:=(key (.bor (S.map stD))).1 z e
    simp only [aL] at s ⊢
    simp? only [c_fault_by_days,s,em,RU.cs,mt_rules,a,List.length_map,sm,rangeD_eq,Int.sub_zero,Int.toNat_natCast,hz,iBlk,lend,List.getD_cons_succ,List.getD_cons_zero,li,a0,a1,i1,i2,z1,z2,e0,i,fltV]
  | none=>
   cases b with
   | false=>
    obtain ⟨ρ',i⟩:=(key (.val (.lst (S.map stD)))).2 e
    simp only [aL] at s ⊢
    simp? only [c_fault_by_days,s,em,RU.cs,mt_rules,a,List.length_map,sm,rangeD_eq,Int.sub_zero,Int.toNat_natCast,hz,iBlk,lend,List.getD_cons_succ,List.getD_cons_zero,li,a0,a1,i1,i2,z1,z2,e0,i,fltV]
   | true=>
    obtain ⟨ρ',i⟩:=(key (.bor (S.map stD))).2 e
    simp only [aL] at s ⊢
    simp? only [c_fault_by_days,s,em,RU.cs,mt_rules,a,List.length_map,sm,rangeD_eq,Int.sub_zero,Int.toNat_natCast,hz,iBlk,lend,List.getD_cons_succ,List.getD_cons_zero,li,a0,a1,i1,i2,z1,z2,e0,i,fltV]
end
end DG
set_option maxHeartbeats 4000000
namespace FA
open PySem DE DG Dy
open L2 hiding St
open LC LN LR LM LP LS RU
theorem ofNat_le {k:Nat}:¬ (k+12 < 12):=by omega
theorem made_ok {pg:Pg} [RU pg] [LM pg] (k:Nat) (r:Ru) (h:RuOk r):clK pg (k+13) "_law_made" [.val (ruD r)]=.ok (.val (ruI r)):=by
 have hl:=h.lands
 have h0:=h.m0
 have h1:=h.m1
 have h2:=h.d0
 have h3:=h.d1
 have hm:btw r.most 0 1000000000=true:=by unfold btw;simp;omega
 have hd:btw r.days 1 1000000000=true:=by unfold btw;simp;omega
 obtain ⟨kd,lands,most,days⟩:=r
 dsimp only at hl hm hd
 have w1:PyData.strOk "within" = true:=by decide +kernel
 have w2:PyData.strOk "since" = true:=by decide +kernel
 have w3:PyData.strOk "row" = true:=by decide +kernel
 rw [r__law_made]
 cases kd with
 | wi=>
  have e:pg.nw (k+12) "Within" [.val (.lst (lands.map lnD)),.val (.int most),.val (.int days)]=.ok (.val (ruI ⟨.wi,lands,most,days⟩)):=by
   rw [RU.nw]
   show (if k+12 < 12 then R.no else ofGo "Within" (if (landsOk (lands.map lnD)&&btw most 0 1000000000&&btw days 1 1000000000)=true then _ else none))=_
   rw [if_neg ofNat_le,if_pos (by rw [hl,hm,hd];rfl)]
   rfl
  simp? only [c__law_made,ruD,Kd.nm,eqD_str w1 w1,show (("within" : Str) == "within")=true by decide +kernel,e]
 | si=>
  have e:pg.nw (k+12) "Since" [.val (.lst (lands.map lnD)),.val (.int most),.val (.int days)]=.ok (.val (ruI ⟨.si,lands,most,days⟩)):=by
   rw [RU.nw]
   show (if k+12 < 12 then R.no else ofGo "Since" (if (landsOk (lands.map lnD)&&btw most 0 1000000000&&btw days 1 1000000000)=true then _ else none))=_
   rw [if_neg ofNat_le,if_pos (by rw [hl,hm,hd];rfl)]
   rfl
  simp? only [c__law_made,ruD,Kd.nm,eqD_str w2 w1,eqD_str w2 w2,show (("since" : Str) == "within")=false by decide +kernel,show (("since" : Str) == "since")=true by decide +kernel,e]
 | ro=>
  have d1:days=1:=h.row rfl
  subst d1
  have e:pg.nw (k+12) "InRow" [.val (.lst (lands.map lnD)),.val (.int most)]=.ok (.val (ruI ⟨.ro,lands,most,1⟩)):=by
   rw [RU.nw]
   show (if k+12 < 12 then R.no else ofGo "InRow" (if (landsOk (lands.map lnD)&&btw most 0 1000000000)=true then _ else none))=_
   rw [if_neg ofNat_le,if_pos (by rw [hl,hm];rfl)]
   rfl
  simp? only [c__law_made,ruD,Kd.nm,eqD_str w3 w1,eqD_str w3 w2,show (("row" : Str) == "within")=false by decide +kernel,show (("row" : Str) == "since")=false by decide +kernel,e]
structure PaOk (m start:Int) (p:Pa):Prop where
 o0:0≤p.1
 o1:p.1 < m
 a0:start≤p.2.1
 a1:p.2.1 < start+60
 b0:p.2.1≤p.2.2
 b1:p.2.2 < p.2.1+9
theorem paper_ok {pg:Pg} [LP pg] (k:Nat) (c m start:Int) (hm:0 < m):∃ p:Pa,PaOk m start p∧clK pg (k+1) "_law_paper" [.val (.int c),.val (.int m),.val (.int start)]=.ok (.val (paD p)):=by
 have hn:0≤c * 982451653 % 10000000000037:=Int.emod_nonneg _ (by decide)
 generalize hN:c * 982451653 % 10000000000037=n at hn
 have mul:mulB c 982451653=true:=mulB_r (by decide) (by decide)
 have three:0+1+1+1≤sizeLine:=by decide +kernel
 have a0:0≤n / 8 % 60:=Int.emod_nonneg _ (by decide)
 have a1:n / 8 % 60 < 60:=Int.emod_lt_of_pos _ (by decide)
 have b0:0≤n / 480 % 9:=Int.emod_nonneg _ (by decide)
 have b1:n / 480 % 9 < 9:=Int.emod_lt_of_pos _ (by decide)
 refine ⟨(n % m,start+n / 8 % 60,start+n / 8 % 60+n / 480 % 9),⟨Int.emod_nonneg _ (by omega),Int.emod_lt_of_pos _ hm,by dsimp only;omega,by dsimp only;omega,by dsimp only;omega,by dsimp only;omega⟩,?_⟩
 rw [r__law_paper]
 simp? only [c__law_paper,mul,hN,hm,three,paD_eq]
structure StsOk (zs:List Str) (start:Int) (st:List St):Prop where
 ch:Ch (start - 1) st
 hi:∀ s∈st,s.2.2≤start+59
 nm:∀ s∈st,s.1∈zs
theorem Ch_snoc:∀ (l:List St) (e:Int) (s:St),Ch e l→StOk (match l.getLast? with | some t=>t.2.2 | none=>e) s→Ch e (l++[s])
 | [],e,s,_,h=>⟨h,trivial⟩
 | t::l,e,s,h,h'=>by
  refine ⟨h.1,Ch_snoc l t.2.2 s h.2 ?_⟩
  cases l with
  | nil=>exact h'
  | cons u r=>exact h'
theorem stays_loop {cl:Cl} (v0:Sl) (zs:List Str) (hz:NamesOk zs) (start:Int) (h0:0≤start) (h1:start≤1000000000 - 60):∀ (cs:List Int) (l:List St) (day:Int) (s5 s6 s7 s8:Sl),l.length+cs.length < 10000→StsOk zs start l→(day=match l.getLast? with | some t=>t.2.2+1 | none=>start)→
  ∃ (l':List St) (ρ':List Sl),forD cl 1000 (.one 5) b__law_stays_0 (cs.map D.int) [v0,.bor (zs.map D.str),.val (.int start),.own (l.map stD),.val (.int day),s5,s6,s7,s8]=.ok (.next (v0::.bor (zs.map D.str)::.val (.int start)::.own (l'.map stD)::ρ'))∧l'.length≤l.length+cs.length∧StsOk zs start l'
 | [],l,day,s5,s6,s7,s8,_,h,_=>⟨l,_,rfl,by simp,h⟩
 | c::cs,l,day,s5,s6,s7,s8,hl,h,hday=>by
  rw [List.length_cons] at hl
  have hL:(0:Int) < (zs.length:Int):=by have:=hz.two;omega
  have hn:0≤c * 1099087573 % 10000000000037:=Int.emod_nonneg _ (by decide)
  have mul:mulB c 1099087573=true:=mulB_r (by decide) (by decide)
  generalize hN:c * 1099087573 % 10000000000037=n at hn
  have g0:0≤n % 6:=Int.emod_nonneg _ (by decide)
  have g1:n % 6 < 6:=Int.emod_lt_of_pos _ (by decide)
  have g2:0≤n / 6 % 3:=Int.emod_nonneg _ (by decide)
  have g3:n / 6 % 3 < 3:=Int.emod_lt_of_pos _ (by decide)
  have g4:0≤n / 18 % 9:=Int.emod_nonneg _ (by decide)
  have g5:n / 18 % 9 < 9:=Int.emod_lt_of_pos _ (by decide)
  have gp:0≤n % 6 * (n / 6 % 3):=Int.mul_nonneg g0 g2
  have mul2:mulB (n % 6) (n / 6 % 3)=true:=mulB_r (by omega) (by omega)
  generalize hg:n % 6 * (n / 6 % 3)=g at gp
  obtain ⟨z,e1,e2⟩:=at_names (zs:=zs) (n / 162 % (zs.length:Int)) (Int.emod_nonneg _ (by omega)) (Int.emod_lt_of_pos _ hL)
  have hzm:z∈zs:=List.mem_of_getElem? e2
  have hs:(l.map stD).length < sizeLine:=by rw [List.length_map];exact size_lt (by omega)
  have three:0+1+1+1≤sizeLine:=by decide +kernel
  by_cases hc:day+g+n / 18 % 9≤start+59
  ·have hd:start≤day:=by
    rw [hday]
    cases q:l.getLast? with
    | none=>exact Int.le_refl _
    | some t=>
     have ht:t∈l:=List.mem_of_getLast? q
     show start≤t.2.2+1
     have key:∀ (l:List St) (e:Int),Ch e l→∀ t∈l,e < t.2.1∧t.2.1≤t.2.2:=by
      intro l
      induction l with
      | nil=>intro e _ t ht;cases ht
      | cons u r ih=>
       intro e hh t ht
       rcases List.mem_cons.mp ht with rfl | ht
       ·exact ⟨hh.1.lo,hh.1.ab⟩
       ·have:=ih _ hh.2 t ht
        have:=hh.1.lo
        have:=hh.1.ab
        omega
     have:=key l _ h.ch t ht
     omega
   obtain ⟨l',ρ',ih,i1,i2⟩:=stays_loop (cl:=cl) v0 zs hz start h0 h1 cs (l++[(z,day+g,day+g+n / 18 % 9)]) (day+g+n / 18 % 9+1) (.val (.int c)) (.val (.int n)) (.val (.int (day+g))) (.val (.int (day+g+n / 18 % 9))) (by simp;omega)
    ⟨Ch_snoc l _ _ h.ch ⟨hz.ok z hzm,by
      dsimp only
      cases q:l.getLast? with
      | none=>rw [q] at hday;dsimp only at hday ⊢;omega
      | some t=>rw [q] at hday;dsimp only at hday ⊢;omega,by dsimp only;omega,by dsimp only;omega⟩,
     fun s hs=>by
      rcases List.mem_append.mp hs with q | q
      ·exact h.hi s q
      ·rw [List.mem_singleton.mp q];exact hc,
     fun s hs=>by
      rcases List.mem_append.mp hs with q | q
      ·exact h.nm s q
      ·rw [List.mem_singleton.mp q];exact hzm⟩ (by simp)
   refine ⟨l',ρ',?_,by simp at i1 ⊢;omega,i2⟩
   simp only [List.map_append,List.map_cons,List.map_nil,stD_eq] at ih
   refine (th_ret _).symm.trans ?_
   rw [List.map_cons]
   simp? only [u_b__law_stays_0,mul,hN,mul2,hg,hc,e1,len_names,hL,three,hs,ih,stD_eq]
  ·obtain ⟨l',ρ',ih,i1,i2⟩:=stays_loop (cl:=cl) v0 zs hz start h0 h1 cs l day (.val (.int c)) (.val (.int n)) (.val (.int (day+g))) (.val (.int (day+g+n / 18 % 9))) (by omega) h hday
   refine ⟨l',ρ',?_,by rw [List.length_cons];omega,i2⟩
   refine (th_ret _).symm.trans ?_
   rw [List.map_cons]
   simp? only [u_b__law_stays_0,mul,hN,mul2,hg,hc,ih]
theorem stays_ok {pg:Pg} [LS pg] (k:Nat) (cs:List Int) (hl:cs.length < 1000) (zs:List Str) (hz:NamesOk zs) (start:Int) (h0:0≤start) (h1:start≤1000000000 - 60):∃ st:List St,StsOk zs start st∧st.length≤cs.length∧
  clK pg (k+1) "_law_stays" [.val (.lst (cs.map D.int)),.bor (zs.map D.str),.val (.int start)]=.ok (.tmp (st.map stD)):=by
 obtain ⟨l,ρ,e,e1,e2⟩:=stays_loop (cl:=pg.kk k) (.val (.lst (cs.map D.int))) zs hz start h0 h1 cs [] start .no .no .no .no (by simp;omega) ⟨trivial,fun s h=>(by cases h),fun s h=>(by cases h)⟩ rfl
 refine ⟨l,e2,by simpa using e1,?_⟩
 rw [List.map_nil] at e
 rw [r__law_stays]
 simp? only [c__law_stays,show (0:Nat)≤sizeLine by decide +kernel,e]
end FA
set_option maxHeartbeats 4000000
namespace DG
open PySem DE FA Dy
open L2 hiding St
theorem wt_none:∀ l:List (Str×Int),wt l none=0
 | []=>rfl
 | p::l=>by
  unfold wt
  rw [if_neg (by simp)]
  exact wt_none l
theorem wt_nn {l:List (Str×Int)} (h:∀ p∈l,LnOk p) (o:Option Str):0≤wt l o:=by
 induction l with
 | nil=>exact Int.le_refl _
 | cons p l ih=>
  unfold wt
  split
  ·have:=(h p (by simp)).one;omega
  ·exact ih fun q hq=>h q (by simp [hq])
theorem wgt_nn {r:Ru} (h:∀ p∈r.lands,LnOk p) (lf:List (Int×Int)) (st:List St) (d:Int):0≤wgt r lf st d:=by
 unfold wgt
 split
 ·exact Int.le_refl _
 ·exact wt_nn h _
theorem wgt_out {r:Ru} {lf:List (Int×Int)} {st:List St} {d:Int} (h:landAt st d=none):wgt r lf st d=0:=by
 unfold wgt
 rw [h,wt_none]
 simp
theorem wgt_same {r:Ru} {lf:List (Int×Int)} {st st':List St} {d:Int} (h:landAt st d=landAt st' d):wgt r lf st d=wgt r lf st' d:=by
 unfold wgt
 rw [h]
theorem ws_same {f g:Int→Int}:∀ (n:Nat) (lo:Int),(∀ x,lo≤x→x < lo+n→f x=g x)→ws f lo n=ws g lo n
 | 0,_,_=>rfl
 | n+1,lo,h=>by
  rw [ws,ws,h lo (by omega) (by omega),ws_same n (lo+1) fun x h1 h2=>h x (by omega) (by omega)]
theorem ws_last {f:Int→Int}:∀ (n:Nat) (lo:Int),(ws f lo (n+1)).sum=(ws f lo n).sum+f (lo+n)
 | 0,lo=>by simp [ws]
 | n+1,lo=>by
  rw [ws,List.sum_cons,ws_last n (lo+1),ws,List.sum_cons,show lo+1+(n:Int)=lo+((n+1:Nat):Int) by omega]
  omega
theorem ws_zero {f:Int→Int}:∀ (n:Nat) (lo:Int),(∀ x,lo≤x→x < lo+n→f x=0)→(ws f lo n).sum=0
 | 0,_,_=>by simp [ws]
 | n+1,lo,h=>by
  rw [ws,List.sum_cons,h lo (by omega) (by omega),ws_zero n (lo+1) fun x h1 h2=>h x (by omega) (by omega)]
  rfl
theorem since_same {f g:Int→Int} {leave:Int}:∀ (n:Nat) (fi to em ba:Int),(∀ x,x≤ba→f x=g x)→sinceL f leave n fi to em ba=sinceL g leave n fi to em ba
 | 0,_,_,_,_,_=>rfl
 | n+1,fi,to,em,ba,h=>by
  unfold sinceL
  rw [h ba (Int.le_refl _),since_same n fi to (em+1) (ba - 1) fun x hx=>h x (by omega),since_same n ba (to+g ba) 0 (ba - 1) fun x hx=>h x (by omega)]
theorem since_up {f:Int→Int} (hf:∀ x,0≤f x) {leave:Int}:∀ (n:Nat) (fi to em ba:Int),to≤(sinceL f leave n fi to em ba).2
 | 0,_,_,_,_=>Int.le_refl _
 | n+1,fi,to,em,ba=>by
  unfold sinceL
  split
  ·split
   ·exact since_up hf n ..
   ·have:=since_up hf (leave:=leave) n ba (to+f ba) 0 (ba - 1)
    have:=hf ba
    omega
  ·exact Int.le_refl _
theorem since_mono {f:Int→Int} (hf:∀ x,0≤f x) {leave:Int}:∀ (n m:Nat) (fi fi' to em em' ba:Int),n≤m→em≤em'→(sinceL f leave n fi' to em' ba).2≤(sinceL f leave m fi to em ba).2
 | 0,m,fi,fi',to,em,em',ba,_,_=>since_up hf m ..
 | n+1,0,fi,fi',to,em,em',ba,h,_=>by omega
 | n+1,m+1,fi,fi',to,em,em',ba,h,he=>by
  by_cases h1:em' < leave
  ·have h2:em < leave:=by omega
   unfold sinceL
   rw [if_pos h1,if_pos h2]
   by_cases hz:f ba=0
   ·rw [if_pos hz,if_pos hz]
    exact since_mono hf n m fi fi' to (em+1) (em'+1) (ba - 1) (by omega) (by omega)
   ·rw [if_neg hz,if_neg hz]
    exact since_mono hf n m ba ba (to+f ba) 0 0 (ba - 1) (by omega) (Int.le_refl _)
  ·have e:(sinceL f leave (n+1) fi' to em' ba).2=to:=by unfold sinceL;rw [if_neg h1]
   rw [e]
   exact since_up hf (m+1) ..
theorem since_zero {f:Int→Int} {leave:Int}:∀ (n:Nat) (fi to em ba:Int),(∀ x,x≤ba→f x=0)→(sinceL f leave n fi to em ba).2=to
 | 0,_,_,_,_,_=>rfl
 | n+1,fi,to,em,ba,h=>by
  unfold sinceL
  rw [if_pos (h ba (Int.le_refl _))]
  split
  ·exact since_zero n fi to (em+1) (ba - 1) fun x hx=>h x (by omega)
  ·rfl
theorem since_first {f:Int→Int} {leave:Int}:∀ (n:Nat) (fi to em ba:Int),((sinceL f leave n fi to em ba).1=fi∧(sinceL f leave n fi to em ba).2=to)∨(sinceL f leave n fi to em ba).1≤ba
 | 0,_,_,_,_=>.inl ⟨rfl,rfl⟩
 | n+1,fi,to,em,ba=>by
  unfold sinceL
  split
  ·split
   ·rcases since_first (f:=f) (leave:=leave) n fi to (em+1) (ba - 1) with h | h
    ·exact .inl h
    ·exact .inr (by omega)
   ·rcases since_first (f:=f) (leave:=leave) n ba (to+f ba) 0 (ba - 1) with h | h
    ·exact .inr (by omega)
    ·exact .inr (by omega)
  ·exact .inl ⟨rfl,rfl⟩
section
variable {r:Ru} {f g:Int→Int} {d:Int}
theorem win_same (hd:1≤r.days) (h:∀ x,x≤d→f x=g x):win r f d=win r g d:=by
 unfold win
 rw [ws_same r.days.toNat (d - r.days+1) fun x _ h2=>h x (by omega),since_same 1000 (d+1) 0 0 d h]
theorem win_step (hd:1≤r.days) (hf:∀ x,0≤f x) (hz:f d=0):(win r f d).2≤(win r f (d - 1)).2:=by
 unfold win
 by_cases hk:r.kd.isW=true
 ·rw [if_pos hk,if_pos hk]
  obtain ⟨n,hn⟩:∃ n:Nat,r.days.toNat=n+1:=⟨r.days.toNat - 1,by omega⟩
  rw [hn]
  show (ws f (d - r.days+1) (n+1)).sum≤(ws f (d - 1 - r.days+1) (n+1)).sum
  rw [ws_last,show d - r.days+1+(n:Int)=d by omega,hz,ws,List.sum_cons,show d - 1 - r.days+1+1=d - r.days+1 by omega]
  have:=hf (d - 1 - r.days+1)
  omega
 ·rw [if_neg hk,if_neg hk]
  have e:sinceL f r.days 1000 (d+1) 0 0 d=sinceL f r.days 999 (d+1) 0 (0+1) (d - 1):=by
   show (if 0 < r.days then (if f d=0 then _ else _) else _)=_
   rw [if_pos (by omega),if_pos hz]
  rw [e]
  exact since_mono hf 999 1000 (d - 1+1) (d+1) 0 0 (0+1) (d - 1) (by omega) (by omega)
theorem win_zero (h:∀ x,x≤d→f x=0) (hd:1≤r.days):(win r f d).2=0:=by
 unfold win
 split
 ·exact ws_zero _ _ fun x _ h2=>h x (by omega)
 ·exact since_zero 1000 _ _ _ _ h
theorem win_first (hd:1≤r.days) (h:0 < (win r f d).2):(win r f d).1≤d:=by
 unfold win at h ⊢
 split at h
 ·rename_i hk
  rw [if_pos hk]
  show d - r.days+1≤d
  omega
 ·rename_i hk
  rw [if_neg hk]
  rcases since_first (f:=f) (leave:=r.days) 1000 (d+1) 0 0 d with e | e
  ·rw [e.2] at h;omega
  ·exact e
end
theorem fltDay_some {st:List St} {d:Int}:∀ {i:Nat} {rs:List Rl} {z:Int×Int×Int},fltDay st d i rs=some z→z.1=d∧∃ (j:Nat) (x:Rl),rs[j]?=some x∧z.2.1=((i+j:Nat):Int)∧x.1.most < (win x.1 (wgt x.1 x.2 st) d).2∧z.2.2=(win x.1 (wgt x.1 x.2 st) d).1
 | _,[],_,h=>by cases h
 | i,x::l,z,h=>by
  unfold fltDay at h
  split at h
  ·rename_i hc
   cases h
   exact ⟨rfl,0,x,rfl,by simp,hc,rfl⟩
  ·obtain ⟨h1,j,y,h2,h3,h4,h5⟩:=fltDay_some h
   exact ⟨h1,j+1,y,by simpa using h2,by rw [h3];omega,h4,h5⟩
theorem fltDay_none {st:List St} {d:Int}:∀ {i:Nat} {rs:List Rl},fltDay st d i rs=none↔∀ x∈rs,(win x.1 (wgt x.1 x.2 st) d).2≤x.1.most
 | _,[]=>by simp [fltDay]
 | i,x::l=>by
  unfold fltDay
  by_cases hc:x.1.most < (win x.1 (wgt x.1 x.2 st) d).2
  ·rw [if_pos hc]
   constructor
   ·intro h;cases h
   ·intro h
    have:=h x (by simp)
    omega
  ·rw [if_neg hc,fltDay_none]
   constructor
   ·intro h y hy
    rcases List.mem_cons.mp hy with rfl | hy
    ·omega
    ·exact h y hy
   ·exact fun h y hy=>h y (by simp [hy])
theorem fltDay_same {st st':List St} {d:Int} (h:∀ x,x≤d→landAt st x=landAt st' x):∀ {i:Nat} {rs:List Rl},(∀ x∈rs,1≤x.1.days)→fltDay st d i rs=fltDay st' d i rs
 | _,[],_=>rfl
 | i,x::l,hd=>by
  unfold fltDay
  have e:win x.1 (wgt x.1 x.2 st) d=win x.1 (wgt x.1 x.2 st') d:=win_same (hd x (by simp)) fun y hy=>wgt_same (h y hy)
  rw [e,fltDay_same h fun y hy=>hd y (by simp [hy])]
noncomputable def IsF (st:List St) (rs:List Rl) (z:Int×Int×Int):Prop:=fltDay st z.1 0 rs=some z∧∀ d,d < z.1→fltDay st d 0 rs=none
noncomputable def NoF (st:List St) (rs:List Rl):Prop:=∀ d,fltDay st d 0 rs=none
theorem flt_some {st:List St} {rs:List Rl}:∀ {n:Nat} {lo:Int} {z:Int×Int×Int},flt st rs lo n=some z→lo≤z.1∧z.1 < lo+n∧fltDay st z.1 0 rs=some z∧∀ d,lo≤d→d < z.1→fltDay st d 0 rs=none
 | 0,_,_,h=>by cases h
 | n+1,lo,z,h=>by
  unfold flt at h
  cases e:fltDay st lo 0 rs with
  | some y=>
   rw [e] at h
   cases h
   have:=(fltDay_some e).1
   rw [this]
   exact ⟨Int.le_refl _,by omega,e,fun d h1 h2=>by omega⟩
  | none=>
   rw [e] at h
   obtain ⟨h1,h2,h3,h4⟩:=flt_some h
   refine ⟨by omega,by omega,h3,fun d q1 q2=>?_⟩
   by_cases q:d=lo
   ·rw [q];exact e
   ·exact h4 d (by omega) q2
theorem flt_none {st:List St} {rs:List Rl}:∀ {n:Nat} {lo:Int},flt st rs lo n=none→∀ d,lo≤d→d < lo+n→fltDay st d 0 rs=none
 | 0,lo,_,d,h1,h2=>by omega
 | n+1,lo,h,d,h1,h2=>by
  unfold flt at h
  cases e:fltDay st lo 0 rs with
  | some y=>rw [e] at h;cases h
  | none=>
   rw [e] at h
   by_cases q:d=lo
   ·rw [q];exact e
   ·exact flt_none h d (by omega) (by omega)
noncomputable def RlsOk (rs:List Rl):Prop:=∀ x∈rs,1≤x.1.days∧0≤x.1.most∧∀ p∈x.1.lands,LnOk p
theorem flt_low {st:List St} {rs:List Rl} (hr:RlsOk rs) {d:Int} (h:∀ x,x≤d→landAt st x=none):fltDay st d 0 rs=none:=by
 rw [fltDay_none]
 intro x hx
 rw [win_zero (fun y hy=>wgt_out (h y hy)) (hr x hx).1]
 exact (hr x hx).2.1
theorem flt_step {st:List St} {rs:List Rl} (hr:RlsOk rs) {d:Int} (h:landAt st d=none) (h':fltDay st (d - 1) 0 rs=none):fltDay st d 0 rs=none:=by
 rw [fltDay_none] at h' ⊢
 intro x hx
 have:=h' x hx
 have:=win_step (r:=x.1) (d:=d) (hr x hx).1 (fun y=>wgt_nn (hr x hx).2.2 x.2 st y) (wgt_out h)
 omega
theorem noF_of {st:List St} {rs:List Rl} (hr:RlsOk rs) {D:Int} (h1:∀ d,d≤D→fltDay st d 0 rs=none) (h2:∀ d,D < d→landAt st d=none):NoF st rs:=by
 have key:∀ n:Nat,fltDay st (D+n) 0 rs=none:=by
  intro n
  induction n with
  | zero=>exact h1 _ (by omega)
  | succ n ih=>
   refine flt_step hr (h2 _ (by omega)) ?_
   rw [show D+((n+1:Nat):Int) - 1=D+n by omega]
   exact ih
 intro d
 by_cases q:d≤D
 ·exact h1 d q
 ·have:=key (d - D).toNat
  rwa [show D+((d - D).toNat:Int)=d by omega] at this
theorem landAt_none {st:List St} {d:Int}:landAt st d=none↔∀ s∈st,¬ (s.2.1≤d∧d≤s.2.2):=by
 induction st with
 | nil=>simp [landAt]
 | cons s l ih=>
  unfold landAt
  by_cases hc:s.2.1≤d∧d≤s.2.2
  ·rw [if_pos hc]
   constructor
   ·intro h;cases h
   ·intro h;exact absurd hc (h s (by simp))
  ·rw [if_neg hc,ih]
   constructor
   ·intro h t ht
    rcases List.mem_cons.mp ht with rfl | ht
    ·exact hc
    ·exact h t ht
   ·exact fun h t ht=>h t (by simp [ht])
theorem Ch.lo:∀ {l:List St} {e:Int},Ch e l→∀ t∈l,e < t.2.1∧t.2.1≤t.2.2
 | [],_,_,t,ht=>by cases ht
 | u::r,e,h,t,ht=>by
  rcases List.mem_cons.mp ht with rfl | ht
  ·exact ⟨h.1.lo,h.1.ab⟩
  ·have:=Ch.lo h.2 t ht
   have:=h.1.lo
   have:=h.1.ab
   exact ⟨by omega,by omega⟩
theorem Ch.low {s:St} {l:List St} {e:Int} (h:Ch e (s::l)):∀ t∈s::l,s.2.1≤t.2.1:=by
 intro t ht
 rcases List.mem_cons.mp ht with rfl | ht
 ·exact Int.le_refl _
 ·have:=(Ch.lo h.2 t ht).1
  have:=h.1.ab
  omega
theorem Ch.high:∀ {l:List St} {e:Int},Ch e l→∀ t∈l,t.2.2≤lstD l
 | [],_,_,t,ht=>by cases ht
 | [u],e,h,t,ht=>by
  rw [List.mem_singleton.mp ht]
  exact Int.le_refl _
 | u::v::r,e,h,t,ht=>by
  have el:lstD (u::v::r)=lstD (v::r):=by unfold lstD;rw [List.getLast?_cons_cons]
  rw [el]
  rcases List.mem_cons.mp ht with rfl | ht
  ·have:=Ch.high h.2 v (by simp)
   have:=h.2.1.lo
   have:=h.2.1.ab
   omega
  ·exact Ch.high h.2 t ht
theorem fault_spec {rs:List Ru} {ps:List Pa} {st:List St} {e:Int} (hc:Ch e st) (hr:RlsOk (rlF ps 0 rs)):(∀ z,faultOf rs ps st=some z→IsF st (rlF ps 0 rs) z)∧(faultOf rs ps st=none→NoF st (rlF ps 0 rs)):=by
 cases st with
 | nil=>
  refine ⟨fun z h=>(by cases h),fun _ d=>flt_low hr fun x _=>rfl⟩
 | cons s l=>
  have low:∀ d,d < s.2.1→fltDay (s::l) d 0 (rlF ps 0 rs)=none:=fun d hd=>flt_low hr fun x hx=>by
   rw [landAt_none]
   intro t ht
   have:=Ch.low hc t ht
   omega
  refine ⟨fun z h=>?_,fun h=>?_⟩
  ·obtain ⟨h1,h2,h3,h4⟩:=flt_some h
   exact ⟨h3,fun d hd=>by
    by_cases q:d < s.2.1
    ·exact low d q
    ·exact h4 d (by omega) hd⟩
  ·have hn:=flt_none h
   refine noF_of hr (D:=lstD (s::l)) (fun d hd=>?_) fun d hd=>?_
   ·by_cases q:d < s.2.1
    ·exact low d q
    ·exact hn d (by omega) (by omega)
   ·rw [landAt_none]
    intro t ht
    have:=Ch.high hc t ht
    omega
theorem isF_unique {st:List St} {rs:List Rl} {z z':Int×Int×Int} (h:IsF st rs z) (h':IsF st rs z'):z=z':=by
 have e:z.1=z'.1:=by
  rcases Int.lt_trichotomy z.1 z'.1 with q | q | q
  ·have:=h'.2 _ q;rw [h.1] at this;cases this
  ·exact q
  ·have:=h.2 _ q;rw [h'.1] at this;cases this
 have a:=h.1
 rw [e,h'.1] at a
 exact (Option.some.inj a).symm
theorem fault_is {rs:List Ru} {ps:List Pa} {st:List St} {e:Int} (hc:Ch e st) (hr:RlsOk (rlF ps 0 rs)) {z:Int×Int×Int} (h:IsF st (rlF ps 0 rs) z):faultOf rs ps st=some z:=by
 have sp:=fault_spec hc hr
 cases q:faultOf rs ps st with
 | none=>have:=sp.2 q z.1;rw [h.1] at this;cases this
 | some z'=>rw [isF_unique (sp.1 z' q) h]
theorem fault_no {rs:List Ru} {ps:List Pa} {st:List St} {e:Int} (hc:Ch e st) (hr:RlsOk (rlF ps 0 rs)) (h:NoF st (rlF ps 0 rs)):faultOf rs ps st=none:=by
 have sp:=fault_spec hc hr
 cases q:faultOf rs ps st with
 | none=>rfl
 | some z'=>have:=(sp.1 z' q).1;rw [h] at this;cases this
theorem isF_same {st st':List St} {rs:List Rl} (hr:RlsOk rs) {z:Int×Int×Int} (h:∀ x,x≤z.1→landAt st x=landAt st' x) (hz:IsF st rs z):IsF st' rs z:=by
 have hd:∀ x∈rs,1≤x.1.days:=fun x hx=>(hr x hx).1
 exact ⟨by rw [←fltDay_same h hd];exact hz.1,fun d hd'=>by rw [←fltDay_same (fun x hx=>h x (by omega)) hd];exact hz.2 d hd'⟩
end DG
set_option maxHeartbeats 4000000
namespace FA
open PySem DE DG Dy
open L2 hiding St
open LC LN LR LM LP LS RU
theorem cut_map (ns:List Int) (a b:Nat):∃ ms:List Int,cutD (ns.map D.int) (some (a:Int)) (some (b:Int))=ms.map D.int∧ms.length≤b - a:=by
 refine ⟨(ns.drop (min a ns.length)).take (min b ns.length - min a ns.length),?_,?_⟩
 ·unfold cutD
  rw [HT.sIx_nat,HT.sIx_nat,List.length_map,List.map_take,List.map_drop]
 ·rw [List.length_take,List.length_drop]
  omega
noncomputable def eRule:E:=.call "_law_rule" (.cons (.var 0) (.cons (.var 1) .nil))
noncomputable def ePaper:E:=.call "_law_paper" (.cons (.var 0) (.cons (.b1 .len (.var 2)) (.cons (.var 1) .nil)))
noncomputable def eMade:E:=.call "_law_made" (.cons (.var 0) .nil)
theorem rules_comp {pg:Pg} [LR pg] (k:Nat) (zs:List Str) (hz:NamesOk zs):∀ (cs:List Int) (acc:List D) (s0:Sl),acc.length+cs.length < 10000→∃ rs:List Ru,(∀ r∈rs,RuOk r)∧rs.length=cs.length∧
  compD (pg.kk (k+1)) eRule (.one 0) .yes (cs.map D.int) [s0,.bor (zs.map D.str)] acc=.ok (acc++rs.map ruD)
 | [],acc,s0,_=>⟨[],fun r h=>(by cases h),rfl,by simp [compD_nil]⟩
 | c::cs,acc,s0,hl=>by
  rw [List.length_cons] at hl
  obtain ⟨r,h1,h2⟩:=rule_ok (pg:=pg) k c zs hz
  obtain ⟨rs,i1,i2,i3⟩:=rules_comp (pg:=pg) k zs hz cs (acc++[ruD r]) (.val (.int c)) (by simp;omega)
  refine ⟨r::rs,fun x hx=>?_,by simp [i2],?_⟩
  ·rcases List.mem_cons.mp hx with rfl | hx
   ·exact h1
   ·exact i1 x hx
  ·have hs:acc.length < sizeLine:=size_lt (by omega)
   simp only [List.append_assoc,List.cons_append,List.nil_append] at i3
   refine (th_ret _).symm.trans ?_
   rw [List.map_cons,List.map_cons]
   unfold eRule at i3 ⊢
   simp? only [h2,hs,i3]
theorem papers_comp {pg:Pg} [LP pg] (k:Nat) (start:Int) (rs:List D) (hr:0 < rs.length):∀ (cs:List Int) (acc:List D) (s0:Sl),acc.length+cs.length < 10000→∃ ps:List Pa,(∀ p∈ps,PaOk rs.length start p)∧ps.length=cs.length∧
  compD (pg.kk (k+1)) ePaper (.one 0) .yes (cs.map D.int) [s0,.val (.int start),.bor rs] acc=.ok (acc++ps.map paD)
 | [],acc,s0,_=>⟨[],fun r h=>(by cases h),rfl,by simp [compD_nil]⟩
 | c::cs,acc,s0,hl=>by
  rw [List.length_cons] at hl
  obtain ⟨p,h1,h2⟩:=paper_ok (pg:=pg) k c rs.length start (by omega)
  obtain ⟨ps,i1,i2,i3⟩:=papers_comp (pg:=pg) k start rs hr cs (acc++[paD p]) (.val (.int c)) (by simp;omega)
  refine ⟨p::ps,fun x hx=>?_,by simp [i2],?_⟩
  ·rcases List.mem_cons.mp hx with rfl | hx
   ·exact h1
   ·exact i1 x hx
  ·have hs:acc.length < sizeLine:=size_lt (by omega)
   simp only [List.append_assoc,List.cons_append,List.nil_append] at i3
   refine (th_ret _).symm.trans ?_
   rw [List.map_cons,List.map_cons]
   unfold ePaper at i3 ⊢
   simp? only [h2,hs,i3]
theorem made_comp {pg:Pg} [RU pg] [LM pg] (k:Nat):∀ (rs:List Ru) (acc:List D) (s0:Sl),acc.length+rs.length < 10000→(∀ r∈rs,RuOk r)→
  compD (pg.kk (k+13)) eMade (.one 0) .yes (rs.map ruD) [s0] acc=.ok (acc++rs.map ruI)
 | [],acc,s0,_,_=>by simp [compD_nil]
 | r::rs,acc,s0,hl,h=>by
  rw [List.length_cons] at hl
  have h2:=made_ok (pg:=pg) k r (h r (by simp))
  have i3:=made_comp (pg:=pg) k rs (acc++[ruI r]) (.val (ruD r)) (by simp;omega) fun x hx=>h x (by simp [hx])
  have hs:acc.length < sizeLine:=size_lt (by omega)
  simp only [List.append_assoc,List.cons_append,List.nil_append] at i3
  refine (th_ret _).symm.trans ?_
  rw [List.map_cons,List.map_cons]
  unfold eMade at i3 ⊢
  simp? only [h2,hs,i3]
end FA
namespace DG
open PySem DE FA Dy
open L2 hiding St
theorem ruI_rule (r:Ru):ruleD (ruI r)=true:=by
 obtain ⟨kd,l,m,d⟩:=r
 cases kd<;>rfl
theorem book_ok {pg:Pg} [RU pg] (k:Nat) (b c:Bool) (rs:List Ru) (ps:List Pa) (hr:rs.length≤8) (hp:ps.length≤12) (h:∀ p∈ps,0≤p.1∧p.1 < rs.length∧0≤p.2.1∧p.2.1≤p.2.2∧p.2.2≤1000000000) :
  pg.nw (k+12) "Book" [aL b (rs.map ruI),aL c (ps.map paD)]=.ok (.val (bkI rs ps)):=by
 have e:∀ (b:Bool) (l:List D),arL (aL b l)=some l:=fun b l=>by cases b<;>rfl
 have h1:((decide ((rs.map ruI).length≤8)&&(rs.map ruI).all ruleD)&&(decide ((ps.map paD).length≤12)&&(ps.map paD).all (paperD (rs.map ruI).length)))=true:=by
  simp only [List.length_map,Bool.and_eq_true,decide_eq_true_eq,List.all_eq_true,List.mem_map]
  refine ⟨⟨hr,fun x ⟨r,_,hx⟩=>by rw [←hx];exact ruI_rule r⟩,hp,fun x ⟨p,hm,hx⟩=>?_⟩
  obtain ⟨q1,q2,q3,q4,q5⟩:=h p hm
  rw [←hx]
  show (btw p.1 0 ((rs.length:Int) - 1)&&btw p.2.1 0 1000000000&&btw p.2.2 0 1000000000&&decide (p.2.1≤p.2.2))=true
  unfold btw
  simp only [Bool.and_eq_true,decide_eq_true_eq]
  omega
 rw [RU.nw]
 show (if k+12 < 12 then R.no else ofGo "Book" (match arL (aL b (rs.map ruI)),arL (aL c (ps.map paD)) with
  | some l,some ps=>if ((decide (l.length≤8)&&l.all ruleD)&&(decide (ps.length≤12)&&ps.all (paperD l.length)))=true then some [("kept_rules",D.lst l),("kept_papers",D.lst ps)] else none
  | _,_=>none))=_
 rw [if_neg (by omega),e,e]
 dsimp only
 rw [if_pos h1]
 rfl
structure StRight (st:List St):Prop where
 ch:Ch (-1) st
 nm:∀ s∈st,NameOk s.1
 len:st.length≤60
 wide:lstD st≤fstD st+500
theorem Ch.weak {l:List St} {e e':Int} (h:e'≤e) (hc:Ch e l):Ch e' l:=by
 cases l with
 | nil=>trivial
 | cons s l=>exact ⟨⟨hc.1.nm,by have:=hc.1.lo;omega,hc.1.ab,hc.1.hi⟩,hc.2⟩
theorem Ch.top:∀ {l:List St} {e:Int},Ch e l→∀ t∈l,t.2.2≤1000000000
 | [],_,_,t,ht=>by cases ht
 | u::r,e,h,t,ht=>by
  rcases List.mem_cons.mp ht with rfl | ht
  ·exact h.1.hi
  ·exact Ch.top h.2 t ht
theorem StRight.bounds {st:List St} (h:StRight st):0≤fstD st∧fstD st≤lstD st+1∧lstD st≤1000000000:=by
 cases st with
 | nil=>decide
 | cons s l=>
  have hc:=h.ch
  have h1:=hc.1.lo
  have h2:=hc.1.ab
  have h3:=Ch.high hc s (by simp)
  obtain ⟨t,ht⟩:∃ t,(s::l).getLast?=some t:=⟨_,List.getLast?_eq_some_getLast (by simp)⟩
  have h4:=Ch.top hc t (List.mem_of_getLast? ht)
  have e:lstD (s::l)=t.2.2:=by unfold lstD;rw [ht]
  show 0≤s.2.1∧s.2.1≤_∧_
  rw [e] at h3 ⊢
  omega
theorem wgt_low {r:Ru} {lf:List (Int×Int)} {st:List St} (h:StRight st):∀ x,x < fstD st→wgt r lf st x=0:=by
 intro x hx
 refine wgt_out ?_
 rw [landAt_none]
 intro t ht
 cases st with
 | nil=>cases ht
 | cons s l=>
  have:=Ch.low h.ch t ht
  have:fstD (s::l)=s.2.1:=rfl
  omega
theorem win_right {r:Ru} {lf:List (Int×Int)} {st:List St} (h:StRight st) (h1:1≤r.days) (h2:r.days≤40) {d:Int} (hd0:-1000≤d) (hd:d≤fstD st+600):WinOk r (wgt r lf st) d:=by
 have:=h.bounds
 refine ⟨by omega,by omega,h1,by omega,fun _=>⟨fstD st,wgt_low h,by omega,by omega⟩⟩
structure BkOk (rs:List Ru) (ps:List Pa):Prop where
 r:∀ r∈rs,RuOk r
 nr:rs.length≤8
 np:ps.length≤12
theorem BkOk.rls {rs:List Ru} {ps:List Pa} (h:BkOk rs ps):RlsOk (rlF ps 0 rs):=by
 intro x hx
 obtain ⟨j,e,_⟩:=rlF_mem hx
 have:=h.r x.1 (List.mem_of_getElem? e)
 exact ⟨this.d0,this.m0,this.ok⟩
section
variable {pg:Pg} [CH pg] [ST pg] [RU pg] [BO pg] [SP pg] [HO pg] [LA pg] [WE pg] [CO pg] [FB pg]
theorem fault_run (k:Nat) (b:Bool) {rs:List Ru} {ps:List Pa} (hb:BkOk rs ps) {st:List St} (hs:StRight st):clK pg (k+6) "fault_by_days" [.val (bkI rs ps),aL b (st.map stD)]=.ok (.val (fltV (faultOf rs ps st))):=by
 have:=hs.bounds
 have:=hb.np
 have:=hb.nr
 refine faultby_ok k b rs ps (by omega) (by omega) (fun r hr=>(hb.r r hr).ok) st hs.nm hs.ch hs.len (fun x hx d h1 h2=>?_) (by omega)
 obtain ⟨j,e,_⟩:=rlF_mem hx
 have q:=hb.r x.1 (List.mem_of_getElem? e)
 have:=hs.wide
 exact win_right hs q.d0 q.d1 (by omega) (by omega)
end
section
variable {pg:Pg} [CH pg] [ST pg] [RU pg] [BO pg] [SP pg] [HO pg] [LA pg] [WE pg] [CO pg] [CB pg]
theorem count_run (k:Nat) (b:Bool) {rs:List Ru} {ps:List Pa} (hb:BkOk rs ps) {st:List St} (hs:StRight st) {n:Nat} {r:Ru} (hn:rs[n]?=some r) {d:Int} (hd0:-1000≤d) (hd:d≤fstD st+600):clK pg (k+6) "count_by_days" [.val (bkI rs ps),.val (.int n),aL b (st.map stD),.val (.int d)]=.ok (.val (.int (win r (wgt r (lift n ps) st) d).2)):=by
 have q:=hb.r r (List.mem_of_getElem? hn)
 have:=hb.np
 exact countby_ok k b rs ps (by omega) n r hn q.ok st hs.nm hs.ch hs.len d (win_right hs q.d0 q.d1 hd0 hd)
end
section
variable {pg:Pg} [CH pg] [ST pg] [RU pg] [BO pg] [SP pg] [HO pg] [LA pg] [WE pg] [WO pg]
theorem weight_run (k:Nat) (b:Bool) {rs:List Ru} {ps:List Pa} (hb:BkOk rs ps) {st:List St} (hs:StRight st) {n:Nat} {r:Ru} (hn:rs[n]?=some r) (d:Int):clK pg (k+6) "weight_on" [.val (bkI rs ps),.val (.int n),aL b (st.map stD),.val (.int d)]=.ok (.val (.int (wgt r (lift n ps) st d))):=by
 have q:=hb.r r (List.mem_of_getElem? hn)
 have:=hb.np
 exact weighton_ok k b rs ps (by omega) n r hn q.ok st hs.nm hs.ch hs.len d
end
end DG
set_option maxHeartbeats 4000000
namespace K25
open PySem L2 DE DG FA
noncomputable def top (i:Nat):Stmt:=PySem.Challenge.pw_daysgate_k25_whole_what_comes_later.main.body.getD i (.Pass ⟨0,0,0,0⟩)
noncomputable def mem (i j:Nat):Stmt:=(clsBody (top i)).getD j (.Pass ⟨0,0,0,0⟩)
noncomputable def pg:Pg:={ defs:=[(("spread" : Str),top 2),(("holds" : Str),top 3),(("is_whole" : Str),top 8),(("is_between" : Str),top 9),(("are_days" : Str),top 10),(("is_made_of" : Str),top 11),(("is_name" : Str),top 12),(("is_land" : Str),top 21),(("are_lands" : Str),top 22),(("is_stay" : Str),top 29),(("stays_of" : Str),top 30),(("land_among" : Str),top 31),(("weigh" : Str),top 33),(("count_within" : Str),top 34),(("count_since" : Str),top 35),(("window_by_days" : Str),top 36),(("weight_on" : Str),top 37),(("count_by_days" : Str),top 38),(("fault_by_days" : Str),top 39),(("are_rules" : Str),top 43),(("is_paper" : Str),top 44),(("check_papers" : Str),top 45),(("_law_cell_at" : Str),top 48),(("_law_lands" : Str),top 49),(("_law_rule" : Str),top 50),(("_law_made" : Str),top 51),(("_law_paper" : Str),top 52),(("_law_stays" : Str),top 53),(("_law_cut" : Str),top 54),(("law" : Str),top 55)],gl:=fun x=>if x = "GREATEST" then some (.int 1000000000) else if x = "LETTERS" then some (.str "abcdefghijklmnopqrstuvwxyz") else if x = "LONGEST_NAME" then some (.int 8) else if x = "MOST_LANDS" then some (.int 6) else if x = "GREATEST_WEIGHT" then some (.int 9) else if x = "MOST_STAYS" then some (.int 60) else if x = "MOST_RULES" then some (.int 8) else if x = "MOST_PAPERS" then some (.int 12) else none,m:=40,w:=1000,meths:=[("Rule.weight",mem 23 1),("Book.rules",mem 46 1),("Book.papers",mem 46 2),("Book.lifted",mem 46 3)],cs:=pcs,nw:=pnw }
instance:DG.CH pg:=⟨fun k args=>run_of (pg:=pg) (st:=top 8) (by kernel_rfl) (fun k cl=>by kernel_rfl) k args,fun k args=>run_of (pg:=pg) (st:=top 9) (by kernel_rfl) (fun k cl=>by kernel_rfl) k args,fun k args=>run_of (pg:=pg) (st:=top 10) (by kernel_rfl) (fun k cl=>by kernel_rfl) k args,fun k args=>run_of (pg:=pg) (st:=top 11) (by kernel_rfl) (fun k cl=>by kernel_rfl) k args,fun k args=>run_of (pg:=pg) (st:=top 12) (by kernel_rfl) (fun k cl=>by kernel_rfl) k args⟩
instance:DG.ST pg:=⟨fun k args=>run_of (pg:=pg) (st:=top 29) (by kernel_rfl) (fun k cl=>by kernel_rfl) k args,fun k args=>run_of (pg:=pg) (st:=top 30) (by kernel_rfl) (fun k cl=>by kernel_rfl) k args⟩
instance:DG.LA pg:=⟨fun k args=>run_of (pg:=pg) (st:=top 31) (by kernel_rfl) (fun k cl=>by kernel_rfl) k args⟩
instance:DG.SP pg:=⟨fun k args=>run_of (pg:=pg) (st:=top 2) (by kernel_rfl) (fun k cl=>by kernel_rfl) k args⟩
instance:DG.HO pg:=⟨fun k args=>run_of (pg:=pg) (st:=top 3) (by kernel_rfl) (fun k cl=>by kernel_rfl) k args⟩
instance:DG.RU pg:=⟨rfl,rfl,fun k args=>run_of (pg:=pg) (st:=top 21) (by kernel_rfl) (fun k cl=>by kernel_rfl) k args,fun k args=>run_of (pg:=pg) (st:=top 22) (by kernel_rfl) (fun k cl=>by kernel_rfl) k args,fun k args=>run_of (pg:=pg) (st:=mem 23 1) (by kernel_rfl) (fun k cl=>by kernel_rfl) k args⟩
instance:DG.BO pg:=⟨fun k args=>run_of (pg:=pg) (st:=top 43) (by kernel_rfl) (fun k cl=>by kernel_rfl) k args,fun k args=>run_of (pg:=pg) (st:=top 44) (by kernel_rfl) (fun k cl=>by kernel_rfl) k args,fun k args=>run_of (pg:=pg) (st:=top 45) (by kernel_rfl) (fun k cl=>by kernel_rfl) k args,fun k args=>run_of (pg:=pg) (st:=mem 46 1) (by kernel_rfl) (fun k cl=>by kernel_rfl) k args,fun k args=>run_of (pg:=pg) (st:=mem 46 2) (by kernel_rfl) (fun k cl=>by kernel_rfl) k args,fun k args=>run_of (pg:=pg) (st:=mem 46 3) (by kernel_rfl) (fun k cl=>by kernel_rfl) k args⟩
instance:DG.WE pg:=⟨fun k args=>run_of (pg:=pg) (st:=top 33) (by kernel_rfl) (fun k cl=>by kernel_rfl) k args⟩
instance:DG.WO pg:=⟨fun k args=>run_of (pg:=pg) (st:=top 37) (by kernel_rfl) (fun k cl=>by kernel_rfl) k args⟩
instance:DG.CO pg:=⟨fun k args=>run_of (pg:=pg) (st:=top 34) (by kernel_rfl) (fun k cl=>by kernel_rfl) k args,fun k args=>run_of (pg:=pg) (st:=top 35) (by kernel_rfl) (fun k cl=>by kernel_rfl) k args,fun k args=>run_of (pg:=pg) (st:=top 36) (by kernel_rfl) (fun k cl=>by kernel_rfl) k args⟩
instance:DG.CB pg:=⟨fun k args=>run_of (pg:=pg) (st:=top 38) (by kernel_rfl) (fun k cl=>by kernel_rfl) k args⟩
instance:DG.FB pg:=⟨fun k args=>run_of (pg:=pg) (st:=top 39) (by kernel_rfl) (fun k cl=>by kernel_rfl) k args⟩
instance:FA.LC pg:=⟨fun k args=>run_of (pg:=pg) (st:=top 48) (by kernel_rfl) (fun k cl=>by kernel_rfl) k args⟩
instance:FA.LN pg:=⟨fun k args=>run_of (pg:=pg) (st:=top 49) (by kernel_rfl) (fun k cl=>by kernel_rfl) k args⟩
instance:FA.LR pg:=⟨fun k args=>run_of (pg:=pg) (st:=top 50) (by kernel_rfl) (fun k cl=>by kernel_rfl) k args⟩
instance:FA.LM pg:=⟨fun k args=>run_of (pg:=pg) (st:=top 51) (by kernel_rfl) (fun k cl=>by kernel_rfl) k args⟩
instance:FA.LP pg:=⟨fun k args=>run_of (pg:=pg) (st:=top 52) (by kernel_rfl) (fun k cl=>by kernel_rfl) k args⟩
instance:FA.LS pg:=⟨fun k args=>run_of (pg:=pg) (st:=top 53) (by kernel_rfl) (fun k cl=>by kernel_rfl) k args⟩
noncomputable def b__law_cut_0:Ss:=(Ss.cons (S.ite (T.cmp CmpOp.LtE (E.var 4) (E.var 1)) (Ss.cons (S.app 2 (E.tup (Es.cons (E.var 3) (Es.cons (E.var 4) (Es.cons (E.b2 B2.min (E.var 5) (E.var 1)) Es.nil))))) Ss.nil) Ss.nil) Ss.nil)
theorem u_b__law_cut_0 {β:Type} (cl:Cl) (w:Nat) (ρ:DE.Env) (K:Fl→R β):(iSs cl w b__law_cut_0 ρ).th K=(iSs cl w (Ss.cons (S.ite (T.cmp CmpOp.LtE (E.var 4) (E.var 1)) (Ss.cons (S.app 2 (E.tup (Es.cons (E.var 3) (Es.cons (E.var 4) (Es.cons (E.b2 B2.min (E.var 5) (E.var 1)) Es.nil))))) Ss.nil) Ss.nil) Ss.nil) ρ).th K:=(rfl)
noncomputable def c__law_cut:Nat×Nat×Ss:=(2,6,(Ss.cons (S.set 2 (E.lst Es.nil)) (Ss.cons (S.for_ (Tg.many [3,4,5]) (I.seq (E.var 0)) b__law_cut_0) (Ss.cons (S.ret (E.var 2)) Ss.nil))))
theorem r__law_cut (k:Nat) (args:List Ar):clK pg (k+1) "_law_cut" args=runD (pg.kk k) 1000 c__law_cut args:=run_of (pg:=pg) (st:=top 54) (by kernel_rfl) (fun k cl=>by kernel_rfl) k args
noncomputable def e_law_0:E:=(E.call "_law_rule" (Es.cons (E.var 0) (Es.cons (E.var 1) Es.nil)))
noncomputable def e_law_1:E:=(E.call "_law_paper" (Es.cons (E.var 0) (Es.cons (E.b1 B1.len (E.var 2)) (Es.cons (E.var 1) Es.nil))))
noncomputable def e_law_2:E:=(E.call "_law_made" (Es.cons (E.var 0) Es.nil))
noncomputable def b_law_0:Ss:=(Ss.cons (S.ite (T.cmp CmpOp.Gt (E.call "count_by_days" (Es.cons (E.var 7) (Es.cons (E.var 10) (Es.cons (E.var 5) (Es.cons (E.idx (E.idx (E.var 5) (E.var 9)) (E.con (D.int 2))) Es.nil))))) (E.idx (E.var 6) (E.con (D.int 2)))) (Ss.cons (S.ret (E.con (D.bl false))) Ss.nil) Ss.nil) Ss.nil)
theorem u_b_law_0 {β:Type} (cl:Cl) (w:Nat) (ρ:DE.Env) (K:Fl→R β):(iSs cl w b_law_0 ρ).th K=(iSs cl w (Ss.cons (S.ite (T.cmp CmpOp.Gt (E.call "count_by_days" (Es.cons (E.var 7) (Es.cons (E.var 10) (Es.cons (E.var 5) (Es.cons (E.idx (E.idx (E.var 5) (E.var 9)) (E.con (D.int 2))) Es.nil))))) (E.idx (E.var 6) (E.con (D.int 2)))) (Ss.cons (S.ret (E.con (D.bl false))) Ss.nil) Ss.nil) Ss.nil) ρ).th K:=(rfl)
noncomputable def b_law_1:Ss:=(Ss.cons (S.ite (T.cmp CmpOp.IsNot (E.call "fault_by_days" (Es.cons (E.var 7) (Es.cons (E.sli (E.var 5) O.none (O.some (E.var 9))) Es.nil))) (E.con D.non)) (Ss.cons (S.ret (E.con (D.bl false))) Ss.nil) Ss.nil) (Ss.cons (S.for_ (Tg.many [10,6]) (I.enum (E.var 3)) b_law_0) Ss.nil))
theorem u_b_law_1 {β:Type} (cl:Cl) (w:Nat) (ρ:DE.Env) (K:Fl→R β):(iSs cl w b_law_1 ρ).th K=(iSs cl w (Ss.cons (S.ite (T.cmp CmpOp.IsNot (E.call "fault_by_days" (Es.cons (E.var 7) (Es.cons (E.sli (E.var 5) O.none (O.some (E.var 9))) Es.nil))) (E.con D.non)) (Ss.cons (S.ret (E.con (D.bl false))) Ss.nil) Ss.nil) (Ss.cons (S.for_ (Tg.many [10,6]) (I.enum (E.var 3)) b_law_0) Ss.nil)) ρ).th K:=(rfl)
noncomputable def b_law_2:Ss:=(Ss.cons (S.set 13 (E.var 8)) (Ss.cons (S.ite (T.or (T.cmp CmpOp.Eq (E.var 9) (E.con (D.int 0))) (T.one (T.cmp CmpOp.Lt (E.idx (E.idx (E.var 5) (E.bin Operator.Sub (E.var 9) (E.con (D.int 1)))) (E.con (D.int 2))) (E.var 11)))) (Ss.cons (S.set 13 (E.con D.non)) Ss.nil) Ss.nil) (Ss.cons (S.ite (T.cmp CmpOp.NotEq (E.call "fault_by_days" (Es.cons (E.var 7) (Es.cons (E.sli (E.var 5) O.none (O.some (E.var 9))) Es.nil))) (E.var 13)) (Ss.cons (S.ret (E.con (D.bl false))) Ss.nil) Ss.nil) Ss.nil)))
theorem u_b_law_2 {β:Type} (cl:Cl) (w:Nat) (ρ:DE.Env) (K:Fl→R β):(iSs cl w b_law_2 ρ).th K=(iSs cl w (Ss.cons (S.set 13 (E.var 8)) (Ss.cons (S.ite (T.or (T.cmp CmpOp.Eq (E.var 9) (E.con (D.int 0))) (T.one (T.cmp CmpOp.Lt (E.idx (E.idx (E.var 5) (E.bin Operator.Sub (E.var 9) (E.con (D.int 1)))) (E.con (D.int 2))) (E.var 11)))) (Ss.cons (S.set 13 (E.con D.non)) Ss.nil) Ss.nil) (Ss.cons (S.ite (T.cmp CmpOp.NotEq (E.call "fault_by_days" (Es.cons (E.var 7) (Es.cons (E.sli (E.var 5) O.none (O.some (E.var 9))) Es.nil))) (E.var 13)) (Ss.cons (S.ret (E.con (D.bl false))) Ss.nil) Ss.nil) Ss.nil))) ρ).th K:=(rfl)
noncomputable def c_law:Nat×Nat×Ss:=(1,15,(Ss.cons (S.set 1 (E.call "_law_lands" (Es.cons (E.call "_law_cell_at" (Es.cons (E.var 0) (Es.cons (E.con (D.int 0)) Es.nil))) (Es.cons (E.bin Operator.Add (E.con (D.int 2)) (E.bin Operator.Mod (E.bin Operator.FloorDiv (E.call "_law_cell_at" (Es.cons (E.var 0) (Es.cons (E.con (D.int 0)) Es.nil))) (E.con (D.int 512))) (E.con (D.int 3)))) Es.nil)))) (Ss.cons (S.set 2 (E.bin Operator.Mod (E.call "_law_cell_at" (Es.cons (E.var 0) (Es.cons (E.con (D.int 1)) Es.nil))) (E.bin Operator.Sub (E.bin Operator.Pow (E.con (D.int 10)) (E.con (D.int 9))) (E.con (D.int 199))))) (Ss.cons (S.set 3 (E.comp e_law_0 (I.seq (E.bin Operator.Add (E.lst (Es.cons (E.call "_law_cell_at" (Es.cons (E.var 0) (Es.cons (E.con (D.int 2)) Es.nil))) Es.nil)) (E.sli (E.var 0) (O.some (E.con (D.int 3))) (O.some (E.con (D.int 5)))))) (Tg.one 0) F.yes 1 [1])) (Ss.cons (S.set 4 (E.comp e_law_1 (I.seq (E.sli (E.var 0) (O.some (E.con (D.int 6))) (O.some (E.con (D.int 9))))) (Tg.one 0) F.yes 1 [2,3])) (Ss.cons (S.set 5 (E.call "_law_stays" (Es.cons (E.sli (E.var 0) (O.some (E.con (D.int 9))) (O.some (E.con (D.int 19)))) (Es.cons (E.var 1) (Es.cons (E.var 2) Es.nil))))) (Ss.cons (S.set 7 (E.new "Book" (Es.cons (E.comp e_law_2 (I.seq (E.var 3)) (Tg.one 0) F.yes 1 []) (Es.cons (E.var 4) Es.nil)))) (Ss.cons (S.set 8 (E.call "fault_by_days" (Es.cons (E.var 7) (Es.cons (E.var 5) Es.nil)))) (Ss.cons (S.ite (T.cmp CmpOp.Is (E.var 8) (E.con D.non)) (Ss.cons (S.for_ (Tg.one 9) (I.rng (E.b1 B1.len (E.var 5))) b_law_1) (Ss.cons (S.ret (E.con (D.bl true))) Ss.nil)) Ss.nil) (Ss.cons (S.setT (Tg.many [11,10,12]) (E.var 8)) (Ss.cons (S.ite (T.or (T.cmp CmpOp.Lt (E.call "weight_on" (Es.cons (E.var 7) (Es.cons (E.var 10) (Es.cons (E.var 5) (Es.cons (E.var 11) Es.nil))))) (E.con (D.int 1))) (T.one (T.cmp CmpOp.LtE (E.call "count_by_days" (Es.cons (E.var 7) (Es.cons (E.var 10) (Es.cons (E.var 5) (Es.cons (E.var 11) Es.nil))))) (E.idx (E.idx (E.var 3) (E.var 10)) (E.con (D.int 2)))))) (Ss.cons (S.ret (E.con (D.bl false))) Ss.nil) Ss.nil) (Ss.cons (S.for_ (Tg.one 9) (I.rng (E.b1 B1.len (E.var 5))) b_law_2) (Ss.cons (S.ite (T.or (T.cmp CmpOp.NotEq (E.call "fault_by_days" (Es.cons (E.var 7) (Es.cons (E.call "_law_cut" (Es.cons (E.var 5) (Es.cons (E.var 11) Es.nil))) Es.nil))) (E.var 8)) (T.one (T.cmp CmpOp.IsNot (E.call "fault_by_days" (Es.cons (E.var 7) (Es.cons (E.call "_law_cut" (Es.cons (E.var 5) (Es.cons (E.bin Operator.Sub (E.var 11) (E.con (D.int 1))) Es.nil))) Es.nil))) (E.con D.non)))) (Ss.cons (S.ret (E.con (D.bl false))) Ss.nil) Ss.nil) (Ss.cons (S.set 14 (E.bin Operator.Add (E.call "_law_cut" (Es.cons (E.var 5) (Es.cons (E.var 11) Es.nil))) (E.call "_law_stays" (Es.cons (E.sli (E.var 0) (O.some (E.con (D.int 5))) (O.some (E.con (D.int 12)))) (Es.cons (E.var 1) (Es.cons (E.bin Operator.Add (E.bin Operator.Add (E.var 11) (E.con (D.int 1))) (E.bin Operator.Mod (E.call "_law_cell_at" (Es.cons (E.var 0) (Es.cons (E.con (D.int 4)) Es.nil))) (E.con (D.int 3)))) Es.nil)))))) (Ss.cons (S.ret (E.and (E.cmp CmpOp.Eq (E.call "fault_by_days" (Es.cons (E.var 7) (Es.cons (E.var 14) Es.nil))) (E.var 8)) (E.one (E.cmp CmpOp.LtE (E.var 12) (E.var 11))))) Ss.nil)))))))))))))))
theorem r_law (k:Nat) (args:List Ar):clK pg (k+1) "law" args=runD (pg.kk k) 1000 c_law args:=run_of (pg:=pg) (st:=top 55) (by kernel_rfl) (fun k cl=>by kernel_rfl) k args
end K25
set_option maxHeartbeats 4000000
namespace K25
open PySem DE DG FA Dy
open L2 hiding St
noncomputable def cutS:List St→Int→List St
 | [],_=>[]
 | s::l,d=>if s.2.1≤d then (s.1,s.2.1,if d < s.2.2 then d else s.2.2)::cutS l d else cutS l d
theorem cut_loop (cl:Cl) (v0:Sl) (d:Int):∀ (l acc:List St) (s3 s4 s5:Sl),acc.length+l.length < 10000→∃ s3' s4' s5',forD cl 1000 (.many [3,4,5]) b__law_cut_0 (l.map stD) [v0,.val (.int d),.own (acc.map stD),s3,s4,s5]=.ok (.next [v0,.val (.int d),.own ((acc++cutS l d).map stD),s3',s4',s5'])
 | [],acc,s3,s4,s5,_=>⟨s3,s4,s5,by simp [cutS,forD_nil]⟩
 | s::l,acc,s3,s4,s5,hl=>by
  rw [List.length_cons] at hl
  have three:0+1+1+1≤sizeLine:=by decide +kernel
  have hs:(acc.map stD).length < sizeLine:=by rw [List.length_map];exact size_lt (by omega)
  unfold cutS
  by_cases hc:s.2.1≤d
  ·rw [if_pos hc]
   obtain ⟨s3',s4',s5',ih⟩:=cut_loop cl v0 d l (acc++[(s.1,s.2.1,if d < s.2.2 then d else s.2.2)]) (.val (.str s.1)) (.val (.int s.2.1)) (.val (.int s.2.2)) (by simp;omega)
   refine ⟨s3',s4',s5',?_⟩
   simp only [List.map_append,List.map_cons,List.map_nil,List.append_assoc,List.cons_append,List.nil_append,stD_eq] at ih ⊢
   refine (th_ret _).symm.trans ?_
   simp? only [u_b__law_cut_0,stD_eq,hc,three,hs,ih]
  ·rw [if_neg hc]
   obtain ⟨s3',s4',s5',ih⟩:=cut_loop cl v0 d l acc (.val (.str s.1)) (.val (.int s.2.1)) (.val (.int s.2.2)) (by omega)
   refine ⟨s3',s4',s5',?_⟩
   refine (th_ret _).symm.trans ?_
   rw [List.map_cons]
   simp? only [u_b__law_cut_0,stD_eq,hc,ih]
theorem cut_ok (k:Nat) (st:List St) (hl:st.length≤60) (d:Int):clK pg (k+1) "_law_cut" [.bor (st.map stD),.val (.int d)]=.ok (.tmp ((cutS st d).map stD)):=by
 obtain ⟨s3,s4,s5,e⟩:=cut_loop (pg.kk k) (.bor (st.map stD)) d st [] .no .no .no (by simp;omega)
 rw [List.map_nil,List.nil_append] at e
 rw [r__law_cut]
 simp? only [c__law_cut,show (0:Nat)≤sizeLine by decide +kernel,e]
theorem cut_len:∀ (l:List St) (d:Int),(cutS l d).length≤l.length
 | [],_=>Nat.le_refl _
 | s::l,d=>by
  have:=cut_len l d
  unfold cutS
  split<;>simp<;>omega
theorem cut_mem {d:Int}:∀ {l:List St} {t:St},t∈cutS l d→∃ s∈l,t.1=s.1∧t.2.1=s.2.1∧t.2.2≤s.2.2∧t.2.2≤d
 | [],t,h=>by cases h
 | s::l,t,h=>by
  unfold cutS at h
  split at h
  ·rcases List.mem_cons.mp h with rfl | h
   ·refine ⟨s,by simp,rfl,rfl,?_,?_⟩<;>(dsimp only;split<;>omega)
   ·obtain ⟨u,hu,e⟩:=cut_mem h
    exact ⟨u,by simp [hu],e⟩
  ·obtain ⟨u,hu,e⟩:=cut_mem h
   exact ⟨u,by simp [hu],e⟩
theorem cut_land {d:Int}:∀ (l:List St) (x:Int),x≤d→landAt l x=landAt (cutS l d) x
 | [],x,_=>rfl
 | s::l,x,h=>by
  unfold cutS
  by_cases hc:s.2.1≤d
  ·rw [if_pos hc]
   unfold landAt
   rw [cut_land l x h]
   have:(s.2.1≤x∧x≤s.2.2)↔(s.2.1≤x∧x≤if d < s.2.2 then d else s.2.2):=by split<;>omega
   by_cases q:s.2.1≤x∧x≤s.2.2
   ·rw [if_pos q,if_pos (this.mp q)]
   ·rw [if_neg q,if_neg (fun z=>q (this.mpr z))]
  ·rw [if_neg hc]
   have q:¬ (s.2.1≤x∧x≤s.2.2):=by omega
   show (if s.2.1≤x∧x≤s.2.2 then _ else landAt l x)=_
   rw [if_neg q,cut_land l x h]
theorem cut_behind {d:Int} (l:List St) (x:Int) (h:d < x):landAt (cutS l d) x=none:=by
 rw [landAt_none]
 intro t ht
 obtain ⟨s,_,_,_,_,q⟩:=cut_mem ht
 omega
theorem cut_ch {d:Int}:∀ {l:List St} {e:Int},Ch e l→Ch e (cutS l d)
 | [],_,_=>trivial
 | s::l,e,h=>by
  have h1:=h.1.lo
  have h2:=h.1.ab
  have h3:=h.1.hi
  unfold cutS
  split
  ·rename_i hc
   refine ⟨⟨h.1.nm,h1,?_,?_⟩,Ch.weak ?_ (cut_ch h.2)⟩<;>(dsimp only;split<;>omega)
  ·exact Ch.weak (by omega) (cut_ch h.2)
theorem lstD_mem {a:List St} (h:a≠[]):∃ t∈a,t.2.2=lstD a:=by
 obtain ⟨t,ht⟩:∃ t,a.getLast?=some t:=⟨_,List.getLast?_eq_some_getLast h⟩
 exact ⟨t,List.mem_of_getLast? ht,by unfold lstD;rw [ht]⟩
theorem lstD_cons (s:St) {a:List St} (h:a≠[]):lstD (s::a)=lstD a:=by
 cases a with
 | nil=>exact absurd rfl h
 | cons t a=>unfold lstD;rw [List.getLast?_cons_cons]
theorem Ch_left:∀ {a b:List St} {e:Int},Ch e (a++b)→Ch e a
 | [],_,_,_=>trivial
 | s::a,b,e,h=>⟨h.1,Ch_left h.2⟩
theorem Ch_right:∀ {a b:List St} {e:Int},Ch e (a++b)→a≠[]→∀ t∈b,lstD a < t.2.1
 | [],_,_,_,h,_,_=>absurd rfl h
 | [s],b,e,h,_,t,ht=>(Ch.lo h.2 t ht).1
 | s::u::a,b,e,h,_,t,ht=>by
  rw [lstD_cons s (by simp)]
  exact Ch_right (a:=u::a) h.2 (by simp) t ht
theorem land_app {a b:List St} {x:Int} (h:∀ t∈b,¬ (t.2.1≤x∧x≤t.2.2)):landAt (a++b) x=landAt a x:=by
 induction a with
 | nil=>rw [List.nil_append];exact landAt_none.mpr h
 | cons s a ih=>
  show (if s.2.1≤x∧x≤s.2.2 then _ else landAt (a++b) x)=(if s.2.1≤x∧x≤s.2.2 then _ else landAt a x)
  rw [ih]
theorem Ch_app:∀ {a b:List St} {e:Int},Ch e a→Ch (if a=[] then e else lstD a) b→Ch e (a++b)
 | [],b,e,_,h=>h
 | [s],b,e,h,h'=>⟨h.1,h'⟩
 | s::u::a,b,e,h,h'=>by
  refine ⟨h.1,Ch_app (a:=u::a) h.2 ?_⟩
  rw [if_neg (by simp)] at h' ⊢
  rwa [lstD_cons s (by simp)] at h'
theorem right_of {st:List St} {lo:Int} (hc:Ch (-1) st) (hn:∀ s∈st,NameOk s.1) (hl:st.length≤60) (hb:∀ s∈st,lo≤s.2.1∧s.2.2≤lo+500):StRight st:=by
 refine ⟨hc,hn,hl,?_⟩
 cases st with
 | nil=>decide
 | cons s l=>
  obtain ⟨t,ht,e⟩:=lstD_mem (a:=s::l) (by simp)
  have h1:=(hb s (by simp)).1
  have h2:=(hb t ht).2
  rw [←e]
  show t.2.2≤s.2.1+500
  omega
theorem take_cut (l:List D) (i:Nat) (h:i≤l.length):cutD l none (some (i:Int))=l.take i:=by
 unfold cutD
 rw [HT.sIx_none,HT.sIx_nat]
 simp [Nat.min_eq_left h]
section
variable (rs:List Ru) (ps:List Pa) (st:List St)
theorem loop0 (hb:BkOk rs ps) (hs:StRight st) (hno:NoF st (rlF ps 0 rs)) (v0 v1 v2 v3 v4 v8 v11 v12 v13 v14:Sl) (i:Nat) (t:St) (ht:st[i]?=some t):∀ (rest:List Ru) (j:Nat) (s6 s10:Sl),(∀ (m:Nat) r,rest[m]?=some r→rs[j+m]?=some r)→
  ∃ s6' s10',forD (pg.kk 19) 1000 (.many [10,6]) b_law_0 (enF j (rest.map ruD)) [v0,v1,v2,v3,v4,.own (st.map stD),s6,.val (bkI rs ps),v8,.val (.int i),s10,v11,v12,v13,v14]=.ok (.next [v0,v1,v2,v3,v4,.own (st.map stD),s6',.val (bkI rs ps),v8,.val (.int i),s10',v11,v12,v13,v14])
 | [],j,s6,s10,_=>⟨s6,s10,rfl⟩
 | r::rest,j,s6,s10,h=>by
  obtain ⟨s6',s10',ih⟩:=loop0 hb hs hno v0 v1 v2 v3 v4 v8 v11 v12 v13 v14 i t ht rest (j+1) (.val (ruD r)) (.val (.int j)) (fun m x hx=>by
   have:=h (m+1) x hx
   rwa [show j+(m+1)=j+1+m by omega] at this)
  refine ⟨s6',s10',?_⟩
  have hj:rs[j]?=some r:=h 0 r rfl
  have tm:t∈st:=List.mem_of_getElem? ht
  have hh:=Ch.high hs.ch t tm
  have hl:=Ch.lo hs.ch t tm
  have hw:=hs.wide
  have c:clK pg 19 "count_by_days" [.val (bkI rs ps),.val (.int j),.bor (st.map stD),.val (.int t.2.2)]=.ok (.val (.int (win r (wgt r (lift j ps) st) t.2.2).2)):=count_run (pg:=pg) 13 true hb hs hj (by omega) (by omega)
  have a1:atI (st.map stD) (i:Int)=some (.tup [.str t.1,.int t.2.1,.int t.2.2]):=at_n (by rw [List.getElem?_map,ht];rfl)
  have a2:atI [D.str t.1,.int t.2.1,.int t.2.2] 2=some (.int t.2.2):=by rfl
  have a3:atI [D.str r.kd.nm,.lst (r.lands.map lnD),.int r.most,.int r.days] 2=some (.int r.most):=by rfl
  have le:¬ r.most < (win r (wgt r (lift j ps) st) t.2.2).2:=by
   have:=fltDay_none.mp (hno t.2.2) (r,lift j ps) (List.mem_of_getElem? (i:=j) (by rw [rlF_get,hj];simp))
   exact Int.not_lt.mpr this
  simp only [ruD] at ih
  refine (th_ret _).symm.trans ?_
  rw [List.map_cons,enF]
  simp? only [u_b_law_0,ruD,a1,a2,a3,c,le,ih]
theorem take_right {st:List St} (hs:StRight st) (i:Nat):StRight (st.take i):=by
 have hc:Ch (-1) (st.take i):=Ch_left (b:=st.drop i) (by rw [List.take_append_drop];exact hs.ch)
 refine right_of (lo:=fstD st) hc (fun s h=>hs.nm s (List.mem_of_mem_take h)) (by rw [List.length_take];have:=hs.len;omega) fun s h=>?_
 have hm:=List.mem_of_mem_take h
 have h1:=Ch.high hs.ch s hm
 have h2:=hs.wide
 refine ⟨?_,by omega⟩
 cases st with
 | nil=>simp at hm
 | cons u l=>exact Ch.low hs.ch s hm
theorem take_land {st:List St} (hs:StRight st) (i:Nat) (h:st.take i≠[]) {x:Int} (hx:x≤lstD (st.take i)):landAt st x=landAt (st.take i) x:=by
 have e:st=st.take i++st.drop i:=(List.take_append_drop i st).symm
 have hc:=hs.ch
 rw [e] at hc
 have hr:=Ch_right hc h
 conv=>lhs;rw [e]
 refine land_app fun t ht=>?_
 have:=hr t ht
 omega
theorem take_behind {st:List St} (hs:StRight st) (i:Nat) {x:Int} (hx:lstD (st.take i) < x):landAt (st.take i) x=none:=by
 rw [landAt_none]
 intro t ht
 have:=Ch.high (take_right hs i).ch t ht
 omega
theorem take_no {st:List St} {rs:List Rl} (hr:RlsOk rs) (hs:StRight st) (i:Nat) (h:∀ d,d≤lstD (st.take i)→fltDay st d 0 rs=none):NoF (st.take i) rs:=by
 by_cases hn:st.take i=[]
 ·rw [hn]
  exact fun d=>flt_low hr fun x _=>rfl
 ·refine noF_of hr (D:=lstD (st.take i)) (fun d hd=>?_) fun d hd=>take_behind hs i hd
  rw [←fltDay_same (fun x hx=>take_land hs i hn (x:=x) (by omega)) fun x hx=>(hr x hx).1]
  exact h d hd
theorem loop1 (hb:BkOk rs ps) (hs:StRight st) (hno:NoF st (rlF ps 0 rs)) (v0 v1 v2 v4 v8 v11 v12 v13 v14:Sl):∀ (n i:Nat) (s6 s9 s10:Sl),i+n≤st.length→
  ∃ s6' s9' s10',forD (pg.kk 19) 1000 (.one 9) b_law_1 (rgF (i:Int) n) [v0,v1,v2,.val (.lst (rs.map ruD)),v4,.own (st.map stD),s6,.val (bkI rs ps),v8,s9,s10,v11,v12,v13,v14]=.ok (.next [v0,v1,v2,.val (.lst (rs.map ruD)),v4,.own (st.map stD),s6',.val (bkI rs ps),v8,s9',s10',v11,v12,v13,v14])
 | 0,i,s6,s9,s10,_=>⟨s6,s9,s10,rfl⟩
 | n+1,i,s6,s9,s10,h=>by
  have hi:i < st.length:=by omega
  obtain ⟨t,ht⟩:∃ t,st[i]?=some t:=⟨st[i],List.getElem?_eq_getElem hi⟩
  obtain ⟨s6',s10',e⟩:=loop0 rs ps st hb hs hno v0 v1 v2 (.val (.lst (rs.map ruD))) v4 v8 v11 v12 v13 v14 i t ht rs 0 s6 s10 (fun m r hr=>by rw [Nat.zero_add];exact hr)
  obtain ⟨t6,t9,t10,ih⟩:=loop1 hb hs hno v0 v1 v2 v4 v8 v11 v12 v13 v14 n (i+1) s6' (.val (.int i)) s10' (by omega)
  refine ⟨t6,t9,t10,?_⟩
  rw [show ((i+1:Nat):Int)=(i:Int)+1 by omega] at ih
  have f:clK pg 19 "fault_by_days" [.val (bkI rs ps),.val (.lst ((st.take i).map stD))]=.ok (.val .non):=by
   have:=fault_run (pg:=pg) 13 false hb (take_right hs i)
   rw [fault_no (take_right hs i).ch hb.rls (take_no hb.rls hs i fun d _=>hno d)] at this
   exact this
  have c:cutD (st.map stD) none (some (i:Int))=(st.take i).map stD:=by rw [take_cut _ _ (by rw [List.length_map];omega),List.map_take]
  refine (th_ret _).symm.trans ?_
  rw [rgF]
  simp? only [u_b_law_1,c,f,enumD_eq,e,ih]
theorem eq_f3 (z:Int×Int×Int):eqD (f3D z) (f3D z)=some true:=eqD_self (by simp [f3D,okD,okDs]) (by simp [f3D,dpD,dpDs])
theorem loop2 (hb:BkOk rs ps) (hs:StRight st) (z:Int×Int×Int) (hz:IsF st (rlF ps 0 rs) z) (v0 v1 v2 v3 v4 s6 v10 v12 v14:Sl):∀ (n i:Nat) (s9 s13:Sl),i+n≤st.length→
  ∃ s9' s13',forD (pg.kk 19) 1000 (.one 9) b_law_2 (rgF (i:Int) n) [v0,v1,v2,v3,v4,.own (st.map stD),s6,.val (bkI rs ps),.val (f3D z),s9,v10,.val (.int z.1),v12,s13,v14]=.ok (.next [v0,v1,v2,v3,v4,.own (st.map stD),s6,.val (bkI rs ps),.val (f3D z),s9',v10,.val (.int z.1),v12,s13',v14])
 | 0,i,s9,s13,_=>⟨s9,s13,rfl⟩
 | n+1,i,s9,s13,h=>by
  have c:cutD (st.map stD) none (some (i:Int))=(st.take i).map stD:=by rw [take_cut _ _ (by rw [List.length_map];omega),List.map_take]
  have fr:=fault_run (pg:=pg) 13 false hb (take_right hs i)
  cases i with
  | zero=>
   obtain ⟨t9,t13,ih⟩:=loop2 hb hs z hz v0 v1 v2 v3 v4 s6 v10 v12 v14 n 1 (.val (.int 0)) (.val .non) (by omega)
   refine ⟨t9,t13,?_⟩
   have f:clK pg 19 "fault_by_days" [.val (bkI rs ps),.val (.lst [])]=.ok (.val .non):=fr
   rw [show ((0:Nat):Int)=0 from rfl] at c ⊢
   rw [List.take_zero,List.map_nil] at c
   rw [show ((1:Nat):Int)=0+1 from rfl] at ih
   refine (th_ret _).symm.trans ?_
   rw [rgF]
   simp? only [u_b_law_2,eqD_int,show ((0:Int) == 0)=true from rfl,c,f,eqD_nn,ih]
  | succ j=>
   obtain ⟨t,ht⟩:∃ t,st[j]?=some t:=⟨st[j]'(by omega),List.getElem?_eq_getElem (by omega)⟩
   have e0:((((j+1:Nat):Int)) == 0)=false:=by simp;omega
   have e1:((j+1:Nat):Int) - 1=(j:Int):=by omega
   have a1:atI (st.map stD) (j:Int)=some (.tup [.str t.1,.int t.2.1,.int t.2.2]):=at_n (by rw [List.getElem?_map,ht];rfl)
   have a2:atI [D.str t.1,.int t.2.1,.int t.2.2] 2=some (.int t.2.2):=by rfl
   have hne:st.take (j+1)≠[]:=by
    intro q
    have:(st.take (j+1)).length=0:=by rw [q];rfl
    rw [List.length_take] at this
    omega
   have el:lstD (st.take (j+1))=t.2.2:=by
    unfold lstD
    rw [List.getLast?_eq_getElem?,List.length_take,Nat.min_eq_left (by omega),List.getElem?_take_of_lt (by omega),Nat.add_sub_cancel,ht]
   by_cases hlt:t.2.2 < z.1
   ·obtain ⟨t9,t13,ih⟩:=loop2 hb hs z hz v0 v1 v2 v3 v4 s6 v10 v12 v14 n (j+1+1) (.val (.int ((j+1:Nat):Int))) (.val .non) (by omega)
    refine ⟨t9,t13,?_⟩
    have f:clK pg 19 "fault_by_days" [.val (bkI rs ps),.val (.lst ((st.take (j+1)).map stD))]=.ok (.val .non):=by
     rw [fault_no (take_right hs (j+1)).ch hb.rls (take_no hb.rls hs (j+1) fun d hd=>hz.2 d (by omega))] at fr
     exact fr
    rw [show ((j+1+1:Nat):Int)=((j+1:Nat):Int)+1 by omega] at ih
    refine (th_ret _).symm.trans ?_
    rw [rgF]
    simp? only [u_b_law_2,eqD_int,e0,e1,a1,a2,hlt,c,f,eqD_nn,ih]
   ·obtain ⟨t9,t13,ih⟩:=loop2 hb hs z hz v0 v1 v2 v3 v4 s6 v10 v12 v14 n (j+1+1) (.val (.int ((j+1:Nat):Int))) (.val (f3D z)) (by omega)
    refine ⟨t9,t13,?_⟩
    have f:clK pg 19 "fault_by_days" [.val (bkI rs ps),.val (.lst ((st.take (j+1)).map stD))]=.ok (.val (f3D z)):=by
     rw [fault_is (take_right hs (j+1)).ch hb.rls (isF_same hb.rls (fun x hx=>take_land hs (j+1) hne (by omega)) hz)] at fr
     exact fr
    rw [show ((j+1+1:Nat):Int)=((j+1:Nat):Int)+1 by omega] at ih
    refine (th_ret _).symm.trans ?_
    rw [rgF]
    simp? only [u_b_law_2,eqD_int,e0,e1,a1,a2,hlt,c,f,eq_f3,ih]
end
end K25
set_option maxHeartbeats 4000000
namespace K25
open PySem DE DG FA Dy
open L2 hiding St
theorem cell_at (ns:List Int) (i:Nat):clK pg 19 "_law_cell_at" [.scr (ns.map D.int),.val (.int (i:Int))]=.ok (.val (.int (cellAt ns i))):=cell_ok (pg:=pg) 18 ns i
theorem law_true (ns:List Int) (hl:ns.length≤63):clK pg 20 "law" [.scr (ns.map D.int)]=.ok (.val (.bl true)):=by
 have c0:clK pg 19 "_law_cell_at" [.scr (ns.map D.int),.val (.int 0)]=.ok (.val (.int (cellAt ns 0))):=cell_at ns 0
 have c1:clK pg 19 "_law_cell_at" [.scr (ns.map D.int),.val (.int 1)]=.ok (.val (.int (cellAt ns 1))):=cell_at ns 1
 have c2:clK pg 19 "_law_cell_at" [.scr (ns.map D.int),.val (.int 2)]=.ok (.val (.int (cellAt ns 2))):=cell_at ns 2
 have c4:clK pg 19 "_law_cell_at" [.scr (ns.map D.int),.val (.int 4)]=.ok (.val (.int (cellAt ns 4))):=cell_at ns 4
 generalize cellAt ns 0=n0 at c0
 generalize cellAt ns 1=n1 at c1
 generalize cellAt ns 2=n2 at c2
 generalize cellAt ns 4=n4 at c4
 obtain ⟨cs1,e1,l1⟩:=cut_map ns 3 5
 obtain ⟨cs2,e2,l2⟩:=cut_map ns 6 9
 obtain ⟨cs3,e3,l3⟩:=cut_map ns 9 19
 obtain ⟨cs4,e4,l4⟩:=cut_map ns 5 12
 have e1:cutD (ns.map D.int) (some 3) (some 5)=cs1.map D.int:=e1
 have e2:cutD (ns.map D.int) (some 6) (some 9)=cs2.map D.int:=e2
 have e3:cutD (ns.map D.int) (some 9) (some 19)=cs3.map D.int:=e3
 have e4:cutD (ns.map D.int) (some 5) (some 12)=cs4.map D.int:=e4
 -- the names
 have q0:0≤n0 / 512 % 3:=Int.emod_nonneg _ (by decide)
 have q1:n0 / 512 % 3 < 3:=Int.emod_lt_of_pos _ (by decide)
 obtain ⟨m,em⟩:∃ m:Nat,2+n0 / 512 % 3=(m:Int):=⟨(2+n0 / 512 % 3).toNat,by omega⟩
 obtain ⟨zs,ez,lz,hz⟩:=lands_ok (pg:=pg) 18 n0 m (by omega)
 have ez:clK pg 19 "_law_lands" [.val (.int n0),.val (.int (m:Int))]=.ok (.tmp (zs.map D.str)):=ez
 -- the start
 have s0:0≤n1 % 999999801:=Int.emod_nonneg _ (by decide)
 have s1:n1 % 999999801 < 999999801:=Int.emod_lt_of_pos _ (by decide)
 generalize hS:n1 % 999999801=start at s0 s1
 -- the rules
 obtain ⟨rs,r1,r2,er⟩:=rules_comp (pg:=pg) 18 zs hz (n2::cs1) [] .no (by simp;omega)
 have er:compD (pg.kk 19) e_law_0 (.one 0) .yes (.int n2::cs1.map D.int) [.no,.bor (zs.map D.str)] []=.ok (rs.map ruD):=er
 rw [List.length_cons] at r2
 -- the papers
 obtain ⟨ps,p1,p2,ep⟩:=papers_comp (pg:=pg) 18 start (rs.map ruD) (by rw [List.length_map];omega) cs2 [] .no (by simp;omega)
 have ep:compD (pg.kk 19) e_law_1 (.one 0) .yes (cs2.map D.int) [.no,.val (.int start),.bor (rs.map ruD)] []=.ok (ps.map paD):=ep
 rw [List.length_map] at p1
 -- the stays
 obtain ⟨st,h1,h2,est⟩:=FA.stays_ok (pg:=pg) 18 cs3 (by omega) zs hz start s0 (by omega)
 have est:clK pg 19 "_law_stays" [.val (.lst (cs3.map D.int)),.bor (zs.map D.str),.val (.int start)]=.ok (.tmp (st.map stD)):=est
 -- the book
 have emd:=made_comp (pg:=pg) 6 rs [] .no (by simp;omega) r1
 have emd:compD (pg.kk 19) e_law_2 (.one 0) .yes (rs.map ruD) [.no] []=.ok (rs.map ruI):=emd
 have ebk:pg.nw 19 "Book" [.val (.lst (rs.map ruI)),.bor (ps.map paD)]=.ok (.val (bkI rs ps)):=book_ok (pg:=pg) 7 false true rs ps (by omega) (by omega) fun p hp=>by
  have h:=p1 p hp
  have:=h.o0;have:=h.o1;have:=h.a0;have:=h.a1;have:=h.b0;have:=h.b1
  omega
 have hb:BkOk rs ps:=⟨r1,by omega,by omega⟩
 have inb:∀ s∈st,start≤s.2.1∧s.2.2≤start+500:=fun s hs=>by
  have a:=Ch.lo h1.ch s hs
  have b:=h1.hi s hs
  omega
 have nmk:∀ s∈st,NameOk s.1:=fun s hs=>hz.ok _ (h1.nm s hs)
 have hs:StRight st:=right_of (Ch.weak (by omega) h1.ch) nmk (by omega) inb
 have fr:clK pg 19 "fault_by_days" [.val (bkI rs ps),.bor (st.map stD)]=.ok (.val (fltV (faultOf rs ps st))):=fault_run (pg:=pg) 13 true hb hs
 have sp:=fault_spec hs.ch hb.rls
 -- sizes
 have z1:1+cs1.length≤sizeLine:=size_le (by omega)
 have z2:cs1.length+1≤sizeLine:=size_le (by omega)
 have z3:cs2.length≤sizeLine:=size_le (by omega)
 have z4:rs.length≤sizeLine:=size_le (by omega)
 have z5:0+1≤sizeLine:=by decide +kernel
 have z6:smallI (st.length:Int)=true:=smallI_of (by omega) (by omega)
 have w9:(10:Int) ^ (9:Int).toNat - 199=999999801:=by decide
 have w8:(0:Int)≤9∧(9:Int)≤1000000∧(10:Int).natAbs < 2 ^ 64:=by decide
 rw [show (20:Nat)=19+1 from rfl,r_law]
 cases hf:faultOf rs ps st with
 | none=>
  rw [hf] at fr
  obtain ⟨s6',s9',s10',lp⟩:=loop1 rs ps st hb hs (sp.2 hf) (.scr (ns.map D.int)) (.own (zs.map D.str)) (.val (.int start)) (.own (ps.map paD)) (.val .non) .no .no .no .no st.length 0 .no .no .no (by omega)
  rw [show ((0:Nat):Int)=0 from rfl] at lp
  simp? only [c_law,c0,c1,c2,em,ez,w8,w9,hS,e1,e2,e3,z1,z2,z3,z4,z5,iBlk,lend,List.getD_cons_succ,List.getD_cons_zero,er,ep,est,emd,ebk,fr,fltV,List.length_map,z6,rangeD_eq,Int.sub_zero,Int.toNat_natCast,lp]
 | some z=>
  rw [hf] at fr
  have hz':=sp.1 z hf
  obtain ⟨ed,j,x,ex1,ex2,ex3,ex4⟩:=fltDay_some hz'.1
  rw [Nat.zero_add] at ex2
  rw [rlF_get,Nat.zero_add] at ex1
  obtain ⟨r,er1,er2⟩:=Option.map_eq_some_iff.mp ex1
  subst er2
  dsimp only at ex3 ex4
  have hro:=r1 r (List.mem_of_getElem? er1)
  have hzr:0 < (win r (wgt r (lift (j:Int) ps) st) z.1).2:=by have:=hro.m0;omega
  have hwt:¬ wgt r (lift (j:Int) ps) st z.1 < 1:=by
   intro hlt
   have nn:=wgt_nn hro.ok (lift (j:Int) ps) st z.1
   have hst:=win_step (r:=r) (d:=z.1) hro.d0 (fun y=>wgt_nn hro.ok (lift (j:Int) ps) st y) (by omega)
   have hlow:=fltDay_none.mp (hz'.2 (z.1 - 1) (by omega)) (r,lift (j:Int) ps) (List.mem_of_getElem? (i:=j) (by rw [rlF_get,er1];simp))
   dsimp only at hlow
   omega
  -- the fault's day lies in a stay
  have hin:landAt st z.1≠none:=fun q=>by
   have:=wgt_out (r:=r) (lf:=lift (j:Int) ps) q
   omega
  have hday:start≤z.1∧z.1≤start+59:=by
   by_cases q:∃ s∈st,s.2.1≤z.1∧z.1≤s.2.2
   ·obtain ⟨s,hs1,hs2⟩:=q
    have a:=inb s hs1
    have b:=h1.hi s hs1
    omega
   ·exact absurd (landAt_none.mpr fun s hs1 hs2=>q ⟨s,hs1,hs2⟩) hin
  have hfst:z.1≤fstD st+600:=by
   have:=hs.bounds
   cases hst:st with
   | nil=>rw [hst] at hin;exact absurd rfl hin
   | cons s l=>
    have a:=inb s (by rw [hst];simp)
    show z.1≤s.2.1+600
    omega
  have wr:clK pg 19 "weight_on" [.val (bkI rs ps),.val (.int (j:Int)),.bor (st.map stD),.val (.int z.1)]=.ok (.val (.int (wgt r (lift (j:Int) ps) st z.1))):=weight_run (pg:=pg) 13 true hb hs er1 z.1
  have cr:clK pg 19 "count_by_days" [.val (bkI rs ps),.val (.int (j:Int)),.bor (st.map stD),.val (.int z.1)]=.ok (.val (.int (win r (wgt r (lift (j:Int) ps) st) z.1).2)):=count_run (pg:=pg) 13 true hb hs er1 (by omega) hfst
  have hcr:¬ (win r (wgt r (lift (j:Int) ps) st) z.1).2≤r.most:=by omega
  have ar:atI (rs.map ruD) (j:Int)=some (ruD r):=at_n (by rw [List.getElem?_map,er1];rfl)
  have ar2:atI [D.str r.kd.nm,.lst (r.lands.map lnD),.int r.most,.int r.days] 2=some (.int r.most):=by rfl
  have hfi:z.2.2≤z.1:=by rw [ex4];exact win_first hro.d0 hzr
  have inc:∀ d:Int,∀ s∈cutS st d,start≤s.2.1∧s.2.2≤start+59:=fun d s hs'=>by
   obtain ⟨u,hu,_,e2,e3,_⟩:=cut_mem hs'
   have a:=inb u hu
   have b:=h1.hi u hu
   omega
  have hcs:∀ d:Int,StRight (cutS st d):=fun d=>right_of (lo:=start) (cut_ch hs.ch) (fun s hs'=>by
   obtain ⟨u,hu,e1,_⟩:=cut_mem hs'
   rw [e1];exact nmk u hu) (by have:=cut_len st d;omega) fun s hs'=>by
    have:=inc d s hs'
    omega
  have k1:clK pg 19 "_law_cut" [.bor (st.map stD),.val (.int z.1)]=.ok (.tmp ((cutS st z.1).map stD)):=cut_ok 18 st (by omega) z.1
  have k2:clK pg 19 "_law_cut" [.bor (st.map stD),.val (.int (z.1 - 1))]=.ok (.tmp ((cutS st (z.1 - 1)).map stD)):=cut_ok 18 st (by omega) (z.1 - 1)
  have f1:clK pg 19 "fault_by_days" [.val (bkI rs ps),.val (.lst ((cutS st z.1).map stD))]=.ok (.val (f3D z)):=by
   have q:=fault_run (pg:=pg) 13 false hb (hcs z.1)
   rw [fault_is (hcs z.1).ch hb.rls (isF_same hb.rls (fun x hx=>cut_land st x hx) hz')] at q
   exact q
  have f2:clK pg 19 "fault_by_days" [.val (bkI rs ps),.val (.lst ((cutS st (z.1 - 1)).map stD))]=.ok (.val .non):=by
   have q:=fault_run (pg:=pg) 13 false hb (hcs (z.1 - 1))
   rw [fault_no (hcs (z.1 - 1)).ch hb.rls (noF_of hb.rls (D:=z.1 - 1) (fun d hd=>by
    rw [←fltDay_same (fun x hx=>cut_land st x (by omega)) fun x hx=>(hb.rls x hx).1]
    exact hz'.2 d (by omega)) fun d hd=>cut_behind st d hd)] at q
   exact q
  have t0:0≤n4 % 3:=Int.emod_nonneg _ (by decide)
  have t1:n4 % 3 < 3:=Int.emod_lt_of_pos _ (by decide)
  obtain ⟨mo,m1,m2,emo⟩:=FA.stays_ok (pg:=pg) 18 cs4 (by omega) zs hz (z.1+1+n4 % 3) (by omega) (by omega)
  have emo:clK pg 19 "_law_stays" [.val (.lst (cs4.map D.int)),.bor (zs.map D.str),.val (.int (z.1+1+n4 % 3))]=.ok (.tmp (mo.map stD)):=emo
  have mlo:∀ t∈mo,z.1 < t.2.1∧t.2.2≤start+200:=fun t ht=>by
   have a:=Ch.lo m1.ch t ht
   have b:=m1.hi t ht
   omega
  have hch:Ch (-1) (cutS st z.1++mo):=by
   refine Ch_app (cut_ch hs.ch) ?_
   split
   ·exact Ch.weak (by omega) m1.ch
   ·rename_i hne
    obtain ⟨t,ht,et⟩:=lstD_mem hne
    obtain ⟨u,hu,_,_,_,e5⟩:=cut_mem ht
    exact Ch.weak (by omega) m1.ch
  have hmr:StRight (cutS st z.1++mo):=right_of (lo:=start) hch (fun s hs'=>by
   rcases List.mem_append.mp hs' with q | q
   ·exact (hcs z.1).nm s q
   ·exact hz.ok _ (m1.nm s q)) (by rw [List.length_append];have:=cut_len st z.1;omega) fun s hs'=>by
    rcases List.mem_append.mp hs' with q | q
    ·have:=inc z.1 s q;omega
    ·have a:=Ch.lo m1.ch s q
     have b:=mlo s q
     omega
  have f3:clK pg 19 "fault_by_days" [.val (bkI rs ps),.bor ((cutS st z.1++mo).map stD)]=.ok (.val (f3D z)):=by
   have q:=fault_run (pg:=pg) 13 true hb hmr
   rw [fault_is hmr.ch hb.rls (isF_same hb.rls (fun x hx=>by
    rw [land_app fun t ht=>by have:=mlo t ht;omega]
    exact cut_land st x hx) hz')] at q
   exact q
  rw [List.map_append] at f3
  obtain ⟨s9',s13',lp⟩:=loop2 rs ps st hb hs z hz' (.scr (ns.map D.int)) (.own (zs.map D.str)) (.val (.int start)) (.val (.lst (rs.map ruD))) (.own (ps.map paD)) .no (.val (.int (j:Int))) (.val (.int z.2.2)) .no st.length 0 .no .no (by omega)
  rw [show ((0:Nat):Int)=0 from rfl] at lp
  have z7:(cutS st z.1).length+mo.length≤sizeLine:=by
   have:=cut_len st z.1
   exact size_le (by omega)
  have ez3:f3D z=.tup [.int z.1,.int (j:Int),.int z.2.2]:=by unfold f3D;rw [ex2]
  have efq:eqD (.tup [.int z.1,.int (j:Int),.int z.2.2]) (.tup [.int z.1,.int (j:Int),.int z.2.2])=some true:=by rw [←ez3];exact eq_f3 z
  rw [ez3] at f1 f3 lp
  simp only [ruD] at ar
  simp? only [c_law,c0,c1,c2,c4,em,ez,w8,w9,hS,e1,e2,e3,e4,z1,z2,z3,z4,z5,iBlk,lend,List.getD_cons_succ,List.getD_cons_zero,er,ep,est,emd,ebk,fr,fltV,ez3,wr,hwt,cr,ar,ar2,hcr,List.length_map,z6,rangeD_eq,Int.sub_zero,Int.toNat_natCast,lp,k1,k2,f1,f2,efq,emo,z7,f3,hfi]
end K25
set_option maxHeartbeats 4000000
namespace K25
open PySem PySem.Spec PyProof.Rows L2 DE DG
section
variable {P:Program} {wd:World} {κ:KC} {K:PySem.W.Frag} {mg:Str→Option Value} {base:Heap} {j:Nat} {f:Addr} {fd:FuncData}
theorem scRuleI:FnScope ["self","lands","most"] ["self","lands","most"] (defScope (mem 23 0)):=⟨rfl,rfl,rfl,by decide +kernel,rfl,by decide +kernel,by decide +kernel⟩
theorem ok_ruleI (tx:Tx κ K mg) (F:Fun K "__init__" "Rule.__init__" (mem 23 0) f fd) (at_:FnAt P wd κ K mg base pg j) (ck:Ck pg j):FnOk P wd K mg base CX0 (j+1) f fd ["self","lands","most"] (spIni κ K rk goRule):=by
 obtain ⟨fA,dA,FA,mA,kA,bA⟩:=at_.1 "are_lands" (top 22) (by kernel_rfl)
 obtain ⟨fB,dB,FB,mB,kB,bB⟩:=at_.1 "is_between" (top 9) (by kernel_rfl)
 obtain ⟨t1,g1⟩:=tx.gG
 refine F.ok scRuleI (fun vs H Q E h=>?_) (fun cdv A outer s H vs Q E hr h=>?_)
 ·obtain ⟨G,c,C,p,dx,us,args,fs,rfl,_,_,_,_,_,ha,hg,_⟩:=h
  obtain ⟨b,l,m,rfl,_⟩:=goRule_is hg
  have:=ha.len
  simp at this
  simp [←this]
 ·obtain ⟨G,c,C,p,dx,us,args,fs,rfl,hrk,hC,hp,gp,sub,ha,hg,k1⟩:=h
  obtain ⟨b,l,m,rfl,ol,om,rfl⟩:=goRule_is hg
  simp only [ArRs] at ha
  obtain ⟨v1,us1,rfl,r1,v2,us2,rfl,r2,rfl⟩:=ha
  simp only [ArR,Rep] at r2
  subst r2
  obtain ⟨a,xs,rfl,hxa,rl⟩:=arL_rep sub r1
  refine ⟨_,pss_cons (ps_if (pt_not (pt_val (pe_call FA hr (by rfl) mA kA bA .nil pass0 (pa_cons (pv 1) pa_nil)))) (pss_one ps_never) pss_nil)
   (pss_cons (ps_if (pt_not (pt_val (pe_call FB hr (by rfl) mB kB bB .nil pass0 (pa_cons (pv 2) (pa_cons pe_int (pa_cons (pe_glob (v:=.int 1000000000) (by rfl) g1 ⟨_,rfl⟩) pa_nil)))))) (pss_one ps_never) pss_nil)
   (pss_cons (ps_fld (pv 0) (pe_callTy call_tuple_of (by rfl) tx.tup PyProof.Rows.boot_tuple (pa_cons (pv 1) pa_nil)) rfl)
   (pss_one (ps_fld (pv 0) (pv 2) rfl)))),?_⟩
  refine ⟨_,rfl,spF_of (E:=E0) (G:=G) (args:=[aA b l]) sub ⟨_,_,rfl,r1,rfl⟩ (ck.lands b l ol) fun v G1 H1 hs1 gs1 sub1 fr1 rr=>?_⟩
  simp only [ReR,Rep] at rr
  subst rr
  refine ⟨_,rfl,?_⟩
  refine ⟨_,rfl,spF_of (E:=E0) (G:=G1) (args:=[.val (.int m),.val (.int 0),.val (.int 1000000000)]) sub1 ⟨_,_,rfl,by simp only [ArR,Rep],_,_,rfl,by simp only [ArR,Rep],_,_,rfl,by simp only [ArR,Rep],rfl⟩ (ck.btw m 0 1000000000 om) fun v G2 H2 hs2 gs2 sub2 fr2 rr=>?_⟩
  simp only [ReR,Rep] at rr
  subst rr
  refine ⟨_,rfl,?_⟩
  have hp2:H2 p=some (.ins C dx []):=hs2 _ _ (hs1 _ _ hp)
  have ga2:H2 a=some (.lst xs):=hs2 _ _ (hs1 _ _ hxa)
  have gp1:G1 p=none:=fresh_none fr1 gp hp
  have gp2:G2 p=none:=fresh_none fr2 gp1 (hs1 _ _ hp)
  refine ⟨_,rfl,a,xs,rfl,.inl ⟨SqL.of ga2,fun t ht=>?_⟩⟩
  have ntp:t≠p:=fun z=>by rw [z,hp2] at ht;cases ht
  have gt:G2 t=none:=Same.none sub2 ht
  refine ⟨_,rfl,p,C,dx,_,rfl,by rw [upd_ne ntp.symm];exact hp2,tx.cls c C hC,tx.nA c _ C (rk_lands hrk).1 hC,by decide,?_⟩
  refine ⟨_,rfl,_,rfl,p,C,dx,_,rfl,upd_same,tx.cls c C hC,tx.nA c _ C (rk_lands hrk).2 hC,(by show 1 < 1000;decide),?_⟩
  refine k1 (upd G2 t (.tup xs)) _ [.ref t,.int m] ?_ ?_ ?_ ?_ ?_ ?_ rfl ?_
  ·exact fun b o e=>Same.upd gt b o (gs2 b o (gs1 b o e))
  ·intro b o e
   by_cases z:b=t
   ·subst z;rw [upd_same] at e;cases e;rw [upd_ne ntp,upd_ne ntp,upd_same]
   ·rw [upd_ne z] at e
    have nb:b≠p:=fun q=>by rw [q,gp2] at e;cases e
    rw [upd_ne nb,upd_ne nb,upd_ne z]
    exact sub2 b o e
  ·rw [upd_ne ntp.symm];exact gp2
  ·intro b o nb e
   have e2:=hs2 b o (hs1 b o e)
   have nt:b≠t:=fun q=>by rw [q,ht] at e2;cases e2
   rw [upd_ne nb,upd_ne nb,upd_ne nt]
   exact e2
  ·intro b o e
   by_cases z:b=t
   ·subst z;exact .inr (Same.none hs1 (Same.none hs2 ht))
   ·rw [upd_ne z] at e
    exact (Fresh.trans fr1 hs1 fr2) b o e
  ·rw [upd_same];rfl
  ·simp only [List.map_cons,List.map_nil,Reps,Rep]
   exact ⟨_,_,rfl,⟨t,xs,rfl,upd_same,(rl.same gs1 |>.same gs2).same (Same.upd gt)⟩,_,_,rfl,rfl,rfl⟩
theorem scWithinI:FnScope ["self","lands","most","span"] ["self","lands","most","span"] (defScope (mem 24 0)):=⟨rfl,rfl,rfl,by decide +kernel,rfl,by decide +kernel,by decide +kernel⟩
theorem ok_withinI {fR cR:Addr} {dR:FuncData} (tx:Tx κ K mg) (F:Fun K "__init__" "Within.__init__" (mem 24 0) f fd) (FR:Fun K "__init__" "Rule.__init__" (mem 23 0) fR dR) (bR:Binds K dR ["self","lands","most"] []) (mR:mg "Rule" = some (.ref cR)) (cf:ClsFn K cR "__init__" fR)
  (at0:FnAt P wd κ K mg base pg j) (at1:FnAt P wd κ K mg base pg (j+1)) (ck0:Ck pg j) (ck1:Ck pg (j+1)):FnOk P wd K mg base CX0 (j+2) f fd ["self","lands","most","span"] (spIni κ K okW (goKind "span")):=by
 obtain ⟨fB,dB,FB,mB,kB,bB⟩:=at1.1 "is_between" (top 9) (by kernel_rfl)
 obtain ⟨t1,g1⟩:=tx.gG
 refine F.ok scWithinI (fun vs H Q E h=>?_) (fun cdv A outer s H vs Q E hr h=>?_)
 ·obtain ⟨G,c,C,p,dx,us,args,fs,rfl,_,_,_,_,_,ha,hg,_⟩:=h
  obtain ⟨b,l,m,z,rfl,_⟩:=goKind_is hg
  have:=ha.len
  simp at this
  simp [←this]
 ·obtain ⟨G,c,C,p,dx,us,args,fs,rfl,hrk,hC,hp,gp,sub,ha,hg,k1⟩:=h
  obtain ⟨b,l,m,z,rfl,ol,om,oz,rfl⟩:=goKind_is hg
  simp only [ArRs] at ha
  obtain ⟨v1,us1,rfl,r1,v2,us2,rfl,r2,v3,us3,rfl,r3,rfl⟩:=ha
  simp only [ArR,Rep] at r2 r3
  subst r2 r3
  refine ⟨_,pss_cons (ps_expr (pe_clsfn cf (ok_ruleI tx FR at0 ck0) hr (by rfl) mR bR .nil pass0 (pa_cons (pv 0) (pa_cons (pv 1) (pa_cons (pv 2) pa_nil)))))
   (pss_cons (ps_if (pt_not (pt_val (pe_call FB hr (by rfl) mB kB bB .nil pass0 (pa_cons (pv 3) (pa_cons pe_int (pa_cons (pe_glob (v:=.int 1000000000) (by rfl) g1 ⟨_,rfl⟩) pa_nil)))))) (pss_one ps_never) pss_nil)
   (pss_one (ps_fld (pv 0) (pv 3) rfl))),?_⟩
  refine ⟨_,rfl,_,rfl,_,rfl,G,c,C,p,dx,[v1,.int m],[aA b l,.val (.int m)],_,rfl,okW_rk hrk,hC,hp,gp,sub,⟨_,_,rfl,r1,_,_,rfl,by simp only [ArR,Rep],rfl⟩,goRule_of ol om,fun G1 H1 xs gs1 sub1 gp1 but1 fr1 hp1 hl1 rp1=>?_⟩
  simp only [List.map_cons,List.map_nil,Reps] at rp1
  obtain ⟨x1,w1,rfl,q1,x2,w2,rfl,q2,rfl⟩:=rp1
  refine ⟨_,rfl,spF_of (E:=E0) (G:=G1) (args:=[.val (.int z),.val (.int 1),.val (.int 1000000000)]) sub1 ⟨_,_,rfl,by simp only [ArR,Rep],_,_,rfl,by simp only [ArR,Rep],_,_,rfl,by simp only [ArR,Rep],rfl⟩ (ck1.btw z 1 1000000000 oz) fun v G2 H2 hs2 gs2 sub2 fr2 rr=>?_⟩
  simp only [ReR,Rep] at rr
  subst rr
  refine ⟨_,rfl,?_⟩
  have hp2:=hs2 _ _ hp1
  have gp2:G2 p=none:=fresh_none fr2 gp1 hp1
  refine ⟨_,rfl,_,rfl,p,C,dx,_,rfl,hp2,tx.cls c C hC,tx.nA c _ C (ok_span hrk) hC,(by show 2 < 1000;decide),?_⟩
  refine k1 G2 _ [x1,x2,.int z] (fun b o e=>gs2 b o (gs1 b o e)) (fun b o e=>?_) gp2 (fun b o nb e=>?_) (fun b o e=>?_) ?_ rfl ?_
  ·rw [upd_ne (fun q=>by rw [q,gp2] at e;cases e)];exact sub2 b o e
  ·rw [upd_ne nb];exact hs2 b o (but1 b o nb e)
  ·exact (Fresh.transB fr1 but1 hp1 fr2) b o e
  ·rw [upd_same];rfl
  ·simp only [List.map_cons,List.map_nil,Reps]
   exact ⟨_,_,rfl,q1.same gs2,_,_,rfl,q2.same gs2,_,_,rfl,by simp only [Rep],rfl⟩
theorem scSinceI:FnScope ["self","lands","most","leave"] ["self","lands","most","leave"] (defScope (mem 25 0)):=⟨rfl,rfl,rfl,by decide +kernel,rfl,by decide +kernel,by decide +kernel⟩
theorem ok_sinceI {fR cR:Addr} {dR:FuncData} (tx:Tx κ K mg) (F:Fun K "__init__" "Since.__init__" (mem 25 0) f fd) (FR:Fun K "__init__" "Rule.__init__" (mem 23 0) fR dR) (bR:Binds K dR ["self","lands","most"] []) (mR:mg "Rule" = some (.ref cR)) (cf:ClsFn K cR "__init__" fR)
  (at0:FnAt P wd κ K mg base pg j) (at1:FnAt P wd κ K mg base pg (j+1)) (ck0:Ck pg j) (ck1:Ck pg (j+1)):FnOk P wd K mg base CX0 (j+2) f fd ["self","lands","most","leave"] (spIni κ K okS (goKind "leave")):=by
 obtain ⟨fB,dB,FB,mB,kB,bB⟩:=at1.1 "is_between" (top 9) (by kernel_rfl)
 obtain ⟨t1,g1⟩:=tx.gG
 refine F.ok scSinceI (fun vs H Q E h=>?_) (fun cdv A outer s H vs Q E hr h=>?_)
 ·obtain ⟨G,c,C,p,dx,us,args,fs,rfl,_,_,_,_,_,ha,hg,_⟩:=h
  obtain ⟨b,l,m,z,rfl,_⟩:=goKind_is hg
  have:=ha.len
  simp at this
  simp [←this]
 ·obtain ⟨G,c,C,p,dx,us,args,fs,rfl,hrk,hC,hp,gp,sub,ha,hg,k1⟩:=h
  obtain ⟨b,l,m,z,rfl,ol,om,oz,rfl⟩:=goKind_is hg
  simp only [ArRs] at ha
  obtain ⟨v1,us1,rfl,r1,v2,us2,rfl,r2,v3,us3,rfl,r3,rfl⟩:=ha
  simp only [ArR,Rep] at r2 r3
  subst r2 r3
  refine ⟨_,pss_cons (ps_expr (pe_clsfn cf (ok_ruleI tx FR at0 ck0) hr (by rfl) mR bR .nil pass0 (pa_cons (pv 0) (pa_cons (pv 1) (pa_cons (pv 2) pa_nil)))))
   (pss_cons (ps_if (pt_not (pt_val (pe_call FB hr (by rfl) mB kB bB .nil pass0 (pa_cons (pv 3) (pa_cons pe_int (pa_cons (pe_glob (v:=.int 1000000000) (by rfl) g1 ⟨_,rfl⟩) pa_nil)))))) (pss_one ps_never) pss_nil)
   (pss_one (ps_fld (pv 0) (pv 3) rfl))),?_⟩
  refine ⟨_,rfl,_,rfl,_,rfl,G,c,C,p,dx,[v1,.int m],[aA b l,.val (.int m)],_,rfl,okS_rk hrk,hC,hp,gp,sub,⟨_,_,rfl,r1,_,_,rfl,by simp only [ArR,Rep],rfl⟩,goRule_of ol om,fun G1 H1 xs gs1 sub1 gp1 but1 fr1 hp1 hl1 rp1=>?_⟩
  simp only [List.map_cons,List.map_nil,Reps] at rp1
  obtain ⟨x1,w1,rfl,q1,x2,w2,rfl,q2,rfl⟩:=rp1
  refine ⟨_,rfl,spF_of (E:=E0) (G:=G1) (args:=[.val (.int z),.val (.int 1),.val (.int 1000000000)]) sub1 ⟨_,_,rfl,by simp only [ArR,Rep],_,_,rfl,by simp only [ArR,Rep],_,_,rfl,by simp only [ArR,Rep],rfl⟩ (ck1.btw z 1 1000000000 oz) fun v G2 H2 hs2 gs2 sub2 fr2 rr=>?_⟩
  simp only [ReR,Rep] at rr
  subst rr
  refine ⟨_,rfl,?_⟩
  have hp2:=hs2 _ _ hp1
  have gp2:G2 p=none:=fresh_none fr2 gp1 hp1
  refine ⟨_,rfl,_,rfl,p,C,dx,_,rfl,hp2,tx.cls c C hC,tx.nA c _ C (ok_leave hrk) hC,(by show 2 < 1000;decide),?_⟩
  refine k1 G2 _ [x1,x2,.int z] (fun b o e=>gs2 b o (gs1 b o e)) (fun b o e=>?_) gp2 (fun b o nb e=>?_) (fun b o e=>?_) ?_ rfl ?_
  ·rw [upd_ne (fun q=>by rw [q,gp2] at e;cases e)];exact sub2 b o e
  ·rw [upd_ne nb];exact hs2 b o (but1 b o nb e)
  ·exact (Fresh.transB fr1 but1 hp1 fr2) b o e
  ·rw [upd_same];rfl
  ·simp only [List.map_cons,List.map_nil,Reps]
   exact ⟨_,_,rfl,q1.same gs2,_,_,rfl,q2.same gs2,_,_,rfl,by simp only [Rep],rfl⟩
theorem scInRowI:FnScope ["self","lands","most"] ["self","lands","most"] (defScope (mem 26 0)):=⟨rfl,rfl,rfl,by decide +kernel,rfl,by decide +kernel,by decide +kernel⟩
theorem ok_inrowI {fR cR fS cS:Addr} {dR dS:FuncData} (tx:Tx κ K mg) (F:Fun K "__init__" "InRow.__init__" (mem 26 0) f fd) (FS:Fun K "__init__" "Since.__init__" (mem 25 0) fS dS) (bS:Binds K dS ["self","lands","most","leave"] []) (mS:mg "Since" = some (.ref cS)) (cfS:ClsFn K cS "__init__" fS)
  (FR:Fun K "__init__" "Rule.__init__" (mem 23 0) fR dR) (bR:Binds K dR ["self","lands","most"] []) (mR:mg "Rule" = some (.ref cR)) (cf:ClsFn K cR "__init__" fR)
  (at0:FnAt P wd κ K mg base pg j) (at1:FnAt P wd κ K mg base pg (j+1)) (ck0:Ck pg j) (ck1:Ck pg (j+1)):FnOk P wd K mg base CX0 (j+3) f fd ["self","lands","most"] (spIni κ K okI goRow):=by
 refine F.ok scInRowI (fun vs H Q E h=>?_) (fun cdv A outer s H vs Q E hr h=>?_)
 ·obtain ⟨G,c,C,p,dx,us,args,fs,rfl,_,_,_,_,_,ha,hg,_⟩:=h
  obtain ⟨b,l,m,rfl,_⟩:=goRow_is hg
  have:=ha.len
  simp at this
  simp [←this]
 ·obtain ⟨G,c,C,p,dx,us,args,fs,rfl,hrk,hC,hp,gp,sub,ha,hg,k1⟩:=h
  obtain ⟨b,l,m,rfl,ol,om,rfl⟩:=goRow_is hg
  simp only [ArRs] at ha
  obtain ⟨v1,us1,rfl,r1,v2,us2,rfl,r2,rfl⟩:=ha
  simp only [ArR,Rep] at r2
  subst r2
  refine ⟨_,pss_one (ps_expr (pe_clsfn cfS (ok_sinceI tx FS FR bR mR cf at0 at1 ck0 ck1) hr (by rfl) mS bS .nil pass0 (pa_cons (pv 0) (pa_cons (pv 1) (pa_cons (pv 2) (pa_cons pe_int pa_nil)))))),?_⟩
  exact ⟨_,rfl,_,rfl,_,rfl,G,c,C,p,dx,[v1,.int m,.int 1],[aA b l,.val (.int m),.val (.int 1)],_,rfl,okI_okS hrk,hC,hp,gp,sub,⟨_,_,rfl,r1,_,_,rfl,by simp only [ArR,Rep],_,_,rfl,by simp only [ArR,Rep],rfl⟩,
   goKind_of ol om (by decide),fun G1 H1 xs gs1 sub1 gp1 but1 fr1 hp1 hl1 rp1=>k1 G1 H1 xs gs1 sub1 gp1 but1 fr1 hp1 hl1 rp1⟩
theorem scBookI:FnScope ["self","rules","papers"] ["self","rules","papers"] (defScope (mem 46 0)):=⟨rfl,rfl,rfl,by decide +kernel,rfl,by decide +kernel,by decide +kernel⟩
theorem ok_bookI (tx:Tx κ K mg) (F:Fun K "__init__" "Book.__init__" (mem 46 0) f fd) (at_:FnAt P wd κ K mg base pg j) (ck:Ck pg j):FnOk P wd K mg base CX0 (j+1) f fd ["self","rules","papers"] (spIni κ K okB goBook):=by
 obtain ⟨fA,dA,FA,mA,kA,bA⟩:=at_.1 "are_rules" (top 43) (by kernel_rfl)
 obtain ⟨fB,dB,FB,mB,kB,bB⟩:=at_.1 "check_papers" (top 45) (by kernel_rfl)
 refine F.ok scBookI (fun vs H Q E h=>?_) (fun cdv A outer s H vs Q E hr h=>?_)
 ·obtain ⟨G,c,C,p,dx,us,args,fs,rfl,_,_,_,_,_,ha,hg,_⟩:=h
  obtain ⟨b0,c0,l,ps,rfl,_⟩:=goBook_is hg
  have:=ha.len
  simp at this
  simp [←this]
 ·obtain ⟨G,c,C,p,dx,us,args,fs,rfl,hrk,hC,hp,gp,sub,ha,hg,k1⟩:=h
  obtain ⟨b0,c0,l,ps,rfl,ol,op,rfl⟩:=goBook_is hg
  simp only [ArRs] at ha
  obtain ⟨v1,us1,rfl,r1,v2,us2,rfl,r2,rfl⟩:=ha
  obtain ⟨a,xs,rfl,hxa,rl⟩:=arL_rep sub r1
  obtain ⟨b,ys,rfl,hb,rp⟩:=arL_rep sub r2
  refine ⟨_,pss_cons (ps_if (pt_not (pt_val (pe_call FA hr (by rfl) mA kA bA .nil pass0 (pa_cons (pv 1) pa_nil)))) (pss_one ps_never) pss_nil)
   (pss_cons (ps_expr (pe_call FB hr (by rfl) mB kB bB .nil pass0 (pa_cons (pv 2) (pa_cons (pe_callB call_len_seq (by rfl) tx.len PySem.boot_len (pa_cons (pv 1) pa_nil)) pa_nil))))
   (pss_cons (ps_fld (pv 0) (pe_callTy call_list_of (by rfl) tx.lst PyProof.Rows.boot_list (pa_cons (pv 1) pa_nil)) rfl)
   (pss_one (ps_fld (pv 0) (pe_callTy call_list_of (by rfl) tx.lst PyProof.Rows.boot_list (pa_cons (pv 2) pa_nil)) rfl)))),?_⟩
  refine ⟨_,rfl,spF_of (E:=E0) (G:=G) (args:=[aA b0 l]) sub ⟨_,_,rfl,r1,rfl⟩ (ck.rules b0 l ol) fun v G1 H1 hs1 gs1 sub1 fr1 rr=>?_⟩
  simp only [ReR,Rep] at rr
  subst rr
  refine ⟨_,rfl,?_⟩
  have ga1:H1 a=some (.lst xs):=hs1 _ _ hxa
  refine ⟨_,rfl,_,rfl,a,xs,rfl,.inl (SqL.of ga1),?_⟩
  refine spF_of (E:=E0) (G:=G1) (args:=[aA c0 ps,.val (.int l.length)]) sub1 ⟨_,_,rfl,aA_low r2 gs1 hs1,_,_,rfl,by simp only [ArR,Rep];rw [rl.len],rfl⟩ (ck.papers c0 ps l.length op) fun v G2 H2 hs2 gs2 sub2 fr2 rr=>?_
  have hp2:H2 p=some (.ins C dx []):=hs2 _ _ (hs1 _ _ hp)
  have gp1:G1 p=none:=fresh_none fr1 gp hp
  have gp2:G2 p=none:=fresh_none fr2 gp1 (hs1 _ _ hp)
  have ga2:H2 a=some (.lst xs):=hs2 _ _ ga1
  have hb2:H2 b=some (.lst ys):=hs2 _ _ (hs1 _ _ hb)
  refine ⟨_,rfl,a,xs,rfl,.inl (SqL.of ga2),fun t ht=>?_⟩
  have ntp:t≠p:=fun z=>by rw [z,hp2] at ht;cases ht
  have gt:G2 t=none:=Same.none sub2 ht
  refine ⟨_,rfl,p,C,dx,_,rfl,by rw [upd_ne ntp.symm];exact hp2,tx.cls c C hC,tx.nA c _ C (ok_book hrk).1 hC,by decide,?_⟩
  have nbt:b≠t:=fun z=>by rw [z,ht] at hb2;cases hb2
  have nbp:b≠p:=fun z=>by rw [z,hp2] at hb2;cases hb2
  refine ⟨_,rfl,b,ys,rfl,.inl (SqL.of (by rw [upd_ne nbp,upd_ne nbt];exact hb2)),fun u hu=>?_⟩
  have nup:u≠p:=fun z=>by rw [z,upd_same] at hu;cases hu
  have nut:u≠t:=fun z=>by rw [z,upd_ne ntp,upd_same] at hu;cases hu
  have hu2:H2 u=none:=by rw [upd_ne nup,upd_ne nut] at hu;exact hu
  have gu:G2 u=none:=Same.none sub2 hu2
  refine ⟨_,rfl,p,C,dx,_,rfl,by rw [upd_ne nup.symm,upd_same],tx.cls c C hC,tx.nA c _ C (ok_book hrk).2 hC,(by show 1 < 1000;decide),?_⟩
  have gut:upd G2 t (.lst xs) u=none:=by rw [upd_ne nut];exact gu
  refine k1 (upd (upd G2 t (.lst xs)) u (.lst ys)) _ [.ref t,.ref u] ?_ ?_ ?_ ?_ ?_ ?_ rfl ?_
  ·exact fun b o e=>Same.upd gut b o (Same.upd gt b o (gs2 b o (gs1 b o e)))
  ·intro q o e
   by_cases z:q=u
   ·subst z;rw [upd_same] at e;cases e;rw [upd_ne nup,upd_same]
   ·rw [upd_ne z] at e
    by_cases z2:q=t
    ·subst z2;rw [upd_same] at e;cases e;rw [upd_ne ntp,upd_ne z,upd_ne ntp,upd_same]
    ·rw [upd_ne z2] at e
     have nq:q≠p:=fun w=>by rw [w,gp2] at e;cases e
     rw [upd_ne nq,upd_ne z,upd_ne nq,upd_ne z2]
     exact sub2 q o e
  ·rw [upd_ne nup.symm,upd_ne ntp.symm];exact gp2
  ·intro q o nq e
   have e2:=hs2 q o (hs1 q o e)
   have n1:q≠t:=fun w=>by rw [w,ht] at e2;cases e2
   have n2:q≠u:=fun w=>by rw [w,hu2] at e2;cases e2
   rw [upd_ne nq,upd_ne n2,upd_ne nq,upd_ne n1]
   exact e2
  ·intro q o e
   by_cases z:q=u
   ·subst z;exact .inr (Same.none hs1 (Same.none hs2 hu2))
   ·rw [upd_ne z] at e
    by_cases z2:q=t
    ·subst z2;exact .inr (Same.none hs1 (Same.none hs2 ht))
    ·rw [upd_ne z2] at e
     exact (Fresh.trans fr1 hs1 fr2) q o e
  ·rw [upd_same];rfl
  ·simp only [List.map_cons,List.map_nil,Reps,Rep]
   exact ⟨_,_,rfl,⟨t,xs,rfl,by rw [upd_ne nut.symm];exact upd_same,((rl.same gs1 |>.same gs2).same (Same.upd gt)).same (Same.upd gut)⟩,_,_,rfl,⟨u,ys,rfl,upd_same,((rp.same gs1 |>.same gs2).same (Same.upd gt)).same (Same.upd gut)⟩,rfl⟩
end
end K25
set_option maxHeartbeats 4000000
namespace HD
open PySem PySem.W
noncomputable def topRunT (tb:String→Option Builtin) (p:Program) (w:World) (n₀:Nat) (ann:Option Value):Nat→SharedT→Thread→Option SharedT
 | 0,_,_=>none
 | n+1,s,t=>match through t with
  | true=>some s
  | false=>match stepOk n₀ ann t with
   | false=>none
   | true=>match stepT (denote tb) p w s t with
    | some (s',t')=>topRunT tb p w n₀ ann n s' t'
    | none=>none
theorem topRun_of {tb:String→Option Builtin} {p:Program} {w:World} {n₀:Nat} {ann:Option Value}:∀ {n:Nat} {s s':SharedT} {t:Thread},topRunT tb p w n₀ ann n s t=some s'→topRun tb p w n₀ ann n s.abs t=some s'.abs
 | 0,_,_,_,h=>by cases h
 | n+1,s,s',t,h=>by
  unfold topRunT at h
  unfold topRun
  cases ht:through t with
  | true=>rw [ht] at h;cases h;rfl
  | false=>
   rw [ht] at h
   cases hk:stepOk n₀ ann t with
   | false=>rw [hk] at h;cases h
   | true=>
    rw [hk] at h
    cases hs:stepT (denote tb) p w s t with
    | none=>rw [hs] at h;cases h
    | some r=>obtain ⟨s₂,t₂⟩:=r;rw [hs] at h;dsimp only;rw [stepT_spec hs];exact topRun_of h
noncomputable def ofL:List Obj→Nat→BT→BT
 | [],_,t=>t
 | o::r,n,t=>ofL r (n+1) (t.ins n o)
noncomputable def bootT (P:Params) (os:OsState):SharedT:=⟨ofL (boot_heap P).objs.toList 0 .nil,(boot_heap P).objs.toList.length,(boot_heap P).life,Array.mk [],boot_drawn,boot_toks,os⟩
theorem bootT_abs (P:Params) (os:OsState):(bootT P os).abs=⟨boot_heap P,Array.mk [],boot_drawn,boot_toks,os⟩:=by kernel_rfl
noncomputable def lookT {α:Type} (p q:Program) (loose:List Str) (Xt:Shared→Bool) (Yf:Shared→α) (g0:Bool) (H₀:Heap) (s:Shared):=
 (staticsOk (importedModules p.main.body) H₀ s.heap&&namesBound p s.heap&&gensDone s&&laidKept H₀ s.heap,openSeen q loose (importedModules p.main.body) Xt g0 s,Yf s)
theorem left_of {p q:Program} {loose:List Str} {Xt:Shared→Bool} {α:Type} {Yf:Shared→α} {Ya:World→α} {N:Nat} {g0:Bool} {m₀:Nat} {ann:Option Value}
  (open_:∀ w:World,(fencedOpening treeTable p w N).map (fun s=>(s.heap,s.gens,s.drawn,s.toks))=some (boot_heap w.params,Array.mk [],boot_drawn,boot_toks))
  (size:∀ w:World,((boot_heap w.params).isNs mainGlobals&&(Array.mk []:Array GenState).size == 0,(boot_heap w.params).objs.size,(boot_heap w.params).nsMap mainGlobals "__annotations__")=(true,m₀,ann))
  (h:∀ w os,(topRunT treeTable p w m₀ ann N (bootT w.params os) (topStub p)).map (fun s=>lookT p q loose Xt Yf g0 (boot_heap w.params) s.abs)=some (true,openGood q loose,Ya w)):LeftO p q loose Xt Yf Ya N g0:=fun w=>by
 obtain ⟨⟨h0,gs,d,k,os⟩,e,e'⟩:=Option.map_eq_some_iff.mp (open_ w)
 obtain ⟨rfl,rfl,rfl,rfl⟩:h0=boot_heap w.params∧gs=Array.mk []∧d=boot_drawn∧k=boot_toks:=by simpa using e'
 obtain ⟨z1,z2,z3⟩:_∧_∧_:=by simpa only [Prod.mk.injEq] using size w
 obtain ⟨s₁,r,l⟩:=Option.map_eq_some_iff.mp (h w os)
 have r':=topRun_of r
 rw [bootT_abs] at r'
 obtain ⟨l1,l2,l3⟩:_∧_∧_:=by simpa only [lookT,Prod.mk.injEq] using l
 have t:topFrom treeTable p w N ⟨boot_heap w.params,Array.mk [],boot_drawn,boot_toks,os⟩=some s₁.abs:=by
  unfold topFrom
  dsimp only
  rw [z1,z2,z3,r']
  show (match staticsOk (importedModules p.main.body) (boot_heap w.params) s₁.abs.heap&&namesBound p s₁.abs.heap&&gensDone s₁.abs&&laidKept (boot_heap w.params) s₁.abs.heap with | true=>_ | false=>_)=_
  rw [l1]
 unfold openEnds
 rw [e]
 show (topFrom treeTable p w N _).map _=_
 rw [t]
 exact congrArg some (Prod.ext l2 l3)
end HD
namespace HD
open PySem PySem.W
noncomputable def dE (P:Params) (k:Str) (t:Tok) (v:Value):DictEntry:=⟨PyData.keyHash P k,.str k t,v⟩
noncomputable def oFn (d:Option Addr) (st:Stmt) (name qual:Str) (dV kV doc pm:Value) (an:Option Addr) (cd ct:Value):Obj:=⟨.type "function",d,.func (fnOf name qual (L2.defArgs st) (L2.defBody st) (L2.defScope st) dV kV doc pm an cd ct),#[]⟩
noncomputable def oT (xs:Array Value):Obj:=⟨.type "tuple",none,.seq xs 0,#[]⟩
noncomputable def oC (n:Str) (t1:Tok) (q:Str) (t2 t3:Tok) (l ar:Int) (a b:Addr) (x y:Value) (c:Addr) (u:Int) (v:Tok):Obj:=⟨.type "code",none,.fields #[.str n t1,.str q t2,.str "/claim/cut.py" t3,.int l 0,.int ar 0,.int 0 0,.int 0 0,.int 3 0,.ref a,.bool true,.int 181 0,.ref b,.none,x,y,.ref c,.int u 0,.int l 0,.str "/claim/cut.py" v],#[]⟩
theorem boot_size (w:World):((boot_heap w.params).isNs mainGlobals&&(Array.mk []:Array GenState).size == 0,(boot_heap w.params).objs.size,(boot_heap w.params).nsMap mainGlobals "__annotations__")=(true,11,some (.ref 6)):=by kernel_rfl
end HD
set_option maxHeartbeats 4000000
namespace K25
open PySem PySem.W HD DG
noncomputable abbrev HP:Program:=PySem.Challenge.rw_daysgate_k25_whole_what_comes_later.row.toRowW.prog
noncomputable def Hq:Program:=view HP [0,2,3,5,6,7,8,9,10,11,12,14,15,16,17,19,20,21,22,23,24,25,26,28,29,30,31,33,34,35,36,37,38,39,41,42,43,44,45,46,48,49,50,51,52,53,54,55]
noncomputable def Hx (s:Shared):Bool:=xlAt Hq [] s&&recOk (RowW.records PySem.Challenge.rw_daysgate_k25_whole_what_comes_later.row.toRowW) s
noncomputable def Has:List Addr:=[nat_lit 2,nat_lit 3,nat_lit 15,nat_lit 17,nat_lit 18,nat_lit 20,nat_lit 21,nat_lit 22,nat_lit 24,nat_lit 25,nat_lit 27,nat_lit 28,nat_lit 29,nat_lit 31,nat_lit 32,nat_lit 34,nat_lit 35,nat_lit 36,nat_lit 38,nat_lit 39,nat_lit 41,nat_lit 42,nat_lit 43,nat_lit 45,nat_lit 46,nat_lit 48,nat_lit 49,nat_lit 50,nat_lit 52,nat_lit 53,nat_lit 55,nat_lit 56,nat_lit 57,nat_lit 59,nat_lit 60,nat_lit 62,nat_lit 63,nat_lit 64,nat_lit 66,nat_lit 67,nat_lit 69,nat_lit 70,nat_lit 71,nat_lit 78,nat_lit 79,nat_lit 80,nat_lit 81,nat_lit 84,nat_lit 91,nat_lit 92,nat_lit 93,nat_lit 96,nat_lit 103,nat_lit 105,nat_lit 106,nat_lit 108,nat_lit 109,nat_lit 110,nat_lit 111,nat_lit 112,nat_lit 115,nat_lit 122,nat_lit 124,nat_lit 125,nat_lit 127,nat_lit 128,nat_lit 129,nat_lit 130,nat_lit 131,nat_lit 134,nat_lit 136,nat_lit 137,nat_lit 139,nat_lit 140,nat_lit 141,nat_lit 143,nat_lit 144,nat_lit 146,nat_lit 147,nat_lit 155,nat_lit 157,nat_lit 158,nat_lit 160,nat_lit 161,nat_lit 162,nat_lit 164,nat_lit 165,nat_lit 167,nat_lit 168,nat_lit 169,nat_lit 170,nat_lit 171,nat_lit 172,nat_lit 173,nat_lit 176,nat_lit 183,nat_lit 185,nat_lit 186,nat_lit 188,nat_lit 189,nat_lit 190,nat_lit 192,nat_lit 193,nat_lit 195,nat_lit 196,nat_lit 197,nat_lit 198,nat_lit 199,nat_lit 202,nat_lit 209,nat_lit 211,nat_lit 212,nat_lit 214,nat_lit 215,nat_lit 216,nat_lit 218,nat_lit 219,nat_lit 221,nat_lit 222,nat_lit 223,nat_lit 224,nat_lit 225,nat_lit 228,nat_lit 235,nat_lit 237,nat_lit 238,nat_lit 240,nat_lit 241,nat_lit 242,nat_lit 244,nat_lit 245,nat_lit 247,nat_lit 248,nat_lit 249,nat_lit 250,nat_lit 251,nat_lit 254,nat_lit 256,nat_lit 257,nat_lit 259,nat_lit 260,nat_lit 261,nat_lit 263,nat_lit 264,nat_lit 266,nat_lit 267,nat_lit 268,nat_lit 270,nat_lit 271,nat_lit 273,nat_lit 274,nat_lit 275,nat_lit 277,nat_lit 278,nat_lit 280,nat_lit 281,nat_lit 282,nat_lit 285,nat_lit 286,nat_lit 287,nat_lit 289,nat_lit 290,nat_lit 292,nat_lit 293,nat_lit 294,nat_lit 296,nat_lit 297,nat_lit 299,nat_lit 300,nat_lit 301,nat_lit 303,nat_lit 304,nat_lit 306,nat_lit 307,nat_lit 308,nat_lit 310,nat_lit 311,nat_lit 313,nat_lit 314,nat_lit 315,nat_lit 318,nat_lit 319,nat_lit 320,nat_lit 322,nat_lit 323,nat_lit 325,nat_lit 326,nat_lit 327,nat_lit 329,nat_lit 330,nat_lit 332,nat_lit 333,nat_lit 334,nat_lit 336,nat_lit 337,nat_lit 339,nat_lit 340,nat_lit 348,nat_lit 350,nat_lit 351,nat_lit 353,nat_lit 354,nat_lit 355,nat_lit 357,nat_lit 358,nat_lit 360,nat_lit 361,nat_lit 362,nat_lit 364,nat_lit 365,nat_lit 367,nat_lit 368,nat_lit 369,nat_lit 372,nat_lit 373,nat_lit 374,nat_lit 375,nat_lit 376,nat_lit 377,nat_lit 378,nat_lit 381,nat_lit 383,nat_lit 384,nat_lit 386,nat_lit 387,nat_lit 388,nat_lit 390,nat_lit 391,nat_lit 393,nat_lit 394,nat_lit 395,nat_lit 397,nat_lit 398,nat_lit 400,nat_lit 401,nat_lit 402,nat_lit 404,nat_lit 405,nat_lit 407,nat_lit 408,nat_lit 409,nat_lit 411,nat_lit 412,nat_lit 414,nat_lit 415,nat_lit 416,nat_lit 418,nat_lit 419,nat_lit 421,nat_lit 422,nat_lit 423,nat_lit 425,nat_lit 426,nat_lit 428,nat_lit 429,nat_lit 430,nat_lit 433,nat_lit 434]
noncomputable def Ho2 (P:Params):Obj:=⟨.none,none,.dict #[] 0,#[]⟩
noncomputable def Ho3 (P:Params):Obj:=⟨(.type "dict"),none,.dict #[dE P "__name__" 165 (.str "law_daysgate_k25_whole_what_comes_later" 697),dE P "__doc__" 166 .none,dE P "__package__" 167 .none,dE P "__loader__" 168 (.builtin "__main__.__loader__#opaque"),dE P "__spec__" 169 .none,dE P "__annotations__" 170 (.ref 6),dE P "__builtins__" 171 (.ref 4),dE P "__file__" 173 (.str "/claim/cut.py" 172),dE P "__cached__" 174 .none,dE P "_wall" 193 (.ref 21),dE P "spread" 205 (.ref 28),dE P "holds" 215 (.ref 35),dE P "GREATEST" 219 (.int (1000000000) 218),dE P "LETTERS" 221 (.str "abcdefghijklmnopqrstuvwxyz" 220),dE P "LONGEST_NAME" 223 (.int (8) 222),dE P "is_whole" 230 (.ref 42),dE P "is_between" 239 (.ref 49),dE P "are_days" 247 (.ref 56),dE P "is_made_of" 256 (.ref 63),dE P "is_name" 263 (.ref 70),dE P "DayError" 283 (.ref 80),dE P "NoRule" 299 (.ref 93),dE P "NoPaper" 324 (.ref 112),dE P "NoStay" 349 (.ref 131),dE P "MOST_LANDS" 353 (.int (6) 352),dE P "GREATEST_WEIGHT" 355 (.int (9) 354),dE P "is_land" 362 (.ref 140),dE P "are_lands" 371 (.ref 147),dE P "Rule" 412 (.ref 171),dE P "Within" 446 (.ref 199),dE P "Since" 480 (.ref 225),dE P "InRow" 512 (.ref 251),dE P "MOST_STAYS" 516 (.int (60) 515),dE P "is_stay" 523 (.ref 260),dE P "stays_of" 533 (.ref 267),dE P "land_among" 544 (.ref 274),dE P "weigh" 556 (.ref 281),dE P "count_within" 562 (.ref 286),dE P "count_since" 577 (.ref 293),dE P "window_by_days" 587 (.ref 300),dE P "weight_on" 597 (.ref 307),dE P "count_by_days" 607 (.ref 314),dE P "fault_by_days" 613 (.ref 319),dE P "MOST_RULES" 617 (.int (8) 616),dE P "MOST_PAPERS" 619 (.int (12) 618),dE P "are_rules" 627 (.ref 326),dE P "is_paper" 635 (.ref 333),dE P "check_papers" 645 (.ref 340),dE P "Book" 696 (.ref 376),dE P "_law_cell_at" 706 (.ref 387),dE P "_law_lands" 722 (.ref 394),dE P "_law_rule" 735 (.ref 401),dE P "_law_made" 746 (.ref 408),dE P "_law_paper" 757 (.ref 415),dE P "_law_stays" 772 (.ref 422),dE P "_law_cut" 784 (.ref 429),dE P "law" 790 (.ref 434)] 57,#[]⟩
noncomputable def Ho15 (P:Params):Obj:=oT #[]
noncomputable def Ho17 (P:Params):Obj:=oT #[(.str "k" 190)]
noncomputable def Ho18 (P:Params):Obj:=oT #[]
noncomputable def Ho20 (P:Params):Obj:=oC "_wall" 187 "_wall" 188 189 1 1 15 16 (.ref 17) (.ref 18) 19 191 192
noncomputable def Ho21 (P:Params):Obj:=oFn none (top 0) "_wall" "_wall" .none .none .none (.str "__main__" 164) none (.ref 20) .none
noncomputable def Ho22 (P:Params):Obj:=oT #[]
noncomputable def Ho24 (P:Params):Obj:=oT #[(.str "stretches" 199),(.str "found" 200),(.str "first" 201),(.str "last" 202)]
noncomputable def Ho25 (P:Params):Obj:=oT #[]
noncomputable def Ho27 (P:Params):Obj:=oC "spread" 196 "spread" 197 198 5 1 22 23 (.ref 24) (.ref 25) 26 203 204
noncomputable def Ho28 (P:Params):Obj:=oFn none (top 2) "spread" "spread" .none .none .none (.str "daysgate.days" 194) none (.ref 27) .none
noncomputable def Ho29 (P:Params):Obj:=oT #[]
noncomputable def Ho31 (P:Params):Obj:=oT #[(.str "one" 209),(.str "day" 210),(.str "first" 211),(.str "last" 212)]
noncomputable def Ho32 (P:Params):Obj:=oT #[]
noncomputable def Ho34 (P:Params):Obj:=oC "holds" 206 "holds" 207 208 13 2 29 30 (.ref 31) (.ref 32) 33 213 214
noncomputable def Ho35 (P:Params):Obj:=oFn none (top 3) "holds" "holds" .none .none .none (.str "daysgate.days" 194) none (.ref 34) .none
noncomputable def Ho36 (P:Params):Obj:=oT #[]
noncomputable def Ho38 (P:Params):Obj:=oT #[(.str "thing" 227)]
noncomputable def Ho39 (P:Params):Obj:=oT #[]
noncomputable def Ho41 (P:Params):Obj:=oC "is_whole" 224 "is_whole" 225 226 22 1 36 37 (.ref 38) (.ref 39) 40 228 229
noncomputable def Ho42 (P:Params):Obj:=oFn none (top 8) "is_whole" "is_whole" .none .none .none (.str "daysgate.checks" 216) none (.ref 41) .none
noncomputable def Ho43 (P:Params):Obj:=oT #[]
noncomputable def Ho45 (P:Params):Obj:=oT #[(.str "thing" 234),(.str "least" 235),(.str "greatest" 236)]
noncomputable def Ho46 (P:Params):Obj:=oT #[]
noncomputable def Ho48 (P:Params):Obj:=oC "is_between" 231 "is_between" 232 233 24 3 43 44 (.ref 45) (.ref 46) 47 237 238
noncomputable def Ho49 (P:Params):Obj:=oFn none (top 9) "is_between" "is_between" .none .none .none (.str "daysgate.checks" 216) none (.ref 48) .none
noncomputable def Ho50 (P:Params):Obj:=oT #[]
noncomputable def Ho52 (P:Params):Obj:=oT #[(.str "first" 243),(.str "last" 244)]
noncomputable def Ho53 (P:Params):Obj:=oT #[]
noncomputable def Ho55 (P:Params):Obj:=oC "are_days" 240 "are_days" 241 242 26 2 50 51 (.ref 52) (.ref 53) 54 245 246
noncomputable def Ho56 (P:Params):Obj:=oFn none (top 10) "are_days" "are_days" .none .none .none (.str "daysgate.checks" 216) none (.ref 55) .none
noncomputable def Ho57 (P:Params):Obj:=oT #[]
noncomputable def Ho59 (P:Params):Obj:=oT #[(.str "text" 251),(.str "signs" 252),(.str "sign" 253)]
noncomputable def Ho60 (P:Params):Obj:=oT #[]
noncomputable def Ho62 (P:Params):Obj:=oC "is_made_of" 248 "is_made_of" 249 250 28 2 57 58 (.ref 59) (.ref 60) 61 254 255
noncomputable def Ho63 (P:Params):Obj:=oFn none (top 11) "is_made_of" "is_made_of" .none .none .none (.str "daysgate.checks" 216) none (.ref 62) .none
noncomputable def Ho64 (P:Params):Obj:=oT #[]
noncomputable def Ho66 (P:Params):Obj:=oT #[(.str "thing" 260)]
noncomputable def Ho67 (P:Params):Obj:=oT #[]
noncomputable def Ho69 (P:Params):Obj:=oC "is_name" 257 "is_name" 258 259 33 1 64 65 (.ref 66) (.ref 67) 68 261 262
noncomputable def Ho70 (P:Params):Obj:=oFn none (top 12) "is_name" "is_name" .none .none .none (.str "daysgate.checks" 216) none (.ref 69) .none
noncomputable def Ho71 (P:Params):Obj:=oT #[(.type "ValueError")]
noncomputable def Ho78 (P:Params):Obj:=oT #[]
noncomputable def Ho79 (P:Params):Obj:=⟨(.type "dict"),none,.dict #[dE P "__module__" 273 (.str "daysgate.errors" 264),dE P "__firstlineno__" 277 (.int (38) 276),dE P "__static_attributes__" 278 (.ref 78),dE P "__weakref__" 280 (.ref 81),dE P "__doc__" 281 .none] 3,#[]⟩
noncomputable def Ho80 (P:Params):Obj:=⟨(.type "type"),none,.cls ⟨"DayError",[(.type "ValueError")],[(.ref 80),(.type "ValueError"),(.type "Exception"),(.type "BaseException"),(.type "object")],79,"DayError",true,[],[(.ref 93),(.ref 112),(.ref 131)],false,none,false⟩,#[some (.ref 71),none,some (.str "DayError" 266),some (.str "DayError" 274),some (.builtin "ValueError.__new__"),some (.bool true)]⟩
noncomputable def Ho81 (P:Params):Obj:=⟨(.type "getset_descriptor"),none,.fields #[(.str "__weakref__" 279),(.ref 80),(.builtin "ExceptionGroup.__weakref__"),.none],#[]⟩
noncomputable def Ho84 (P:Params):Obj:=oT #[(.ref 80)]
noncomputable def Ho91 (P:Params):Obj:=oT #[]
noncomputable def Ho92 (P:Params):Obj:=⟨(.type "dict"),none,.dict #[dE P "__module__" 291 (.str "daysgate.errors" 264),dE P "__firstlineno__" 295 (.int (40) 294),dE P "__static_attributes__" 296 (.ref 91),dE P "__doc__" 297 .none] 2,#[]⟩
noncomputable def Ho93 (P:Params):Obj:=⟨(.type "type"),none,.cls ⟨"NoRule",[(.ref 80)],[(.ref 93),(.ref 80),(.type "ValueError"),(.type "Exception"),(.type "BaseException"),(.type "object")],92,"NoRule",true,[],[],false,none,false⟩,#[some (.ref 84),none,some (.str "NoRule" 284),some (.str "NoRule" 292),some (.builtin "ValueError.__new__"),some (.bool true)]⟩
noncomputable def Ho96 (P:Params):Obj:=oT #[(.ref 80)]
noncomputable def Ho103 (P:Params):Obj:=oT #[]
noncomputable def Ho105 (P:Params):Obj:=oT #[(.str "self" 315),(.str "number" 316)]
noncomputable def Ho106 (P:Params):Obj:=oT #[]
noncomputable def Ho108 (P:Params):Obj:=oC "__init__" 312 "NoPaper.__init__" 313 314 44 2 103 104 (.ref 105) (.ref 106) 107 317 318
noncomputable def Ho109 (P:Params):Obj:=oFn none (mem 16 0) "__init__" "NoPaper.__init__" .none .none .none (.str "daysgate.errors" 264) none (.ref 108) .none
noncomputable def Ho110 (P:Params):Obj:=oT #[(.str "number" 320)]
noncomputable def Ho111 (P:Params):Obj:=⟨(.type "dict"),none,.dict #[dE P "__module__" 307 (.str "daysgate.errors" 264),dE P "__firstlineno__" 311 (.int (42) 310),dE P "__init__" 319 (.ref 109),dE P "__static_attributes__" 321 (.ref 110),dE P "__doc__" 322 .none] 2,#[]⟩
noncomputable def Ho112 (P:Params):Obj:=⟨(.type "type"),none,.cls ⟨"NoPaper",[(.ref 80)],[(.ref 112),(.ref 80),(.type "ValueError"),(.type "Exception"),(.type "BaseException"),(.type "object")],111,"NoPaper",true,[],[],false,none,false⟩,#[some (.ref 96),none,some (.str "NoPaper" 300),some (.str "NoPaper" 308),some (.builtin "ValueError.__new__"),some (.bool true)]⟩
noncomputable def Ho115 (P:Params):Obj:=oT #[(.ref 80)]
noncomputable def Ho122 (P:Params):Obj:=oT #[]
noncomputable def Ho124 (P:Params):Obj:=oT #[(.str "self" 340),(.str "number" 341)]
noncomputable def Ho125 (P:Params):Obj:=oT #[]
noncomputable def Ho127 (P:Params):Obj:=oC "__init__" 337 "NoStay.__init__" 338 339 49 2 122 123 (.ref 124) (.ref 125) 126 342 343
noncomputable def Ho128 (P:Params):Obj:=oFn none (mem 17 0) "__init__" "NoStay.__init__" .none .none .none (.str "daysgate.errors" 264) none (.ref 127) .none
noncomputable def Ho129 (P:Params):Obj:=oT #[(.str "number" 345)]
noncomputable def Ho130 (P:Params):Obj:=⟨(.type "dict"),none,.dict #[dE P "__module__" 332 (.str "daysgate.errors" 264),dE P "__firstlineno__" 336 (.int (47) 335),dE P "__init__" 344 (.ref 128),dE P "__static_attributes__" 346 (.ref 129),dE P "__doc__" 347 .none] 2,#[]⟩
noncomputable def Ho131 (P:Params):Obj:=⟨(.type "type"),none,.cls ⟨"NoStay",[(.ref 80)],[(.ref 131),(.ref 80),(.type "ValueError"),(.type "Exception"),(.type "BaseException"),(.type "object")],130,"NoStay",true,[],[],false,none,false⟩,#[some (.ref 115),none,some (.str "NoStay" 325),some (.str "NoStay" 333),some (.builtin "ValueError.__new__"),some (.bool true)]⟩
noncomputable def Ho134 (P:Params):Obj:=oT #[]
noncomputable def Ho136 (P:Params):Obj:=oT #[(.str "thing" 359)]
noncomputable def Ho137 (P:Params):Obj:=oT #[]
noncomputable def Ho139 (P:Params):Obj:=oC "is_land" 356 "is_land" 357 358 55 1 134 135 (.ref 136) (.ref 137) 138 360 361
noncomputable def Ho140 (P:Params):Obj:=oFn none (top 21) "is_land" "is_land" .none .none .none (.str "daysgate.rules" 350) none (.ref 139) .none
noncomputable def Ho141 (P:Params):Obj:=oT #[]
noncomputable def Ho143 (P:Params):Obj:=oT #[(.str "things" 366),(.str "names" 367),(.str "thing" 368)]
noncomputable def Ho144 (P:Params):Obj:=oT #[]
noncomputable def Ho146 (P:Params):Obj:=oC "are_lands" 363 "are_lands" 364 365 59 1 141 142 (.ref 143) (.ref 144) 145 369 370
noncomputable def Ho147 (P:Params):Obj:=oFn none (top 22) "are_lands" "are_lands" .none .none .none (.str "daysgate.rules" 350) none (.ref 146) .none
noncomputable def Ho155 (P:Params):Obj:=oT #[]
noncomputable def Ho157 (P:Params):Obj:=oT #[(.str "self" 387),(.str "lands" 388),(.str "most" 389)]
noncomputable def Ho158 (P:Params):Obj:=oT #[]
noncomputable def Ho160 (P:Params):Obj:=oC "__init__" 384 "Rule.__init__" 385 386 70 3 155 156 (.ref 157) (.ref 158) 159 390 391
noncomputable def Ho161 (P:Params):Obj:=oFn none (mem 23 0) "__init__" "Rule.__init__" .none .none .none (.str "daysgate.rules" 350) none (.ref 160) .none
noncomputable def Ho162 (P:Params):Obj:=oT #[]
noncomputable def Ho164 (P:Params):Obj:=oT #[(.str "self" 396),(.str "land" 397),(.str "name" 398),(.str "times" 399)]
noncomputable def Ho165 (P:Params):Obj:=oT #[]
noncomputable def Ho167 (P:Params):Obj:=oC "weight" 393 "Rule.weight" 394 395 78 2 162 163 (.ref 164) (.ref 165) 166 400 401
noncomputable def Ho168 (P:Params):Obj:=oFn none (mem 23 1) "weight" "Rule.weight" .none .none .none (.str "daysgate.rules" 350) none (.ref 167) .none
noncomputable def Ho169 (P:Params):Obj:=oT #[(.str "lands" 403),(.str "most" 404)]
noncomputable def Ho170 (P:Params):Obj:=⟨(.type "dict"),none,.dict #[dE P "__module__" 379 (.str "daysgate.rules" 350),dE P "__firstlineno__" 383 (.int (68) 382),dE P "__init__" 392 (.ref 161),dE P "weight" 402 (.ref 168),dE P "__static_attributes__" 405 (.ref 169),dE P "__dict__" 407 (.ref 172),dE P "__weakref__" 409 (.ref 173),dE P "__doc__" 410 .none] 4,#[]⟩
noncomputable def Ho171 (P:Params):Obj:=⟨(.type "type"),none,.cls ⟨"Rule",[(.type "object")],[(.ref 171),(.type "object")],170,"Rule",true,[],[(.ref 199),(.ref 225)],false,none,false⟩,#[none,none,some (.str "Rule" 372),some (.str "Rule" 380),some (.builtin "object.__new__"),some (.bool true)]⟩
noncomputable def Ho172 (P:Params):Obj:=⟨(.type "getset_descriptor"),none,.fields #[(.str "__dict__" 406),(.ref 171),(.builtin "function.__dict__"),(.builtin "function.__dict__#set")],#[]⟩
noncomputable def Ho173 (P:Params):Obj:=⟨(.type "getset_descriptor"),none,.fields #[(.str "__weakref__" 408),(.ref 171),(.builtin "ExceptionGroup.__weakref__"),.none],#[]⟩
noncomputable def Ho176 (P:Params):Obj:=oT #[(.ref 171)]
noncomputable def Ho183 (P:Params):Obj:=oT #[]
noncomputable def Ho185 (P:Params):Obj:=oT #[(.str "self" 428),(.str "lands" 429),(.str "most" 430),(.str "span" 431)]
noncomputable def Ho186 (P:Params):Obj:=oT #[]
noncomputable def Ho188 (P:Params):Obj:=oC "__init__" 425 "Within.__init__" 426 427 85 4 183 184 (.ref 185) (.ref 186) 187 432 433
noncomputable def Ho189 (P:Params):Obj:=oFn none (mem 24 0) "__init__" "Within.__init__" .none .none .none (.str "daysgate.rules" 350) none (.ref 188) .none
noncomputable def Ho190 (P:Params):Obj:=oT #[]
noncomputable def Ho192 (P:Params):Obj:=oT #[(.str "self" 438)]
noncomputable def Ho193 (P:Params):Obj:=oT #[]
noncomputable def Ho195 (P:Params):Obj:=oC "line" 435 "Within.line" 436 437 91 1 190 191 (.ref 192) (.ref 193) 194 439 440
noncomputable def Ho196 (P:Params):Obj:=oFn none (mem 24 1) "line" "Within.line" .none .none .none (.str "daysgate.rules" 350) none (.ref 195) .none
noncomputable def Ho197 (P:Params):Obj:=oT #[(.str "span" 442)]
noncomputable def Ho198 (P:Params):Obj:=⟨(.type "dict"),none,.dict #[dE P "__module__" 420 (.str "daysgate.rules" 350),dE P "__firstlineno__" 424 (.int (83) 423),dE P "__init__" 434 (.ref 189),dE P "line" 441 (.ref 196),dE P "__static_attributes__" 443 (.ref 197),dE P "__doc__" 444 .none] 2,#[]⟩
noncomputable def Ho199 (P:Params):Obj:=⟨(.type "type"),none,.cls ⟨"Within",[(.ref 171)],[(.ref 199),(.ref 171),(.type "object")],198,"Within",true,[],[],false,none,false⟩,#[some (.ref 176),none,some (.str "Within" 413),some (.str "Within" 421),some (.builtin "object.__new__"),some (.bool true)]⟩
noncomputable def Ho202 (P:Params):Obj:=oT #[(.ref 171)]
noncomputable def Ho209 (P:Params):Obj:=oT #[]
noncomputable def Ho211 (P:Params):Obj:=oT #[(.str "self" 462),(.str "lands" 463),(.str "most" 464),(.str "leave" 465)]
noncomputable def Ho212 (P:Params):Obj:=oT #[]
noncomputable def Ho214 (P:Params):Obj:=oC "__init__" 459 "Since.__init__" 460 461 95 4 209 210 (.ref 211) (.ref 212) 213 466 467
noncomputable def Ho215 (P:Params):Obj:=oFn none (mem 25 0) "__init__" "Since.__init__" .none .none .none (.str "daysgate.rules" 350) none (.ref 214) .none
noncomputable def Ho216 (P:Params):Obj:=oT #[]
noncomputable def Ho218 (P:Params):Obj:=oT #[(.str "self" 472)]
noncomputable def Ho219 (P:Params):Obj:=oT #[]
noncomputable def Ho221 (P:Params):Obj:=oC "line" 469 "Since.line" 470 471 101 1 216 217 (.ref 218) (.ref 219) 220 473 474
noncomputable def Ho222 (P:Params):Obj:=oFn none (mem 25 1) "line" "Since.line" .none .none .none (.str "daysgate.rules" 350) none (.ref 221) .none
noncomputable def Ho223 (P:Params):Obj:=oT #[(.str "leave" 476)]
noncomputable def Ho224 (P:Params):Obj:=⟨(.type "dict"),none,.dict #[dE P "__module__" 454 (.str "daysgate.rules" 350),dE P "__firstlineno__" 458 (.int (93) 457),dE P "__init__" 468 (.ref 215),dE P "line" 475 (.ref 222),dE P "__static_attributes__" 477 (.ref 223),dE P "__doc__" 478 .none] 2,#[]⟩
noncomputable def Ho225 (P:Params):Obj:=⟨(.type "type"),none,.cls ⟨"Since",[(.ref 171)],[(.ref 225),(.ref 171),(.type "object")],224,"Since",true,[],[(.ref 251)],false,none,false⟩,#[some (.ref 202),none,some (.str "Since" 447),some (.str "Since" 455),some (.builtin "object.__new__"),some (.bool true)]⟩
noncomputable def Ho228 (P:Params):Obj:=oT #[(.ref 225)]
noncomputable def Ho235 (P:Params):Obj:=oT #[]
noncomputable def Ho237 (P:Params):Obj:=oT #[(.str "self" 496),(.str "lands" 497),(.str "most" 498)]
noncomputable def Ho238 (P:Params):Obj:=oT #[]
noncomputable def Ho240 (P:Params):Obj:=oC "__init__" 493 "InRow.__init__" 494 495 105 3 235 236 (.ref 237) (.ref 238) 239 499 500
noncomputable def Ho241 (P:Params):Obj:=oFn none (mem 26 0) "__init__" "InRow.__init__" .none .none .none (.str "daysgate.rules" 350) none (.ref 240) .none
noncomputable def Ho242 (P:Params):Obj:=oT #[]
noncomputable def Ho244 (P:Params):Obj:=oT #[(.str "self" 505)]
noncomputable def Ho245 (P:Params):Obj:=oT #[]
noncomputable def Ho247 (P:Params):Obj:=oC "line" 502 "InRow.line" 503 504 108 1 242 243 (.ref 244) (.ref 245) 246 506 507
noncomputable def Ho248 (P:Params):Obj:=oFn none (mem 26 1) "line" "InRow.line" .none .none .none (.str "daysgate.rules" 350) none (.ref 247) .none
noncomputable def Ho249 (P:Params):Obj:=oT #[]
noncomputable def Ho250 (P:Params):Obj:=⟨(.type "dict"),none,.dict #[dE P "__module__" 488 (.str "daysgate.rules" 350),dE P "__firstlineno__" 492 (.int (103) 491),dE P "__init__" 501 (.ref 241),dE P "line" 508 (.ref 248),dE P "__static_attributes__" 509 (.ref 249),dE P "__doc__" 510 .none] 2,#[]⟩
noncomputable def Ho251 (P:Params):Obj:=⟨(.type "type"),none,.cls ⟨"InRow",[(.ref 225)],[(.ref 251),(.ref 225),(.ref 171),(.type "object")],250,"InRow",true,[],[],false,none,false⟩,#[some (.ref 228),none,some (.str "InRow" 481),some (.str "InRow" 489),some (.builtin "object.__new__"),some (.bool true)]⟩
noncomputable def Ho254 (P:Params):Obj:=oT #[]
noncomputable def Ho256 (P:Params):Obj:=oT #[(.str "thing" 520)]
noncomputable def Ho257 (P:Params):Obj:=oT #[]
noncomputable def Ho259 (P:Params):Obj:=oC "is_stay" 517 "is_stay" 518 519 112 1 254 255 (.ref 256) (.ref 257) 258 521 522
noncomputable def Ho260 (P:Params):Obj:=oFn none (top 29) "is_stay" "is_stay" .none .none .none (.str "daysgate.stays" 513) none (.ref 259) .none
noncomputable def Ho261 (P:Params):Obj:=oT #[]
noncomputable def Ho263 (P:Params):Obj:=oT #[(.str "some" 527),(.str "end" 528),(.str "number" 529),(.str "thing" 530)]
noncomputable def Ho264 (P:Params):Obj:=oT #[]
noncomputable def Ho266 (P:Params):Obj:=oC "stays_of" 524 "stays_of" 525 526 116 1 261 262 (.ref 263) (.ref 264) 265 531 532
noncomputable def Ho267 (P:Params):Obj:=oFn none (top 30) "stays_of" "stays_of" .none .none .none (.str "daysgate.stays" 513) none (.ref 266) .none
noncomputable def Ho268 (P:Params):Obj:=oT #[]
noncomputable def Ho270 (P:Params):Obj:=oT #[(.str "stays" 537),(.str "day" 538),(.str "land" 539),(.str "first" 540),(.str "last" 541)]
noncomputable def Ho271 (P:Params):Obj:=oT #[]
noncomputable def Ho273 (P:Params):Obj:=oC "land_among" 534 "land_among" 535 536 127 2 268 269 (.ref 270) (.ref 271) 272 542 543
noncomputable def Ho274 (P:Params):Obj:=oFn none (top 31) "land_among" "land_among" .none .none .none (.str "daysgate.stays" 513) none (.ref 273) .none
noncomputable def Ho275 (P:Params):Obj:=oT #[]
noncomputable def Ho277 (P:Params):Obj:=oT #[(.str "rule" 550),(.str "lifted" 551),(.str "stays" 552),(.str "day" 553)]
noncomputable def Ho278 (P:Params):Obj:=oT #[]
noncomputable def Ho280 (P:Params):Obj:=oC "weigh" 547 "weigh" 548 549 133 4 275 276 (.ref 277) (.ref 278) 279 554 555
noncomputable def Ho281 (P:Params):Obj:=oFn none (top 33) "weigh" "weigh" .none .none .none (.str "daysgate.meaning" 545) none (.ref 280) .none
noncomputable def Ho282 (P:Params):Obj:=oT #[]
noncomputable def Ho285 (P:Params):Obj:=oC "count_within" 557 "count_within" 558 559 137 4 282 283 .none .none 284 560 561
noncomputable def Ho286 (P:Params):Obj:=oFn none (top 34) "count_within" "count_within" .none .none .none (.str "daysgate.meaning" 545) none (.ref 285) .none
noncomputable def Ho287 (P:Params):Obj:=oT #[]
noncomputable def Ho289 (P:Params):Obj:=oT #[(.str "rule" 566),(.str "lifted" 567),(.str "stays" 568),(.str "day" 569),(.str "first" 570),(.str "total" 571),(.str "empty" 572),(.str "back" 573),(.str "weight" 574)]
noncomputable def Ho290 (P:Params):Obj:=oT #[]
noncomputable def Ho292 (P:Params):Obj:=oC "count_since" 563 "count_since" 564 565 140 4 287 288 (.ref 289) (.ref 290) 291 575 576
noncomputable def Ho293 (P:Params):Obj:=oFn none (top 35) "count_since" "count_since" .none .none .none (.str "daysgate.meaning" 545) none (.ref 292) .none
noncomputable def Ho294 (P:Params):Obj:=oT #[]
noncomputable def Ho296 (P:Params):Obj:=oT #[(.str "rule" 581),(.str "lifted" 582),(.str "stays" 583),(.str "day" 584)]
noncomputable def Ho297 (P:Params):Obj:=oT #[]
noncomputable def Ho299 (P:Params):Obj:=oC "window_by_days" 578 "window_by_days" 579 580 155 4 294 295 (.ref 296) (.ref 297) 298 585 586
noncomputable def Ho300 (P:Params):Obj:=oFn none (top 36) "window_by_days" "window_by_days" .none .none .none (.str "daysgate.meaning" 545) none (.ref 299) .none
noncomputable def Ho301 (P:Params):Obj:=oT #[]
noncomputable def Ho303 (P:Params):Obj:=oT #[(.str "book" 591),(.str "number" 592),(.str "stays" 593),(.str "day" 594)]
noncomputable def Ho304 (P:Params):Obj:=oT #[]
noncomputable def Ho306 (P:Params):Obj:=oC "weight_on" 588 "weight_on" 589 590 159 4 301 302 (.ref 303) (.ref 304) 305 595 596
noncomputable def Ho307 (P:Params):Obj:=oFn none (top 37) "weight_on" "weight_on" .none .none .none (.str "daysgate.meaning" 545) none (.ref 306) .none
noncomputable def Ho308 (P:Params):Obj:=oT #[]
noncomputable def Ho310 (P:Params):Obj:=oT #[(.str "book" 601),(.str "number" 602),(.str "stays" 603),(.str "day" 604)]
noncomputable def Ho311 (P:Params):Obj:=oT #[]
noncomputable def Ho313 (P:Params):Obj:=oC "count_by_days" 598 "count_by_days" 599 600 161 4 308 309 (.ref 310) (.ref 311) 312 605 606
noncomputable def Ho314 (P:Params):Obj:=oFn none (top 38) "count_by_days" "count_by_days" .none .none .none (.str "daysgate.meaning" 545) none (.ref 313) .none
noncomputable def Ho315 (P:Params):Obj:=oT #[]
noncomputable def Ho318 (P:Params):Obj:=oC "fault_by_days" 608 "fault_by_days" 609 610 163 2 315 316 .none .none 317 611 612
noncomputable def Ho319 (P:Params):Obj:=oFn none (top 39) "fault_by_days" "fault_by_days" .none .none .none (.str "daysgate.meaning" 545) none (.ref 318) .none
noncomputable def Ho320 (P:Params):Obj:=oT #[]
noncomputable def Ho322 (P:Params):Obj:=oT #[(.str "things" 623),(.str "thing" 624)]
noncomputable def Ho323 (P:Params):Obj:=oT #[]
noncomputable def Ho325 (P:Params):Obj:=oC "are_rules" 620 "are_rules" 621 622 178 1 320 321 (.ref 322) (.ref 323) 324 625 626
noncomputable def Ho326 (P:Params):Obj:=oFn none (top 43) "are_rules" "are_rules" .none .none .none (.str "daysgate.books" 614) none (.ref 325) .none
noncomputable def Ho327 (P:Params):Obj:=oT #[]
noncomputable def Ho329 (P:Params):Obj:=oT #[(.str "thing" 631),(.str "many" 632)]
noncomputable def Ho330 (P:Params):Obj:=oT #[]
noncomputable def Ho332 (P:Params):Obj:=oC "is_paper" 628 "is_paper" 629 630 185 2 327 328 (.ref 329) (.ref 330) 331 633 634
noncomputable def Ho333 (P:Params):Obj:=oFn none (top 44) "is_paper" "is_paper" .none .none .none (.str "daysgate.books" 614) none (.ref 332) .none
noncomputable def Ho334 (P:Params):Obj:=oT #[]
noncomputable def Ho336 (P:Params):Obj:=oT #[(.str "things" 639),(.str "many" 640),(.str "number" 641),(.str "thing" 642)]
noncomputable def Ho337 (P:Params):Obj:=oT #[]
noncomputable def Ho339 (P:Params):Obj:=oC "check_papers" 636 "check_papers" 637 638 189 2 334 335 (.ref 336) (.ref 337) 338 643 644
noncomputable def Ho340 (P:Params):Obj:=oFn none (top 45) "check_papers" "check_papers" .none .none .none (.str "daysgate.books" 614) none (.ref 339) .none
noncomputable def Ho348 (P:Params):Obj:=oT #[]
noncomputable def Ho350 (P:Params):Obj:=oT #[(.str "self" 661),(.str "rules" 662),(.str "papers" 663)]
noncomputable def Ho351 (P:Params):Obj:=oT #[]
noncomputable def Ho353 (P:Params):Obj:=oC "__init__" 658 "Book.__init__" 659 660 199 3 348 349 (.ref 350) (.ref 351) 352 664 665
noncomputable def Ho354 (P:Params):Obj:=oFn none (mem 46 0) "__init__" "Book.__init__" .none .none .none (.str "daysgate.books" 614) none (.ref 353) .none
noncomputable def Ho355 (P:Params):Obj:=oT #[]
noncomputable def Ho357 (P:Params):Obj:=oT #[(.str "self" 670)]
noncomputable def Ho358 (P:Params):Obj:=oT #[]
noncomputable def Ho360 (P:Params):Obj:=oC "rules" 667 "Book.rules" 668 669 206 1 355 356 (.ref 357) (.ref 358) 359 671 672
noncomputable def Ho361 (P:Params):Obj:=oFn none (mem 46 1) "rules" "Book.rules" .none .none .none (.str "daysgate.books" 614) none (.ref 360) .none
noncomputable def Ho362 (P:Params):Obj:=oT #[]
noncomputable def Ho364 (P:Params):Obj:=oT #[(.str "self" 677)]
noncomputable def Ho365 (P:Params):Obj:=oT #[]
noncomputable def Ho367 (P:Params):Obj:=oC "papers" 674 "Book.papers" 675 676 209 1 362 363 (.ref 364) (.ref 365) 366 678 679
noncomputable def Ho368 (P:Params):Obj:=oFn none (mem 46 2) "papers" "Book.papers" .none .none .none (.str "daysgate.books" 614) none (.ref 367) .none
noncomputable def Ho369 (P:Params):Obj:=oT #[]
noncomputable def Ho372 (P:Params):Obj:=oC "lifted" 681 "Book.lifted" 682 683 212 2 369 370 .none .none 371 684 685
noncomputable def Ho373 (P:Params):Obj:=oFn none (mem 46 3) "lifted" "Book.lifted" .none .none .none (.str "daysgate.books" 614) none (.ref 372) .none
noncomputable def Ho374 (P:Params):Obj:=oT #[(.str "kept_papers" 687),(.str "kept_rules" 688)]
noncomputable def Ho375 (P:Params):Obj:=⟨(.type "dict"),none,.dict #[dE P "__module__" 653 (.str "daysgate.books" 614),dE P "__firstlineno__" 657 (.int (197) 656),dE P "__init__" 666 (.ref 354),dE P "rules" 673 (.ref 361),dE P "papers" 680 (.ref 368),dE P "lifted" 686 (.ref 373),dE P "__static_attributes__" 689 (.ref 374),dE P "__dict__" 691 (.ref 377),dE P "__weakref__" 693 (.ref 378),dE P "__doc__" 694 .none] 4,#[]⟩
noncomputable def Ho376 (P:Params):Obj:=⟨(.type "type"),none,.cls ⟨"Book",[(.type "object")],[(.ref 376),(.type "object")],375,"Book",true,[],[],false,none,false⟩,#[none,none,some (.str "Book" 646),some (.str "Book" 654),some (.builtin "object.__new__"),some (.bool true)]⟩
noncomputable def Ho377 (P:Params):Obj:=⟨(.type "getset_descriptor"),none,.fields #[(.str "__dict__" 690),(.ref 376),(.builtin "function.__dict__"),(.builtin "function.__dict__#set")],#[]⟩
noncomputable def Ho378 (P:Params):Obj:=⟨(.type "getset_descriptor"),none,.fields #[(.str "__weakref__" 692),(.ref 376),(.builtin "ExceptionGroup.__weakref__"),.none],#[]⟩
noncomputable def Ho381 (P:Params):Obj:=oT #[]
noncomputable def Ho383 (P:Params):Obj:=oT #[(.str "_law_script" 702),(.str "_law_k" 703)]
noncomputable def Ho384 (P:Params):Obj:=oT #[]
noncomputable def Ho386 (P:Params):Obj:=oC "_law_cell_at" 699 "_law_cell_at" 700 701 215 2 381 382 (.ref 383) (.ref 384) 385 704 705
noncomputable def Ho387 (P:Params):Obj:=oFn none (top 48) "_law_cell_at" "_law_cell_at" .none .none .none (.str "law_daysgate_k25_whole_what_comes_later" 697) none (.ref 386) .none
noncomputable def Ho388 (P:Params):Obj:=oT #[]
noncomputable def Ho390 (P:Params):Obj:=oT #[(.str "_law_cell" 710),(.str "_law_many" 711),(.str "_law_letters" 712),(.str "_law_many_signs" 713),(.str "_law_at" 714),(.str "_law_names" 715),(.str "_law_k" 716),(.str "_law_name" 717),(.str "_law_j" 718),(.str "_law_place" 719)]
noncomputable def Ho391 (P:Params):Obj:=oT #[]
noncomputable def Ho393 (P:Params):Obj:=oC "_law_lands" 707 "_law_lands" 708 709 219 2 388 389 (.ref 390) (.ref 391) 392 720 721
noncomputable def Ho394 (P:Params):Obj:=oFn none (top 49) "_law_lands" "_law_lands" .none .none .none (.str "law_daysgate_k25_whole_what_comes_later" 697) none (.ref 393) .none
noncomputable def Ho395 (P:Params):Obj:=oT #[]
noncomputable def Ho397 (P:Params):Obj:=oT #[(.str "_law_cell" 726),(.str "_law_names" 727),(.str "_law_n" 728),(.str "_law_lands_here" 729),(.str "_law_k" 730),(.str "_law_top" 731),(.str "_law_days" 732)]
noncomputable def Ho398 (P:Params):Obj:=oT #[]
noncomputable def Ho400 (P:Params):Obj:=oC "_law_rule" 723 "_law_rule" 724 725 231 2 395 396 (.ref 397) (.ref 398) 399 733 734
noncomputable def Ho401 (P:Params):Obj:=oFn none (top 50) "_law_rule" "_law_rule" .none .none .none (.str "law_daysgate_k25_whole_what_comes_later" 697) none (.ref 400) .none
noncomputable def Ho402 (P:Params):Obj:=oT #[]
noncomputable def Ho404 (P:Params):Obj:=oT #[(.str "_law_rule_here" 739),(.str "_law_kind" 740),(.str "_law_lands_here" 741),(.str "_law_top" 742),(.str "_law_days" 743)]
noncomputable def Ho405 (P:Params):Obj:=oT #[]
noncomputable def Ho407 (P:Params):Obj:=oC "_law_made" 736 "_law_made" 737 738 243 1 402 403 (.ref 404) (.ref 405) 406 744 745
noncomputable def Ho408 (P:Params):Obj:=oFn none (top 51) "_law_made" "_law_made" .none .none .none (.str "law_daysgate_k25_whole_what_comes_later" 697) none (.ref 407) .none
noncomputable def Ho409 (P:Params):Obj:=oT #[]
noncomputable def Ho411 (P:Params):Obj:=oT #[(.str "_law_cell" 750),(.str "_law_many" 751),(.str "_law_start" 752),(.str "_law_n" 753),(.str "_law_first" 754)]
noncomputable def Ho412 (P:Params):Obj:=oT #[]
noncomputable def Ho414 (P:Params):Obj:=oC "_law_paper" 747 "_law_paper" 748 749 250 3 409 410 (.ref 411) (.ref 412) 413 755 756
noncomputable def Ho415 (P:Params):Obj:=oFn none (top 52) "_law_paper" "_law_paper" .none .none .none (.str "law_daysgate_k25_whole_what_comes_later" 697) none (.ref 414) .none
noncomputable def Ho416 (P:Params):Obj:=oT #[]
noncomputable def Ho418 (P:Params):Obj:=oT #[(.str "_law_cells" 761),(.str "_law_names" 762),(.str "_law_start" 763),(.str "_law_stays_here" 764),(.str "_law_day" 765),(.str "_law_cell" 766),(.str "_law_n" 767),(.str "_law_first" 768),(.str "_law_last" 769)]
noncomputable def Ho419 (P:Params):Obj:=oT #[]
noncomputable def Ho421 (P:Params):Obj:=oC "_law_stays" 758 "_law_stays" 759 760 254 3 416 417 (.ref 418) (.ref 419) 420 770 771
noncomputable def Ho422 (P:Params):Obj:=oFn none (top 53) "_law_stays" "_law_stays" .none .none .none (.str "law_daysgate_k25_whole_what_comes_later" 697) none (.ref 421) .none
noncomputable def Ho423 (P:Params):Obj:=oT #[]
noncomputable def Ho425 (P:Params):Obj:=oT #[(.str "_law_stays_here" 776),(.str "_law_day" 777),(.str "_law_found" 778),(.str "_law_land" 779),(.str "_law_first" 780),(.str "_law_last" 781)]
noncomputable def Ho426 (P:Params):Obj:=oT #[]
noncomputable def Ho428 (P:Params):Obj:=oC "_law_cut" 773 "_law_cut" 774 775 265 2 423 424 (.ref 425) (.ref 426) 427 782 783
noncomputable def Ho429 (P:Params):Obj:=oFn none (top 54) "_law_cut" "_law_cut" .none .none .none (.str "law_daysgate_k25_whole_what_comes_later" 697) none (.ref 428) .none
noncomputable def Ho430 (P:Params):Obj:=oT #[]
noncomputable def Ho433 (P:Params):Obj:=oC "law" 785 "law" 786 787 271 1 430 431 .none .none 432 788 789
noncomputable def Ho434 (P:Params):Obj:=oFn none (top 55) "law" "law" .none .none .none (.str "law_daysgate_k25_whole_what_comes_later" 697) none (.ref 433) .none
noncomputable def HK (P:Params):Frag:=(nat_lit 2,Ho2 P)::(nat_lit 3,Ho3 P)::(nat_lit 15,Ho15 P)::(nat_lit 17,Ho17 P)::(nat_lit 18,Ho18 P)::(nat_lit 20,Ho20 P)::(nat_lit 21,Ho21 P)::(nat_lit 22,Ho22 P)::(nat_lit 24,Ho24 P)::(nat_lit 25,Ho25 P)::(nat_lit 27,Ho27 P)::(nat_lit 28,Ho28 P)::(nat_lit 29,Ho29 P)::(nat_lit 31,Ho31 P)::(nat_lit 32,Ho32 P)::(nat_lit 34,Ho34 P)::(nat_lit 35,Ho35 P)::(nat_lit 36,Ho36 P)::(nat_lit 38,Ho38 P)::(nat_lit 39,Ho39 P)::(nat_lit 41,Ho41 P)::(nat_lit 42,Ho42 P)::(nat_lit 43,Ho43 P)::(nat_lit 45,Ho45 P)::(nat_lit 46,Ho46 P)::(nat_lit 48,Ho48 P)::(nat_lit 49,Ho49 P)::(nat_lit 50,Ho50 P)::(nat_lit 52,Ho52 P)::(nat_lit 53,Ho53 P)::(nat_lit 55,Ho55 P)::(nat_lit 56,Ho56 P)::(nat_lit 57,Ho57 P)::(nat_lit 59,Ho59 P)::(nat_lit 60,Ho60 P)::(nat_lit 62,Ho62 P)::(nat_lit 63,Ho63 P)::(nat_lit 64,Ho64 P)::(nat_lit 66,Ho66 P)::(nat_lit 67,Ho67 P)::(nat_lit 69,Ho69 P)::(nat_lit 70,Ho70 P)::(nat_lit 71,Ho71 P)::(nat_lit 78,Ho78 P)::(nat_lit 79,Ho79 P)::(nat_lit 80,Ho80 P)::(nat_lit 81,Ho81 P)::(nat_lit 84,Ho84 P)::(nat_lit 91,Ho91 P)::(nat_lit 92,Ho92 P)::(nat_lit 93,Ho93 P)::(nat_lit 96,Ho96 P)::(nat_lit 103,Ho103 P)::(nat_lit 105,Ho105 P)::(nat_lit 106,Ho106 P)::(nat_lit 108,Ho108 P)::(nat_lit 109,Ho109 P)::(nat_lit 110,Ho110 P)::(nat_lit 111,Ho111 P)::(nat_lit 112,Ho112 P)::(nat_lit 115,Ho115 P)::(nat_lit 122,Ho122 P)::(nat_lit 124,Ho124 P)::(nat_lit 125,Ho125 P)::(nat_lit 127,Ho127 P)::(nat_lit 128,Ho128 P)::(nat_lit 129,Ho129 P)::(nat_lit 130,Ho130 P)::(nat_lit 131,Ho131 P)::(nat_lit 134,Ho134 P)::(nat_lit 136,Ho136 P)::(nat_lit 137,Ho137 P)::(nat_lit 139,Ho139 P)::(nat_lit 140,Ho140 P)::(nat_lit 141,Ho141 P)::(nat_lit 143,Ho143 P)::(nat_lit 144,Ho144 P)::(nat_lit 146,Ho146 P)::(nat_lit 147,Ho147 P)::(nat_lit 155,Ho155 P)::(nat_lit 157,Ho157 P)::(nat_lit 158,Ho158 P)::(nat_lit 160,Ho160 P)::(nat_lit 161,Ho161 P)::(nat_lit 162,Ho162 P)::(nat_lit 164,Ho164 P)::(nat_lit 165,Ho165 P)::(nat_lit 167,Ho167 P)::(nat_lit 168,Ho168 P)::(nat_lit 169,Ho169 P)::(nat_lit 170,Ho170 P)::(nat_lit 171,Ho171 P)::(nat_lit 172,Ho172 P)::(nat_lit 173,Ho173 P)::(nat_lit 176,Ho176 P)::(nat_lit 183,Ho183 P)::(nat_lit 185,Ho185 P)::(nat_lit 186,Ho186 P)::(nat_lit 188,Ho188 P)::(nat_lit 189,Ho189 P)::(nat_lit 190,Ho190 P)::(nat_lit 192,Ho192 P)::(nat_lit 193,Ho193 P)::(nat_lit 195,Ho195 P)::(nat_lit 196,Ho196 P)::(nat_lit 197,Ho197 P)::(nat_lit 198,Ho198 P)::(nat_lit 199,Ho199 P)::(nat_lit 202,Ho202 P)::(nat_lit 209,Ho209 P)::(nat_lit 211,Ho211 P)::(nat_lit 212,Ho212 P)::(nat_lit 214,Ho214 P)::(nat_lit 215,Ho215 P)::(nat_lit 216,Ho216 P)::(nat_lit 218,Ho218 P)::(nat_lit 219,Ho219 P)::(nat_lit 221,Ho221 P)::(nat_lit 222,Ho222 P)::(nat_lit 223,Ho223 P)::(nat_lit 224,Ho224 P)::(nat_lit 225,Ho225 P)::(nat_lit 228,Ho228 P)::(nat_lit 235,Ho235 P)::(nat_lit 237,Ho237 P)::(nat_lit 238,Ho238 P)::(nat_lit 240,Ho240 P)::(nat_lit 241,Ho241 P)::(nat_lit 242,Ho242 P)::(nat_lit 244,Ho244 P)::(nat_lit 245,Ho245 P)::(nat_lit 247,Ho247 P)::(nat_lit 248,Ho248 P)::(nat_lit 249,Ho249 P)::(nat_lit 250,Ho250 P)::(nat_lit 251,Ho251 P)::(nat_lit 254,Ho254 P)::(nat_lit 256,Ho256 P)::(nat_lit 257,Ho257 P)::(nat_lit 259,Ho259 P)::(nat_lit 260,Ho260 P)::(nat_lit 261,Ho261 P)::(nat_lit 263,Ho263 P)::(nat_lit 264,Ho264 P)::(nat_lit 266,Ho266 P)::(nat_lit 267,Ho267 P)::(nat_lit 268,Ho268 P)::(nat_lit 270,Ho270 P)::(nat_lit 271,Ho271 P)::(nat_lit 273,Ho273 P)::(nat_lit 274,Ho274 P)::(nat_lit 275,Ho275 P)::(nat_lit 277,Ho277 P)::(nat_lit 278,Ho278 P)::(nat_lit 280,Ho280 P)::(nat_lit 281,Ho281 P)::(nat_lit 282,Ho282 P)::(nat_lit 285,Ho285 P)::(nat_lit 286,Ho286 P)::(nat_lit 287,Ho287 P)::(nat_lit 289,Ho289 P)::(nat_lit 290,Ho290 P)::(nat_lit 292,Ho292 P)::(nat_lit 293,Ho293 P)::(nat_lit 294,Ho294 P)::(nat_lit 296,Ho296 P)::(nat_lit 297,Ho297 P)::(nat_lit 299,Ho299 P)::(nat_lit 300,Ho300 P)::(nat_lit 301,Ho301 P)::(nat_lit 303,Ho303 P)::(nat_lit 304,Ho304 P)::(nat_lit 306,Ho306 P)::(nat_lit 307,Ho307 P)::(nat_lit 308,Ho308 P)::(nat_lit 310,Ho310 P)::(nat_lit 311,Ho311 P)::(nat_lit 313,Ho313 P)::(nat_lit 314,Ho314 P)::(nat_lit 315,Ho315 P)::(nat_lit 318,Ho318 P)::(nat_lit 319,Ho319 P)::(nat_lit 320,Ho320 P)::(nat_lit 322,Ho322 P)::(nat_lit 323,Ho323 P)::(nat_lit 325,Ho325 P)::(nat_lit 326,Ho326 P)::(nat_lit 327,Ho327 P)::(nat_lit 329,Ho329 P)::(nat_lit 330,Ho330 P)::(nat_lit 332,Ho332 P)::(nat_lit 333,Ho333 P)::(nat_lit 334,Ho334 P)::(nat_lit 336,Ho336 P)::(nat_lit 337,Ho337 P)::(nat_lit 339,Ho339 P)::(nat_lit 340,Ho340 P)::(nat_lit 348,Ho348 P)::(nat_lit 350,Ho350 P)::(nat_lit 351,Ho351 P)::(nat_lit 353,Ho353 P)::(nat_lit 354,Ho354 P)::(nat_lit 355,Ho355 P)::(nat_lit 357,Ho357 P)::(nat_lit 358,Ho358 P)::(nat_lit 360,Ho360 P)::(nat_lit 361,Ho361 P)::(nat_lit 362,Ho362 P)::(nat_lit 364,Ho364 P)::(nat_lit 365,Ho365 P)::(nat_lit 367,Ho367 P)::(nat_lit 368,Ho368 P)::(nat_lit 369,Ho369 P)::(nat_lit 372,Ho372 P)::(nat_lit 373,Ho373 P)::(nat_lit 374,Ho374 P)::(nat_lit 375,Ho375 P)::(nat_lit 376,Ho376 P)::(nat_lit 377,Ho377 P)::(nat_lit 378,Ho378 P)::(nat_lit 381,Ho381 P)::(nat_lit 383,Ho383 P)::(nat_lit 384,Ho384 P)::(nat_lit 386,Ho386 P)::(nat_lit 387,Ho387 P)::(nat_lit 388,Ho388 P)::(nat_lit 390,Ho390 P)::(nat_lit 391,Ho391 P)::(nat_lit 393,Ho393 P)::(nat_lit 394,Ho394 P)::(nat_lit 395,Ho395 P)::(nat_lit 397,Ho397 P)::(nat_lit 398,Ho398 P)::(nat_lit 400,Ho400 P)::(nat_lit 401,Ho401 P)::(nat_lit 402,Ho402 P)::(nat_lit 404,Ho404 P)::(nat_lit 405,Ho405 P)::(nat_lit 407,Ho407 P)::(nat_lit 408,Ho408 P)::(nat_lit 409,Ho409 P)::(nat_lit 411,Ho411 P)::(nat_lit 412,Ho412 P)::(nat_lit 414,Ho414 P)::(nat_lit 415,Ho415 P)::(nat_lit 416,Ho416 P)::(nat_lit 418,Ho418 P)::(nat_lit 419,Ho419 P)::(nat_lit 421,Ho421 P)::(nat_lit 422,Ho422 P)::(nat_lit 423,Ho423 P)::(nat_lit 425,Ho425 P)::(nat_lit 426,Ho426 P)::(nat_lit 428,Ho428 P)::(nat_lit 429,Ho429 P)::(nat_lit 430,Ho430 P)::(nat_lit 433,Ho433 P)::(nat_lit 434,Ho434 P)::[]
theorem HKe (P:Params):Has=(HK P).map (·.1):=by kernel_rfl
noncomputable def Hlk (w:World) (H0:Heap) (s0:SharedT):=(topRunT treeTable HP w 11 (some (.ref 6)) 7572 s0 (topStub HP)).map (fun s=>lookT HP Hq [] Hx (fun s=>Has.map s.heap.get?) true H0 s.abs)
noncomputable def Hgd:=openGood Hq []
theorem Hlk_self:Hlk=Hlk:=rfl
theorem Hgd_self:Hgd=Hgd:=rfl
end K25
lay_quick K25.Hlk K25.Hgd
name_quick hlkQ for K25.Hlk by K25.Hlk_self
name_quick hgdQ for K25.Hgd by K25.Hgd_self
namespace K25
open PySem PySem.W HD DG
theorem Hlk_ok (w:World) (os:OsState):Hlk w (boot_heap w.params) (bootT w.params os)=some (true,Hgd,(HK w.params).map fun p=>some p.2):=by
 rw [PySem.W.Fast.hlkQ_eq,PySem.W.Fast.hgdQ_eq]
 kernel_rfl
theorem Hleft:LeftO HP Hq [] Hx (fun s=>Has.map s.heap.get?) (fun w=>(HK w.params).map fun p=>some p.2) 7572 true:=
 left_of (boot_open (by kernel_rfl) (by decide) (fun _=>by kernel_rfl)) boot_size Hlk_ok
end K25
set_option maxHeartbeats 4000000
namespace K25
open PySem PySem.W L2 DE DG
theorem all_mk {l:OpenLaw} {w:World} {K:Frag} {h:Heap} {mg:Str→Option Value} {fa cR cW cS cI cB f0 f1 f2 f3 f4 f5 f6 f7 f8 f9 f10 f11 f12 f13 f14 f15 f16 f17 f18 f19 f20 f21 f22 f23 f24 f25 f26 f27 f28 f29 fiR fiW fiS fiI fiB fmw fmr fmp fml:Addr} {t0 t1 t2 t3 t4 t5 t6 t7:Tok} (X:K.In h) (G:h.Ns mainGlobals mg) (hfa:mg "law" = some (.ref fa))
  (a0:nsIn K mainGlobals "spread" = some (some (.ref f0)))
  (h0:FnIn K f0 "spread" "spread" (top 2))
  (a1:nsIn K mainGlobals "holds" = some (some (.ref f1)))
  (h1:FnIn K f1 "holds" "holds" (top 3))
  (a2:nsIn K mainGlobals "is_whole" = some (some (.ref f2)))
  (h2:FnIn K f2 "is_whole" "is_whole" (top 8))
  (a3:nsIn K mainGlobals "is_between" = some (some (.ref f3)))
  (h3:FnIn K f3 "is_between" "is_between" (top 9))
  (a4:nsIn K mainGlobals "are_days" = some (some (.ref f4)))
  (h4:FnIn K f4 "are_days" "are_days" (top 10))
  (a5:nsIn K mainGlobals "is_made_of" = some (some (.ref f5)))
  (h5:FnIn K f5 "is_made_of" "is_made_of" (top 11))
  (a6:nsIn K mainGlobals "is_name" = some (some (.ref f6)))
  (h6:FnIn K f6 "is_name" "is_name" (top 12))
  (a7:nsIn K mainGlobals "is_land" = some (some (.ref f7)))
  (h7:FnIn K f7 "is_land" "is_land" (top 21))
  (a8:nsIn K mainGlobals "are_lands" = some (some (.ref f8)))
  (h8:FnIn K f8 "are_lands" "are_lands" (top 22))
  (a9:nsIn K mainGlobals "is_stay" = some (some (.ref f9)))
  (h9:FnIn K f9 "is_stay" "is_stay" (top 29))
  (a10:nsIn K mainGlobals "stays_of" = some (some (.ref f10)))
  (h10:FnIn K f10 "stays_of" "stays_of" (top 30))
  (a11:nsIn K mainGlobals "land_among" = some (some (.ref f11)))
  (h11:FnIn K f11 "land_among" "land_among" (top 31))
  (a12:nsIn K mainGlobals "weigh" = some (some (.ref f12)))
  (h12:FnIn K f12 "weigh" "weigh" (top 33))
  (a13:nsIn K mainGlobals "count_within" = some (some (.ref f13)))
  (h13:FnIn K f13 "count_within" "count_within" (top 34))
  (a14:nsIn K mainGlobals "count_since" = some (some (.ref f14)))
  (h14:FnIn K f14 "count_since" "count_since" (top 35))
  (a15:nsIn K mainGlobals "window_by_days" = some (some (.ref f15)))
  (h15:FnIn K f15 "window_by_days" "window_by_days" (top 36))
  (a16:nsIn K mainGlobals "weight_on" = some (some (.ref f16)))
  (h16:FnIn K f16 "weight_on" "weight_on" (top 37))
  (a17:nsIn K mainGlobals "count_by_days" = some (some (.ref f17)))
  (h17:FnIn K f17 "count_by_days" "count_by_days" (top 38))
  (a18:nsIn K mainGlobals "fault_by_days" = some (some (.ref f18)))
  (h18:FnIn K f18 "fault_by_days" "fault_by_days" (top 39))
  (a19:nsIn K mainGlobals "are_rules" = some (some (.ref f19)))
  (h19:FnIn K f19 "are_rules" "are_rules" (top 43))
  (a20:nsIn K mainGlobals "is_paper" = some (some (.ref f20)))
  (h20:FnIn K f20 "is_paper" "is_paper" (top 44))
  (a21:nsIn K mainGlobals "check_papers" = some (some (.ref f21)))
  (h21:FnIn K f21 "check_papers" "check_papers" (top 45))
  (a22:nsIn K mainGlobals "_law_cell_at" = some (some (.ref f22)))
  (h22:FnIn K f22 "_law_cell_at" "_law_cell_at" (top 48))
  (a23:nsIn K mainGlobals "_law_lands" = some (some (.ref f23)))
  (h23:FnIn K f23 "_law_lands" "_law_lands" (top 49))
  (a24:nsIn K mainGlobals "_law_rule" = some (some (.ref f24)))
  (h24:FnIn K f24 "_law_rule" "_law_rule" (top 50))
  (a25:nsIn K mainGlobals "_law_made" = some (some (.ref f25)))
  (h25:FnIn K f25 "_law_made" "_law_made" (top 51))
  (a26:nsIn K mainGlobals "_law_paper" = some (some (.ref f26)))
  (h26:FnIn K f26 "_law_paper" "_law_paper" (top 52))
  (a27:nsIn K mainGlobals "_law_stays" = some (some (.ref f27)))
  (h27:FnIn K f27 "_law_stays" "_law_stays" (top 53))
  (a28:nsIn K mainGlobals "_law_cut" = some (some (.ref f28)))
  (h28:FnIn K f28 "_law_cut" "_law_cut" (top 54))
  (a29:nsIn K mainGlobals "law" = some (some (.ref f29)))
  (h29:FnIn K f29 "law" "law" (top 55))
  (z_len:nsIn K mainGlobals "len" = some none)
  (z_list:nsIn K mainGlobals "list" = some none)
  (z_tuple:nsIn K mainGlobals "tuple" = some none)
  (z_int:nsIn K mainGlobals "int" = some none)
  (z_bool:nsIn K mainGlobals "bool" = some none)
  (z_str:nsIn K mainGlobals "str" = some none)
  (z_max:nsIn K mainGlobals "max" = some none)
  (z_min:nsIn K mainGlobals "min" = some none)
  (z_isinstance:nsIn K mainGlobals "isinstance" = some none)
  (z_range:nsIn K mainGlobals "range" = some none)
  (z_enumerate:nsIn K mainGlobals "enumerate" = some none)
  (z_zip:nsIn K mainGlobals "zip" = some none)
  (z_sorted:nsIn K mainGlobals "sorted" = some none)
  (z_sum:nsIn K mainGlobals "sum" = some none)
  (v0:nsIn K mainGlobals "GREATEST" = some (some (.int 1000000000 t0)))
  (v1:nsIn K mainGlobals "LETTERS" = some (some (.str "abcdefghijklmnopqrstuvwxyz" t1)))
  (v2:nsIn K mainGlobals "LONGEST_NAME" = some (some (.int 8 t2)))
  (v3:nsIn K mainGlobals "MOST_LANDS" = some (some (.int 6 t3)))
  (v4:nsIn K mainGlobals "GREATEST_WEIGHT" = some (some (.int 9 t4)))
  (v5:nsIn K mainGlobals "MOST_STAYS" = some (some (.int 60 t5)))
  (v6:nsIn K mainGlobals "MOST_RULES" = some (some (.int 8 t6)))
  (v7:nsIn K mainGlobals "MOST_PAPERS" = some (some (.int 12 t7)))
  (ncR:nsIn K mainGlobals "Rule" = some (some (.ref cR)))
  (ncW:nsIn K mainGlobals "Within" = some (some (.ref cW)))
  (ncS:nsIn K mainGlobals "Since" = some (some (.ref cS)))
  (ncI:nsIn K mainGlobals "InRow" = some (some (.ref cI)))
  (ncB:nsIn K mainGlobals "Book" = some (some (.ref cB)))
  (inR:findIn K (.ref cR) "__init__" = some (some (.ref fiR)))
  (inW:findIn K (.ref cW) "__init__" = some (some (.ref fiW)))
  (inS:findIn K (.ref cS) "__init__" = some (some (.ref fiS)))
  (inI:findIn K (.ref cI) "__init__" = some (some (.ref fiI)))
  (inB:findIn K (.ref cB) "__init__" = some (some (.ref fiB)))
  (tmr:findIn K (.ref cB) "rules" = some (some (.ref fmr)))
  (tml:findIn K (.ref cB) "lifted" = some (some (.ref fml)))
  (tmp:findIn K (.ref cB) "papers" = some (some (.ref fmp)))
  (twW:findIn K (.ref cW) "weight" = some (some (.ref fmw)))
  (twS:findIn K (.ref cS) "weight" = some (some (.ref fmw)))
  (twI:findIn K (.ref cI) "weight" = some (some (.ref fmw)))
  (hiR:FnIn K fiR "__init__" "Rule.__init__" (mem 23 0))
  (niR:isFn K (.ref fiR)=true)
  (hiW:FnIn K fiW "__init__" "Within.__init__" (mem 24 0))
  (niW:isFn K (.ref fiW)=true)
  (hiS:FnIn K fiS "__init__" "Since.__init__" (mem 25 0))
  (niS:isFn K (.ref fiS)=true)
  (hiI:FnIn K fiI "__init__" "InRow.__init__" (mem 26 0))
  (niI:isFn K (.ref fiI)=true)
  (hiB:FnIn K fiB "__init__" "Book.__init__" (mem 46 0))
  (niB:isFn K (.ref fiB)=true)
  (hmw:FnIn K fmw "weight" "Rule.weight" (mem 23 1))
  (nmw:isFn K (.ref fmw)=true)
  (hmr:FnIn K fmr "rules" "Book.rules" (mem 46 1))
  (nmr:isFn K (.ref fmr)=true)
  (hmp:FnIn K fmp "papers" "Book.papers" (mem 46 2))
  (nmp:isFn K (.ref fmp)=true)
  (hml:FnIn K fml "lifted" "Book.lifted" (mem 46 3))
  (nml:isFn K (.ref fml)=true)
  (mkW:makesIn K cW=true)
  (kcW:keepIn K (.ref cW)=true)
  (LW:Kl K cW)
  (na_landsW:findIn K (.ref cW) "lands" = some none)
  (na_mostW:findIn K (.ref cW) "most" = some none)
  (na_spanW:findIn K (.ref cW) "span" = some none)
  (kwW:kitOne K (.ref cW) (.ref cW)=some true)
  (ksW:kitOne K (.ref cW) (.ref cS)=some false)
  (mkS:makesIn K cS=true)
  (kcS:keepIn K (.ref cS)=true)
  (LS:Kl K cS)
  (na_landsS:findIn K (.ref cS) "lands" = some none)
  (na_mostS:findIn K (.ref cS) "most" = some none)
  (na_leaveS:findIn K (.ref cS) "leave" = some none)
  (kwS:kitOne K (.ref cS) (.ref cW)=some false)
  (ksS:kitOne K (.ref cS) (.ref cS)=some true)
  (mkI:makesIn K cI=true)
  (kcI:keepIn K (.ref cI)=true)
  (LI:Kl K cI)
  (na_landsI:findIn K (.ref cI) "lands" = some none)
  (na_mostI:findIn K (.ref cI) "most" = some none)
  (na_leaveI:findIn K (.ref cI) "leave" = some none)
  (kwI:kitOne K (.ref cI) (.ref cW)=some false)
  (ksI:kitOne K (.ref cI) (.ref cS)=some true)
  (mkB:makesIn K cB=true)
  (kcB:keepIn K (.ref cB)=true)
  (LB:Kl K cB)
  (na_kept_rulesB:findIn K (.ref cB) "kept_rules" = some none)
  (na_kept_papersB:findIn K (.ref cB) "kept_papers" = some none)
  (rdR:readsIn K cR (.type "type")=true)
  (gsR:specialIn K (.ref cR) "__getattribute__" = some (some (.builtin "type.__getattribute__")))
  (fcR:findCls K (.ref cR) (.type "type") "__init__" = some (.val (.ref fiR)))
  (rdS:readsIn K cS (.type "type")=true)
  (gsS:specialIn K (.ref cS) "__getattribute__" = some (some (.builtin "type.__getattribute__")))
  (fcS:findCls K (.ref cS) (.type "type") "__init__" = some (.val (.ref fiS)))
  (og:specialIn K (.builtin "object.__class__") "__get__" = some (some (.builtin "getset_descriptor.__get__")))
  (ot:takesIn K (.builtin "object.__class__")=some true)
  :
  ∃ fd:FuncData,(∀ (s:Shared) (v:Value),BindsTo s fd ⟨[v],[]⟩ [("_law_script",v)])∧∀ base:Heap,K.In base→base.Ns mainGlobals mg→FnOk l.prog w K mg base CX0 20 fa fd ["_law_script"] (spF (kap cW cS cI cB) K (clK pg 20) "law"):=by
 have e:=hfa.symm.trans (mg_of X G a29)
 cases e
 obtain ⟨dL,FL,bL⟩:=law_fn h29 (fun _ _ _ _ _ _ us hl=>match us,hl with | [_],_=>rfl)
 obtain ⟨diR,FiR,biR⟩:=fnB_of hiR (ps:=["self","lands","most"]) (fun _ _ _ _ _ _ us hl=>match us,hl with | [_,_,_],_=>rfl)
 obtain ⟨diW,FiW,biW⟩:=fnB_of hiW (ps:=["self","lands","most","span"]) (fun _ _ _ _ _ _ us hl=>match us,hl with | [_,_,_,_],_=>rfl)
 obtain ⟨diS,FiS,biS⟩:=fnB_of hiS (ps:=["self","lands","most","leave"]) (fun _ _ _ _ _ _ us hl=>match us,hl with | [_,_,_,_],_=>rfl)
 obtain ⟨diI,FiI,biI⟩:=fnB_of hiI (ps:=["self","lands","most"]) (fun _ _ _ _ _ _ us hl=>match us,hl with | [_,_,_],_=>rfl)
 obtain ⟨diB,FiB,biB⟩:=fnB_of hiB (ps:=["self","rules","papers"]) (fun _ _ _ _ _ _ us hl=>match us,hl with | [_,_,_],_=>rfl)
 obtain ⟨dmw,Fmw,bmw⟩:=fnB_of hmw (ps:=["self","land"]) (fun _ _ _ _ _ _ us hl=>match us,hl with | [_,_],_=>rfl)
 obtain ⟨dmr,Fmr,bmr⟩:=fnB_of hmr (ps:=["self"]) (fun _ _ _ _ _ _ us hl=>match us,hl with | [_],_=>rfl)
 obtain ⟨dmp,Fmp,bmp⟩:=fnB_of hmp (ps:=["self"]) (fun _ _ _ _ _ _ us hl=>match us,hl with | [_],_=>rfl)
 obtain ⟨dml,Fml,bml⟩:=fnB_of hml (ps:=["self","number"]) (fun _ _ _ _ _ _ us hl=>match us,hl with | [_,_],_=>rfl)
 have mcR:=mg_of X G ncR
 have mcW:=mg_of X G ncW
 have mcS:=mg_of X G ncS
 have mcI:=mg_of X G ncI
 have mcB:=mg_of X G ncB
 have rW:Kr K fmw cW cW cS "span" true:=⟨LW,na_landsW,na_mostW,na_spanW,⟨twW,nmw,hmw.kp⟩,kwW,ksW⟩
 have rS:Kr K fmw cS cW cS "leave" false:=⟨LS,na_landsS,na_mostS,na_leaveS,⟨twS,nmw,hmw.kp⟩,kwS,ksS⟩
 have rI:Kr K fmw cI cW cS "leave" false:=⟨LI,na_landsI,na_mostI,na_leaveI,⟨twI,nmw,hmw.kp⟩,kwI,ksI⟩
 have rB:Kb K fmr fml fmp cB:=⟨LB,na_kept_rulesB,na_kept_papersB,⟨tmr,nmr,hmr.kp⟩,⟨tml,nml,hml.kp⟩,⟨tmp,nmp,hmp.kp⟩⟩
 have tx:Tx (kap cW cS cI cB) K mg:=⟨mg_none_of X G z_tuple,mg_none_of X G z_list,mg_none_of X G z_len,⟨_,mg_of X G v0⟩,cls_of rW rS rI rB,flds_of rW rS rI rB⟩
 have cfR:ClsFn K cR "__init__" fiR:=⟨rdR,gsR,fcR,hiR.kp⟩
 have cfS:ClsFn K cS "__init__" fiS:=⟨rdS,gsS,fcS,hiS.kp⟩
 refine ⟨dL,bL,fun base _ _=>law_of (k:=19) (st:=top 55) ?ok FL (by kernel_rfl) (by kernel_rfl)⟩
 case ok=>
 refine ⟨.cons (fnF_of X G a0 h0 (ps:=["stretches"]) (by kernel_rfl) fun _ _ _ _ _ _ us hl=>match us,hl with | [_],_=>rfl) (.cons (fnF_of X G a1 h1 (ps:=["one","day"]) (by kernel_rfl) fun _ _ _ _ _ _ us hl=>match us,hl with | [_,_],_=>rfl) (.cons (fnF_of X G a2 h2 (ps:=["thing"]) (by kernel_rfl) fun _ _ _ _ _ _ us hl=>match us,hl with | [_],_=>rfl) (.cons (fnF_of X G a3 h3 (ps:=["thing","least","greatest"]) (by kernel_rfl) fun _ _ _ _ _ _ us hl=>match us,hl with | [_,_,_],_=>rfl) (.cons (fnF_of X G a4 h4 (ps:=["first","last"]) (by kernel_rfl) fun _ _ _ _ _ _ us hl=>match us,hl with | [_,_],_=>rfl) (.cons (fnF_of X G a5 h5 (ps:=["text","signs"]) (by kernel_rfl) fun _ _ _ _ _ _ us hl=>match us,hl with | [_,_],_=>rfl) (.cons (fnF_of X G a6 h6 (ps:=["thing"]) (by kernel_rfl) fun _ _ _ _ _ _ us hl=>match us,hl with | [_],_=>rfl) (.cons (fnF_of X G a7 h7 (ps:=["thing"]) (by kernel_rfl) fun _ _ _ _ _ _ us hl=>match us,hl with | [_],_=>rfl) (.cons (fnF_of X G a8 h8 (ps:=["things"]) (by kernel_rfl) fun _ _ _ _ _ _ us hl=>match us,hl with | [_],_=>rfl) (.cons (fnF_of X G a9 h9 (ps:=["thing"]) (by kernel_rfl) fun _ _ _ _ _ _ us hl=>match us,hl with | [_],_=>rfl) (.cons (fnF_of X G a10 h10 (ps:=["some"]) (by kernel_rfl) fun _ _ _ _ _ _ us hl=>match us,hl with | [_],_=>rfl) (.cons (fnF_of X G a11 h11 (ps:=["stays","day"]) (by kernel_rfl) fun _ _ _ _ _ _ us hl=>match us,hl with | [_,_],_=>rfl) (.cons (fnF_of X G a12 h12 (ps:=["rule","lifted","stays","day"]) (by kernel_rfl) fun _ _ _ _ _ _ us hl=>match us,hl with | [_,_,_,_],_=>rfl) (.cons (fnF_of X G a13 h13 (ps:=["rule","lifted","stays","day"]) (by kernel_rfl) fun _ _ _ _ _ _ us hl=>match us,hl with | [_,_,_,_],_=>rfl) (.cons (fnF_of X G a14 h14 (ps:=["rule","lifted","stays","day"]) (by kernel_rfl) fun _ _ _ _ _ _ us hl=>match us,hl with | [_,_,_,_],_=>rfl) (.cons (fnF_of X G a15 h15 (ps:=["rule","lifted","stays","day"]) (by kernel_rfl) fun _ _ _ _ _ _ us hl=>match us,hl with | [_,_,_,_],_=>rfl) (.cons (fnF_of X G a16 h16 (ps:=["book","number","stays","day"]) (by kernel_rfl) fun _ _ _ _ _ _ us hl=>match us,hl with | [_,_,_,_],_=>rfl) (.cons (fnF_of X G a17 h17 (ps:=["book","number","stays","day"]) (by kernel_rfl) fun _ _ _ _ _ _ us hl=>match us,hl with | [_,_,_,_],_=>rfl) (.cons (fnF_of X G a18 h18 (ps:=["book","stays"]) (by kernel_rfl) fun _ _ _ _ _ _ us hl=>match us,hl with | [_,_],_=>rfl) (.cons (fnF_of X G a19 h19 (ps:=["things"]) (by kernel_rfl) fun _ _ _ _ _ _ us hl=>match us,hl with | [_],_=>rfl) (.cons (fnF_of X G a20 h20 (ps:=["thing","many"]) (by kernel_rfl) fun _ _ _ _ _ _ us hl=>match us,hl with | [_,_],_=>rfl) (.cons (fnF_of X G a21 h21 (ps:=["things","many"]) (by kernel_rfl) fun _ _ _ _ _ _ us hl=>match us,hl with | [_,_],_=>rfl) (.cons (fnF_of X G a22 h22 (ps:=["_law_script","_law_k"]) (by kernel_rfl) fun _ _ _ _ _ _ us hl=>match us,hl with | [_,_],_=>rfl) (.cons (fnF_of X G a23 h23 (ps:=["_law_cell","_law_many"]) (by kernel_rfl) fun _ _ _ _ _ _ us hl=>match us,hl with | [_,_],_=>rfl) (.cons (fnF_of X G a24 h24 (ps:=["_law_cell","_law_names"]) (by kernel_rfl) fun _ _ _ _ _ _ us hl=>match us,hl with | [_,_],_=>rfl) (.cons (fnF_of X G a25 h25 (ps:=["_law_rule_here"]) (by kernel_rfl) fun _ _ _ _ _ _ us hl=>match us,hl with | [_],_=>rfl) (.cons (fnF_of X G a26 h26 (ps:=["_law_cell","_law_many","_law_start"]) (by kernel_rfl) fun _ _ _ _ _ _ us hl=>match us,hl with | [_,_,_],_=>rfl) (.cons (fnF_of X G a27 h27 (ps:=["_law_cells","_law_names","_law_start"]) (by kernel_rfl) fun _ _ _ _ _ _ us hl=>match us,hl with | [_,_,_],_=>rfl) (.cons (fnF_of X G a28 h28 (ps:=["_law_stays_here","_law_day"]) (by kernel_rfl) fun _ _ _ _ _ _ us hl=>match us,hl with | [_,_],_=>rfl) (.cons (fnF_of X G a29 h29 (ps:=["_law_script"]) (by kernel_rfl) fun _ _ _ _ _ _ us hl=>match us,hl with | [_],_=>rfl) (.nil)))))))))))))))))))))))))))))),?b,?g,cls_of rW rS rI rB,flds_of rW rS rI rB,?m,?k,subs_of rW rS rI rB og ot mcW mcS⟩
 case b=>
  intro f hf
  simp only [bNames,List.mem_cons,List.not_mem_nil,or_false] at hf
  rcases hf with rfl | rfl | rfl | rfl | rfl | rfl | rfl | rfl | rfl | rfl | rfl | rfl | rfl | rfl
  ·exact mg_none_of X G z_len
  ·exact mg_none_of X G z_list
  ·exact mg_none_of X G z_tuple
  ·exact mg_none_of X G z_int
  ·exact mg_none_of X G z_bool
  ·exact mg_none_of X G z_str
  ·exact mg_none_of X G z_max
  ·exact mg_none_of X G z_min
  ·exact mg_none_of X G z_isinstance
  ·exact mg_none_of X G z_range
  ·exact mg_none_of X G z_enumerate
  ·exact mg_none_of X G z_zip
  ·exact mg_none_of X G z_sorted
  ·exact mg_none_of X G z_sum
 case g=>
  intro x d hd
  unfold pg at hd
  dsimp only at hd
  by_cases h0:x = "GREATEST"
  ·rw [if_pos h0] at hd
   cases hd
   exact ⟨.int 1000000000,_,h0▸mg_of X G v0,⟨_,rfl⟩,fun _=>by simp only [Rep]⟩
  rw [if_neg h0] at hd
  by_cases h1:x = "LETTERS"
  ·rw [if_pos h1] at hd
   cases hd
   exact ⟨.str "abcdefghijklmnopqrstuvwxyz",_,h1▸mg_of X G v1,⟨_,rfl⟩,fun _=>by simp only [Rep]⟩
  rw [if_neg h1] at hd
  by_cases h2:x = "LONGEST_NAME"
  ·rw [if_pos h2] at hd
   cases hd
   exact ⟨.int 8,_,h2▸mg_of X G v2,⟨_,rfl⟩,fun _=>by simp only [Rep]⟩
  rw [if_neg h2] at hd
  by_cases h3:x = "MOST_LANDS"
  ·rw [if_pos h3] at hd
   cases hd
   exact ⟨.int 6,_,h3▸mg_of X G v3,⟨_,rfl⟩,fun _=>by simp only [Rep]⟩
  rw [if_neg h3] at hd
  by_cases h4:x = "GREATEST_WEIGHT"
  ·rw [if_pos h4] at hd
   cases hd
   exact ⟨.int 9,_,h4▸mg_of X G v4,⟨_,rfl⟩,fun _=>by simp only [Rep]⟩
  rw [if_neg h4] at hd
  by_cases h5:x = "MOST_STAYS"
  ·rw [if_pos h5] at hd
   cases hd
   exact ⟨.int 60,_,h5▸mg_of X G v5,⟨_,rfl⟩,fun _=>by simp only [Rep]⟩
  rw [if_neg h5] at hd
  by_cases h6:x = "MOST_RULES"
  ·rw [if_pos h6] at hd
   cases hd
   exact ⟨.int 8,_,h6▸mg_of X G v6,⟨_,rfl⟩,fun _=>by simp only [Rep]⟩
  rw [if_neg h6] at hd
  by_cases h7:x = "MOST_PAPERS"
  ·rw [if_pos h7] at hd
   cases hd
   exact ⟨.int 12,_,h7▸mg_of X G v7,⟨_,rfl⟩,fun _=>by simp only [Rep]⟩
  rw [if_neg h7] at hd
  cases hd
 case m=>
  intro c x f hm
  rcases mt_is hm with ⟨hr,rfl,rfl⟩ | ⟨rfl,rfl,rfl⟩ | ⟨rfl,rfl,rfl⟩ | ⟨rfl,rfl,rfl⟩
  ·rcases rk_is hr with rfl | rfl | rfl
   ·exact ⟨cW,fmw,_,mem 23 1,"weight",rfl,rW.wt,by kernel_rfl,by kernel_rfl,Fmw,bmw⟩
   ·exact ⟨cS,fmw,_,mem 23 1,"weight",rfl,rS.wt,by kernel_rfl,by kernel_rfl,Fmw,bmw⟩
   ·exact ⟨cI,fmw,_,mem 23 1,"weight",rfl,rI.wt,by kernel_rfl,by kernel_rfl,Fmw,bmw⟩
  ·exact ⟨cB,fmr,_,mem 46 1,"rules",rfl,rB.m1,by kernel_rfl,by kernel_rfl,Fmr,bmr⟩
  ·exact ⟨cB,fml,_,mem 46 3,"lifted",rfl,rB.m2,by kernel_rfl,by kernel_rfl,Fml,bml⟩
  ·exact ⟨cB,fmp,_,mem 46 2,"papers",rfl,rB.m3,by kernel_rfl,by kernel_rfl,Fmp,bmp⟩
 case k=>
  intro P wd base k ih f hf
  by_cases hk:k < 12
  ·exact .inl fun args=>if_pos hk
  obtain ⟨j,rfl⟩:∃ j,k=j+12:=⟨k - 12,by omega⟩
  right
  have hf:f = "Within"∨f = "Since"∨f = "InRow"∨f = "Book":=by
   have hf:((["Within","Since","InRow","Book"]:List Str).contains f)=true:=hf
   simpa using hf
  rcases hf with rfl | rfl | rfl | rfl
  ·exact ⟨cW,fiW,_,_,_,⟨mkW,inW,niW,kcW⟩,ok_withinI (j:=j+9) tx FiW FiR biR mcR cfR (ih (j+9) (by omega)) (ih (j+10) (by omega)) (ck_of (j+4)) (ck_of (j+5)),mcW,biW,by omega,make_sp (c:="Within") rfl rfl fun args r=>nw_w (j:=j)⟩
  ·exact ⟨cS,fiS,_,_,_,⟨mkS,inS,niS,kcS⟩,ok_sinceI (j:=j+9) tx FiS FiR biR mcR cfR (ih (j+9) (by omega)) (ih (j+10) (by omega)) (ck_of (j+4)) (ck_of (j+5)),mcS,biS,by omega,make_sp (c:="Since") rfl rfl fun args r=>nw_s (j:=j)⟩
  ·exact ⟨cI,fiI,_,_,_,⟨mkI,inI,niI,kcI⟩,ok_inrowI (j:=j+8) tx FiI FiS biS mcS cfS FiR biR mcR cfR (ih (j+8) (by omega)) (ih (j+9) (by omega)) (ck_of (j+3)) (ck_of (j+4)),mcI,biI,by omega,make_sp (c:="InRow") rfl rfl fun args r=>nw_i (j:=j)⟩
  ·exact ⟨cB,fiB,_,_,_,⟨mkB,inB,niB,kcB⟩,ok_bookI (j:=j+10) tx FiB (ih (j+10) (by omega)) (ck_of (j+5)),mcB,biB,by omega,make_sp (c:="Book") rfl rfl fun args r=>nw_b (j:=j)⟩
theorem walk {l:PySem.W.OpenLaw} {q:Program} {loose:List Str} {XP:(Str→Option Value)→Heap→Prop} {YP:World→Heap→Prop} {d:DefRec} {K:Params→PySem.W.Frag} {κ:KC} (hn:l.most=some 63) (hdf:d.params.defaults=[])
  (hY:∀ (w:World) (h:Heap),YP w h→(K w.params).In h)
  (F:∀ (w:World) (mg:Str→Option Value) (fa:Addr) (h:Heap),(K w.params).In h→h.Ns mainGlobals mg→mg d.name=some (.ref fa)→
   ∃ fd:FuncData,(∀ (s:Shared) (u:Value),BindsTo s fd ⟨[u],[]⟩ [("_law_script",u)])∧∀ base:Heap,(K w.params).In base→base.Ns mainGlobals mg→FnOk l.prog w (K w.params) mg base CX0 20 fa fd ["_law_script"] (spF κ (K w.params) (clK pg 20) "law")) :
  PySem.W.WalkO q loose XP YP l.row.toRowW d [] (fun f vs=>PySem.call f vs):=
 L2.walk_of (n:=63) (k:=20) (x:="_law_script") (CX:=fun _=>CX0) (sp:=fun w=>spF κ (K w.params) (clK pg 20) "law") hn (by decide) hdf ⟨rfl,by decide,by decide⟩ hY F (fun _ _ a ns hl _ hS=>law_sp hS (law_true ns hl)) fun _ _ _ _ _ z=>z
end K25
open PySem PySem.W PyProof.Rows
set_option maxRecDepth 100000 in
set_option maxHeartbeats 0 in
theorem PySem.Challenge.cw_daysgate_k25_whole_what_comes_later_holds : PySem.Challenge.rw_daysgate_k25_whole_what_comes_later.Holds := by
 w_on;o_law
 refine holds_open (q:=K25.Hq) (loose:=[]) (Xt:=K25.Hx) (XP:=XL K25.Hq []) (Yf:=fun s=>K25.Has.map s.heap.get?) (Ya:=fun w=>(K25.HK w.params).map fun p=>some p.2) (YP:=InK K25.HK) (N:=7572) K25.Hleft (InK.of K25.HKe) InK.keeps (fun s e=>xl_of s (Bool.and_eq_true_iff.mp e).1) XL.keeps (by rfl) (by rfl) (by rfl) (fun s e=>recFacts_of (Bool.and_eq_true_iff.mp e).2) (by rfl) (by first | assumption | decide +kernel) (by decide +kernel) ⟨rfl,rfl,rfl,rfl,rfl,by decide +kernel⟩ ?hw ?hc
 (case hw=>w_witness2)
 k_fill
 refine K25.walk (l:=PySem.Challenge.rw_daysgate_k25_whole_what_comes_later) (κ:=(DG.kap (nat_lit 199) (nat_lit 225) (nat_lit 251) (nat_lit 376))) rfl rfl (fun w h Y=>Y) ?F
 case F=>
  intro w mg fa h KX G hmg
  refine' K25.all_mk KX G hmg ?_ ?_ ?_ ?_ ?_ ?_ ?_ ?_ ?_ ?_ ?_ ?_ ?_ ?_ ?_ ?_ ?_ ?_ ?_ ?_ ?_ ?_ ?_ ?_ ?_ ?_ ?_ ?_ ?_ ?_ ?_ ?_ ?_ ?_ ?_ ?_ ?_ ?_ ?_ ?_ ?_ ?_ ?_ ?_ ?_ ?_ ?_ ?_ ?_ ?_ ?_ ?_ ?_ ?_ ?_ ?_ ?_ ?_ ?_ ?_ ?_ ?_ ?_ ?_ ?_ ?_ ?_ ?_ ?_ ?_ ?_ ?_ ?_ ?_ ?_ ?_ ?_ ?_ ?_ ?_ ?_ ?_ ?_ ?_ ?_ ?_ ?_ ?_ ?_ ?_ ?_ ?_ ?_ ?_ ?_ ?_ ?_ ?_ ?_ ?_ ?_ ?_ ?_ ?_ ?_ ?_ ?_ ?_ ?_ ?_ ?_ ?_ ?_ ?_ ?_ ?_ ?_ ?_ ?_ ?_ ?_ ?_ ?_ ?_ ?_ ?_ ?_ ?_ ?_ ?_ ?_ ?_ ?_ ?_ ?_ ?_ ?_ ?_ ?_ ?_ ?_ ?_ ?_ ?_ ?_ ?_ ?_ ?_ ?_ ?_ ?_ ?_ ?_
  all_goals try first | k_is | (unfold DG.FnIn;exact ⟨_,_,_,_,_,_,_,_,_,by k_is,by k_is,by k_is⟩) | (refine ⟨⟨?_,?_,?_,?_⟩,?_,?_⟩<;>k_is) | kit_is
#print axioms PySem.Challenge.cw_daysgate_k25_whole_what_comes_later_holds
