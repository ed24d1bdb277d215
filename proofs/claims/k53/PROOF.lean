import PyProof.Rows.All
import Wide.All
import OpenK.AllK
import Wide.FinOn
import Lean
import PyProof.EqAt
import PyProof.EqKinds
import PyProof.TupleCall
import PySem.Challenge.RW_daysgate_k53_stays_of_a_plan
set_option Elab.async false
set_option linter.all false
set_option maxRecDepth 100000
namespace L2
open PySem PySem.Spec PyProof.Rows
abbrev Key := Sum Int Str
def keyIs : Key → Value → Bool
  | .inl k, v => Value.isInt k v
  | .inr x, v => Value.isStrOf x v
def keyH (w : World) : Key → Int
  | .inl k => hashInt k
  | .inr x => hashStr w x
theorem keyIs_shape : ∀ {k : Key} {v : Value}, keyIs k v = true → (∃ i t, k = Sum.inl i ∧ v = Value.int i t) ∨ (∃ x t, k = Sum.inr x ∧ v = Value.str x t)
  | .inl i, v, h => by
    obtain ⟨t, e⟩ := Value.isInt_shape (k := i) (v := v) h
    exact .inl ⟨i, t, rfl, e⟩
  | .inr x, v, h => by
    obtain ⟨t, e⟩ := Value.isStrOf_shape (x := x) (v := v) h
    exact .inr ⟨x, t, rfl, e⟩
theorem key_ll (a b : Int) : decide ((Sum.inl a : Key) = Sum.inl b) = (a == b) := by
  by_cases e : a = b
  · subst e; simp
  · have h : ¬ (Sum.inl a : Key) = Sum.inl b := fun q => e (Sum.inl.inj q)
    rw [decide_eq_false h]
    exact (beq_eq_false_iff_ne.mpr e).symm
theorem key_rr (a b : Str) : decide ((Sum.inr a : Key) = Sum.inr b) = decide (a = b) := by
  by_cases e : a = b
  · subst e; simp
  · have h : ¬ (Sum.inr a : Key) = Sum.inr b := fun q => e (Sum.inr.inj q)
    rw [decide_eq_false h, decide_eq_false e]
theorem key_lr (a : Int) (b : Str) : decide ((Sum.inl a : Key) = Sum.inr b) = false := decide_eq_false (fun q => nomatch q)
theorem key_rl (a : Str) (b : Int) : decide ((Sum.inr a : Key) = Sum.inl b) = false := decide_eq_false (fun q => nomatch q)

def mixKind (prog : Program) (w : World) : PySem.KeyKind prog w Key where
  is := keyIs
  hash := keyH w
  inj := fun v a b ha hb => by
    rcases keyIs_shape ha with ⟨i, t, rfl, rfl⟩ | ⟨x, t, rfl, rfl⟩
    · rcases keyIs_shape hb with ⟨j, u, rfl, e⟩ | ⟨y, u, rfl, e⟩
      · injection e with e1 _; rw [e1]
      · exact nomatch e
    · rcases keyIs_shape hb with ⟨j, u, rfl, e⟩ | ⟨y, u, rfl, e⟩
      · exact nomatch e
      · injection e with e1 _; rw [e1]
  byValue := fun k v h => by
    rcases keyIs_shape h with ⟨i, t, rfl, rfl⟩ | ⟨x, t, rfl, rfl⟩ <;> rfl
  pyHash := fun hv h => by
    rcases keyIs_shape hv with ⟨i, t, rfl, rfl⟩ | ⟨x, t, rfl, rfl⟩
    · exact wpAny_pyHash_int h
    · exact wpAny_pyHash_str h
  eqBool := fun hu hv h => by
    rcases keyIs_shape hu with ⟨i, t, rfl, rfl⟩ | ⟨x, t, rfl, rfl⟩
    · rcases keyIs_shape hv with ⟨j, u, rfl, rfl⟩ | ⟨y, u, rfl, rfl⟩
      · rw [key_ll] at h; exact wpAny_eqBool_int h
      · rw [key_lr] at h; exact SeqAt.EqAt.int_str i t y u _ _ _ _ h
    · rcases keyIs_shape hv with ⟨j, u, rfl, rfl⟩ | ⟨y, u, rfl, rfl⟩
      · rw [key_rl] at h; exact SeqAt.EqAt.str_int x t j u _ _ _ _ h
      · rw [key_rr] at h; exact wpAny_eqBool_str h
  «strs» := fun k x t v h => by
    rcases keyIs_shape h with ⟨i, u, rfl, e⟩ | ⟨y, u, rfl, e⟩
    · exact nomatch e
    · injection e with e1 _
      subst e1
      cases v <;> rfl

end L2
namespace L2
open PySem PySem.Spec PyProof.Rows
inductive V where
  | non | bl (b : Bool) | int (i : Int) | str (x : Str) | byt (b : Array UInt8) | flt (b : UInt64) | ref (a : Addr) | ty (n : String)
  deriving DecidableEq

def RelV : V → Value → Prop
  | .non, u => u = Value.none
  | .bl b, u => u = Value.bool b
  | .int i, u => ∃ t, u = Value.int i t
  | .str x, u => ∃ t, u = Value.str x t
  | .byt b, u => ∃ t, u = Value.bytes b t
  | .flt b, u => ∃ t, u = Value.float b t
  | .ref a, u => u = Value.ref a
  | .ty n, u => u = Value.type n

abbrev Vals : List V → List Value → Prop := Paired RelV
theorem Vals.length {xs : List V} {us : List Value} (r : Vals xs us) : xs.length = us.length := Paired.length r
theorem Vals.get : ∀ {xs : List V} {us : List Value} {i : Nat} {x : V}, Vals xs us → xs[i]? = some x → ∃ u, us[i]? = some u ∧ RelV x u
  | _, _, _, _, .nil, e => by simp at e
  | _, _, 0, _, .cons r _, e => by simp at e; subst e; exact ⟨_, rfl, r⟩
  | _, _, i + 1, x, .cons _ t, e => by
    obtain ⟨u, h1, h2⟩ := Vals.get (i := i) (x := x) t (by simpa using e)
    exact ⟨u, by simpa using h1, h2⟩
theorem Vals.set {x : V} {u : Value} (r : RelV x u) : ∀ {xs : List V} {us : List Value} (i : Nat), Vals xs us → Vals (xs.set i x) (us.set i u)
  | _, _, _, .nil => .nil
  | _, _, 0, .cons _ t => .cons r t
  | _, _, i + 1, .cons q t => .cons q (Vals.set r i t)
theorem Vals.append : ∀ {xs ys : List V} {us ws : List Value}, Vals xs us → Vals ys ws → Vals (xs ++ ys) (us ++ ws)
  | _, _, _, _, .nil, s => s
  | _, _, _, _, .cons r t, s => .cons r (Vals.append t s)
theorem Vals.take : ∀ {xs : List V} {us : List Value} (n : Nat), Vals xs us → Vals (xs.take n) (us.take n)
  | _, _, 0, _ => .nil
  | _, _, _ + 1, .nil => .nil
  | _, _, n + 1, .cons r t => .cons r (Vals.take n t)
theorem Vals.drop : ∀ {xs : List V} {us : List Value} (n : Nat), Vals xs us → Vals (xs.drop n) (us.drop n)
  | _, _, 0, r => r
  | _, _, _ + 1, .nil => .nil
  | _, _, n + 1, .cons _ t => Vals.drop n t
def RelO : Option V → Option Value → Prop
  | some v, some u => RelV v u
  | none, none => True
  | _, _ => False
def KV {κ : Type} : List (κ × V) → List (κ × Value) → Prop := Paired fun (p : κ × V) (q : κ × Value) => p.1 = q.1 ∧ RelV p.2 q.2

def kV : Key → V
  | .inl i => .int i
  | .inr x => .str x

inductive HO where
  /-- a list -/
  | lst (xs : List V)
  /-- a tuple (never changes) -/
  | tup (xs : List V)
  /-- a dict whose keys are ints and texts; one whose keys are tuples of ints and texts (the empty one is both) -/
  | dK (kvs : List (Key × V)) | dT (kvs : List (List Key × V))
  /-- a set of ints: its members, its size -/
  | set (S : Int → Bool) (n : Nat)
  /-- an instance of the class at C, its dict at dx, its attributes -/
  | ins (C dx : Addr) (fs : List (Str × V))
  /-- the dict of the instance at x -/
  | own (x : Addr)
  /-- the dict of an exception -/
  | xd (fs : List (Str × V))
  /-- a bound method, f of x -/
  | met (f x : Addr)
  /-- a range object lo, lo + 1, .. below hi -/
  | rng (lo hi : Int)
  /-- a thing that is known to the object (the script; a dict while a loop walks it): read, never written while it is so -/
  | frz (o : Obj) (u : HO)
  /-- a code object's table -/
  | tbl (ps : Array Value)
  /-- any other thing, by what is true of its one object (a def of one's own: SetO a S n := HO.ext fun h => ..) -/
  | ext (φ : Heap → Prop)

abbrev Hp := Addr → Option HO
def upd (H : Hp) (a : Addr) (o : HO) : Hp := fun b => if b = a then some o else H b
theorem upd_same {H : Hp} {a : Addr} {o : HO} : upd H a o a = some o := by unfold upd; rw [if_pos rfl]
theorem upd_ne {H : Hp} {a b : Addr} {o : HO} (h : b ≠ a) : upd H a o b = H b := by unfold upd; rw [if_neg h]
theorem ne_of {H : Hp} {a b : Addr} {o u : HO} (h : H a = some o) (h' : H b = some u) (d : o ≠ u) : a ≠ b := by
  intro e; subst e; rw [h] at h'; exact d (Option.some.inj h')
theorem ne_of_none {H : Hp} {a b : Addr} {o : HO} (h : H a = some o) (h' : H b = none) : a ≠ b := by
  intro e; subst e; rw [h] at h'; cases h'

section
variable (P : Program) (w : World)
def ObjOk (H : Hp) (h : Heap) (a : Addr) : HO → Prop
  | .lst xs => xs.length ≤ sizeLine ∧ ∃ (its : List Value) (n : Nat), Vals xs its ∧ h.get? a = some { cls := .type "list", data := .seq its.toArray n }
  | .tup xs => xs.length ≤ sizeLine ∧ ∃ its : List Value, Vals xs its ∧ IsTup h a its.toArray
  | .dK kvs => kvs.length ≤ sizeLine ∧ (a == sysModules) = false ∧ ∃ vs, KV kvs vs ∧ h.DictOf (mixKind P w) a vs
  | .dT kvs => kvs.length ≤ sizeLine ∧ (a == sysModules) = false ∧ ∃ xs : List (List Key × Addr × Value),
      Paired (fun (p : List Key × V) (q : List Key × Addr × Value) => p.1 = q.1 ∧ H q.2.1 = some (.tup (p.1.map kV)) ∧ RelV p.2 q.2.2) kvs xs ∧
      ∃ o es ep, h.get? a = some o ∧ o.ExactDict ∧ o.data = .dict es ep ∧ es.toList = xs.map (entryOfKey (tupleKind (mixKind P w))) ∧ (xs.map (·.1)).Nodup
  | .set S n => h.SetOf (intKind P w) a S n
  | .ins C dx fs => H dx = some (.own a) ∧ fs.length ≤ 1000 ∧ dx ≠ a ∧ h.get? a = some (PySem.W.instObj C dx) ∧
      ∃ mA, h.Ns1 dx mA ∧ (∀ f, RelO (fs.lookup f) (mA f)) ∧ PySem.Within mA (fs.map (·.1))
  | .own _ => ∃ o, h.get? a = some o
  | .xd fs => ∃ mA, h.Ns1 a mA ∧ ∀ f, RelO (fs.lookup f) (mA f)
  | .rng lo hi => ∃ t u v, h.get? a = some { cls := .type "range", data := .fields #[.int lo t, .int hi u, .int 1 v] }
  | .frz o u => h.get? a = some o ∧ ObjOk H h a u
  | .tbl ps => h.get? a = some { cls := .none, data := .fields ps }
  | .met f x => h.get? a = some (PySem.W.methodObj (.ref f) (.ref x))
  | .ext φ => φ h ∧ (∃ o, h.get? a = some o) ∧ ∀ h1 h2 : Heap, φ h1 → (∀ o, h1.get? a = some o → h2.get? a = some o) → φ h2
def HOk (H : Hp) (h : Heap) : Prop := ∀ a o, H a = some o → ObjOk P w H h a o
end
section
variable {P : Program} {w : World} {H H' : Hp} {h h' : Heap} {a : Addr} {o : HO}
theorem ObjOk.lt (x : ObjOk P w H h a o) : a < h.objs.size := by
  cases o with
  | lst xs => obtain ⟨_, _, _, _, e⟩ := x; exact Heap.lt_size e
  | tup xs => obtain ⟨_, _, _, p⟩ := x; exact p.lt
  | dK kvs => obtain ⟨_, _, _, _, o, _, _, e, _⟩ := x; exact Heap.lt_size e
  | dT kvs => obtain ⟨_, _, _, _, o, _, _, e, _⟩ := x; exact Heap.lt_size e
  | set S n => obtain ⟨o, _, _, _, e, _⟩ := x; exact Heap.lt_size e
  | ins C dx fs => obtain ⟨_, _, _, e, _⟩ := x; exact Heap.lt_size e
  | own y => obtain ⟨_, e⟩ := x; exact Heap.lt_size e
  | xd fs => obtain ⟨_, ⟨_, _, _, e, _⟩, _⟩ := x; exact Heap.lt_size e
  | rng lo hi => obtain ⟨_, _, _, e⟩ := x; exact Heap.lt_size e
  | frz ob u => obtain ⟨e, _⟩ := x; exact Heap.lt_size e
  | tbl ps => exact Heap.lt_size (show h.get? a = some _ from x)
  | met f y => exact Heap.lt_size (show h.get? a = some _ from x)
  | ext φ => obtain ⟨_, ⟨_, e⟩, _⟩ := x; exact Heap.lt_size e
theorem Paired.mapP {α β : Type} {F G : α → β → Prop} : ∀ {l₁ : List α} {l₂ : List β}, Paired F l₁ l₂ → (∀ a b, F a b → G a b) → Paired G l₁ l₂
  | _, _, .nil, _ => .nil
  | _, _, .cons r t, f => .cons (f _ _ r) (Paired.mapP t f)
theorem ObjOk.stay (x : ObjOk P w H h a o) (k : ∀ b u, (b = a ∨ H b = some (.own a)) → h.get? b = some u → h'.get? b = some u)
    (ho : ∀ b, H b = some (.own a) → H' b = some (.own a)) (ht : ∀ b xs, H b = some (.tup xs) → H' b = some (.tup xs)) : ObjOk P w H' h' a o := by
  induction o with
  | lst xs => obtain ⟨z, its, n, r, e⟩ := x; exact ⟨z, its, n, r, k _ _ (.inl rfl) e⟩
  | tup xs => obtain ⟨z, its, r, ob, e, c⟩ := x; exact ⟨z, its, r, ob, k _ _ (.inl rfl) e, c⟩
  | dK kvs => obtain ⟨z, y, vs, r, ob, es, ep, e, c⟩ := x; exact ⟨z, y, vs, r, ob, es, ep, k _ _ (.inl rfl) e, c⟩
  | dT kvs =>
    obtain ⟨z, y, xs, r, ob, es, ep, e, c⟩ := x
    exact ⟨z, y, xs, Paired.mapP r fun p q z => ⟨z.1, ht _ _ z.2.1, z.2.2⟩, ob, es, ep, k _ _ (.inl rfl) e, c⟩
  | set S n => obtain ⟨ob, es, ep, t, e, c⟩ := x; exact ⟨ob, es, ep, t, k _ _ (.inl rfl) e, c⟩
  | ins C dx fs =>
    obtain ⟨d, z, ne, e, mA, ⟨od, es, ep, e2, c⟩, r⟩ := x
    exact ⟨ho _ d, z, ne, k _ _ (.inl rfl) e, mA, ⟨od, es, ep, k _ _ (.inr d) e2, c⟩, r⟩
  | own y => obtain ⟨ob, e⟩ := x; exact ⟨ob, k _ _ (.inl rfl) e⟩
  | xd fs => obtain ⟨mA, ⟨od, es, ep, e, c⟩, r⟩ := x; exact ⟨mA, ⟨od, es, ep, k _ _ (.inl rfl) e, c⟩, r⟩
  | rng lo hi => obtain ⟨t, u, v, e⟩ := x; exact ⟨t, u, v, k _ _ (.inl rfl) e⟩
  | frz ob u ih => obtain ⟨e, q⟩ := x; exact ⟨k _ _ (.inl rfl) e, ih q⟩
  | tbl ps =>
    have e : h.get? a = some { cls := .none, data := .fields ps } := x
    show h'.get? a = some { cls := .none, data := .fields ps }
    exact k a _ (.inl rfl) e
  | met f y =>
    have e : h.get? a = some (PySem.W.methodObj (.ref f) (.ref y)) := x
    show h'.get? a = some (PySem.W.methodObj (.ref f) (.ref y))
    exact k a _ (.inl rfl) e
  | ext φ => obtain ⟨p, ⟨o, e⟩, st⟩ := x; exact ⟨st _ _ p fun o q => k _ _ (.inl rfl) q, ⟨o, k _ _ (.inl rfl) e⟩, st⟩
theorem HOk.lt (x : HOk P w H h) (e : H a = some o) : a < h.objs.size := (x a o e).lt
theorem HOk.fresh (x : HOk P w H h) (e : h.objs.size ≤ a) : H a = none := by
  cases q : H a with
  | none => rfl
  | some u => exact absurd (Nat.lt_of_lt_of_le (x.lt q) e) (Nat.lt_irrefl _)
theorem HOk.kept (x : HOk P w H h) (k : ∀ b u, h.get? b = some u → h'.get? b = some u) : HOk P w H h' := fun a o e =>
  (x a o e).stay (fun b u _ q => k b u q) (fun _ q => q) fun _ _ q => q
theorem HOk.laid (x : HOk P w H h) (k : ∀ b u, h.get? b = some u → h'.get? b = some u) (hp : h.objs.size ≤ a) (new : ObjOk P w (upd H a o) h' a o) : HOk P w (upd H a o) h' := fun b u e => by
  have hn := x.fresh hp
  by_cases hb : b = a
  · subst hb; rw [upd_same] at e; cases e; exact new
  · rw [upd_ne hb] at e
    exact (x b u e).stay (fun c v _ q => k c v q) (fun c q => by rw [upd_ne (ne_of_none q hn)]; exact q) fun c xs q => by rw [upd_ne (ne_of_none q hn)]; exact q
end
def Rd (H : Hp) (a : Addr) (u : HO) : Prop := H a = some u ∨ ∃ o, H a = some (.frz o u)
theorem Rd.of {H : Hp} {a : Addr} {u : HO} (h : H a = some u) : Rd H a u := .inl h
theorem Rd.ok {P : Program} {w : World} {H : Hp} {h : Heap} {a : Addr} {u : HO} (r : Rd H a u) (x : HOk P w H h) : ObjOk P w H h a u := by
  rcases r with r | ⟨o, r⟩
  · exact x a u r
  · obtain ⟨_, q⟩ := x a _ r
    exact q
def Mut : Option HO → Prop
  | some (.lst _) => True
  | some (.dK _) => True
  | some (.dT _) => True
  | some (.set _ _) => True
  | some (.ins _ _ _) => True
  | some (.ext _) => True
  | _ => False
section
variable {P : Program} {w : World} {H : Hp} {h h' : Heap} {x e : Addr} {o' : HO}
theorem HOk.write (ok : HOk P w H h) (mu : Mut (H x)) (he : e = x ∨ H e = some (.own x)) (k : ∀ b u, b ≠ e → h.get? b = some u → h'.get? b = some u) (heo : ∃ u, h'.get? e = some u)
    (new : ObjOk P w (upd H x o') h' x o') : HOk P w (upd H x o') h' := fun b u q => by
  have nown : ∀ c y, H c = some (.own y) → c ≠ x := fun c y r z => by subst z; rw [r] at mu; exact mu
  have ntup : ∀ c xs, H c = some (.tup xs) → c ≠ x := fun c xs r z => by subst z; rw [r] at mu; exact mu
  by_cases hb : b = x
  · subst hb; rw [upd_same] at q; cases q; exact new
  · rw [upd_ne hb] at q
    by_cases hbe : b = e
    · have q' : H b = some (.own x) := by
        rcases he with z | z
        · exact absurd (hbe.trans z) hb
        · rw [hbe]; exact z
      rw [q] at q'; cases q'
      obtain ⟨v, hv⟩ := heo
      exact ⟨v, by rw [hbe]; exact hv⟩
    · refine (ok b u q).stay (fun c v hc r => k c v ?_ r) (fun c r => by rw [upd_ne (nown c b r)]; exact r) fun c xs r => by rw [upd_ne (ntup c xs r)]; exact r
      rcases hc with rfl | hc
      · exact hbe
      · rintro rfl
        rcases he with z | z
        · exact nown c b hc z
        · rw [hc] at z; cases z; exact hb rfl
end
structure Un (fs ex : List Addr) (H H' : Hp) (h h' : Heap) : Prop where
  keep : ∀ b o, h.get? b = some o → H b = none → b ∉ fs → b ∉ ex → h'.get? b = some o
  slot : ∀ b o, h.get? b = some o → H b = none → b ∈ fs → b ∉ ex → ∃ sl, h'.get? b = some { o with slots := sl }
  free : ∀ b o, h.get? b = some o → H b = none → b ∉ ex → H' b = none
  there : ∀ b o, h.get? b = some o → b ∉ ex → ∃ o', h'.get? b = some o'
  tups : ∀ b xs, H b = some (.tup xs) → H' b = some (.tup xs)
  frzs : ∀ b o u, H b = some (.frz o u) → H' b = some (.frz o u)
  tbls : ∀ b ps, H b = some (.tbl ps) → ∃ more, H' b = some (.tbl (ps ++ more))
section
variable {fs fs' ex ex' : List Addr} {H H1 H2 : Hp} {h h1 h2 h' : Heap} {a x e : Addr} {o : HO}
theorem Un.any (u : Un fs ex H H1 h h1) {b : Addr} {ob : Obj} (q : h.get? b = some ob) (n : H b = none) (hx : b ∉ ex) : ∃ sl, h1.get? b = some { ob with slots := sl } := by
  by_cases hb : b ∈ fs
  · exact u.slot b ob q n hb hx
  · exact ⟨ob.slots, u.keep b ob q n hb hx⟩
theorem Un.trans (a : Un fs ex H H1 h h1) (b : Un fs ex H1 H2 h1 h2) : Un fs ex H H2 h h2 where
  keep := fun c ob q n hc hx => b.keep c ob (a.keep c ob q n hc hx) (a.free c ob q n hx) hc hx
  slot := fun c ob q n hc hx => by
    obtain ⟨sl, e1⟩ := a.slot c ob q n hc hx
    obtain ⟨sl', e2⟩ := b.slot c _ e1 (a.free c ob q n hx) hc hx
    exact ⟨sl', e2⟩
  free := fun c ob q n hx => by
    obtain ⟨o', e1⟩ := a.there c ob q hx
    exact b.free c o' e1 (a.free c ob q n hx) hx
  there := fun c ob q hx => by
    obtain ⟨o', e1⟩ := a.there c ob q hx
    exact b.there c o' e1 hx
  tups := fun c xs q => b.tups c xs (a.tups c xs q)
  frzs := fun c ob xs q => b.frzs c ob xs (a.frzs c ob xs q)
  tbls := fun c ps q => by
    obtain ⟨m1, e1⟩ := a.tbls c ps q
    obtain ⟨m2, e2⟩ := b.tbls c _ e1
    exact ⟨m1 ++ m2, by rw [e2, Array.append_assoc]⟩
theorem Un.kept (k : ∀ b u, h.get? b = some u → h'.get? b = some u) : Un fs ex H H h h' :=
  ⟨fun b ob q _ _ _ => k b ob q, fun b ob q _ _ _ => ⟨ob.slots, k b ob q⟩, fun _ _ _ n _ => n, fun b ob q _ => ⟨ob, k b ob q⟩, fun _ _ q => q, fun _ _ _ q => q, fun _ ps q => ⟨#[], by rw [q]; simp⟩⟩
theorem Un.refl : Un fs ex H H h h := Un.kept fun _ _ q => q
theorem Un.laid (k : ∀ b u, h.get? b = some u → h'.get? b = some u) (hp : h.objs.size ≤ a) (hn : H a = none) : Un fs ex H (upd H a o) h h' where
  keep := fun b u q _ _ _ => k b u q
  slot := fun b u q _ _ _ => ⟨u.slots, k b u q⟩
  free := fun b u q n _ => by rw [upd_ne (Nat.ne_of_lt (Nat.lt_of_lt_of_le (Heap.lt_size q) hp))]; exact n
  there := fun b u q _ => ⟨u, k b u q⟩
  tups := fun b xs q => by rw [upd_ne (ne_of_none q hn)]; exact q
  frzs := fun b u xs q => by rw [upd_ne (ne_of_none q hn)]; exact q
  tbls := fun b ps q => ⟨#[], by rw [upd_ne (ne_of_none q hn), q]; simp⟩
theorem Un.write (mu : Mut (H x)) (he : e = x ∨ H e = some (.own x)) (k : ∀ b u, b ≠ e → h.get? b = some u → h'.get? b = some u) (heo : ∃ u, h'.get? e = some u) : Un fs ex H (upd H x o) h h' := by
  have hx : ∀ b, H b = none → b ≠ x := fun b n z => by subst z; rw [n] at mu; exact mu
  have hb : ∀ b, H b = none → b ≠ e := fun b n z => by
    subst z
    rcases he with r | r
    · exact hx b n r
    · rw [n] at r; cases r
  have hm : ∀ b u, H b = some u → ¬ Mut (some u) → b ≠ x := fun b u q nm z => by subst z; rw [q] at mu; exact nm mu
  refine ⟨fun b u q n _ _ => k b u (hb b n) q, fun b u q n _ _ => ⟨u.slots, k b u (hb b n) q⟩, fun b u q n _ => by rw [upd_ne (hx b n)]; exact n, fun b u q _ => ?_,
    fun b xs q => by rw [upd_ne (hm b _ q fun z => z)]; exact q, fun b u xs q => by rw [upd_ne (hm b _ q fun z => z)]; exact q, fun b ps q => ⟨#[], by rw [upd_ne (hm b _ q fun z => z), q]; simp⟩⟩
  by_cases hbe : b = e
  · subst hbe; exact heo
  · exact ⟨u, k b u hbe q⟩
theorem Un.mono (u : Un fs ex H H1 h h1) (hs : ∀ b ∈ fs, b ∈ fs') (hx : ∀ b ∈ ex, b ∈ ex') : Un fs' ex' H H1 h h1 :=
  ⟨fun b ob q n hb he => u.keep b ob q n (fun z => hb (hs b z)) fun z => he (hx b z), fun _ _ q n _ he => u.any q n fun z => he (hx _ z), fun b ob q n he => u.free b ob q n fun z => he (hx b z), fun b ob q he => u.there b ob q fun z => he (hx b z), u.tups, u.frzs, u.tbls⟩
end
def trk (h : Heap) (H : Hp) : List Addr := (List.range h.objs.size).filter fun a => (H a).isSome
def hidT (h : Heap) (H : Hp) : Heap := PySem.W.hideAll h (trk h H)
theorem hidT_size (h : Heap) (H : Hp) : (hidT h H).objs.size = h.objs.size := PySem.W.hideAll_size _ _
theorem hidT_get {h : Heap} {H : Hp} {b : Addr} {o : Obj} (e : h.get? b = some o) (n : H b = none) : (hidT h H).get? b = some o :=
  PySem.W.hideAll_get _ e fun hm => by
    have q : (H b).isSome = true := (List.mem_filter.mp hm).2
    rw [n] at q; simp at q
theorem of_hidT {h : Heap} {H : Hp} {b : Addr} {o : Obj} (e : (hidT h H).get? b = some o) : h.get? b = some o ∧ H b = none := by
  have e' : h.get? b = some o := PySem.W.of_hideAll (trk h H) e
  refine ⟨e', ?_⟩
  cases q : H b with
  | none => rfl
  | some x =>
    have hm : b ∈ trk h H := List.mem_filter.mpr ⟨List.mem_range.mpr (Heap.lt_size e'), by simp [q]⟩
    have z : (hidT h H).get? b = none := PySem.W.hideAll_none (trk h H) hm
    rw [z] at e; cases e

def allNews (g h : Heap) (L : Addr) : List (Addr × Obj) := (List.range h.objs.size).filterMap fun a => if a = L ∨ (g.get? a).isSome = true then none else (h.get? a).map fun o => (a, o)
def rest (g h : Heap) (L d : Addr) : List (Addr × Obj) := (allNews g h L).filter fun p => decide (p.1 ≠ d)
end L2
namespace L2
open PySem PySem.Spec PyProof.Rows
structure Mod (K : PySem.W.Frag) (mg : Str → Option Value) (base : Heap) : Prop where
  kin : K.In base
  glob : base.Ns mainGlobals mg
  blt : ∃ mb, base.Ns builtinsNs mb ∧ ∀ x : Str, x ≠ "__name__" → mb x = bootBuiltins x
  nolimit : base.NoLimit

structure Cx where
  prog : Program
  w : World
  K : PySem.W.Frag
  mg : Str → Option Value
  base : Heap
  A : Around
  N : List Str
  s₀ : Shared
  H₀ : Hp
  env : Env
  outer : List Env
  stack : List Env
  ex : List Addr
  fn : Str → Bool
  calm : Bool
  pn : List (Addr × Obj)
  xe : Value → Shared → Prop
def frs (l : List Env) : List Addr := l.filterMap (·.frame)
abbrev Cx.fs (X : Cx) : List Addr := frs X.outer

def Vis (sc : Scope) (x : Str) : Prop := sc.names.lookup x = some .local ∨ sc.names.lookup x = some .cell ∨ sc.names.lookup x = some .free
def Loc (sc : Scope) (x : Str) : Prop := sc.names.lookup x = some .local ∨ sc.names.lookup x = some .cell
def Look (env : Env) (h : Heap) (m : Str → Option Value) (x : Str) (u : Value) : Prop :=
  (env.kindOf x = some .local ∧ m x = some u) ∨ ((env.kindOf x = some .cell ∨ env.kindOf x = some .free) ∧ ∃ c, env.cells.lookup x = some c ∧ h.IsCell c (some u))

structure Cx.Ok (X : Cx) : Prop where
  mod : Mod X.K X.mg X.base
  kind : X.env.scope.kind = .function
  glob : X.env.globals = mainGlobals
  blt : X.env.builtins = builtinsNs
  above : X.s₀.heap.objs.size ≤ X.env.locals
  inj : ∀ x y c, X.env.cells.lookup x = some c → X.env.cells.lookup y = some c → x = y
  has : ∀ x, (X.env.kindOf x = some .cell ∨ X.env.kindOf x = some .free) → ∃ c, X.env.cells.lookup x = some c
  cab : ∀ x c, X.fn x = true → X.env.cells.lookup x = some c → X.s₀.heap.objs.size ≤ c
  hd : X.calm = true → X.A.handled = none
  frames : X.A.frames = some X.stack
  stk : X.stack = X.outer ∨ (X.stack = X.env :: X.outer ∧ X.env.frame = some X.env.locals)
  exf : ∀ b ∈ X.ex, b ≠ X.env.locals ∧ ∀ x c, X.env.cells.lookup x = some c → c ≠ b
  bs : ∀ b o, X.base.get? b = some o → X.s₀.heap.get? b = some o ∧ X.H₀ b = none
  bsz : X.base.objs.size ≤ X.s₀.heap.objs.size
  noex : ∀ b o, X.base.get? b = some o → b ∉ X.ex
  exfs : ∀ b ∈ X.ex, b ∉ X.fs
  funs : X.s₀.heap.FunFrames X.base X.outer
  frf : ∀ b ∈ X.fs, X.H₀ b = none

structure Inv (X : Cx) (pins : List (Addr × Obj)) (σ : List (Option V)) (H : Hp) (s : Shared) : Prop where
  ok : X.Ok
  os : s.os = X.s₀.os
  bare : AllBare s.gens
  base : Un X.fs X.ex X.H₀ H X.s₀.heap s.heap
  loc : ∃ m, s.heap.Ns X.env.locals m ∧ ∀ (i : Nat) (x : Str) (v : V), X.N[i]? = some x → σ[i]? = some (some v) → Vis X.env.scope x → ∃ u, RelV v u ∧ Look X.env s.heap m x u
  cell : ∀ x c, X.env.cells.lookup x = some c → ∃ v, s.heap.IsCell c v
  free : H X.env.locals = none
  freeC : ∀ x c, X.env.cells.lookup x = some c → H c = none
  pin : ∀ p ∈ X.pn ++ pins, s.heap.get? p.1 = some p.2 ∧ H p.1 = none ∧ p.1 ≠ X.env.locals ∧ p.1 ∉ X.fs ∧ ∀ v, p.2.data ≠ .cell v
  hok : HOk X.prog X.w H s.heap
  len : σ.length = X.N.length

section
variable {X : Cx} {pins : List (Addr × Obj)} {σ : List (Option V)} {H H' : Hp} {s : Shared} {h' : Heap}
theorem Cx.Ok.nofr (ok : X.Ok) {b : Addr} {o : Obj} (e : X.base.get? b = some o) : b ∉ X.fs := fun hb => by
  have := (ok.funs.mem hb).1
  rw [e] at this; cases this
theorem Inv.bs (I : Inv X pins σ H s) : ∀ b o, X.base.get? b = some o → s.heap.get? b = some o ∧ H b = none := fun b o e =>
  ⟨I.base.keep b o (I.ok.bs b o e).1 (I.ok.bs b o e).2 (I.ok.nofr e) (I.ok.noex b o e), I.base.free b o (I.ok.bs b o e).1 (I.ok.bs b o e).2 (I.ok.noex b o e)⟩
theorem Inv.bk (I : Inv X pins σ H s) : ∀ b o, X.base.get? b = some o → s.heap.get? b = some o := fun b o e => (I.bs b o e).1
theorem Inv.mod (I : Inv X pins σ H s) : Mod X.K X.mg X.base := I.ok.mod
theorem Inv.kIn (I : Inv X pins σ H s) : X.K.In s.heap := I.ok.mod.kin.keeps I.bk
theorem Inv.nolimit (I : Inv X pins σ H s) : s.heap.NoLimit := I.ok.mod.nolimit.keeps I.bk
theorem Inv.fr (I : Inv X pins σ H s) : ∃ m, Fr X.base X.env.locals s.heap m :=
  let ⟨m, hn, _⟩ := I.loc
  ⟨m, hn, I.bk, Nat.le_trans I.ok.bsz I.ok.above⟩
theorem Inv.lt (I : Inv X pins σ H s) : X.env.locals < s.heap.objs.size := let ⟨_, hn, _⟩ := I.loc; hn.lt
theorem Inv.sz (I : Inv X pins σ H s) : X.s₀.heap.objs.size ≤ s.heap.objs.size := Nat.le_trans I.ok.above (Nat.le_of_lt I.lt)
theorem Inv.nofs (I : Inv X pins σ H s) {a : Addr} (h : s.heap.objs.size ≤ a) : a ∉ X.fs := fun hb => by
  obtain ⟨_, o, ho, _⟩ := I.ok.funs.mem hb
  exact absurd (Nat.lt_of_lt_of_le (Heap.lt_size ho) (Nat.le_trans I.sz h)) (Nat.lt_irrefl _)
theorem Inv.cne (I : Inv X pins σ H s) : ∀ x c, X.env.cells.lookup x = some c → c ≠ X.env.locals := fun x c e z => by
  obtain ⟨v, o, ho, hd⟩ := I.cell x c e
  obtain ⟨m, ⟨o', es, ep, ho', hd', _⟩, _⟩ := I.loc
  rw [z, ho'] at ho; cases ho; rw [hd'] at hd; cases hd
theorem Inv.funs (I : Inv X pins σ H s) : s.heap.FunFrames X.base X.outer := by
  have all : ∀ (l : List Env), (∀ b ∈ frs l, b ∈ X.fs) → X.s₀.heap.FunFrames X.base l → s.heap.FunFrames X.base l := by
    intro l
    induction l with
    | nil => intro _ _; trivial
    | cons env r ih =>
      intro hs hl
      obtain ⟨hk, ⟨L, o, hf, hn, ho, hd⟩, hr⟩ := hl
      have hL : L ∈ X.fs := hs L (by unfold frs; rw [List.filterMap_cons, hf]; exact List.mem_cons_self)
      obtain ⟨sl, e⟩ := I.base.slot L o ho (I.ok.frf L hL) hL fun z => I.ok.exfs L z hL
      exact ⟨hk, ⟨L, _, hf, hn, e, hd⟩, ih (fun b hb => hs b (by unfold frs; rw [List.filterMap_cons, hf]; exact List.mem_cons_of_mem _ hb)) hr⟩
  exact all X.outer (fun _ hb => hb) I.ok.funs

theorem Inv.stack (I : Inv X pins σ H s) : s.heap.FunFrames X.base X.stack := by
  rcases I.ok.stk with e | ⟨e, hf⟩
  · rw [e]; exact I.funs
  · rw [e]
    obtain ⟨m, hn, _⟩ := I.loc
    refine .cons (by rw [I.ok.kind]; decide) hf hn ?_ I.funs
    exact Heap.get?_none_of_le (Nat.le_trans I.ok.bsz I.ok.above)
theorem Inv.stkSub (I : Inv X pins σ H s) : ∀ b ∈ frs X.stack, b ∈ X.env.locals :: X.fs := fun b hb => by
  rcases I.ok.stk with e | ⟨e, hf⟩
  · rw [e] at hb; exact List.mem_cons_of_mem _ hb
  · rw [e] at hb
    unfold frs at hb
    rw [List.filterMap_cons, hf] at hb
    exact hb
theorem Inv.stkFree (I : Inv X pins σ H s) : ∀ b ∈ frs X.stack, H b = none := fun b hb => by
  rcases List.mem_cons.mp (I.stkSub b hb) with e | hb
  · rw [e]; exact I.free
  · obtain ⟨_, o, ho, _⟩ := I.ok.funs.mem hb
    exact I.base.free b o ho (I.ok.frf b hb) fun z => I.ok.exfs b z hb

theorem Inv.step {g' : Array GenState} {t' : Nat} {d' : Drawn} {ch : List Addr} (I : Inv X pins σ H s)
    (hch : ∀ b ∈ ch, (b ∈ X.ex ∨ X.s₀.heap.objs.size ≤ b) ∧ b ≠ X.env.locals ∧ (∀ x c, X.env.cells.lookup x = some c → c ≠ b) ∧ ∀ p ∈ X.pn ++ pins, p.1 ≠ b)
    (keep : ∀ b o, b ≠ X.env.locals → b ∉ X.fs → b ∉ ch → s.heap.get? b = some o → H b = none → h'.get? b = some o)
    (slot : ∀ b o, b ≠ X.env.locals → b ∈ X.fs → b ∉ ch → s.heap.get? b = some o → H b = none → ∃ sl, h'.get? b = some { o with slots := sl }) (free : ∀ b o, b ∉ ch → s.heap.get? b = some o → H b = none → H' b = none)
    (there : ∀ b o, b ∉ ch → s.heap.get? b = some o → ∃ o', h'.get? b = some o')
    (tups : ∀ b xs, H b = some (.tup xs) → H' b = some (.tup xs)) (frzs : ∀ b o u, H b = some (.frz o u) → H' b = some (.frz o u)) (tbls : ∀ b ps, H b = some (.tbl ps) → ∃ more, H' b = some (.tbl (ps ++ more)))
    (ns : ∀ m, s.heap.Ns X.env.locals m → h'.Ns X.env.locals m) (hok : HOk X.prog X.w H' h') (hg : AllBare g') :
    Inv X pins σ H' { s with heap := h', gens := g', drawn := d', toks := t' } := by
  have neL : ∀ b o, X.s₀.heap.get? b = some o → b ≠ X.env.locals := fun b o e => Nat.ne_of_lt (Nat.lt_of_lt_of_le (Heap.lt_size e) I.ok.above)
  have neC : ∀ b o, X.s₀.heap.get? b = some o → b ∉ X.ex → b ∉ ch := fun b o e hx hb => by
    rcases (hch b hb).1 with z | z
    · exact hx z
    · exact absurd (Nat.lt_of_lt_of_le (Heap.lt_size e) z) (Nat.lt_irrefl _)
  have cellK : ∀ x c, X.env.cells.lookup x = some c → ∀ v, s.heap.IsCell c v → h'.IsCell c v := fun x c e v ⟨o, ho, hd⟩ => by
    have nch : c ∉ ch := fun z => (hch c z).2.2.1 x c e rfl
    by_cases hc : c ∈ X.fs
    · obtain ⟨sl, q⟩ := slot c o (I.cne x c e) hc nch ho (I.freeC x c e)
      exact ⟨_, q, hd⟩
    · exact ⟨o, keep c o (I.cne x c e) hc nch ho (I.freeC x c e), hd⟩
  refine ⟨I.ok, I.os, hg, ⟨fun b o e n hb hx => ?_, fun b o e n hb hx => ?_, fun b o e n hx => ?_, fun b o e hx => ?_, fun b xs e => tups b xs (I.base.tups b xs e), fun b o xs e => frzs b o xs (I.base.frzs b o xs e), fun b ps e => ?_⟩, ?_, fun x c e => ?_, ?_, fun x c e => ?_, fun p hp => ?_, hok, I.len⟩
  · exact keep b o (neL b o e) hb (neC b o e hx) (I.base.keep b o e n hb hx) (I.base.free b o e n hx)
  · obtain ⟨sl, e1⟩ := I.base.slot b o e n hb hx
    obtain ⟨sl', e2⟩ := slot b _ (neL b o e) hb (neC b o e hx) e1 (I.base.free b o e n hx)
    exact ⟨sl', e2⟩
  · obtain ⟨o', e1⟩ := I.base.there b o e hx
    exact free b o' (neC b o e hx) e1 (I.base.free b o e n hx)
  · obtain ⟨o', e1⟩ := I.base.there b o e hx
    exact there b o' (neC b o e hx) e1
  · obtain ⟨m1, e1⟩ := I.base.tbls b ps e
    obtain ⟨m2, e2⟩ := tbls b _ e1
    exact ⟨m1 ++ m2, by rw [e2, Array.append_assoc]⟩
  · obtain ⟨m, hn, hl⟩ := I.loc
    refine ⟨m, ns m hn, fun i x v e1 e2 e3 => ?_⟩
    obtain ⟨u, r, l⟩ := hl i x v e1 e2 e3
    refine ⟨u, r, ?_⟩
    rcases l with l | ⟨k, c, e, z⟩
    · exact .inl l
    · exact .inr ⟨k, c, e, cellK x c e _ z⟩
  · obtain ⟨v, z⟩ := I.cell x c e
    exact ⟨v, cellK x c e v z⟩
  · obtain ⟨m, ⟨o, _, _, ho, _⟩, _⟩ := I.loc
    exact free _ o (fun z => (hch _ z).2.1 rfl) ho I.free
  · obtain ⟨v, o, ho, hd⟩ := I.cell x c e
    exact free c o (fun z => (hch c z).2.2.1 x c e rfl) ho (I.freeC x c e)
  · obtain ⟨e, n, ne, nf, d⟩ := I.pin p hp
    have nch : p.1 ∉ ch := fun z => (hch p.1 z).2.2.2 p hp rfl
    exact ⟨keep p.1 p.2 ne nf nch e n, free p.1 p.2 nch e n, ne, nf, d⟩
theorem Inv.un {t' : Nat} (I : Inv X pins σ H s) (u : Un X.fs [] H H' s.heap h') (hok : HOk X.prog X.w H' h') : Inv X pins σ H' { s with heap := h', toks := t' } := by
  obtain ⟨m, ⟨o, es, ep, ho, r⟩, _⟩ := id I.loc
  obtain ⟨sl, hL⟩ := u.any ho I.free (by simp)
  exact I.step (g' := s.gens) (d' := s.drawn) (ch := []) (fun _ z => nomatch z) (fun b o _ hb _ e n => u.keep b o e n hb (by simp)) (fun b o _ hb _ e n => u.slot b o e n hb (by simp)) (fun b o _ e n => u.free b o e n (by simp)) (fun b o _ e => u.there b o e (by simp)) u.tups u.frzs u.tbls (fun m' hm => by
    obtain ⟨o', es', ep', ho', r'⟩ := hm
    rw [ho] at ho'; cases ho'
    exact ⟨_, es', ep', hL, r'⟩) hok I.bare
theorem Inv.call {g' : Array GenState} {t' : Nat} {d' : Drawn} {ch : List Addr} (I : Inv X pins σ H s) (u : Un (frs X.stack) ch H H' s.heap h') (hok : HOk X.prog X.w H' h') (hg : AllBare g')
    (hch : ∀ b ∈ ch, (b ∈ X.ex ∨ X.s₀.heap.objs.size ≤ b) ∧ b ≠ X.env.locals ∧ (∀ x c, X.env.cells.lookup x = some c → c ≠ b) ∧ ∀ p ∈ X.pn ++ pins, p.1 ≠ b) :
    Inv X pins σ H' { s with heap := h', gens := g', drawn := d', toks := t' } := by
  obtain ⟨m, ⟨o, es, ep, ho, r⟩, _⟩ := id I.loc
  obtain ⟨sl, hL⟩ := u.any ho I.free fun z => (hch _ z).2.1 rfl
  exact I.step (ch := ch) hch (fun b o hL hb hc e n => u.keep b o e n (fun z => (List.mem_cons.mp (I.stkSub b z)).elim hL hb) hc) (fun b o _ _ hc e n => u.any e n hc) (fun b o hc e n => u.free b o e n hc) (fun b o hc e => u.there b o e hc) u.tups u.frzs u.tbls (fun m' hm => by
    obtain ⟨o', es', ep', ho', r'⟩ := hm
    rw [ho] at ho'; cases ho'
    exact ⟨_, es', ep', hL, r'⟩) hok hg
theorem Inv.turned {t' : Nat} {it : Addr} (I : Inv X pins σ H s) (k : ∀ b o, b ≠ it → s.heap.get? b = some o → h'.get? b = some o) (hn : H it = none) (hL : it ≠ X.env.locals)
    (h1 : it ∈ X.ex ∨ X.s₀.heap.objs.size ≤ it) (h2 : ∀ x c, X.env.cells.lookup x = some c → c ≠ it) (h3 : ∀ p ∈ X.pn ++ pins, p.1 ≠ it) : Inv X pins σ H { s with heap := h', toks := t' } := by
  have nit : ∀ b u, H b = some u → b ≠ it := fun b u e z => by rw [z, hn] at e; cases e
  refine I.step (g' := s.gens) (d' := s.drawn) (ch := [it]) (fun b hb => ?_) (fun b o _ _ hc e _ => k b o (fun z => hc (by simp [z])) e) (fun b o _ _ hc e _ => ⟨o.slots, k b o (fun z => hc (by simp [z])) e⟩) (fun _ _ _ _ n => n)
    (fun b o hc e => ⟨o, k b o (fun z => hc (by simp [z])) e⟩) (fun _ _ e => e) (fun _ _ _ e => e) (fun b ps e => ⟨#[], by rw [e]; simp⟩) (fun m hm => ?_) (fun b u e => ?_) I.bare
  · have e : b = it := by simpa using hb
    subst e
    exact ⟨h1, hL, h2, h3⟩
  · obtain ⟨o, es, ep, ho, r⟩ := hm
    exact ⟨o, es, ep, k _ o (Ne.symm hL) ho, r⟩
  · refine (I.hok b u e).stay (fun c v hc q => k c v ?_ q) (fun _ q => q) fun _ _ q => q
    rcases hc with z | z
    · rw [z]; exact nit b u e
    · exact nit c _ z
theorem Inv.tok (I : Inv X pins σ H s) (t : Nat) : Inv X pins σ H { s with toks := t } := I.un (h' := s.heap) (t' := t) Un.refl I.hok
theorem Inv.kept {t' : Nat} (I : Inv X pins σ H s) (k : ∀ b u, s.heap.get? b = some u → h'.get? b = some u) : Inv X pins σ H { s with heap := h', toks := t' } := I.un (Un.kept k) (I.hok.kept k)
theorem Inv.laid {a : Addr} {o : HO} {t' : Nat} (I : Inv X pins σ H s) (k : ∀ b u, s.heap.get? b = some u → h'.get? b = some u) (hp : s.heap.objs.size ≤ a) (new : ObjOk X.prog X.w (upd H a o) h' a o) :
    Inv X pins σ (upd H a o) { s with heap := h', toks := t' } := I.un (Un.laid k hp (I.hok.fresh hp)) (I.hok.laid k hp new)
theorem Inv.write {x e : Addr} {o : HO} {t' : Nat} (I : Inv X pins σ H s) (mu : Mut (H x)) (he : e = x ∨ H e = some (.own x)) (k : ∀ b u, b ≠ e → s.heap.get? b = some u → h'.get? b = some u) (heo : ∃ u, h'.get? e = some u)
    (new : ObjOk X.prog X.w (upd H x o) h' x o) : Inv X pins σ (upd H x o) { s with heap := h', toks := t' } := I.un (Un.write mu he k heo) (I.hok.write mu he k heo new)
theorem Inv.pins_of {pins' : List (Addr × Obj)} (I : Inv X pins σ H s) (h : ∀ p ∈ pins', s.heap.get? p.1 = some p.2 ∧ H p.1 = none ∧ p.1 ≠ X.env.locals ∧ p.1 ∉ X.fs ∧ ∀ v, p.2.data ≠ .cell v) : Inv X pins' σ H s :=
  ⟨I.ok, I.os, I.bare, I.base, I.loc, I.cell, I.free, I.freeC, fun p hp => (List.mem_append.mp hp).elim (fun z => I.pin p (List.mem_append_left _ z)) (h p), I.hok, I.len⟩

theorem nodup_ix {N : List Str} (hN : N.Nodup) {i j : Nat} {x : Str} (a : N[i]? = some x) (b : N[j]? = some x) : i = j := by
  obtain ⟨h1, e1⟩ := List.getElem?_eq_some_iff.mp a
  obtain ⟨h2, e2⟩ := List.getElem?_eq_some_iff.mp b
  exact (List.getElem_inj hN).mp (e1.trans e2.symm)

theorem store_ok2 {M : Model} {A : Around} {E : Value → Shared → Prop} {i : Nat} {x : Str} {v : V} {u : Value} {Q : Unit → Shared → Prop} (I : Inv X pins σ H s) (hN : X.N.Nodup) (hi : X.N[i]? = some x) (hx : Loc X.env.scope x) (r : RelV v u)
    (h : ∀ s', Inv X pins (σ.set i (some v)) H s' → (∃ a, Heap.SameBut a s.heap s'.heap ∧ (a = X.env.locals ∨ X.env.cells.lookup x = some a)) → Q () s') (hf : X.fn x = true ∨ X.env.scope.names.lookup x = some .local := by first | exact .inl rfl | exact .inr rfl | assumption) : wpAny M A (storeName X.env x u) Q E s := by
  obtain ⟨m, hn, hl⟩ := id I.loc
  have hcls : (X.env.scope.kind == .class || (X.env.scope.kind == .module && X.env.locals != X.env.globals)) = false := by rw [I.ok.kind]; rfl
  have hiσ : i < σ.length := by rw [I.len]; exact (List.getElem?_eq_some_iff.mp hi).1
  have cne := I.cne
  have tracked : ∀ {a : Addr} {h' : Heap}, (∃ o, s.heap.get? a = some o ∧ H a = none) → Heap.SameBut a s.heap h' → HOk X.prog X.w H h' := fun {a h'} ha hs b ob e => by
    obtain ⟨_, _, hfree⟩ := ha
    refine (I.hok b ob e).stay (fun c w' hc q => (hs.2 c ?_).trans q) (fun _ q => q) fun _ _ q => q
    rintro rfl
    rcases hc with rfl | hc
    · rw [hfree] at e; cases e
    · rw [hfree] at hc; cases hc
  rcases hx with hk | hk
  · refine wpAny_storeName_local hk hn (fun h' hn' hs => ?_) hcls
    obtain ⟨oL, _, _, hoL, _⟩ := id hn
    refine h _ ⟨I.ok, I.os, I.bare, ⟨fun b o e n hb hx => ?_, fun b o e n hb hx => ?_, I.base.free, fun b o e hx => ?_, I.base.tups, I.base.frzs, I.base.tbls⟩, ⟨_, hn', fun j y v' e1 e2 e3 => ?_⟩, fun y c e => ?_, I.free, I.freeC, fun p hp => ?_, tracked ⟨oL, hoL, I.free⟩ hs, by simpa using I.len⟩ ⟨_, hs, .inl rfl⟩
    · exact (hs.2 b (Nat.ne_of_lt (Nat.lt_of_lt_of_le (Heap.lt_size e) I.ok.above))).trans (I.base.keep b o e n hb hx)
    · obtain ⟨sl, e1⟩ := I.base.slot b o e n hb hx
      exact ⟨sl, (hs.2 b (Nat.ne_of_lt (Nat.lt_of_lt_of_le (Heap.lt_size e) I.ok.above))).trans e1⟩
    · obtain ⟨o', e1⟩ := I.base.there b o e hx
      exact ⟨o', (hs.2 b (Nat.ne_of_lt (Nat.lt_of_lt_of_le (Heap.lt_size e) I.ok.above))).trans e1⟩
    · by_cases hj : j = i
      · subst hj
        rw [hi] at e1; cases e1
        rw [List.getElem?_set_self hiσ] at e2
        cases e2
        exact ⟨u, r, .inl ⟨hk, by simp⟩⟩
      · rw [List.getElem?_set_ne (Ne.symm hj)] at e2
        obtain ⟨u', r', q⟩ := hl j y v' e1 e2 e3
        refine ⟨u', r', ?_⟩
        rcases q with ⟨k, e⟩ | ⟨k, c, e, z⟩
        · refine .inl ⟨k, ?_⟩
          have : y ≠ x := fun e => hj (nodup_ix hN e1 (e ▸ hi))
          simp [this, e]
        · exact .inr ⟨k, c, e, z.sameBut hs (cne y c e)⟩
    · obtain ⟨w', z⟩ := I.cell y c e
      exact ⟨w', z.sameBut hs (cne y c e)⟩
    · obtain ⟨e, n, ne, nf, d⟩ := I.pin p hp
      exact ⟨(hs.2 p.1 ne).trans e, n, ne, nf, d⟩
  · have hfn : X.fn x = true := by
      rcases hf with z | z
      · exact z
      · rw [z] at hk; cases hk
    obtain ⟨c, hc⟩ := I.ok.has x (.inl hk)
    obtain ⟨w', z⟩ := I.cell x c hc
    refine wpAny_storeName_cell I.ok.kind hk hc z (fun h' hc' hs => ?_)
    obtain ⟨oc, hoc, hocd⟩ := id z
    refine h { s with heap := h' } ⟨I.ok, I.os, I.bare, ⟨fun b o e n hb hx => ?_, fun b o e n hb hx => ?_, I.base.free, fun b o e hx => ?_, I.base.tups, I.base.frzs, I.base.tbls⟩, ⟨m, hn.sameBut hs (Ne.symm (cne x c hc)), fun j y v' e1 e2 e3 => ?_⟩, fun y c' e => ?_, I.free, I.freeC, fun p hp => ?_, tracked ⟨oc, hoc, I.freeC x c hc⟩ hs, by simpa using I.len⟩ ⟨c, hs, .inr hc⟩
    · exact (hs.2 b (Nat.ne_of_lt (Nat.lt_of_lt_of_le (Heap.lt_size e) (I.ok.cab x c hfn hc)))).trans (I.base.keep b o e n hb hx)
    · obtain ⟨sl, e1⟩ := I.base.slot b o e n hb hx
      exact ⟨sl, (hs.2 b (Nat.ne_of_lt (Nat.lt_of_lt_of_le (Heap.lt_size e) (I.ok.cab x c hfn hc)))).trans e1⟩
    · obtain ⟨o', e1⟩ := I.base.there b o e hx
      exact ⟨o', (hs.2 b (Nat.ne_of_lt (Nat.lt_of_lt_of_le (Heap.lt_size e) (I.ok.cab x c hfn hc)))).trans e1⟩
    · by_cases hj : j = i
      · subst hj
        rw [hi] at e1; cases e1
        rw [List.getElem?_set_self hiσ] at e2
        cases e2
        exact ⟨u, r, .inr ⟨.inl hk, c, hc, hc'⟩⟩
      · rw [List.getElem?_set_ne (Ne.symm hj)] at e2
        obtain ⟨u', r', q⟩ := hl j y v' e1 e2 e3
        refine ⟨u', r', ?_⟩
        rcases q with q | ⟨k, c', e, z'⟩
        · exact .inl q
        · refine .inr ⟨k, c', e, z'.sameBut hs ?_⟩
          rintro rfl
          exact hj (nodup_ix hN e1 (I.ok.inj _ _ _ e hc ▸ hi))
    · by_cases hcc : c' = c
      · subst hcc; exact ⟨_, hc'⟩
      · obtain ⟨w2, z2⟩ := I.cell y c' e
        exact ⟨w2, z2.sameBut hs hcc⟩
    · obtain ⟨e, n, ne, nf, d⟩ := I.pin p hp
      refine ⟨(hs.2 p.1 ?_).trans e, n, ne, nf, d⟩
      intro q
      rw [q, hoc] at e
      have q' : oc = p.2 := Option.some.inj e
      exact d w' (by rw [← q']; exact hocd)
theorem store_ok {M : Model} {A : Around} {E : Value → Shared → Prop} {i : Nat} {x : Str} {v : V} {u : Value} {Q : Unit → Shared → Prop} (I : Inv X pins σ H s) (hN : X.N.Nodup) (hi : X.N[i]? = some x) (hx : Loc X.env.scope x) (r : RelV v u)
    (h : ∀ s', Inv X pins (σ.set i (some v)) H s' → Q () s') (hf : X.fn x = true ∨ X.env.scope.names.lookup x = some .local := by first | exact .inl rfl | exact .inr rfl | assumption) : wpAny M A (storeName X.env x u) Q E s :=
  store_ok2 I hN hi hx r (fun s' I' _ => h s' I') hf
theorem Inv.call' {s' : Shared} {ch : List Addr} (I : Inv X pins σ H s) (ho : s'.os = s.os) (u : Un (frs X.stack) ch H H' s.heap s'.heap) (hok : HOk X.prog X.w H' s'.heap) (hg : AllBare s'.gens)
    (hch : ∀ b ∈ ch, (b ∈ X.ex ∨ X.s₀.heap.objs.size ≤ b) ∧ b ≠ X.env.locals ∧ (∀ x c, X.env.cells.lookup x = some c → c ≠ b) ∧ ∀ p ∈ X.pn ++ pins, p.1 ≠ b) : Inv X pins σ H' s' := by
  obtain ⟨h', g', d', t', o'⟩ := s'
  have e : o' = s.os := ho
  subst e
  exact I.call (g' := g') (t' := t') (d' := d') u hok hg hch
end
abbrev XK := Value → Option Addr → Hp → Prop
abbrev St := List (Option V)
abbrev VK := V → Hp → Prop
abbrev TE := St → Hp → VK → Prop
abbrev TT := St → Hp → (Bool → Hp → Prop) → Prop
abbrev TA := St → Hp → (List V → Hp → Prop) → Prop
structure Ends where
  nx : St → Hp → Prop
  rt : VK
  bk : St → Hp → Prop := fun _ _ => False
  ct : St → Hp → Prop := fun _ _ => False
abbrev TS := Ends → St → Hp → Prop

def EP (X : Cx) (pins : List (Addr × Obj)) (σ : St) (Q : VK) (u : Value) (s' : Shared) : Prop := ∃ v H', Inv X pins σ H' s' ∧ RelV v u ∧ Q v H'
def TP (X : Cx) (pins : List (Addr × Obj)) (σ : St) (Q : Bool → Hp → Prop) (b : Bool) (s' : Shared) : Prop := ∃ H', Inv X pins σ H' s' ∧ Q b H'
def AP (X : Cx) (pins : List (Addr × Obj)) (σ : St) (Q : List V → Hp → Prop) (us : List Value) (s' : Shared) : Prop := ∃ vs H', Inv X pins σ H' s' ∧ Vals vs us ∧ Q vs H'
def SP (X : Cx) (pins : List (Addr × Obj)) (D : Ends) (f : Flow) (s' : Shared) : Prop :=
  match f with
  | .next => ∃ σ' H', Inv X pins σ' H' s' ∧ D.nx σ' H'
  | .brk => ∃ σ' H', Inv X pins σ' H' s' ∧ D.bk σ' H'
  | .cont => ∃ σ' H', Inv X pins σ' H' s' ∧ D.ct σ' H'
  | .ret u => ∃ v σ' H', Inv X pins σ' H' s' ∧ RelV v u ∧ D.rt v H'

def PE (X : Cx) (e : Expr) (t : TE) : Prop :=
  ∀ (pins : List (Addr × Obj)) (s : Shared) (σ : St) (H : Hp) (Q : VK), Inv X pins σ H s → t σ H Q → wpAny (model X.prog X.w) X.A (eval e X.env) (EP X pins σ Q) X.xe s
def PT (X : Cx) (e : Expr) (t : TT) : Prop :=
  ∀ (pins : List (Addr × Obj)) (s : Shared) (σ : St) (H : Hp) (Q : Bool → Hp → Prop), Inv X pins σ H s → t σ H Q → wpAny (model X.prog X.w) X.A (isTrue e X.env (eval e X.env)) (TP X pins σ Q) X.xe s
def PW (X : Cx) (e : Expr) (t : TT) : Prop :=
  ∀ (whole : Sem Value) (pins : List (Addr × Obj)) (s : Shared) (σ : St) (H : Hp) (Q : Bool → Hp → Prop), Inv X pins σ H s → t σ H Q → wpAny (model X.prog X.w) X.A (isTrue e X.env whole) (TP X pins σ Q) X.xe s
theorem PW.pt {X : Cx} {e : Expr} {t : TT} (h : PW X e t) : PT X e t := h _
def PA (X : Cx) (es : List Expr) (t : TA) : Prop :=
  ∀ (pos : Pos) (pins : List (Addr × Obj)) (s : Shared) (σ : St) (H : Hp) (Q : List V → Hp → Prop), Inv X pins σ H s → t σ H Q → wpAny (model X.prog X.w) X.A (spliced (backTo pos (starEach es X.env))) (AP X pins σ Q) X.xe s
def PS (X : Cx) (st : Stmt) (t : TS) : Prop :=
  ∀ (pins : List (Addr × Obj)) (s : Shared) (σ : St) (H : Hp) (D : Ends), Inv X pins σ H s → t D σ H → wpAny (model X.prog X.w) X.A (exec st X.env) (SP X pins D) X.xe s
def PSs (X : Cx) (st : List Stmt) (t : TS) : Prop :=
  ∀ (pins : List (Addr × Obj)) (s : Shared) (σ : St) (H : Hp) (D : Ends), Inv X pins σ H s → t D σ H → wpAny (model X.prog X.w) X.A (execs st X.env) (SP X pins D) X.xe s
theorem thn {α : Type} {t : Sem α} {Q Q' : α → Shared → Prop} {M : Model} {A : Around} {E : Value → Shared → Prop} {s : Shared} (h : wpAny M A t Q E s) (hQ : ∀ a s, Q a s → Q' a s) : wpAny M A t Q' E s := wpAny_mono h hQ fun _ _ x => x
end L2
namespace L2
open PySem PySem.Spec PyProof.Rows
section
variable {X : Cx}
theorem bin {a b : Expr} {ta tb : TE} (ha : PE X a ta) (hb : PE X b tb) {pins : List (Addr × Obj)} {s : Shared} {σ : St} {H : Hp} {R : V → V → Hp → Prop} (I : Inv X pins σ H s) (h : ta σ H fun x H1 => tb σ H1 fun y H2 => R x y H2)
    {α : Type} {Q : α → Shared → Prop} {f : Value → Value → Sem α}
    (hf : ∀ v u s2 x y H2, Inv X pins σ H2 s2 → RelV x v → RelV y u → R x y H2 → wpAny (model X.prog X.w) X.A (f v u) Q X.xe s2) :
    wpAny (model X.prog X.w) X.A (eval a X.env) (fun v s₁ => wpAny (model X.prog X.w) X.A (eval b X.env) (fun u s₂ => wpAny (model X.prog X.w) X.A (f v u) Q X.xe s₂) X.xe s₁) X.xe s := by
  refine thn (ha pins s σ H _ I h) fun v s1 ⟨x, H1, I1, r1, q1⟩ => ?_
  refine thn (hb pins s1 σ H1 _ I1 q1) fun u s2 ⟨y, H2, I2, r2, q2⟩ => ?_
  exact hf v u s2 x y H2 I2 r1 r2 q2

def tVar (i : Nat) : TE := fun σ H Q => ∃ v, σ[i]? = some (some v) ∧ Q v H
def tC (v : V) : TE := fun _ H Q => Q v H
theorem pe_var {i : Nat} {x : Str} {pos : Pos} (hN : X.N[i]? = some x) (hv : Vis X.env.scope x) (hd : (x == ("__debug__" : Str)) = false := by decide) (hcd : (x == ("__classdict__" : Str)) = false := by decide) : PE X (.Name x pos) (tVar i) := by
  intro pins s σ H Q I h
  obtain ⟨v, e, h⟩ := h
  obtain ⟨m, hn, hl⟩ := I.loc
  obtain ⟨u, r, l⟩ := hl i x v hN e hv
  have fin : EP X pins σ Q u s := ⟨v, H, I, r, h⟩
  rcases l with ⟨hk, hm⟩ | ⟨hk, c, hc, hcell⟩
  · exact wpAny_Name (wpAny_loadName_local I.ok.kind hk hn hm fin) hd
  · rcases hk with hk | hk
    · exact wpAny_Name (wpAny_loadName_cell I.ok.kind hk hc hcell fin) hd
    · exact wpAny_Name (wpAny_loadName_free I.ok.kind hk hc hcell fin hcd) hd
theorem pe_int {i j pos} : PE X (.Constant (.int i) j pos) (tC (.int i)) := fun _ _ _ H _ I h => wpAny_Constant_int ⟨.int i, H, I.tok _, ⟨_, rfl⟩, h⟩
theorem pe_bl {b j pos} : PE X (.Constant (.bool b) j pos) (tC (.bl b)) := fun _ _ _ H _ I h => Constant_bool ⟨.bl b, H, I, rfl, h⟩
theorem pe_non {j pos} : PE X (.Constant .none j pos) (tC .non) := fun _ _ _ H _ I h => Constant_none ⟨.non, H, I, rfl, h⟩
theorem pe_str {x j pos} : PE X (.Constant (.str x) j pos) (tC (.str x)) := fun _ _ _ H _ I h => Calls.Constant_str ⟨.str x, H, I.tok _, ⟨_, rfl⟩, h⟩

def Gl (X : Cx) (x : Str) : Prop := X.env.kindOf x = some .globalImplicit
theorem ld_glob {E : Value → Shared → Prop} {pins : List (Addr × Obj)} {s : Shared} {σ : St} {H : Hp} {x : Str} {u : Value} {pos : Pos} {Q : Value → Shared → Prop} (I : Inv X pins σ H s) (hg : Gl X x) (hm : X.mg x = some u) (h : Q u s)
    (hd : (x == ("__debug__" : Str)) = false := by decide) : wpAny (model X.prog X.w) X.A (eval (.Name x pos) X.env) Q E s :=
  Calls.Name_function_global I.ok.kind hg (Calls.loadGlobal_global (by rw [I.ok.glob]; exact I.mod.glob.keeps I.bk) hm h) hd
theorem ld_blt {E : Value → Shared → Prop} {pins : List (Addr × Obj)} {s : Shared} {σ : St} {H : Hp} {x : Str} {u : Value} {pos : Pos} {Q : Value → Shared → Prop} (I : Inv X pins σ H s) (hg : Gl X x) (hm : X.mg x = none) (hv : bootBuiltins x = some u) (h : Q u s)
    (hn : x ≠ "__name__" := by decide) (hd : (x == ("__debug__" : Str)) = false := by decide) : wpAny (model X.prog X.w) X.A (eval (.Name x pos) X.env) Q E s := by
  obtain ⟨mb, h1, h2⟩ := I.mod.blt
  exact Calls.Name_function_global I.ok.kind hg (Calls.loadGlobal_builtin (by rw [I.ok.glob]; exact I.mod.glob.keeps I.bk) hm (by rw [I.ok.blt]; exact h1.keeps I.bk) ((h2 x hn).trans hv) h) hd
theorem pe_glob {x : Str} {v : V} {u : Value} {pos : Pos} (hg : Gl X x) (hm : X.mg x = some u) (r : RelV v u) (hd : (x == ("__debug__" : Str)) = false := by decide) : PE X (.Name x pos) (tC v) :=
  fun _ _ _ H _ I h => ld_glob I hg hm ⟨v, H, I, r, h⟩ hd
theorem pe_bltn {x : Str} {v : V} {u : Value} {pos : Pos} (hg : Gl X x) (hm : X.mg x = none) (hv : bootBuiltins x = some u) (r : RelV v u) (hn : x ≠ "__name__" := by decide) (hd : (x == ("__debug__" : Str)) = false := by decide) : PE X (.Name x pos) (tC v) :=
  fun _ _ _ H _ I h => ld_blt I hg hm hv ⟨v, H, I, r, h⟩ hn hd

variable {a b : Expr} {ta tb : TE} {pos : Pos}
variable {tA tB' : TT} {rest : List Expr}
def tNot (t : TT) : TT := fun σ H Q => t σ H fun c H1 => Q (!c) H1
theorem pw_and1 (ha : PT X a tA) : PW X (.BoolOp .And [a] pos) tA := by
  intro wh pins s σ H Q I h
  refine isTrue_and (thn (ha pins s σ H Q I h) fun c s1 e => ?_)
  cases c with
  | true => exact isTrue_and_nil e
  | false => exact e
theorem pw_or1 (ha : PT X a tA) : PW X (.BoolOp .Or [a] pos) tA := by
  intro wh pins s σ H Q I h
  refine isTrue_or (thn (ha pins s σ H Q I h) fun c s1 e => ?_)
  cases c with
  | false => exact isTrue_or_nil e
  | true => exact e
theorem pt_not (ha : PT X a tA) : PT X (.UnaryOp .Not a pos) (tNot tA) := by
  intro pins s σ H Q I h
  exact isTrue_not (ha pins s σ H (fun c H1 => Q (!c) H1) I h)
def tAndV (ta tb : TE) : TE := fun σ H Q => ta σ H fun x H1 => ∃ c, x = .bl c ∧ if c = true then tb σ H1 Q else Q (.bl false) H1
def tOrV (ta tb : TE) : TE := fun σ H Q => ta σ H fun x H1 => ∃ c, x = .bl c ∧ if c = true then Q (.bl true) H1 else tb σ H1 Q
def tNotV (ta : TE) : TE := fun σ H Q => ta σ H fun x H1 => ∃ c, x = .bl c ∧ Q (.bl (!c)) H1
theorem pe_one {op} {t : TE} (h : PE X a t) : PE X (.BoolOp op [a] pos) t := fun pins s σ H Q I hw => BoolOp_one (h pins s σ H Q I hw)
theorem pe_and (ha : PE X a ta) (hb : PE X (.BoolOp .And (b :: rest) pos) tb) : PE X (.BoolOp .And (a :: b :: rest) pos) (tAndV ta tb) := by
  intro pins s σ H Q I h
  refine BoolOp_and (thn (ha pins s σ H _ I h) fun v s1 ⟨x, H1, I1, r1, q1⟩ => ?_)
  obtain ⟨c, rfl, q1⟩ := q1
  cases r1
  refine wpAny_truthy_bool ?_
  cases c with
  | true => exact hb pins s1 σ H1 Q I1 q1
  | false => exact ⟨.bl false, H1, I1, rfl, q1⟩
theorem pe_or (ha : PE X a ta) (hb : PE X (.BoolOp .Or (b :: rest) pos) tb) : PE X (.BoolOp .Or (a :: b :: rest) pos) (tOrV ta tb) := by
  intro pins s σ H Q I h
  refine BoolOp_or (thn (ha pins s σ H _ I h) fun v s1 ⟨x, H1, I1, r1, q1⟩ => ?_)
  obtain ⟨c, rfl, q1⟩ := q1
  cases r1
  refine wpAny_truthy_bool ?_
  cases c with
  | false => exact hb pins s1 σ H1 Q I1 q1
  | true => exact ⟨.bl true, H1, I1, rfl, q1⟩
theorem pe_not (ha : PE X a ta) : PE X (.UnaryOp .Not a pos) (tNotV ta) := by
  intro pins s σ H Q I h
  refine UnaryOp_ (thn (ha pins s σ H _ I h) fun v s1 ⟨x, H1, I1, r1, q1⟩ => ?_)
  obtain ⟨c, rfl, q1⟩ := q1
  cases r1
  exact not_of (wpAny_truthy_bool ⟨.bl (!c), H1, I1, rfl, q1⟩)
def tIf (t : TT) (ta tb : TE) : TE := fun σ H Q => t σ H fun c H1 => if c = true then ta σ H1 Q else tb σ H1 Q
theorem pe_ifExp {c : Expr} (hc : PT X c tA) (ha : PE X a ta) (hb : PE X b tb) : PE X (.IfExp c a b pos) (tIf tA ta tb) := by
  intro pins s σ H Q I h
  refine wpAny_IfExp (thn (hc pins s σ H _ I h) fun d s1 ⟨H1, I1, q1⟩ => ?_)
  cases d with
  | true => exact ha pins s1 σ H1 Q I1 q1
  | false => exact hb pins s1 σ H1 Q I1 q1
end
end L2
namespace L2
open PySem PySem.Spec PyProof.Rows
def SqL (K : PySem.W.Frag) (H : Hp) (a : Addr) (xs : List V) : Prop :=
  Rd H a (.lst xs) ∨
    ∃ (o : Obj) (its : Array Value) (n : Nat), K.lookup a = some o ∧ o.cls = .type "list" ∧ o.dict = none ∧ o.data = .seq its n ∧ its.size ≤ sizeLine ∧ Vals xs its.toList
def SqT (K : PySem.W.Frag) (H : Hp) (a : Addr) (xs : List V) : Prop :=
  Rd H a (.tup xs) ∨
    ∃ (o : Obj) (its : Array Value) (n : Nat), K.lookup a = some o ∧ o.cls = .type "tuple" ∧ o.data = .seq its n ∧ its.size ≤ sizeLine ∧ Vals xs its.toList
def absV : Value → Option V
  | .none => some .non
  | .bool b => some (.bl b)
  | .int i _ => some (.int i)
  | .str x _ => some (.str x)
  | .bytes b _ => some (.byt b)
  | .float b _ => some (.flt b)
  | .ref a => some (.ref a)
  | .type n => some (.ty n)
  | _ => none
theorem RelV.abs {x : V} {u : Value} (r : RelV x u) : absV u = some x := by
  cases x with
  | non => cases r; rfl
  | bl _ => cases r; rfl
  | int _ => obtain ⟨t, rfl⟩ := r; rfl
  | str _ => obtain ⟨t, rfl⟩ := r; rfl
  | byt _ => obtain ⟨t, rfl⟩ := r; rfl
  | flt _ => obtain ⟨t, rfl⟩ := r; rfl
  | ref _ => cases r; rfl
  | ty _ => cases r; rfl
theorem RelV.inj {x y : V} {u : Value} (r : RelV x u) (q : RelV y u) : x = y := Option.some.inj (r.abs.symm.trans q.abs)
theorem Vals.inj : ∀ {xs ys : List V} {us : List Value}, Vals xs us → Vals ys us → xs = ys
  | _, _, _, .nil, .nil => rfl
  | _, _, _, .cons r t, .cons r' t' => by rw [r.inj r', Vals.inj t t']
section
variable {X : Cx} {pins : List (Addr × Obj)} {σ : St} {H : Hp} {s : Shared} {a : Addr} {xs ys : List V}
theorem SqL.of {K : PySem.W.Frag} (h : H a = some (.lst xs)) : SqL K H a xs := .inl (.inl h)
theorem SqT.of {K : PySem.W.Frag} (h : H a = some (.tup xs)) : SqT K H a xs := .inl (.inl h)
theorem Inv.list (I : Inv X pins σ H s) (h : SqL X.K H a xs) : ∃ its : List Value, Vals xs its ∧ PlainL s.heap a its.toArray ∧ xs.length ≤ sizeLine := by
  rcases h with h | ⟨o, its, n, hk, hc, hd, hs, hz, r⟩
  · obtain ⟨z, its, n, r, e⟩ := h.ok I.hok
    exact ⟨its, r, ⟨_, n, e, rfl, rfl, rfl⟩, z⟩
  · refine ⟨its.toList, r, ⟨o, n, I.kIn a o hk, hc, hd, by simpa using hs⟩, ?_⟩
    have e := r.length
    simp only [Array.length_toList] at e
    omega
theorem Inv.tuple (I : Inv X pins σ H s) (h : SqT X.K H a xs) : ∃ its : List Value, Vals xs its ∧ IsTup s.heap a its.toArray ∧ xs.length ≤ sizeLine := by
  rcases h with h | ⟨o, its, n, hk, hc, hs, hz, r⟩
  · obtain ⟨z, its, r, p⟩ := h.ok I.hok
    exact ⟨its, r, p, z⟩
  · refine ⟨its.toList, r, ⟨o, I.kIn a o hk, hc, n, by simpa using hs⟩, ?_⟩
    have e := r.length
    simp only [Array.length_toList] at e
    omega
theorem Inv.list_inj (I : Inv X pins σ H s) (h : SqL X.K H a xs) (h' : SqL X.K H a ys) : xs = ys := by
  obtain ⟨its, r, ⟨o, n, e, _, _, d⟩, _⟩ := I.list h
  obtain ⟨its', r', ⟨o', n', e', _, _, d'⟩, _⟩ := I.list h'
  rw [e] at e'; cases e'
  rw [d] at d'
  injection d' with d1 _
  have : its = its' := by simpa using congrArg Array.toList d1
  subst this
  exact r.inj r'
theorem Inv.tuple_inj (I : Inv X pins σ H s) (h : SqT X.K H a xs) (h' : SqT X.K H a ys) : xs = ys := by
  obtain ⟨its, r, ⟨o, e, _, n, d⟩, _⟩ := I.tuple h
  obtain ⟨its', r', ⟨o', e', _, n', d'⟩, _⟩ := I.tuple h'
  rw [e] at e'; cases e'
  rw [d] at d'
  injection d' with d1 _
  have : its = its' := by simpa using congrArg Array.toList d1
  subst this
  exact r.inj r'
end
abbrev Cx.wish (X : Cx) (E : Value → Shared → Prop) : Cx := { X with xe := E }
abbrev Cx.nox (X : Cx) : Cx := X.wish fun _ _ => False
theorem Cx.Ok.wish {X : Cx} (ok : X.Ok) (E : Value → Shared → Prop) : (X.wish E).Ok :=
  ⟨ok.mod, ok.kind, ok.glob, ok.blt, ok.above, ok.inj, ok.has, ok.cab, ok.hd, ok.frames, ok.stk, ok.exf, ok.bs, ok.bsz, ok.noex, ok.exfs, ok.funs, ok.frf⟩
theorem Cx.Ok.unwish {X : Cx} {E : Value → Shared → Prop} (ok : (X.wish E).Ok) : X.Ok :=
  ⟨ok.mod, ok.kind, ok.glob, ok.blt, ok.above, ok.inj, ok.has, ok.cab, ok.hd, ok.frames, ok.stk, ok.exf, ok.bs, ok.bsz, ok.noex, ok.exfs, ok.funs, ok.frf⟩
section
variable {X : Cx} {pins : List (Addr × Obj)} {σ : St} {H : Hp} {s : Shared} {E : Value → Shared → Prop}
theorem Inv.wish (I : Inv X pins σ H s) (E : Value → Shared → Prop) : Inv (X.wish E) pins σ H s := ⟨I.ok.wish E, I.os, I.bare, I.base, I.loc, I.cell, I.free, I.freeC, I.pin, I.hok, I.len⟩
theorem Inv.unwish (I : Inv (X.wish E) pins σ H s) : Inv X pins σ H s := ⟨I.ok.unwish, I.os, I.bare, I.base, I.loc, I.cell, I.free, I.freeC, I.pin, I.hok, I.len⟩
theorem SP.unwish {D : Ends} {f : Flow} {s' : Shared} (h : SP (X.wish E) pins D f s') : SP X pins D f s' := by
  cases f with
  | next => obtain ⟨σ', H', I, q⟩ := h; exact ⟨σ', H', I.unwish, q⟩
  | brk => obtain ⟨σ', H', I, q⟩ := h; exact ⟨σ', H', I.unwish, q⟩
  | cont => obtain ⟨σ', H', I, q⟩ := h; exact ⟨σ', H', I.unwish, q⟩
  | ret u => obtain ⟨v, σ', H', I, r, q⟩ := h; exact ⟨v, σ', H', I.unwish, r, q⟩
theorem PE.nox {e : Expr} {t : TE} (h : PE X.nox e t) : PE X e t := fun pins s σ H Q I hw =>
  wpAny_mono (h pins s σ H Q (I.wish _) hw) (fun _ _ ⟨v, H', I', r, q⟩ => ⟨v, H', I'.unwish, r, q⟩) fun _ _ z => False.elim z
theorem PT.nox {e : Expr} {t : TT} (h : PT X.nox e t) : PT X e t := fun pins s σ H Q I hw =>
  wpAny_mono (h pins s σ H Q (I.wish _) hw) (fun _ _ ⟨H', I', q⟩ => ⟨H', I'.unwish, q⟩) fun _ _ z => False.elim z
theorem PSs.nox {st : List Stmt} {t : TS} (h : PSs X.nox st t) : PSs X st t := fun pins s σ H D I hw =>
  wpAny_mono (h pins s σ H D (I.wish _) hw) (fun _ _ q => q.unwish) fun _ _ z => False.elim z
end
section
variable {X : Cx} {st : Stmt} {rest : List Stmt} {t u : TS} {e : Expr} {te : TE} {pos : Pos}
def tNext : TS := fun D σ H => D.nx σ H
def tSeq (t u : TS) : TS := fun D σ H => t { D with nx := u D } σ H
theorem pss_nil : PSs X [] tNext := fun _ _ σ H _ I h => wpAny_execs_nil ⟨σ, H, I, h⟩
theorem pss_cons (h1 : PS X st t) (h2 : PSs X rest u) : PSs X (st :: rest) (tSeq t u) := by
  intro pins s σ H D I h
  refine wpAny_execs_cons (thn (h1 pins s σ H { D with nx := u D } I h) fun f s1 q => ?_)
  cases f with
  | next =>
    obtain ⟨σ', H', I', q⟩ := q
    exact h2 pins s1 σ' H' D I' q
  | ret v => exact q
  | brk => exact q
  | cont => exact q
theorem ps_pass : PS X (.Pass pos) tNext := fun _ _ σ H _ I h => wpAny_Pass ⟨σ, H, I, h⟩
theorem Inv.quiet {pins : List (Addr × Obj)} {σ : St} {H : Hp} {s : Shared} (I : Inv X pins σ H s) : interactive X.env = false := by simp [interactive, I.ok.kind]
def tDrop (te : TE) : TS := fun D σ H => te σ H fun _ H1 => D.nx σ H1
theorem ps_expr (he : PE X e te) (hs : swapsWith e none pos.line X.env = pure false := by rfl) : PS X (.Expr e pos) (tDrop te) := by
  intro pins s σ H D I h
  exact wpAny_Expr_any (thn (he pins s σ H _ I h) fun v s1 ⟨x, H1, I1, r1, q1⟩ => ⟨σ, H1, I1, q1⟩) I.quiet hs
def tRet (te : TE) : TS := fun D σ H => te σ H D.rt
theorem ps_ret (he : PE X e te) : PS X (.Return (some e) pos) (tRet te) := by
  intro pins s σ H D I h
  exact wpAny_Return_some (thn (he pins s σ H _ I h) fun v s1 ⟨x, H1, I1, r1, q1⟩ => ⟨x, σ, H1, I1, r1, q1⟩)
def tRetN : TS := fun D _ H => D.rt .non H
theorem ps_retN : PS X (.Return none pos) tRetN := fun _ _ σ H _ I h => wpAny_Return_none ⟨.non, σ, H, I, rfl, h⟩
def tIfS (c : TT) (t u : TS) : TS := fun D σ H => c σ H fun b H1 => if b = true then t D σ H1 else u D σ H1
theorem ps_if {c : Expr} {a b : List Stmt} {tc : TT} (hc : PT X c tc) (ha : PSs X a t) (hb : PSs X b u) : PS X (.If c a b pos) (tIfS tc t u) := by
  intro pins s σ H D I h
  refine wpAny_If (thn (hc pins s σ H _ I h) fun d s1 ⟨H1, I1, q1⟩ => ?_)
  cases d with
  | true => exact ha pins s1 σ H1 D I1 q1
  | false => exact hb pins s1 σ H1 D I1 q1
end
abbrev TG := V → St → Hp → (St → Hp → Prop) → Prop
abbrev TGs := List V → St → Hp → (St → Hp → Prop) → Prop
def PG (X : Cx) (target : Expr) (t : TG) : Prop :=
  ∀ (pins : List (Addr × Obj)) (s : Shared) (σ : St) (H : Hp) (v : V) (u : Value) (Q : St → Hp → Prop), Inv X pins σ H s → RelV v u → t v σ H Q →
    wpAny (model X.prog X.w) X.A (assign target X.env u) (fun _ s' => ∃ σ' H', Inv X pins σ' H' s' ∧ Q σ' H') X.xe s
def PGs (X : Cx) (ts : List Expr) (t : TGs) : Prop :=
  ∀ (pins : List (Addr × Obj)) (s : Shared) (σ : St) (H : Hp) (vs : List V) (us : List Value) (Q : St → Hp → Prop), Inv X pins σ H s → Vals vs us → t vs σ H Q →
    wpAny (model X.prog X.w) X.A (assignInOrder ((assignEach ts X.env).map (·.2)) us) (fun _ s' => ∃ σ' H', Inv X pins σ' H' s' ∧ Q σ' H') X.xe s
abbrev TSet := V → V → V → Hp → (Hp → Prop) → Prop
def PSet (X : Cx) (t : TSet) : Prop :=
  ∀ (pins : List (Addr × Obj)) (s : Shared) (σ : St) (H : Hp) (o i v : V) (ov iv u : Value) (Q : Hp → Prop), Inv X pins σ H s → RelV o ov → RelV i iv → RelV v u → t o i v H Q →
    wpAny (model X.prog X.w) X.A (setItem ov iv u) (fun _ s' => ∃ H', Inv X pins σ H' s' ∧ Q H') X.xe s
section
variable {X : Cx} {pos : Pos}
def gName (i : Nat) : TG := fun v σ H Q => Q (σ.set i (some v)) H
theorem pg_name {i : Nat} {x : Str} (hN : X.N.Nodup) (hi : X.N[i]? = some x) (hx : Loc X.env.scope x) (hf : X.fn x = true ∨ X.env.scope.names.lookup x = some .local := by first | exact .inl rfl | exact .inr rfl | assumption) : PG X (.Name x pos) (gName i) := by
  intro pins s σ H v u Q I r h
  exact wpAny_assign_Name (store_ok I hN hi hx r (fun s' I' => ⟨_, H, I', h⟩) hf)
def gNil : TGs := fun vs σ H Q => vs = [] ∧ Q σ H
def gCons (t : TG) (u : TGs) : TGs := fun vs σ H Q => ∃ v r, vs = v :: r ∧ t v σ H fun σ' H' => u r σ' H' Q
theorem pgs_nil : PGs X [] gNil := by
  intro pins s σ H vs us Q I r h
  obtain ⟨e, h⟩ := h
  subst e
  cases r
  exact assignInOrder_nil ⟨σ, H, I, h⟩
theorem pgs_cons {e : Expr} {es : List Expr} {t : TG} {u : TGs} (h1 : PG X e t) (h2 : PGs X es u)
    (hs : (assignEach (e :: es) X.env).map (·.2) = assign e X.env :: (assignEach es X.env).map (·.2) := by rfl) : PGs X (e :: es) (gCons t u) := by
  intro pins s σ H vs us Q I r h
  obtain ⟨v, vr, e1, h⟩ := h
  subst e1
  cases r with
  | cons r rr =>
    rw [hs]
    refine assignInOrder_cons (thn (h1 pins s σ H _ _ _ I r h) fun _ s1 ⟨σ1, H1, I1, q1⟩ => ?_)
    exact h2 pins s1 σ1 H1 _ _ Q I1 rr q1
def gTup (K : PySem.W.Frag) (n : Nat) (t : TGs) : TG := fun v σ H Q => ∃ a xs, v = .ref a ∧ SqT K H a xs ∧ xs.length = n ∧ t xs σ H Q
theorem pg_tup {es : List Expr} {k : Nat} {t : TGs} {n : Nat} (hc : X.calm = true) (h : PGs X es t)
    (hn : (assignEach es X.env).length = n := by rfl) (hst : (assignEach es X.env).findIdx? (·.1) = none := by rfl) : PG X (.Tuple es k pos) (gTup X.K n t) := by
  intro pins s σ H v u Q I r hw
  obtain ⟨a, xs, e1, hq, hl, hw⟩ := hw
  subst e1
  cases r
  obtain ⟨its, rv, ht, hz⟩ := I.tuple hq
  refine assign_Tuple_tuple (I.ok.hd hc) ht (by simp [hn, ← hl, rv.length]) hst fun h' hx => ?_
  have I1 : Inv X pins σ H { s with heap := h' } := I.kept (t' := s.toks) fun b o e => hx b o (Nat.ne_of_lt (Heap.lt_size e)) e
  exact h pins _ σ H xs _ Q I1 (by simpa using rv) hw
def gSub (to ti : TE) (t : TSet) : TG := fun v σ H Q => to σ H fun o H1 => ti σ H1 fun i H2 => t o i v H2 fun H3 => Q σ H3
theorem pg_sub {o i : Expr} {to ti : TE} {t : TSet} (ho : PE X o to) (hi : PE X i ti) (hs : PSet X t)
    (ha : ∀ v, assign (.Subscript o i pos) X.env v = (do
      let ov ← holding [v] (eval o X.env)
      let iv ← holding [v, ov] (eval i X.env)
      standAt pos
      holding [v, ov, iv] (setItem ov iv v)
      release [v, ov, iv] []) := by intro _; rfl) : PG X (.Subscript o i pos) (gSub to ti t) := by
  intro pins s σ H v u Q I r h
  rw [ha]
  refine wpAny_bind (wpAny_holding (thn (ho pins s σ H _ I h) fun ov s1 ⟨x, H1, I1, r1, q1⟩ => ?_))
  refine wpAny_bind (wpAny_holding (thn (hi pins s1 σ H1 _ I1 q1) fun iv s2 ⟨y, H2, I2, r2, q2⟩ => ?_))
  refine wpAny_bind (wpAny_standAt (wpAny_bind (wpAny_holding (thn (hs pins s2 σ H2 x y v ov iv u _ I2 r1 r2 r q2) fun _ s3 ⟨H3, I3, q3⟩ => ?_))))
  exact wpAny_release ⟨σ, H3, I3, q3⟩
def tAsg (te : TE) (g : TG) : TS := fun D σ H => te σ H fun x H1 => g x σ H1 D.nx
theorem ps_asg {tg e : Expr} {te : TE} {g : TG} (he : PE X e te) (hg : PG X tg g) (hs : swapsWithSole [tg] e pos.line X.env = pure false := by rfl) (hw : swappedStores [tg] e X.env = pure none := by rfl)
    (h1 : (assignEach [tg] X.env).map (·.2) = [assign tg X.env] := by rfl) : PS X (.Assign [tg] e pos) (tAsg te g) := by
  intro pins s σ H D I h
  refine wpAny_Assign_stores (thn (he pins s σ H _ I h) fun v s1 ⟨x, H1, I1, r1, q1⟩ => ?_) hs hw
  rw [h1]
  exact thn (hg pins s1 σ H1 x v _ I1 r1 q1) fun _ s2 q => q
theorem ps_set {i : Nat} {x : Str} {e : Expr} {te : TE} {pos' : Pos} (hN : X.N.Nodup) (hi : X.N[i]? = some x) (hx : Loc X.env.scope x) (he : PE X e te) (hs : swapsWith e (some (.Name x pos')) pos.line X.env = pure false := by rfl) (hf : X.fn x = true ∨ X.env.scope.names.lookup x = some .local := by first | exact .inl rfl | exact .inr rfl | assumption) :
    PS X (.Assign [.Name x pos'] e pos) (tAsg te (gName i)) := by
  intro pins s σ H D I h
  refine wpAny_Assign_Name (thn (he pins s σ H _ I h) fun v s1 ⟨y, H1, I1, r1, q1⟩ => ?_) hs
  exact store_ok I1 hN hi hx r1 (fun s2 I2 => ⟨_, H1, I2, q1⟩) hf
end
section
variable {X : Cx} {pos : Pos}
def tWhile (c : TT) (tb : TS) : TS := fun D σ H => ∃ W : Nat → St → Hp → Prop, (∃ m, W m σ H) ∧ ∀ m σ H, W m σ H →
  c σ H fun b H1 => if b = true then ∃ N : St → Hp → Prop, (∀ σ' H', N σ' H' → ∃ m', m' < m ∧ W m' σ' H') ∧ tb { D with nx := N, ct := N, bk := D.nx } σ H1 else D.nx σ H1
theorem ps_while {c : Expr} {body : List Stmt} {tc : TT} {tb : TS} (hp : PassesOwn (model X.prog X.w) X.A X.env X.xe) (hc : PT X c tc) (hb : PSs X body tb) : PS X (.While c body [] pos) (tWhile tc tb) := by
  intro pins s σ H D I h
  obtain ⟨W, ⟨m0, w0⟩, turn⟩ := h
  refine wpAny_While (codeAny_whileLoop (fun n s' => ∃ σ' H', Inv X pins σ' H' s' ∧ W n σ' H') ?_ m0 ⟨σ, H, I, w0⟩)
  rintro n s1 ⟨σ1, H1, I1, w1⟩
  refine wpAny_passesOwn hp (thn (hc pins s1 σ1 H1 _ I1 (turn n σ1 H1 w1)) fun b s2 ⟨H2, I2, q2⟩ => ?_)
  cases b with
  | true =>
    obtain ⟨N, hN, q2⟩ := q2
    rw [if_pos rfl]
    refine wpAny_passesOwn hp (thn (hb pins s2 σ1 H2 _ I2 q2) fun f s3 q3 => ?_)
    cases f with
    | next =>
      obtain ⟨σ3, H3, I3, n3⟩ := q3
      obtain ⟨m', hm, w3⟩ := hN σ3 H3 n3
      exact ⟨m', hm, σ3, H3, I3, w3⟩
    | cont =>
      obtain ⟨σ3, H3, I3, n3⟩ := q3
      obtain ⟨m', hm, w3⟩ := hN σ3 H3 n3
      exact ⟨m', hm, σ3, H3, I3, w3⟩
    | brk => exact q3
    | ret v => exact q3
  | false =>
    rw [if_neg Bool.false_ne_true]
    exact wpAny_execs_nil ⟨σ1, H2, I2, q2⟩
end
structure It where
  go : Nat → Hp → Prop
  yld : Nat → Hp → V → Hp → Prop
  stop : Nat → Hp → Prop
def FpOk (X : Cx) (pins : List (Addr × Obj)) (H : Hp) (b : Addr) : Prop :=
  H b = none ∧ b ≠ X.env.locals ∧ b ∉ X.fs ∧ (b ∈ X.ex ∨ X.s₀.heap.objs.size ≤ b) ∧ (∀ x c, X.env.cells.lookup x = some c → c ≠ b) ∧ ∀ p ∈ X.pn ++ pins, p.1 ≠ b
theorem Inv.fpOk {X : Cx} {pins : List (Addr × Obj)} {σ : St} {H H' : Hp} {s : Shared} {b : Addr} (I : Inv X pins σ H s) (hb : s.heap.objs.size ≤ b) (hn : H' b = none) : FpOk X pins H' b := by
  refine ⟨hn, Nat.ne_of_gt (Nat.lt_of_lt_of_le I.lt hb), I.nofs hb, .inr (Nat.le_trans I.sz hb), fun x c e z => ?_, fun p hp z => ?_⟩
  · obtain ⟨v, q⟩ := I.cell x c e
    exact absurd (Nat.lt_of_lt_of_le q.lt (by rw [z]; exact hb)) (Nat.lt_irrefl _)
  · exact absurd (Nat.lt_of_lt_of_le (Heap.lt_size (I.pin p hp).1) (by rw [z]; exact hb)) (Nat.lt_irrefl _)
structure Turn (P : Program) (w : World) (K : PySem.W.Frag) (tg : Expr) (J : It) (fp : List Addr) (it : Addr) (tn : Nat → Heap → Prop) : Prop where
  mem : it ∈ fp
  obj : ∀ i h, tn i h → ∀ b ∈ fp, ∃ o, h.get? b = some o ∧ ∀ v, o.data ≠ .cell v
  keep : ∀ i h h', tn i h → (∀ b ∈ fp, ∀ o, h.get? b = some o → h'.get? b = some o) → tn i h'
  item : ∀ (X : Cx), X.prog = P → X.w = w → X.K = K → X.calm = true → ∀ (i : Nat) (pins : List (Addr × Obj)) (s : Shared) (σ : St) (H : Hp) (E : Value → Shared → Prop), Inv X pins σ H s → (∀ b ∈ fp, FpOk X pins H b) → tn i s.heap → J.go i H →
    wpAny (model P w) X.A (pyNext (.ref it)) (fun r s1 => ∃ u, r = some u ∧
      wpAny (model P w) X.A (letOwnedTupleGo tg (.ref it) u) (fun _ s2 => ∃ x H', Inv X pins σ H' s2 ∧ RelV x u ∧ J.yld i H x H' ∧ tn (i + 1) s2.heap ∧ ∀ b ∈ fp, H' b = none) E s1) E s
  done : ∀ (X : Cx), X.prog = P → X.w = w → X.K = K → X.calm = true → ∀ (i : Nat) (pins : List (Addr × Obj)) (s : Shared) (σ : St) (H : Hp) (E : Value → Shared → Prop), Inv X pins σ H s → (∀ b ∈ fp, FpOk X pins H b) → tn i s.heap → J.stop i H →
    wpAny (model P w) X.A (pyNext (.ref it)) (fun r s1 => r = none ∧ Inv X pins σ H s1) E s
  self : ∀ (A : Around) (i : Nat) (s : Shared) (Q : Value → Shared → Prop) (E : Value → Shared → Prop), tn i s.heap → Q (.ref it) s → wpAny (model P w) A (pyIter (.ref it)) Q E s
abbrev TI := St → Hp → (It → Hp → Prop) → Prop
def PIE (X : Cx) (pins : List (Addr × Obj)) (σ : St) (tg : Expr) (R : It → Hp → Prop) (itv : Value) (s2 : Shared) : Prop :=
  ∃ (it : Addr) (fp : List Addr) (tn : Nat → Heap → Prop) (J : It) (H' : Hp), itv = .ref it ∧ Inv X pins σ H' s2 ∧ Turn X.prog X.w X.K tg J fp it tn ∧ tn 0 s2.heap ∧ (∀ b ∈ fp, FpOk X pins H' b) ∧ R J H'
def PI (X : Cx) (tg iter : Expr) (wi : TI) : Prop :=
  ∀ (pins : List (Addr × Obj)) (s : Shared) (σ : St) (H : Hp) (R : It → Hp → Prop), Inv X pins σ H s → wi σ H R →
    wpAny (model X.prog X.w) X.A (eval iter X.env) (fun v s1 => wpAny (model X.prog X.w) X.A (pyIter v) (PIE X pins σ tg R) X.xe s1) X.xe s

theorem go_of {M : Model} {A : Around} {E : Value → Shared → Prop} {s : Shared} {tg : Expr} {it : Addr} {u : Value} {o : Obj} {n : String} {vs : Array Value} {Q : Unit → Shared → Prop} (ho : s.heap.get? it = some o) (hc : o.cls = .type n) (hd : o.data = .fields vs)
    (hn : ["enumerate", "zip", "dict_itemiterator", "dict_reverseitemiterator", "odict_iterator", "itertools.zip_longest", "itertools.pairwise"].contains n = false) (hQ : Q () s) : wpAny M A (letOwnedTupleGo tg (.ref it) u) Q E s := by
  unfold letOwnedTupleGo
  cases tg <;> first
    | exact wpAny_pure hQ
    | (cases u <;> first
        | exact wpAny_pure hQ
        | (refine wpAny_bind (wpAny_load ho ?_)
           rw [hc, hd]
           show wpAny M A (if (["enumerate", "zip", "dict_itemiterator", "dict_reverseitemiterator", "odict_iterator", "itertools.zip_longest", "itertools.pairwise"].contains n && vs[0]? == some (rawInt _)) = true then _ else _) Q E s
           rw [if_neg (by intro h; rw [hn, Bool.false_and] at h; cases h)]
           exact wpAny_pure hQ))

def Itl (K : PySem.W.Frag) (a : Addr) : It :=
  ⟨fun i H => ∃ xs x, SqL K H a xs ∧ xs[i]? = some x, fun i H x H' => H' = H ∧ ∀ xs, SqL K H a xs → xs[i]? = some x, fun i H => ∃ xs, SqL K H a xs ∧ xs.length ≤ i⟩
def Itt (K : PySem.W.Frag) (a : Addr) : It :=
  ⟨fun i H => ∃ xs x, SqT K H a xs ∧ xs[i]? = some x, fun i H x H' => H' = H ∧ ∀ xs, SqT K H a xs → xs[i]? = some x, fun i H => ∃ xs, SqT K H a xs ∧ xs.length ≤ i⟩
def Itr (lo : Int) (n : Nat) : It := ⟨fun i _ => i < n, fun i H x H' => H' = H ∧ x = .int (lo + i), fun i _ => n ≤ i⟩
theorem turn_list {P : Program} {w : World} {K : PySem.W.Frag} {tg : Expr} (a it : Addr) : Turn P w K tg (Itl K a) [it] it (fun i h => h.IsListIter it a i) where
  mem := by simp
  obj := fun i h st b hb => by
    have e : b = it := by simpa using hb
    subst e
    obtain ⟨o, e, c, d⟩ := st
    exact ⟨o, e, fun v z => by rw [d] at z; cases z⟩
  keep := fun i h h' st k => st.at fun o e => k it (by simp) o e
  item := by
    intro X hP hw hK hc i pins s σ H E I hf st hg
    subst hP hw hK
    obtain ⟨xs, x, hq, hx⟩ := hg
    obtain ⟨its, rv, p, hz⟩ := I.list hq
    obtain ⟨u, hu, ru⟩ := rv.get hx
    obtain ⟨f0, f1, f2, f3, f4, f5⟩ := hf it (by simp)
    refine wpAny_pyNext_list_item st p.isList (x := u) (by simpa using hu) fun h' st' sb => ?_
    have I1 : Inv X pins σ H { s with heap := h' } := I.turned (t' := s.toks) (fun b o hb e => (sb.2 b hb).trans e) f0 f1 f3 f4 f5
    obtain ⟨o, e, c, d⟩ := id st'
    exact ⟨u, rfl, go_of (s := { s with heap := h' }) e c d (by decide) ⟨x, H, I1, ru, ⟨rfl, fun ys hy => by rw [I.list_inj hy hq]; exact hx⟩, st', fun b hb => (hf b hb).1⟩⟩
  done := by
    intro X hP hw hK hc i pins s σ H E I hf st hg
    subst hP hw hK
    obtain ⟨xs, hq, hx⟩ := hg
    obtain ⟨its, rv, p, hz⟩ := I.list hq
    obtain ⟨f0, f1, f2, f3, f4, f5⟩ := hf it (by simp)
    have hl := rv.length
    exact wpAny_pyNext_list_end (I.ok.hd hc) st p.isList (by simp; omega) fun h' eb => ⟨rfl, I.turned (t' := s.toks) (fun b o hb e => eb b o hb e) f0 f1 f3 f4 f5⟩
  self := fun _ _ _ _ _ st h => wpAny_pyIter_listiter st h
theorem turn_tuple {P : Program} {w : World} {K : PySem.W.Frag} {tg : Expr} (a it : Addr) : Turn P w K tg (Itt K a) [it] it (fun i h => h.IsTupleIter it a i) where
  mem := by simp
  obj := fun i h st b hb => by
    have e : b = it := by simpa using hb
    subst e
    obtain ⟨o, e, c, d⟩ := st
    exact ⟨o, e, fun v z => by rw [d] at z; cases z⟩
  keep := fun i h h' st k => st.at fun o e => k it (by simp) o e
  item := by
    intro X hP hw hK hc i pins s σ H E I hf st hg
    subst hP hw hK
    obtain ⟨xs, x, hq, hx⟩ := hg
    obtain ⟨its, rv, p, hz⟩ := I.tuple hq
    obtain ⟨u, hu, ru⟩ := rv.get hx
    obtain ⟨f0, f1, f2, f3, f4, f5⟩ := hf it (by simp)
    refine wpAny_pyNext_tuple_item st (show s.heap.IsTuple a its.toArray from p) (x := u) (by simpa using hu) fun h' st' sb => ?_
    have I1 : Inv X pins σ H { s with heap := h' } := I.turned (t' := s.toks) (fun b o hb e => (sb.2 b hb).trans e) f0 f1 f3 f4 f5
    obtain ⟨o, e, c, d⟩ := id st'
    exact ⟨u, rfl, go_of (s := { s with heap := h' }) e c d (by decide) ⟨x, H, I1, ru, ⟨rfl, fun ys hy => by rw [I.tuple_inj hy hq]; exact hx⟩, st', fun b hb => (hf b hb).1⟩⟩
  done := by
    intro X hP hw hK hc i pins s σ H E I hf st hg
    subst hP hw hK
    obtain ⟨xs, hq, hx⟩ := hg
    obtain ⟨its, rv, p, hz⟩ := I.tuple hq
    obtain ⟨f0, f1, f2, f3, f4, f5⟩ := hf it (by simp)
    have hl := rv.length
    exact wpAny_pyNext_tuple_end (I.ok.hd hc) st (show s.heap.IsTuple a its.toArray from p) (by simp; omega) fun h' eb => ⟨rfl, I.turned (t' := s.toks) (fun b o hb e => eb b o hb e) f0 f1 f3 f4 f5⟩
  self := fun _ _ _ _ _ st h => wpAny_pyIter_tupleiter st h
theorem turn_range {P : Program} {w : World} {K : PySem.W.Frag} {tg : Expr} (it : Addr) (lo : Int) (n : Nat) : Turn P w K tg (Itr lo n) [it] it (fun i h => IsRangeIter h it (lo + (i : Nat) * 1) ((n : Int) - (i : Nat)) 1) where
  mem := by simp
  obj := fun i h st b hb => by
    have e : b = it := by simpa using hb
    subst e
    exact ⟨_, st, fun v z => by
      have z' : Data.fields _ = Data.cell v := z
      cases z'⟩
  keep := fun i h h' st k => k it (by simp) _ st
  item := by
    intro X hP hw hK hc i pins s σ H E I hf st hg
    subst hP hw hK
    obtain ⟨f0, f1, f2, f3, f4, f5⟩ := hf it (by simp)
    have W := Walks.range (prog := X.prog) (w := X.w) (I.ok.hd hc) it lo 1 n
    refine W.item i s _ _ hg st fun v h' tk hv st' kk => ?_
    obtain ⟨t, rfl⟩ := hv
    have I1 : Inv X pins σ H { s with heap := h', toks := tk } := I.turned (fun b o hb e => kk b o (by simpa using hb) e) f0 f1 f3 f4 f5
    refine ⟨_, rfl, go_of (s := { s with heap := h', toks := tk }) (n := "range_iterator") st' rfl rfl (by decide) ⟨.int (lo + i), H, I1, ⟨t, ?_⟩, ⟨rfl, rfl⟩, st', fun b hb => (hf b hb).1⟩⟩
    rw [Int.mul_one]
  done := by
    intro X hP hw hK hc i pins s σ H E I hf st hg
    subst hP hw hK
    obtain ⟨f0, f1, f2, f3, f4, f5⟩ := hf it (by simp)
    exact wpAny_pyNext_range_end (I.ok.hd hc) st (by have : n ≤ i := hg; omega) fun h' eb => ⟨rfl, I.turned (t' := s.toks) (fun b o hb e => eb b o hb e) f0 f1 f3 f4 f5⟩
  self := fun _ _ _ _ _ st h => wpAny_pyIter_rangeiter st h
end L2
namespace L2
open PySem PySem.Spec PyProof.Rows
section
variable {X : Cx} {tg : Expr}
theorem range_it {pins : List (Addr × Obj)} {σ : St} {H : Hp} {s : Shared} {R : It → Hp → Prop} {E : Value → Shared → Prop} {lo hi : Int} {t u v : Tok} {tk : Nat} (I : Inv X pins σ H s) (h1 : -(2 ^ 62) ≤ lo) (h2 : lo < 2 ^ 62) (h3 : -(2 ^ 62) ≤ hi) (h4 : hi < 2 ^ 62)
    (q : R (Itr lo (hi - lo).toNat) H) : wpAny (model X.prog X.w) X.A (pyIter (.ref s.heap.objs.size)) (PIE X pins σ tg R) E { s with heap := s.heap.push { cls := .type "range", data := .fields #[.int lo t, .int hi u, .int 1 v] }, toks := tk } := by
  refine wpAny_pyIter_range (IsRange.new ..) (small_one h1 h2 h3 h4) ?_
  have I1 : Inv X pins σ H { s with heap := s.heap.push { cls := .type "range", data := .fields #[.int lo t, .int hi u, .int 1 v] }, toks := tk } := I.kept fun b o e => Heap.get?_push_of_some _ e
  refine ⟨(s.heap.push { cls := .type "range", data := .fields #[.int lo t, .int hi u, .int 1 v] }).objs.size, [(s.heap.push { cls := .type "range", data := .fields #[.int lo t, .int hi u, .int 1 v] }).objs.size], _, _, H, rfl,
    I1.kept (t' := tk) fun b o e => Heap.get?_push_of_some _ e, turn_range _ lo (hi - lo).toNat, ?_, fun b hb => ?_, q⟩
  · have e1 : lo + ((0 : Nat) : Int) * 1 = lo := by simp
    have e2 : (((hi - lo).toNat : Nat) : Int) - ((0 : Nat) : Int) = Builtin.Range.rangeSize lo hi 1 := by rw [rangeSize_one]; split <;> omega
    show IsRangeIter _ _ (lo + ((0 : Nat) : Int) * 1) ((((hi - lo).toNat : Nat) : Int) - ((0 : Nat) : Int)) 1
    rw [e1, e2]
    exact Heap.get?_push_size _ rfl
  · have e : b = (s.heap.push { cls := .type "range", data := .fields #[.int lo t, .int hi u, .int 1 v] }).objs.size := by simpa using hb
    subst e
    exact I1.fpOk (Nat.le_refl _) (I1.hok.fresh (Nat.le_refl _))
def iRng1 (ta : TA) : TI := fun σ H R => ta σ H fun vs H1 => ∃ j : Int, vs = [.int j] ∧ -(2 ^ 62) ≤ j ∧ j < 2 ^ 62 ∧ R (Itr 0 j.toNat) H1
def iRng2 (ta : TA) : TI := fun σ H R => ta σ H fun vs H1 => ∃ i j : Int, vs = [.int i, .int j] ∧ (-(2 ^ 62) ≤ i ∧ i < 2 ^ 62 ∧ -(2 ^ 62) ≤ j ∧ j < 2 ^ 62) ∧ R (Itr i (j - i).toNat) H1
theorem pi_range1 {a : Expr} {ta : TA} {p pos : Pos} (hg : Gl X "range") (hm : X.mg "range" = none) (ha : PA X [a] ta) (hs : starEach [a] X.env = [(false, eval a X.env)] := by rfl) : PI X tg (.Call (.Name "range" p) [a] [] pos) (iRng1 ta) := by
  intro pins s σ H R I h
  refine Call_ (ld_blt I hg hm boot_range (PyProof.Rows.callWith_type1 (thn (ha pos pins s σ H _ I h) fun us s1 ⟨vs, H1, I1, r1, q1⟩ => ?_) hs rfl))
  obtain ⟨j, e, q1, q2, q⟩ := q1
  subst e
  cases r1 with
  | cons r rr =>
    cases rr
    obtain ⟨t, rfl⟩ := r
    exact call_range_1 (range_it I1 (by omega) (by omega) q1 q2 (by simpa using q))
theorem pi_range2 {a b : Expr} {ta : TA} {p pos : Pos} (hg : Gl X "range") (hm : X.mg "range" = none) (ha : PA X [a, b] ta) (hs : starEach [a, b] X.env = [(false, eval a X.env), (false, eval b X.env)] := by rfl) (hs2 : starEach [b] X.env = [(false, eval b X.env)] := by rfl) :
    PI X tg (.Call (.Name "range" p) [a, b] [] pos) (iRng2 ta) := by
  intro pins s σ H R I h
  refine Call_ (ld_blt I hg hm boot_range (PyProof.Rows.callWith_type1 (thn (ha pos pins s σ H _ I h) fun us s1 ⟨vs, H1, I1, r1, q1⟩ => ?_) (by rw [hs, hs2]) (by rw [hs2]; rfl)))
  obtain ⟨i, j, e, ⟨q1, q2, q3, q4⟩, q⟩ := q1
  subst e
  cases r1 with
  | cons r rr =>
    cases rr with
    | cons r' rr =>
      cases rr
      obtain ⟨t, rfl⟩ := r
      obtain ⟨t', rfl⟩ := r'
      exact call_range_2 (range_it I1 q1 q2 q3 q4 q)

def tFor (wi : TI) (g : TG) (tb : TS) : TS := fun D σ H => wi σ H fun J H1 => ∃ W : Nat → Nat → St → Hp → Prop, (∃ m, W 0 m σ H1) ∧ ∀ i m σ H, W i m σ H →
  (J.stop i H ∧ D.nx σ H) ∨ (J.go i H ∧ ∃ N : St → Hp → Prop, (∀ σ' H', N σ' H' → ∃ m', m' < m ∧ W (i + 1) m' σ' H') ∧ ∀ x H', J.yld i H x H' → g x σ H' fun σ2 H2 => tb { D with nx := N, ct := N, bk := D.nx } σ2 H2)
def pinsAt (fp : List Addr) (h : Heap) : List (Addr × Obj) := fp.filterMap fun b => (h.get? b).map fun o => (b, o)
theorem mem_pinsAt {fp : List Addr} {h : Heap} {b : Addr} {o : Obj} (hb : b ∈ fp) (e : h.get? b = some o) : (b, o) ∈ pinsAt fp h := List.mem_filterMap.mpr ⟨b, hb, by rw [e]; rfl⟩
theorem of_pinsAt {fp : List Addr} {h : Heap} {p : Addr × Obj} (hp : p ∈ pinsAt fp h) : p.1 ∈ fp ∧ h.get? p.1 = some p.2 := by
  obtain ⟨b, hb, e⟩ := List.mem_filterMap.mp hp
  cases q : h.get? b with
  | none => rw [q] at e; cases e
  | some o =>
    rw [q] at e
    have e' : (b, o) = p := Option.some.inj e
    subst e'
    exact ⟨hb, q⟩
theorem Inv.pinned {pins : List (Addr × Obj)} {σ : St} {H : Hp} {s : Shared} {fp : List Addr} (I : Inv X pins σ H s) (hf : ∀ b ∈ fp, FpOk X pins H b) (ho : ∀ b ∈ fp, ∃ o, s.heap.get? b = some o ∧ ∀ v, o.data ≠ .cell v) : Inv X (pins ++ pinsAt fp s.heap) σ H s :=
  I.pins_of fun p hp => (List.mem_append.mp hp).elim (fun z => I.pin p (List.mem_append_right _ z)) fun z => by
    obtain ⟨hb, e⟩ := of_pinsAt z
    obtain ⟨f0, f1, f2, _⟩ := hf p.1 hb
    obtain ⟨o, e', d⟩ := ho p.1 hb
    rw [e] at e'; cases e'
    exact ⟨e, f0, f1, f2, d⟩
theorem Inv.unpinned {pins pl : List (Addr × Obj)} {σ : St} {H : Hp} {s : Shared} (I : Inv X (pins ++ pl) σ H s) : Inv X pins σ H s := I.pins_of fun p hp => I.pin p (List.mem_append_right _ (List.mem_append_left _ hp))
theorem ps_for {iter : Expr} {body : List Stmt} {wi : TI} {g : TG} {tb : TS} {pos : Pos} (hp : PassesOwn (model X.prog X.w) X.A X.env X.xe) (hc : X.calm = true) (hi : PI X tg iter wi) (hg : PG X tg g) (hb : PSs X body tb)
    (hs : ∀ x, foldedSetIterable iter X.env x = pure x := by intro _; rfl) : PS X (.For tg iter body [] pos) (tFor wi g tb) := by
  intro pins s σ H D I h
  refine wpAny_For (thn (hi pins s σ H _ I h) fun v s1 h1 => thn h1 fun itv s2 h2 => ?_) hs
  obtain ⟨it, fp, tn, J, H2, e, I2, T, st2, f2, W, ⟨m0, w0⟩, turn⟩ := h2
  subst e
  -- what stays true of the iterator's objects through the loop
  have stat : ∀ {H' : Hp}, (∀ b ∈ fp, H' b = none) → ∀ b ∈ fp, FpOk X pins H' b := fun hn b hb => ⟨hn b hb, (f2 b hb).2⟩
  refine codeAny_forLoop_any (fun n s' => ∃ i σ' H', Inv X pins σ' H' s' ∧ tn i s'.heap ∧ (∀ b ∈ fp, H' b = none) ∧ W i n σ' H') ?_ m0 ⟨0, σ, H2, I2, st2, fun b hb => (f2 b hb).1, w0⟩
  rintro n s3 ⟨i, σ3, H3, I3, st3, fr3, w3⟩
  rcases turn i n σ3 H3 w3 with ⟨stop, qn⟩ | ⟨go, N, hN, step⟩
  · refine wpAny_passesOwn hp (thn (T.done X rfl rfl rfl hc i pins s3 σ3 H3 X.xe I3 (stat fr3) st3 stop) fun r s4 ⟨hr, I4⟩ => ?_)
    subst hr
    exact wpAny_execs_nil ⟨σ3, H3, I4, qn⟩
  · refine wpAny_passesOwn hp (thn (T.item X rfl rfl rfl hc i pins s3 σ3 H3 X.xe I3 (stat fr3) st3 go) fun r s4 ⟨u, hr, h4⟩ => ?_)
    subst hr
    refine wpAny_passesOwn hp (thn h4 fun _ s5 ⟨x, H5, I5, r5, y5, st5, fr5⟩ => ?_)
    have I5' := I5.pinned (stat fr5) (T.obj _ _ st5)
    refine wpAny_passesOwn hp (thn (hg _ s5 σ3 H5 x u _ I5' r5 (step x H5 y5)) fun _ s6 ⟨σ6, H6, I6, q6⟩ => ?_)
    refine wpAny_passesOwn hp (thn (hb _ s6 σ6 H6 _ I6 q6) fun f s7 q7 => ?_)
    have again : ∀ {σ7 : St} {H7 : Hp}, Inv X (pins ++ pinsAt fp s5.heap) σ7 H7 s7 → N σ7 H7 → ∃ m, m < n ∧ ∃ i σ' H', Inv X pins σ' H' s7 ∧ tn i s7.heap ∧ (∀ b ∈ fp, H' b = none) ∧ W i m σ' H' := fun {σ7 H7} I7 n7 => by
      obtain ⟨m', hm, w7⟩ := hN σ7 H7 n7
      refine ⟨m', hm, i + 1, σ7, H7, I7.unpinned, T.keep _ _ _ st5 fun b hb o e => (I7.pin (b, o) (List.mem_append_right _ (List.mem_append_right _ (mem_pinsAt hb e)))).1, fun b hb => ?_, w7⟩
      obtain ⟨o, e, d⟩ := T.obj _ _ st5 b hb
      exact (I7.pin (b, o) (List.mem_append_right _ (List.mem_append_right _ (mem_pinsAt hb e)))).2.1
    cases f with
    | next => obtain ⟨σ7, H7, I7, n7⟩ := q7; exact again I7 n7
    | cont => obtain ⟨σ7, H7, I7, n7⟩ := q7; exact again I7 n7
    | brk => obtain ⟨σ7, H7, I7, q7⟩ := q7; exact ⟨σ7, H7, I7.unpinned, q7⟩
    | ret v => obtain ⟨x7, σ7, H7, I7, r7, q7⟩ := q7; exact ⟨x7, σ7, H7, I7.unpinned, r7, q7⟩
end
end L2
namespace L2
open PySem PySem.Spec PyProof.Rows
abbrev R2 := V → V → Hp → VK → Prop
def OpR (X : Cx) (f : Value → Value → Sem Value) (r : R2) : Prop :=
  ∀ (pins : List (Addr × Obj)) (s : Shared) (σ : St) (H : Hp) (x y : V) (v u : Value) (Q : VK), Inv X pins σ H s → RelV x v → RelV y u → r x y H Q →
    wpAny (model X.prog X.w) X.A (f v u) (EP X pins σ Q) X.xe s
def UnR (X : Cx) (f : Value → Sem Value) (r : V → Hp → VK → Prop) : Prop :=
  ∀ (pins : List (Addr × Obj)) (s : Shared) (σ : St) (H : Hp) (x : V) (v : Value) (Q : VK), Inv X pins σ H s → RelV x v → r x H Q →
    wpAny (model X.prog X.w) X.A (f v) (EP X pins σ Q) X.xe s
def CallR (X : Cx) (f : Value) (r : List V → Hp → VK → Prop) : Prop :=
  ∀ (pins : List (Addr × Obj)) (s : Shared) (σ : St) (H : Hp) (xs : List V) (us : List Value) (Q : VK), Inv X pins σ H s → Vals xs us → r xs H Q →
    wpAny (model X.prog X.w) X.A (call f us) (EP X pins σ Q) X.xe s
def TruR (X : Cx) (r : V → Hp → (Bool → Hp → Prop) → Prop) : Prop :=
  ∀ (pins : List (Addr × Obj)) (s : Shared) (σ : St) (H : Hp) (x : V) (v : Value) (Q : Bool → Hp → Prop), Inv X pins σ H s → RelV x v → r x H Q →
    wpAny (model X.prog X.w) X.A (truthy v) (TP X pins σ Q) X.xe s

def tOp (r : R2) (ta tb : TE) : TE := fun σ H Q => ta σ H fun x H1 => tb σ H1 fun y H2 => r x y H2 Q
def tUn (r : V → Hp → VK → Prop) (ta : TE) : TE := fun σ H Q => ta σ H fun x H1 => r x H1 Q
def rI (C : Int → Int → Prop) (g : Int → Int → V) : R2 := fun x y H Q => ∃ i j, x = .int i ∧ y = .int j ∧ C i j ∧ Q (g i j) H
def rI0 (g : Int → Int → V) : R2 := fun x y H Q => ∃ i j, x = .int i ∧ y = .int j ∧ Q (g i j) H
def rU (g : Int → V) : V → Hp → VK → Prop := fun x H Q => ∃ i, x = .int i ∧ Q (g i) H

section
variable {X : Cx} {a b c : Expr} {ta tb tc : TE} {pos : Pos}
theorem binT (ha : PE X a ta) (hb : PE X b tb) {pins : List (Addr × Obj)} {s : Shared} {σ : St} {H : Hp} {R : V → V → Hp → Prop} (I : Inv X pins σ H s)
    (h : ta σ H fun x H1 => tb σ H1 fun y H2 => R x y H2) {Q : Value → Shared → Prop} {f : Value → Value → Sem Value}
    (hf : ∀ v u s2 x y H2, Inv X pins σ H2 s2 → RelV x v → RelV y u → R x y H2 → wpAny (model X.prog X.w) X.A (f v u) Q X.xe s2) :
    wpAny (model X.prog X.w) X.A (eval a X.env) (fun v s₁ => wpAny (model X.prog X.w) X.A (eval b X.env) (fun u s₂ => wpAny (model X.prog X.w) X.A (f v u) Q X.xe s₂) X.xe s₁) X.xe s := by
  refine thn (ha pins s σ H _ I h) fun v s1 ⟨x, H1, I1, r1, q1⟩ => ?_
  refine thn (hb pins s1 σ H1 _ I1 q1) fun u s2 ⟨y, H2, I2, r2, q2⟩ => ?_
  exact hf v u s2 x y H2 I2 r1 r2 q2

theorem pe_op {op : Operator} {r : R2} (ho : OpR X (binaryOp op) r) (ha : PE X a ta) (hb : PE X b tb) : PE X (.BinOp a op b pos) (tOp r ta tb) := by
  intro pins s σ H Q I h
  exact wpAny_BinOp (binT ha hb I h fun v u s2 x y H2 I2 rx ry q => ho pins s2 σ H2 x y v u Q I2 rx ry q)
theorem pe_un {op : UnaryOp} {r : V → Hp → VK → Prop} (ho : UnR X (unaryOp op) r) (ha : PE X a ta) : PE X (.UnaryOp op a pos) (tUn r ta) := by
  intro pins s σ H Q I h
  exact UnaryOp_ (thn (ha pins s σ H _ I h) fun v s1 ⟨x, H1, I1, r1, q1⟩ => ho pins s1 σ H1 x v Q I1 r1 q1)
theorem opI {f : Value → Value → Sem Value} {C : Int → Int → Prop} {g : Int → Int → Int}
    (rule : ∀ (i j : Int) (t u : Tok) (s : Shared) (Q : Value → Shared → Prop) (E : Value → Shared → Prop), C i j → Q (.int (g i j) s.toks) { s with toks := s.toks + 1 } → wpAny (model X.prog X.w) X.A (f (.int i t) (.int j u)) Q E s) :
    OpR X f (rI C fun i j => .int (g i j)) := by
  intro pins s σ H x y v u Q I rx ry h
  obtain ⟨i, j, rfl, rfl, hc, q⟩ := h
  obtain ⟨t, rfl⟩ := rx
  obtain ⟨t', rfl⟩ := ry
  exact rule i j t t' s _ _ hc ⟨.int (g i j), H, I.tok _, ⟨_, rfl⟩, q⟩
theorem opI0 {f : Value → Value → Sem Value} {g : Int → Int → Int}
    (rule : ∀ (i j : Int) (t u : Tok) (s : Shared) (Q : Value → Shared → Prop) (E : Value → Shared → Prop), Q (.int (g i j) s.toks) { s with toks := s.toks + 1 } → wpAny (model X.prog X.w) X.A (f (.int i t) (.int j u)) Q E s) :
    OpR X f (rI0 fun i j => .int (g i j)) := by
  intro pins s σ H x y v u Q I rx ry h
  obtain ⟨i, j, rfl, rfl, q⟩ := h
  obtain ⟨t, rfl⟩ := rx
  obtain ⟨t', rfl⟩ := ry
  exact rule i j t t' s _ _ ⟨.int (g i j), H, I.tok _, ⟨_, rfl⟩, q⟩
theorem opB0 {f : Value → Value → Sem Value} {g : Int → Int → Bool}
    (rule : ∀ (i j : Int) (t u : Tok) (s : Shared) (Q : Value → Shared → Prop) (E : Value → Shared → Prop), Q (.bool (g i j)) s → wpAny (model X.prog X.w) X.A (f (.int i t) (.int j u)) Q E s) :
    OpR X f (rI0 fun i j => .bl (g i j)) := by
  intro pins s σ H x y v u Q I rx ry h
  obtain ⟨i, j, rfl, rfl, q⟩ := h
  obtain ⟨t, rfl⟩ := rx
  obtain ⟨t', rfl⟩ := ry
  exact rule i j t t' s _ _ ⟨.bl (g i j), H, I, rfl, q⟩

def CDiv (i j : Int) : Prop := 0 < j ∧ j < 1073741824
def CPow (i j : Int) : Prop := 0 ≤ j ∧ j ≤ 1000000 ∧ i.natAbs < 2 ^ 64
def CMul (i j : Int) : Prop := (-(2 ^ 64) < i ∧ i < 2 ^ 64) ∨ (-(2 ^ 64) < j ∧ j < 2 ^ 64)
theorem CMul.ok {i j : Int} (h : CMul i j) : IntMulOk i j := by
  rcases h with ⟨h1, h2⟩ | ⟨h1, h2⟩
  · exact .of_left (intBits_le_64 h1 h2)
  · exact .of_right (intBits_le_64 h1 h2)
theorem op_add : OpR X (binaryOp .Add) (rI0 fun i j => .int (i + j)) := opI0 fun _ _ _ _ _ _ _ q => add_int q
theorem op_sub : OpR X (binaryOp .Sub) (rI0 fun i j => .int (i - j)) := opI0 fun _ _ _ _ _ _ _ q => sub_int q
theorem op_mul : OpR X (binaryOp .Mult) (rI CMul fun i j => .int (i * j)) := opI fun _ _ _ _ _ _ _ hc q => mul_int q hc.ok
theorem op_fdiv : OpR X (binaryOp .FloorDiv) (rI CDiv fun i j => .int (i / j)) := opI fun i j _ _ _ _ _ hc q => by
  have h1 : (0 : Int) < j := hc.1
  have h2 : j < 1073741824 := hc.2
  exact floordiv_int (by omega) (by rw [Int.fdiv_eq_ediv_of_nonneg i (by omega)]; exact q) (.inl (PyProof.noPylong_small (by omega)))
theorem op_mod : OpR X (binaryOp .Mod) (rI (fun _ j => 0 < j) fun i j => .int (i % j)) := opI fun i j _ _ _ _ _ hc q => by
  have h1 : (0 : Int) < j := hc
  exact mod_int' (by omega) (by rw [Int.fmod_eq_emod_of_nonneg i (by omega)]; exact q)
theorem op_pow : OpR X (binaryOp .Pow) (rI CPow fun i j => .int (i ^ j.toNat)) := opI fun _ _ _ _ _ _ _ hc q => pow_int_small hc.1 hc.2.1 hc.2.2 q
theorem unI {f : Value → Sem Value} {g : Int → Int}
    (rule : ∀ (i : Int) (t : Tok) (s : Shared) (Q : Value → Shared → Prop) (E : Value → Shared → Prop), Q (.int (g i) s.toks) { s with toks := s.toks + 1 } → wpAny (model X.prog X.w) X.A (f (.int i t)) Q E s) :
    UnR X f (rU fun i => .int (g i)) := by
  intro pins s σ H x v Q I rx h
  obtain ⟨i, rfl, q⟩ := h
  obtain ⟨t, rfl⟩ := rx
  exact rule i t s _ _ ⟨.int (g i), H, I.tok _, ⟨_, rfl⟩, q⟩
theorem un_neg : UnR X (unaryOp .USub) (rU fun i => .int (-i)) := unI fun _ _ _ _ _ q => neg_int q
end
section
variable {X : Cx} {a b c : Expr} {ta tb tc : TE} {pos : Pos}
theorem fin_bl {pins : List (Addr × Obj)} {σ : St} {H : Hp} {s : Shared} {Q : VK} {k k' : Bool} (I : Inv X pins σ H s) (q : Q (.bl k) H) (e : k = k') : EP X pins σ Q (.bool k') s := by
  subst e
  exact ⟨.bl k, H, I, rfl, q⟩
theorem op_lt : OpR X (compareOp .Lt) (rI0 fun i j => .bl (decide (i < j))) := opB0 fun _ _ _ _ _ _ _ q => lt_int q
theorem op_le : OpR X (compareOp .LtE) (rI0 fun i j => .bl (decide (i ≤ j))) := opB0 fun _ _ _ _ _ _ _ q => le_int q
theorem op_gt : OpR X (compareOp .Gt) (rI0 fun i j => .bl (decide (j < i))) := opB0 fun _ _ _ _ _ _ _ q => gt_int q
theorem op_ge : OpR X (compareOp .GtE) (rI0 fun i j => .bl (decide (j ≤ i))) := opB0 fun _ _ _ _ _ _ _ q => ge_int q
theorem op_in_str : OpR X (compareOp .In) (fun x y H Q => ∃ i j, x = .str i ∧ y = .str j ∧ Q (.bl (!(Builtin.Str.occurrences j i 0 j.length 1).isEmpty)) H) := by
  intro pins s σ H x y v u Q I rx ry h
  obtain ⟨i, j, rfl, rfl, q⟩ := h
  obtain ⟨t, rfl⟩ := rx
  obtain ⟨t', rfl⟩ := ry
  exact in_str (fin_bl I q rfl)

theorem op_isN : OpR X (compareOp .Is) (fun x y H Q => y = .non ∧ Q (.bl (decide (x = .non))) H) := by
  intro pins s σ H x y v u Q I rx ry h
  obtain ⟨rfl, q⟩ := h
  cases ry
  refine is_none_gen (fin_bl I q ?_)
  cases x <;> first
    | (cases rx; rfl)
    | (obtain ⟨t, rfl⟩ := rx; rfl)
theorem op_notN : OpR X (compareOp .IsNot) (fun x y H Q => y = .non ∧ Q (.bl (!decide (x = .non))) H) := by
  intro pins s σ H x y v u Q I rx ry h
  obtain ⟨rfl, q⟩ := h
  cases ry
  refine isnot_none_gen (fin_bl I q ?_)
  cases x <;> first
    | (cases rx; rfl)
    | (obtain ⟨t, rfl⟩ := rx; rfl)

theorem op_notin_str : OpR X (compareOp .NotIn) (fun x y H Q => ∃ i j, x = .str i ∧ y = .str j ∧ Q (.bl (!(!(Builtin.Str.occurrences j i 0 j.length 1).isEmpty))) H) := by
  intro pins s σ H x y v u Q I rx ry h
  obtain ⟨i, j, rfl, rfl, q⟩ := h
  obtain ⟨t, rfl⟩ := rx
  obtain ⟨t', rfl⟩ := ry
  exact notIn_str (fin_bl I q rfl)
theorem OpR.or {f : Value → Value → Sem Value} {r r' : R2} (h : OpR X f r) (h' : OpR X f r') : OpR X f (fun x y H Q => r x y H Q ∨ r' x y H Q) := by
  intro pins s σ H x y v u Q I rx ry q
  rcases q with q | q
  · exact h pins s σ H x y v u Q I rx ry q
  · exact h' pins s σ H x y v u Q I rx ry q

theorem pe_cmpR {op : CmpOp} {r : R2} (ho : OpR X (compareOp op) r) (ha : PE X a ta) (hb : PE X b tb) (hm : behindInMarks op b = false) : PE X (.Compare a [op] [b] pos) (tOp r ta tb) := by
  intro pins s σ H Q I h
  exact wpAny_Compare1 (binT ha hb I h fun v u s2 x y H2 I2 rx ry q => ho pins s2 σ H2 x y v u Q I2 rx ry q) hm
def tTest (t : TE) : TT := fun σ H Q => t σ H fun x H' => ∃ k, x = .bl k ∧ Q k H'
theorem pt_cmpR {op : CmpOp} {r : R2} (ho : OpR X (compareOp op) r) (ha : PE X a ta) (hb : PE X b tb) (hm : behindInMarks op b = false) : PT X (.Compare a [op] [b] pos) (tTest (tOp r ta tb)) := by
  intro pins s σ H Q I h
  refine wpAny_isTrue_Compare1 (thn (ha pins s σ H _ I h) fun v s1 ⟨x, H1, I1, r1, q1⟩ => thn (hb pins s1 σ H1 _ I1 q1) fun u s2 ⟨y, H2, I2, r2, q2⟩ =>
    thn (ho pins s2 σ H2 x y v u _ I2 r1 r2 q2) fun c s3 ⟨z, H3, I3, r3, k, e, q3⟩ => ?_) hm
  subst e
  cases r3
  exact wpAny_truthy_bool ⟨H3, I3, q3⟩
def TruV (K : PySem.W.Frag) (x : V) (H : Hp) (k : Bool) : Prop :=
  match x with
  | .non => k = false
  | .bl b => k = b
  | .int i => k = (i != 0)
  | .str y => y.length ≤ sizeLine ∧ k = ((y.length : Int) != 0)
  | .byt y => y.size ≤ sizeLine ∧ k = ((y.size : Int) != 0)
  | .ref p => (∃ xs, SqL K H p xs ∧ k = !xs.isEmpty) ∨ (∃ xs, SqT K H p xs ∧ k = !xs.isEmpty) ∨ ∃ kvs, H p = some (.dK kvs) ∧ k = !kvs.isEmpty
  | _ => False
theorem isEmpty_kv {κ : Type} {kvs : List (κ × V)} {vs : List (κ × Value)} (r : KV kvs vs) : (!vs.isEmpty) = !kvs.isEmpty := by
  cases r <;> rfl
theorem isEmpty_of {xs : List V} {its : List Value} (r : Vals xs its) : (!its.toArray.isEmpty) = !xs.isEmpty := by
  cases r <;> simp
theorem line63 : (sizeLine : Nat) < 2 ^ 63 := by rw [sizeLine_eq]; decide
theorem tru_ok : TruR X (fun x H Q => ∃ k, TruV X.K x H k ∧ Q k H) := by
  intro pins s σ H x v Q I rx h
  obtain ⟨k, e, q⟩ := h
  have hl := line63
  have hs : sizeLine = 16777216 := sizeLine_eq
  cases x with
  | non =>
    cases rx
    have e' : k = false := e
    subst e'
    exact truthy_none ⟨H, I, q⟩
  | bl b =>
    cases rx
    have e' : k = b := e
    subst e'
    exact wpAny_truthy_bool ⟨H, I, q⟩
  | int i =>
    obtain ⟨t, rfl⟩ := rx
    have e' : k = (i != 0) := e
    subst e'
    exact PySem.P.truthy_int ⟨H, I, q⟩
  | str y =>
    obtain ⟨t, rfl⟩ := rx
    obtain ⟨hy, e'⟩ : y.length ≤ sizeLine ∧ k = ((y.length : Int) != 0) := e
    subst e'
    exact PySem.P.truthy_str (by omega) ⟨H, I.tok _, q⟩
  | byt y =>
    obtain ⟨t, rfl⟩ := rx
    obtain ⟨hy, e'⟩ : y.size ≤ sizeLine ∧ k = ((y.size : Int) != 0) := e
    subst e'
    exact PySem.W.truthy_bytes (by omega) ⟨H, I.tok _, q⟩
  | ref p =>
    cases rx
    have e' : (∃ xs, SqL X.K H p xs ∧ k = !xs.isEmpty) ∨ (∃ xs, SqT X.K H p xs ∧ k = !xs.isEmpty) ∨ ∃ kvs, H p = some (.dK kvs) ∧ k = !kvs.isEmpty := e
    rcases e' with ⟨xs, hx, e'⟩ | ⟨xs, hx, e'⟩ | ⟨kvs, hx, e'⟩
    · subst e'
      obtain ⟨its, r, pl, hz⟩ := I.list hx
      have hlen := r.length
      exact wpAny_truthy_list pl.isList (by simp only [List.size_toArray]; omega) ⟨H, I.tok _, by rw [isEmpty_of r]; exact q⟩
    · subst e'
      obtain ⟨its, r, pl, hz⟩ := I.tuple hx
      have hlen := r.length
      exact truthy_tuple pl (by simp only [List.size_toArray]; omega) ⟨H, I.tok _, by rw [isEmpty_of r]; exact q⟩
    · subst e'
      obtain ⟨hz, hS, vs, r, m⟩ : kvs.length ≤ sizeLine ∧ (p == sysModules) = false ∧ ∃ vs, KV kvs vs ∧ s.heap.DictOf (mixKind X.prog X.w) p vs := I.hok p _ hx
      have hlen : kvs.length = vs.length := Paired.length r
      exact wpAny_truthy_dict hS m (by omega) ⟨H, I.tok _, by rw [isEmpty_kv r]; exact q⟩
  | _ => exact (show False from e).elim
theorem pt_truth (ha : PE X a ta) (he : ∀ whole, isTrue a X.env whole = (do let v ← whole; standAt a.pos; holding [v] (truthy v))) :
    PT X a (fun σ H Q => ta σ H fun x H' => ∃ k, TruV X.K x H' k ∧ Q k H') := by
  intro pins s σ H Q I h
  exact isTrue_plain (thn (ha pins s σ H _ I h) fun v s1 ⟨x, H1, I1, r1, q1⟩ => tru_ok pins s1 σ H1 x v Q I1 r1 q1) (he _)

theorem op_add_str : OpR X (binaryOp .Add) (fun x y H Q => ∃ i j, x = .str i ∧ y = .str j ∧ i.length + j.length ≤ sizeLine ∧ Q (.str (i ++ j)) H) := by
  intro pins s σ H x y v u Q I rx ry h
  obtain ⟨i, j, rfl, rfl, hz, q⟩ := h
  obtain ⟨t, rfl⟩ := rx
  obtain ⟨t', rfl⟩ := ry
  exact add_str (fun t' tk => ⟨.str (i ++ j), H, I.tok _, ⟨_, rfl⟩, q⟩) hz
theorem vals1 {x : V} {us : List Value} (r : Vals [x] us) : ∃ u, us = [u] ∧ RelV x u := by
  cases r with
  | cons r1 r2 => cases r2; exact ⟨_, rfl, r1⟩
theorem vals2 {x y : V} {us : List Value} (r : Vals [x, y] us) : ∃ u w', us = [u, w'] ∧ RelV x u ∧ RelV y w' := by
  cases r with
  | cons r1 r2 =>
    cases r2 with
    | cons r3 r4 => cases r4; exact ⟨_, _, rfl, r1, r3⟩
theorem call_max2 (hc : X.calm = true) : CallR X (.builtin "max") (fun xs H Q => ∃ i j, xs = [.int i, .int j] ∧ Q (.int (if j > i then j else i)) H) := by
  intro pins s σ H xs us Q I r h
  obtain ⟨i, j, rfl, q⟩ := h
  obtain ⟨u, w', rfl, ⟨t, rfl⟩, ⟨t', rfl⟩⟩ := vals2 r
  refine max_two_ints (I.ok.hd hc) fun h' tk k => ⟨_, H, I.kept k, ?_, q⟩
  by_cases hj : j > i
  · rw [if_pos hj, if_pos hj]; exact ⟨_, rfl⟩
  · rw [if_neg hj, if_neg hj]; exact ⟨_, rfl⟩
theorem call_min2 (hc : X.calm = true) : CallR X (.builtin "min") (fun xs H Q => ∃ i j, xs = [.int i, .int j] ∧ Q (.int (if j < i then j else i)) H) := by
  intro pins s σ H xs us Q I r h
  obtain ⟨i, j, rfl, q⟩ := h
  obtain ⟨u, w', rfl, ⟨t, rfl⟩, ⟨t', rfl⟩⟩ := vals2 r
  refine min_two_ints (I.ok.hd hc) fun h' tk k => ⟨_, H, I.kept k, ?_, q⟩
  by_cases hj : j < i
  · rw [if_pos hj, if_pos hj]; exact ⟨_, rfl⟩
  · rw [if_neg hj, if_neg hj]; exact ⟨_, rfl⟩
theorem call_int1 : CallR X (.type "int") (fun xs H Q => (∃ i, xs = [.int i] ∧ Q (.int i) H) ∨ ∃ k, xs = [.bl k] ∧ Q (.int (if k then 1 else 0)) H) := by
  intro pins s σ H xs us Q I r h
  rcases h with ⟨i, rfl, q⟩ | ⟨k, rfl, q⟩
  · obtain ⟨u, rfl, t, rfl⟩ := vals1 r
    exact call_int_int ⟨.int i, H, I, ⟨_, rfl⟩, q⟩
  · obtain ⟨u, rfl, r1⟩ := vals1 r
    cases r1
    exact call_int_bool ⟨.int (if k then 1 else 0), H, I.tok _, ⟨_, rfl⟩, q⟩
end
end L2
namespace L2
open PySem PySem.Spec PyProof.Rows
structure ObjM (h : Heap) (x dx C : Addr) (mA : Str → Option Value) : Prop where
  obj : h.get? x = some (PySem.W.instObj C dx)
  ns : h.Ns1 dx mA
  ne : dx ≠ x

theorem lookIn_ns {h : Heap} {dx : Addr} {mA : Str → Option Value} (n : h.Ns1 dx mA) : ∃ od, h.get? dx = some od ∧ ∀ name, PySem.W.lookIn name od = some (mA name) := by
  obtain ⟨o, es, ep, ho, hd, hk, _, hm⟩ := n
  refine ⟨o, ho, fun name => ?_⟩
  have e := hm name
  unfold nsFind findBy at e
  rw [← Array.find?_toList] at e
  unfold PySem.W.lookIn
  rw [hd]
  dsimp only
  split
  · rename_i y q
    rw [q] at e
    exact congrArg some e
  · rename_i q
    rw [q] at e
    have a : es.toList.any (·.refKey) = false := by
      rw [List.any_eq_false]
      intro y hy
      obtain ⟨z, t, hkey⟩ := hk y (Array.mem_toList_iff.mp hy)
      simp [DictEntry.refKey, hkey]
    have a' : ¬ es.toList.any (·.refKey) = true := by rw [a]; exact Bool.false_ne_true
    rw [if_neg a']
    exact congrArg some e

theorem ObjM.look {h : Heap} {x dx C : Addr} {mA : Str → Option Value} (I : ObjM h x dx C mA) : ∃ od, PySem.W.InstAt h x (PySem.W.instObj C dx) C (some od) ∧ ∀ name, PySem.W.lookIn name od = some (mA name) :=
  let ⟨od, ho, hl⟩ := lookIn_ns I.ns
  ⟨od, ⟨I.obj, rfl, rfl, ho⟩, hl⟩

section
variable {prog : Program} {w : World} {A : Around} {E : Value → Shared → Prop} {s : Shared} {K : PySem.W.Frag} {x dx C f : Addr} {mA : Str → Option Value} {name : Str} {v : Value}
end
section
variable {P : Program} {w : World} {H H' : Hp} {h h' : Heap} {a C dx : Addr} {fs fs' : List (Str × V)}
theorem ins_get (hok : HOk P w H h) (e : H a = some (.ins C dx fs)) : ∃ mA, ObjM h a dx C mA ∧ (∀ f, RelO (fs.lookup f) (mA f)) ∧ PySem.Within mA (fs.map (·.1)) ∧ fs.length ≤ 1000 ∧ H dx = some (.own a) := by
  obtain ⟨d, z, ne, ob, mA, n, r, q⟩ := (show ObjOk P w H h a (.ins C dx fs) from hok a _ e)
  exact ⟨mA, ⟨ob, n, ne⟩, r, q, z, d⟩
end
structure Cls (K : PySem.W.Frag) (C : Addr) : Prop where
  pg : PySem.W.plainGet K C Str.empty = true
  hd : PySem.W.hasDictIn K C = true
  po : PySem.W.plainOver K C = true
  sa : PySem.W.findIn K (.ref C) "__setattr__" = some (some (.builtin "object.__setattr__"))
theorem Cls.get {K : PySem.W.Frag} {C : Addr} (c : Cls K C) (f : Str) : PySem.W.plainGet K C f = true := c.pg
section
variable {X : Cx} {pins : List (Addr × Obj)} {σ : St} {H : Hp} {s : Shared} {a C dx : Addr} {fs : List (Str × V)} {f : Str} {v : V} {A : Around} {E : Value → Shared → Prop}
end
section
variable {X : Cx} {o e value : Expr} {f : Str} {pos pos' tpos : Pos} {ta tv : TE}
end
section
variable {X : Cx} {pins : List (Addr × Obj)} {σ : St} {H : Hp} {s : Shared} {A : Around} {E : Value → Shared → Prop} {Q : Value → Shared → Prop} {c : Value} {b : Bool}
inductive TyOf (K : PySem.W.Frag) (H : Hp) : V → Value → Prop where
  | non : TyOf K H .non (.type "NoneType")
  | bl (x : Bool) : TyOf K H (.bl x) (.type "bool")
  | int (i : Int) : TyOf K H (.int i) (.type "int")
  | str (x : Str) : TyOf K H (.str x) (.type "str")
  | flt (x : UInt64) : TyOf K H (.flt x) (.type "float")
  | lst {a : Addr} {xs : List V} (e : H a = some (.lst xs)) : TyOf K H (.ref a) (.type "list")
  | frz {a : Addr} {o : Obj} {xs : List V} (e : H a = some (.frz o (.lst xs))) : TyOf K H (.ref a) (.type "list")
  | tup {a : Addr} {xs : List V} (e : H a = some (.tup xs)) : TyOf K H (.ref a) (.type "tuple")
  | dK {a : Addr} {kvs : List (Key × V)} (e : H a = some (.dK kvs)) : TyOf K H (.ref a) (.type "dict")
  | dT {a : Addr} {kvs : List (List Key × V)} (e : H a = some (.dT kvs)) : TyOf K H (.ref a) (.type "dict")
  | ins {a C dx : Addr} {fs : List (Str × V)} (e : H a = some (.ins C dx fs)) (cl : Cls K C) (ha : PySem.W.findIn K (.ref C) "__class__" = some (some (.builtin "object.__class__")))
      (hn : PySem.W.specialIn K (.builtin "object.__class__") "__get__" = some (some (.builtin "getset_descriptor.__get__"))) (htk : PySem.W.takesIn K (.builtin "object.__class__") = some true)
      (hm : PySem.W.mroIn K C (.type "object") = some true) : TyOf K H (.ref a) (.ref C)
theorem isinst_ok {x : V} {u t : Value} (I : Inv X pins σ H s) (rx : RelV x u) (ty : TyOf X.K H x t) (e : PySem.W.kitOne X.K t c = some b) (h : ∀ tk, Q (.bool b) { s with toks := tk }) :
    wpAny (model X.prog X.w) A (call (.builtin "isinstance") [u, c]) Q E s := by
  cases ty with
  | non => cases (show u = Value.none from rx); exact PySem.W.kia_one PySem.W.kitx_none I.kIn True.intro e (fun z => nomatch z) h
  | bl y => cases (show u = Value.bool y from rx); exact PySem.W.kia_one PySem.W.kitx_bool I.kIn True.intro e (fun z => nomatch z) h
  | int i => obtain ⟨t, q⟩ := (show ∃ t, u = Value.int i t from rx); cases q; exact PySem.W.kia_one PySem.W.kitx_int I.kIn True.intro e (fun z => nomatch z) h
  | str y => obtain ⟨t, q⟩ := (show ∃ t, u = Value.str y t from rx); cases q; exact PySem.W.kia_one PySem.W.kitx_str I.kIn True.intro e (fun z => nomatch z) h
  | flt y => obtain ⟨t, q⟩ := (show ∃ t, u = Value.float y t from rx); cases q; exact PySem.W.kia_one PySem.W.kitx_float I.kIn True.intro e (fun z => nomatch z) h
  | @lst a xs ea =>
    cases (show u = Value.ref a from rx)
    obtain ⟨_, _, n, _, h1⟩ := (show ObjOk X.prog X.w H s.heap a (.lst xs) from I.hok a _ ea)
    exact PySem.W.kia_one PySem.W.kitx_list I.kIn ⟨_, h1, rfl⟩ e (fun z => nomatch z) h
  | @frz a ob xs ea =>
    cases (show u = Value.ref a from rx)
    obtain ⟨_, _, _, n, _, h1⟩ := (show ObjOk X.prog X.w H s.heap a (.frz ob (.lst xs)) from I.hok a _ ea)
    exact PySem.W.kia_one PySem.W.kitx_list I.kIn ⟨_, h1, rfl⟩ e (fun z => nomatch z) h
  | @tup a xs ea =>
    cases (show u = Value.ref a from rx)
    obtain ⟨_, _, _, p⟩ := (show ObjOk X.prog X.w H s.heap a (.tup xs) from I.hok a _ ea)
    obtain ⟨o, h1, h2, _⟩ := p
    exact PySem.W.kia_one PySem.W.kitx_tuple I.kIn ⟨o, h1, h2⟩ e (fun z => nomatch z) h
  | @dK a kvs ea =>
    cases (show u = Value.ref a from rx)
    obtain ⟨_, _, vs, _, p⟩ := (show ObjOk X.prog X.w H s.heap a (.dK kvs) from I.hok a _ ea)
    obtain ⟨o, es, ep, h1, h2, _⟩ := p
    exact PySem.W.kia_one PySem.W.kitx_dict I.kIn ⟨o, h1, h2.1⟩ e (fun z => nomatch z) h
  | @dT a kvs ea =>
    cases (show u = Value.ref a from rx)
    obtain ⟨_, _, xs, _, o, es, ep, h1, h2, _⟩ := (show ObjOk X.prog X.w H s.heap a (.dT kvs) from I.hok a _ ea)
    exact PySem.W.kia_one PySem.W.kitx_dict I.kIn ⟨o, h1, h2.1⟩ e (fun z => nomatch z) h
  | @ins a C dx fs ea cl ha hn htk hm =>
    cases (show u = Value.ref a from rx)
    obtain ⟨mA, O, _⟩ := ins_get I.hok ea
    obtain ⟨od, J, _⟩ := O.look
    exact PySem.W.kia_one (PySem.W.kitx_own (cl.get _) cl.hd ha hn htk hm) I.kIn J e (fun z => nomatch z) h
end
end L2
namespace L2
open PySem PySem.Spec PyProof.Rows
structure Room (k : Nat) (A : Around) : Prop where
  hd : A.handled = none
  dp : A.depth + 3 * k + 5 < recursionLimit
  un : A.units + 16 * k + 200 < cLine
theorem Room.mono {j k : Nat} {A : Around} (r : Room k A) (h : j ≤ k) : Room j A := ⟨r.hd, by have := r.dp; omega, by have := r.un; omega⟩
theorem Room.deeper {k : Nat} {A : Around} (r : Room (k + 1) A) (env : Env) : Room k (A.deeper env) :=
  ⟨r.hd, by have := r.dp; show A.depth + 1 + 3 * k + 5 < _; omega, by have := r.un; show A.units + 3 + 16 * k + 200 < _; omega⟩
theorem Room.depth {k : Nat} {A : Around} (r : Room k A) : A.depth < recursionLimit := by have := r.dp; omega
theorem Room.units {k : Nat} {A : Around} (r : Room k A) : A.units + 64 < cLine := by have := r.un; omega
def tNil : TA := fun _ H Q => Q [] H
def tCons (ta : TE) (tr : TA) : TA := fun σ H Q => ta σ H fun x H1 => tr σ H1 fun xs H2 => Q (x :: xs) H2
section
variable {X : Cx} {e : Expr} {es : List Expr} {te : TE} {t : TA} {pos : Pos}
theorem pa_nil : PA X [] tNil := fun _ _ _ _ H Q I h => Calls.spliced_nil ⟨[], H, I, .nil, h⟩
theorem pa_cons (ha : PE X e te) (hr : PA X es t) (hs : starEach (e :: es) X.env = (false, eval e X.env) :: starEach es X.env := by rfl) : PA X (e :: es) (tCons te t) := by
  intro pos pins s σ H Q I h
  rw [hs]
  show wpAny _ _ (spliced ((false, eval e X.env) :: backTo pos (starEach es X.env))) _ _ s
  refine Calls.spliced_cons (thn (ha pins s σ H _ I h) fun u s1 ⟨x, H1, I1, r1, q1⟩ => ?_)
  exact thn (hr pos pins s1 σ H1 _ I1 q1) fun us s2 ⟨xs, H2, I2, r2, q2⟩ => ⟨x :: xs, H2, I2, .cons r1 r2, q2⟩

def tTup (t : TA) : TE := fun σ H Q => t σ H fun xs H1 => xs.length ≤ sizeLine ∧ ∀ p, H1 p = none → Q (.ref p) (upd H1 p (.tup xs))
def tLst (t : TA) : TE := fun σ H Q => t σ H fun xs H1 => xs.length ≤ sizeLine ∧ ∀ p, H1 p = none → Q (.ref p) (upd H1 p (.lst xs))
theorem pe_tup {x1} (h : PA X es t) : PE X (.Tuple es x1 pos) (tTup t) := by
  intro pins s σ H Q I hq
  refine wpAny_Tuple_spliced (thn (h pos pins s σ H _ I hq) fun us s1 ⟨xs, H1, I1, r, z, q⟩ => ⟨by rw [← r.length]; exact z, ?_⟩)
  have hf : H1 s1.heap.objs.size = none := I1.hok.fresh (Nat.le_refl _)
  refine ⟨.ref s1.heap.objs.size, upd H1 s1.heap.objs.size (.tup xs), I1.laid (t' := s1.toks) (fun b u e => Heap.get?_push_of_some _ e) (Nat.le_refl _) ?_, rfl, q _ hf⟩
  exact ⟨z, us, r, ⟨_, Heap.get?_push_size _ rfl, rfl, _, rfl⟩⟩
theorem pe_lst (h : PA X es t) : PE X (.List es pos) (tLst t) := by
  intro pins s σ H Q I hq
  refine wpAny_List_spliced (thn (h pos pins s σ H _ I hq) fun us s1 ⟨xs, H1, I1, r, z, q⟩ => ⟨by rw [← r.length]; exact z, ?_⟩)
  have hf : H1 s1.heap.objs.size = none := I1.hok.fresh (Nat.le_refl _)
  refine ⟨.ref s1.heap.objs.size, upd H1 s1.heap.objs.size (.lst xs), I1.laid (t' := s1.toks) (fun b u e => Heap.get?_push_of_some _ e) (Nat.le_refl _) ?_, rfl, q _ hf⟩
  exact ⟨z, us, 0, r, Heap.get?_push_size _ rfl⟩
end
abbrev Sp := List V → Hp → VK → XK → Prop
abbrev CXT := List Env → Hp → Shared → XK → Value → Shared → Prop

structure Env0 (P : Program) (w : World) (K : PySem.W.Frag) (mg : Str → Option Value) (base : Heap) (A : Around) (outer : List Env) (s : Shared) (H : Hp) : Prop where
  frames : A.frames = some outer
  mod : Mod K mg base
  bs : ∀ b o, base.get? b = some o → s.heap.get? b = some o ∧ H b = none
  bsz : base.objs.size ≤ s.heap.objs.size
  funs : s.heap.FunFrames base outer
  frf : ∀ b ∈ frs outer, H b = none
  hok : HOk P w H s.heap
  bare : AllBare s.gens
def CE (outer : List Env) (P : Program) (w : World) (H : Hp) (s : Shared) (Q : VK) (u : Value) (s' : Shared) : Prop :=
  ∃ v H', s'.os = s.os ∧ AllBare s'.gens ∧ Un (frs outer) [] H H' s.heap s'.heap ∧ HOk P w H' s'.heap ∧ RelV v u ∧ Q v H'
def CR (CX : CXT) (outer : List Env) (P : Program) (w : World) (H : Hp) (s : Shared) (Q : VK) (E : XK) (r : Result) (s' : Shared) : Prop :=
  match r with
  | .ok (.ret u) => CE outer P w H s Q u s'
  | .ok _ => False
  | .error e => CX outer H s E e s'
structure FnOk (P : Program) (w : World) (K : PySem.W.Frag) (mg : Str → Option Value) (base : Heap) (CX : CXT) (k : Nat) (f : Addr) (fd : FuncData) (ps : List Str) (sp : Sp) : Prop where
  len : ∀ vs H Q E, sp vs H Q E → vs.length = ps.length
  run : ∀ (A : Around) (outer : List Env) (s : Shared) (H : Hp) (args : Args) (us : List Value) (vs : List V) (Q : VK) (E : XK), Room k A → Env0 P w K mg base A outer s H → BindsTo s fd args (ps.zip us) → Vals vs us → sp vs H Q E →
    codeAny (model P w) A (.call (.ref f) args) (CR CX outer P w H s Q E) s
theorem FnOk.mono {P : Program} {w : World} {K : PySem.W.Frag} {mg : Str → Option Value} {base : Heap} {CX : CXT} {j k : Nat} {f : Addr} {fd : FuncData} {ps : List Str} {sp : Sp} (F : FnOk P w K mg base CX j f fd ps sp) (h : j ≤ k) :
    FnOk P w K mg base CX k f fd ps sp := ⟨F.len, fun A outer s H args us vs Q E hr => F.run A outer s H args us vs Q E (hr.mono h)⟩
theorem FnOk.imp {P : Program} {w : World} {K : PySem.W.Frag} {mg : Str → Option Value} {base : Heap} {CX : CXT} {k : Nat} {f : Addr} {fd : FuncData} {ps : List Str} {sp sp' : Sp} (F : FnOk P w K mg base CX k f fd ps sp)
    (h : ∀ vs H Q E, sp' vs H Q E → sp vs H Q E) : FnOk P w K mg base CX k f fd ps sp' :=
  ⟨fun vs H Q E q => F.len vs H Q E (h _ _ _ _ q), fun A outer s H args us vs Q E hr he hb hv hs => F.run A outer s H args us vs Q E hr he hb hv (h _ _ _ _ hs)⟩

section
variable {X : Cx} {pins : List (Addr × Obj)} {σ : St} {H : Hp} {s s' : Shared}
theorem Inv.env0 (I : Inv X pins σ H s) : Env0 X.prog X.w X.K X.mg X.base X.A X.stack s H :=
  ⟨I.ok.frames, I.ok.mod, I.bs, Nat.le_trans I.ok.bsz I.sz, I.stack, I.stkFree, I.hok, I.bare⟩
theorem Inv.after {Q : VK} {u : Value} (I : Inv X pins σ H s) (h : CE X.stack X.prog X.w H s Q u s') : EP X pins σ Q u s' := by
  obtain ⟨v, H', os, bare, un, hok, r, q⟩ := h
  obtain ⟨hh, g, d, t, os'⟩ := s'
  obtain rfl : os' = s.os := os
  exact ⟨v, H', I.call (h' := hh) (g' := g) (d' := d) (t' := t) (ch := []) un hok bare (fun b z => absurd z (by simp)), r, q⟩
end
def tCall (sp : Sp) (dvs : List V) (E : XK) (t : TA) : TE := fun σ H Q => t σ H fun vs H1 => sp (vs ++ dvs) H1 Q E
def Binds (K : PySem.W.Frag) (fd : FuncData) (ps : List Str) (ds : List Value) : Prop :=
  ∀ (s : Shared) (us : List Value), K.In s.heap → (us ++ ds).length = ps.length → BindsTo s fd ⟨us, []⟩ (ps.zip (us ++ ds))
theorem Binds.all {K : PySem.W.Frag} {fd : FuncData} {ps : List Str} (h : ∀ us : List Value, us.length = ps.length → bindArgs fd ⟨us, []⟩ = pure (ps.zip us)) : Binds K fd ps [] := fun s us _ hl => by
  rw [List.append_nil] at hl ⊢
  exact .of_eq (h us hl)

def Passes (CX : CXT) (X : Cx) (E : XK) : Prop := ∀ (pins : List (Addr × Obj)) (σ : St) (H : Hp) (s : Shared) (e : Value) (s' : Shared), Inv X pins σ H s → CX X.stack H s E e s' → X.xe e s'

section
variable {X : Cx} {CX : CXT} {k : Nat} {f C : Addr} {fd : FuncData} {ps : List Str} {sp : Sp} {dvs : List V} {ds : List Value} {E : XK} {x m : Str} {p pos apos : Pos} {e o : Expr} {es : List Expr} {ta : TE} {t : TA}
theorem run_fn {pins : List (Addr × Obj)} {σ : St} {H : Hp} {s : Shared} {Q : VK} {us : List Value} {vs : List V} (F : FnOk X.prog X.w X.K X.mg X.base CX k f fd ps sp) (hr : Room k X.A) (hb : Binds X.K fd ps ds) (hd : Vals dvs ds) (hx : Passes CX X E)
    (I : Inv X pins σ H s) (r : Vals vs us) (h : sp (vs ++ dvs) H Q E) : wpAny (model X.prog X.w) X.A (call (.ref f) us) (EP X pins σ Q) X.xe s := by
  have r2 : Vals (vs ++ dvs) (us ++ ds) := r.append hd
  have hl : (us ++ ds).length = ps.length := by rw [← r2.length]; exact F.len _ _ _ _ h
  refine wpAny_call (codeAny_mono (F.run X.A X.stack s H ⟨us, []⟩ (us ++ ds) (vs ++ dvs) Q E hr I.env0 (hb s us I.kIn hl) r2 h) fun r s' hq => ?_)
  cases r with
  | error e => exact hx pins σ H s e s' I hq
  | ok fl =>
    cases fl with
    | ret u => exact I.after hq
    | next => exact False.elim hq
    | brk => exact False.elim hq
    | cont => exact False.elim hq

theorem pe_call (F : FnOk X.prog X.w X.K X.mg X.base CX k f fd ps sp) (hr : Room k X.A) (hg : Gl X x) (hm : X.mg x = some (.ref f)) (hk : PySem.W.keepIn X.K (.ref f) = true) (hb : Binds X.K fd ps ds) (hd : Vals dvs ds) (hx : Passes CX X E)
    (ha : PA X (e :: es) t) (hdb : (x == ("__debug__" : Str)) = false := by decide) (he : starEach (e :: es) X.env = (false, eval e X.env) :: starEach es X.env := by rfl) (hpl : (backTo pos (starEach es X.env)).any (·.1) = false := by rfl) :
    PE X (.Call (.Name x p) (e :: es) [] pos) (tCall sp dvs E t) := by
  intro pins s σ H Q I h
  refine wpAny_Call_Name_kw (ld_glob I hg hm ?_ hdb)
  refine PySem.W.callWith_K (h₀ := X.base) I.ok.mod.kin hk (thn (ha pos pins s σ H _ I h) fun us s1 ⟨vs, H1, I1, r, q⟩ => ⟨I1.kIn, ?_⟩) he hpl
  exact run_fn F hr hb hd hx I1 r q
theorem pe_call0 (F : FnOk X.prog X.w X.K X.mg X.base CX k f fd ps sp) (hr : Room k X.A) (hg : Gl X x) (hm : X.mg x = some (.ref f)) (hk : PySem.W.keepIn X.K (.ref f) = true) (hb : Binds X.K fd ps ds) (hd : Vals dvs ds) (hx : Passes CX X E)
    (hdb : (x == ("__debug__" : Str)) = false := by decide) : PE X (.Call (.Name x p) [] [] pos) (tCall sp dvs E tNil) := by
  intro pins s σ H Q I h
  refine wpAny_Call_Name_kw (ld_glob I hg hm ?_ hdb)
  exact PySem.W.callWith_K0 I.kIn hk (run_fn (us := []) F hr hb hd hx I .nil h)

end
section
variable {X : Cx} {CX : CXT} {k : Nat} {f C : Addr} {fd : FuncData} {ps ks : List Str} {sp : Sp} {E : XK} {x m : Str} {p pos apos kpos : Pos} {e o : Expr} {es : List Expr} {kws : List Keyword} {te ta : TE} {t tk : TA} {nm : Option Str}
variable {g : List Value → List Value → List Value} {gV : List V → List V → List V}
end
structure FnScope (N P : List Str) (sc : Scope) : Prop where
  kind : sc.kind = .function
  co : sc.isCoroutine = false
  gen : sc.isGenerator = false
  nd : N.Nodup
  pre : N.take P.length = P
  par : ∀ x ∈ P, sc.names.lookup x = some .local ∨ sc.names.lookup x = some .cell
  nofree : ∀ y ∈ sc.names, y.2 ≠ .free

theorem bindL_out {kindOf : Str → Option NameKind} {x : Str} : ∀ {binds : List (Str × Value)} {m : Str → Option Value}, (∀ v, (x, v) ∉ binds) → bindL kindOf binds m x = m x
  | [], _, _ => rfl
  | (n, v) :: r, m, h => by
    unfold bindL
    rw [bindL_out fun w hw => h w (List.mem_cons_of_mem _ hw)]
    split
    · have : x ≠ n := by rintro rfl; exact h v List.mem_cons_self
      simp [this]
    · rfl
theorem bindC_out {kindOf : Str → Option NameKind} {x : Str} : ∀ {binds : List (Str × Value)} {m : Str → Option Value}, (∀ v, (x, v) ∉ binds) → bindC kindOf binds m x = m x
  | [], _, _ => rfl
  | (n, v) :: r, m, h => by
    unfold bindC
    rw [bindC_out fun w hw => h w (List.mem_cons_of_mem _ hw)]
    split
    · rfl
    · have : x ≠ n := by rintro rfl; exact h v List.mem_cons_self
      simp [this]
theorem bindL_get {kindOf : Str → Option NameKind} {x : Str} {v : Value} : ∀ {P : List Str} {vs : List Value} {i : Nat} {m : Str → Option Value}, P.Nodup → P[i]? = some x → vs[i]? = some v → kindOf x = some .local →
    bindL kindOf (P.zip vs) m x = some v
  | [], _, _, _, _, h, _, _ => by simp at h
  | _ :: _, [], _, _, _, _, h, _ => by simp at h
  | p :: P, w :: vs, 0, m, nd, h1, h2, hk => by
    simp at h1 h2; subst h1; subst h2
    show bindL kindOf ((p, w) :: P.zip vs) m p = _
    unfold bindL
    rw [bindL_out fun v hv => (List.nodup_cons.mp nd).1 (List.of_mem_zip hv).1, if_pos hk]
    simp
  | p :: P, w :: vs, i + 1, m, nd, h1, h2, hk => by
    show bindL kindOf ((p, w) :: P.zip vs) m x = _
    unfold bindL
    exact bindL_get (i := i) (List.nodup_cons.mp nd).2 (by simpa using h1) (by simpa using h2) hk
theorem bindC_get {kindOf : Str → Option NameKind} {x : Str} {v : Value} : ∀ {P : List Str} {vs : List Value} {i : Nat} {m : Str → Option Value}, P.Nodup → P[i]? = some x → vs[i]? = some v → kindOf x ≠ some .local →
    bindC kindOf (P.zip vs) m x = some v
  | [], _, _, _, _, h, _, _ => by simp at h
  | _ :: _, [], _, _, _, _, h, _ => by simp at h
  | p :: P, w :: vs, 0, m, nd, h1, h2, hk => by
    simp at h1 h2; subst h1; subst h2
    show bindC kindOf ((p, w) :: P.zip vs) m p = _
    unfold bindC
    rw [bindC_out fun v hv => (List.nodup_cons.mp nd).1 (List.of_mem_zip hv).1, if_neg hk]
    simp
  | p :: P, w :: vs, i + 1, m, nd, h1, h2, hk => by
    show bindC kindOf ((p, w) :: P.zip vs) m x = _
    unfold bindC
    exact bindC_get (i := i) (List.nodup_cons.mp nd).2 (by simpa using h1) (by simpa using h2) hk

def start (N : List Str) (vs : List V) : St := vs.map some ++ List.replicate (N.length - vs.length) none

def cxOf (CX : CXT) (P : Program) (w : World) (K : PySem.W.Frag) (mg : Str → Option Value) (base : Heap) (N : List Str) (qual : Str) (scope : Scope) (f : Addr) (cd : Value) (A : Around) (outer : List Env) (s : Shared) (H : Hp) (E : XK) : Cx where
  prog := P
  w := w
  K := K
  mg := mg
  base := base
  A := A.deeper (envOfC qual scope s.heap.objs.size f cd)
  N := N
  s₀ := s
  H₀ := H
  env := envOfC qual scope s.heap.objs.size f cd
  outer := outer
  stack := envOfC qual scope s.heap.objs.size f cd :: outer
  ex := []
  calm := true
  fn := fun _ => true
  pn := []
  xe := fun e s' => wpAny (model P w) (A.deeper (envOfC qual scope s.heap.objs.size f cd)) (leaving (envOfC qual scope s.heap.objs.size f cd) e) (fun _ s'' => CX outer H s E e s'') (fun e' s'' => CX outer H s E e' s'') s'

theorem cell_has {sc : Scope} {n : Nat} {x : Str} (h : sc.names.lookup x = some .cell) : ∃ c, (cellsFrom n sc.names []).lookup x = some c := by
  have q := PySem.W.cellsFrom_some sc.names n [] (.inl h)
  exact Option.isSome_iff_exists.mp q

theorem inv_start {CX : CXT} {P : Program} {w : World} {K : PySem.W.Frag} {mg : Str → Option Value} {base : Heap} {N ps : List Str} {qual : Str} {scope : Scope} {f : Addr} {cd : Value} {A : Around} {outer : List Env} {s s1 : Shared} {H : Hp} {E : XK} {us : List Value} {vs : List V}
    (S : FnScope N ps scope) (hd : A.handled = none) (e0 : Env0 P w K mg base A outer s H) (hl : vs.length = ps.length) (r : Vals vs us)
    (x : InCallC s s.heap.objs.size (bindL (envOfC qual scope s.heap.objs.size f cd).kindOf (ps.zip us) fun _ => none) (cellsFrom (s.heap.objs.size + 1) scope.names []) (bindC (envOfC qual scope s.heap.objs.size f cd).kindOf (ps.zip us) fun _ => none) s1) :
    Inv (cxOf CX P w K mg base N qual scope f cd A outer s H E) [] (start N vs) H s1 := by
  have hpl : ps.length ≤ N.length := by have := congrArg List.length S.pre; rw [List.length_take] at this; omega
  obtain ⟨h1, tk, rfl, hk⟩ := x.done
  have noA : ∀ b : Addr, b ∉ (cxOf CX P w K mg base N qual scope f cd A outer s H E).ex := fun b z => absurd (show b ∈ ([] : List Addr) from z) (by simp)
  refine ⟨⟨e0.mod, S.kind, rfl, rfl, Nat.le_refl _, fun y z c h1 h2 => ?_, fun y hy => ?_, fun y c _ h => ?_, fun _ => hd, Around.frames_deeper e0.frames, .inr ⟨rfl, rfl⟩, fun b z => absurd z (noA b), e0.bs, e0.bsz, fun b _ _ => noA b, fun b z => absurd z (noA b), e0.funs, e0.frf⟩,
    rfl, e0.bare, Un.kept hk, ⟨_, x.toInCall.ns, fun i y v h1 h2 h3 => ?_⟩, fun y c h => ⟨_, x.cell y c h⟩, e0.hok.fresh (Nat.le_refl _), fun y c h => ?_, fun p hp => absurd (show p ∈ ([] : List (Addr × Obj)) from hp) (by simp), e0.hok.kept hk, ?_⟩
  · exact name_of_addr x.apart (PySem.mem_of_lookup h1) (PySem.mem_of_lookup h2)
  · have hy : scope.names.lookup y = some .cell ∨ scope.names.lookup y = some .free := hy
    rcases hy with hy | hy
    · exact cell_has hy
    · exact absurd rfl (S.nofree _ (PySem.mem_of_lookup hy))
  · exact Nat.le_of_lt (x.above y c (PySem.mem_of_lookup h))
  · have hi : i < vs.length := by
      unfold start at h2
      by_cases hi : i < vs.length
      · exact hi
      · rw [List.getElem?_append_right (by simpa using hi)] at h2
        rw [List.getElem?_replicate] at h2
        split at h2 <;> cases h2
    have ha : vs[i]? = some v := by
      unfold start at h2
      rw [List.getElem?_append_left (by simpa using hi), List.getElem?_map] at h2
      cases e : vs[i]? with
      | none => rw [e] at h2; cases h2
      | some a => rw [e] at h2; cases h2; rfl
    obtain ⟨u, hu, rv⟩ := r.get ha
    have hp : ps[i]? = some y := by
      rw [← S.pre, List.getElem?_take_of_lt (by omega)]; exact h1
    have ndP : ps.Nodup := by rw [← S.pre]; exact S.nd.sublist (List.take_sublist _ _)
    refine ⟨u, rv, ?_⟩
    rcases S.par y (List.mem_of_getElem? hp) with k | k
    · exact .inl ⟨k, bindL_get ndP hp hu k⟩
    · obtain ⟨c, e⟩ := cell_has (n := s.heap.objs.size + 1) k
      refine .inr ⟨.inl k, c, e, ?_⟩
      have q := x.cell y c e
      rw [bindC_get ndP hp hu (by show scope.names.lookup y ≠ _; rw [k]; decide)] at q
      exact q
  · exact e0.hok.fresh (Nat.le_of_lt (x.above y c (PySem.mem_of_lookup h)))
  · unfold start
    show _ = N.length
    rw [List.length_append, List.length_map, List.length_replicate]
    omega

theorem fn_of {CX : CXT} {P : Program} {w : World} {K : PySem.W.Frag} {mg : Str → Option Value} {base : Heap} {k : Nat} {f : Addr} {name qual : Str} {params : Arguments} {body : List Stmt} {scope : Scope} {dV kV doc pm cdv ct oc : Value} {an od : Option Addr}
    {osl : Array (Option Value)} {N ps : List Str} {sp : Sp} (lk : K.lookup f = some ⟨oc, od, .func (PySem.W.fnOf name qual params body scope dV kV doc pm an cdv ct), osl⟩) (hcd : PySem.W.codeIn K cdv qual = true) (S : FnScope N ps scope)
    (len : ∀ vs H Q E, sp vs H Q E → vs.length = ps.length)
    (hbody : ∀ (A : Around) (outer : List Env) (s : Shared) (H : Hp) (vs : List V) (Q : VK) (E : XK), Room k (A.deeper (envOfC qual scope s.heap.objs.size f cdv)) → sp vs H Q E →
      ∃ t, PSs (cxOf CX P w K mg base N qual scope f cdv A outer s H E) body t ∧ t { nx := fun _ H' => Q .non H', rt := Q } (start N vs) H) :
    FnOk P w K mg base CX (k + 1) f (PySem.W.fnOf name qual params body scope dV kV doc pm an cdv ct) ps sp := by
  refine ⟨len, fun A outer s H args us vs Q E hr e0 hb r hsp => ?_⟩
  have hl := len _ _ _ _ hsp
  have KX : K.In s.heap := e0.mod.kin.keeps fun b o e => (e0.bs b o e).1
  have lim : s.heap.NoLimit := e0.mod.nolimit.keeps fun b o e => (e0.bs b o e).1
  have hkind : ∀ y ∈ ps.zip us, scope.names.lookup y.1 = some .local ∨ (scope.names.lookup y.1 = some .cell ∧ ((cellsFrom (s.heap.objs.size + 1) scope.names []).lookup y.1).isSome = true) := fun ⟨n, v⟩ hy => by
    rcases S.par n (List.of_mem_zip hy).1 with q | q
    · exact .inl q
    · exact .inr ⟨q, PySem.W.cellsFrom_some _ _ _ (.inl q)⟩
  refine codeAny_call_function hr.depth (KX _ _ lk) rfl S.co S.gen rfl (PySem.W.codeRec_of KX hcd) (hb _ _ _ _ ?_)
  refine wpAny_newFunctionEnv_cells S.kind hkind fun env he s1 x => ?_
  subst he
  refine ⟨lim.keeps x.toInCall.keep, codeAny_func ?_⟩
  obtain ⟨t, ht, hq⟩ := hbody A outer s H vs Q E (hr.deeper _) hsp
  have I : Inv (cxOf CX P w K mg base N qual scope f cdv A outer s H E) [] (start N vs) H s1 := inv_start S hr.hd e0 hl r x
  refine wpAny_mono (ht [] s1 (start N vs) H _ I hq) (fun fl s' hs => ?_) fun e s' hs => hs
  have fin : ∀ {σ' : St} {H' : Hp} {v : V} {u : Value}, Inv (cxOf CX P w K mg base N qual scope f cdv A outer s H E) [] σ' H' s' → RelV v u → Q v H' → CE outer P w H s Q u s' :=
    fun {σ' H' v u} J rv q => ⟨v, H', J.os, J.bare, J.base, J.hok, rv, q⟩
  cases fl with
  | ret u =>
    obtain ⟨v, σ', H', J, rv, q⟩ := hs
    exact fin J rv q
  | next =>
    obtain ⟨σ', H', J, q⟩ := hs
    exact fin (v := V.non) (u := Value.none) J rfl q
  | brk =>
    obtain ⟨_, _, _, q⟩ := hs
    exact False.elim q
  | cont =>
    obtain ⟨_, _, _, q⟩ := hs
    exact False.elim q
end L2
namespace L2
open PySem PySem.Spec PyProof.Rows
section
variable {X : Cx} {x : Str} {p pos : Pos} {e : Expr} {es : List Expr} {t : TA} {id T : String} {r : List V → Hp → VK → Prop}
def tCB (r : List V → Hp → VK → Prop) (t : TA) : TE := fun σ H Q => t σ H fun vs H1 => r vs H1 Q
theorem pe_callB (hc : CallR X (.builtin id) r) (hg : Gl X x) (hm : X.mg x = none) (hv : bootBuiltins x = some (.builtin id)) (ha : PA X (e :: es) t) (hn : x ≠ "__name__" := by decide) (hdb : (x == ("__debug__" : Str)) = false := by decide)
    (he : starEach (e :: es) X.env = (false, eval e X.env) :: starEach es X.env := by rfl) (hpl : (backTo pos (starEach es X.env)).any (·.1) = false := by rfl) : PE X (.Call (.Name x p) (e :: es) [] pos) (tCB r t) := by
  intro pins s σ H Q I h
  refine wpAny_Call_Name_kw (ld_blt I hg hm hv ?_ hn hdb)
  exact PyProof.Rows.callWith_builtin1 (thn (ha pos pins s σ H _ I h) fun us s1 ⟨vs, H1, I1, r1, q1⟩ => hc pins s1 σ H1 vs us Q I1 r1 q1) he hpl
theorem pe_callTy (hc : CallR X (.type T) r) (hg : Gl X x) (hm : X.mg x = none) (hv : bootBuiltins x = some (.type T)) (ha : PA X (e :: es) t) (hn : x ≠ "__name__" := by decide) (hdb : (x == ("__debug__" : Str)) = false := by decide)
    (he : starEach (e :: es) X.env = (false, eval e X.env) :: starEach es X.env := by rfl) (hpl : (backTo pos (starEach es X.env)).any (·.1) = false := by rfl) : PE X (.Call (.Name x p) (e :: es) [] pos) (tCB r t) := by
  intro pins s σ H Q I h
  refine wpAny_Call_Name_kw (ld_blt I hg hm hv ?_ hn hdb)
  exact PyProof.Rows.callWith_type1 (thn (ha pos pins s σ H _ I h) fun us s1 ⟨vs, H1, I1, r1, q1⟩ => hc pins s1 σ H1 vs us Q I1 r1 q1) he hpl
end
end L2
namespace HT
open PySem PyProof.Rows
section
open PySem.SeqAt
open PySem.AutoSeq1 (wpAny_loadPart')
open PySem.MeetsSeq PySem.MeetsSeq2 PySem.MeetsSeq3
end
section
variable {prog : Program} {w : World} {A : Around} {E : Value → Shared → Prop} {s : Shared}
def sIx (n d : Nat) : Option Int → Nat
  | none => d
  | some v => if v < 0 then (v + (n : Int)).toNat else min v.toNat n
theorem sIx_nat (n d k : Nat) : sIx n d (some (k : Int)) = min k n := by
  show (if (k : Int) < 0 then ((k : Int) + (n : Int)).toNat else min (k : Int).toNat n) = min k n
  rw [if_neg (by omega), Int.toNat_natCast]
end
end HT
namespace L2
open PySem PySem.Spec PyProof.Rows
abbrev TO := St → Hp → (Option Int → Hp → Prop) → Prop
def PO (X : Cx) (e : Option Expr) (t : TO) : Prop :=
  ∀ (pins : List (Addr × Obj)) (s : Shared) (σ : St) (H : Hp) (Q : Option Int → Hp → Prop), Inv X pins σ H s → t σ H Q →
    wpAny (model X.prog X.w) X.A (evalPart e X.env) (fun u s' => ∃ o H', Inv X pins σ H' s' ∧ IsPart u o ∧ Q o H') X.xe s
def tNoPart : TO := fun _ H Q => Q none H
def tPart (t : TE) : TO := fun σ H Q => t σ H fun x H1 => ∃ i, x = .int i ∧ Q (some i) H1

section
variable {X : Cx} {e : Expr} {te : TE} {lo hi : Option Expr} {tl th : TO} {pos p2 : Pos}
theorem po_none : PO X none tNoPart := by
  intro pins s σ H Q I h
  rw [evalPart_none]
  exact wpAny_pure ⟨none, H, I, .none, h⟩
theorem po_some (h : PE X e te) : PO X (some e) (tPart te) := by
  intro pins s σ H Q I hw
  rw [evalPart_some]
  refine thn (h pins s σ H _ I hw) fun u s1 ⟨x, H1, I1, r1, q1⟩ => ?_
  obtain ⟨i, rfl, q⟩ := q1
  obtain ⟨t, rfl⟩ := r1
  exact ⟨some i, H1, I1, .int i t, q⟩

def SlR (X : Cx) (r : V → Option Int → Option Int → Hp → VK → Prop) : Prop :=
  ∀ (pins : List (Addr × Obj)) (s : Shared) (σ : St) (H : Hp) (x : V) (v vl vu : Value) (lo hi : Option Int) (sl : Addr) (Q : VK), Inv X pins σ H s → RelV x v → s.heap.IsSliceOf sl vl vu .none → IsPart vl lo → IsPart vu hi → r x lo hi H Q →
    ∃ T id, typeLookup (.type T) "__getitem__" = pure (some (.builtin id)) ∧ s.TypeIs v T ∧ wpAny (model X.prog X.w) X.A (getItem v (.ref sl)) (EP X pins σ Q) X.xe s
theorem SlR.or {r r' : V → Option Int → Option Int → Hp → VK → Prop} (h : SlR X r) (h' : SlR X r') : SlR X (fun x lo hi H Q => r x lo hi H Q ∨ r' x lo hi H Q) := by
  intro pins s σ H x v vl vu lo hi sl Q I rx hs pl pu q
  rcases q with q | q
  · exact h pins s σ H x v vl vu lo hi sl Q I rx hs pl pu q
  · exact h' pins s σ H x v vl vu lo hi sl Q I rx hs pl pu q
def tSl (r : V → Option Int → Option Int → Hp → VK → Prop) (te : TE) (tl th : TO) : TE := fun σ H Q => te σ H fun x H1 => tl σ H1 fun l H2 => th σ H2 fun u H3 => r x l u H3 Q
theorem pe_slice {r : V → Option Int → Option Int → Hp → VK → Prop} (hr : SlR X r) (he : PE X e te) (hl : PO X lo tl) (hu : PO X hi th) : PE X (.Subscript e (.Slice lo hi none p2) pos) (tSl r te tl th) := by
  intro pins s σ H Q I h
  refine Subscript_ (thn (he pins s σ H _ I h) fun v s1 ⟨x, H1, I1, r1, q1⟩ => ?_)
  refine wpAny_Slice (thn (hl pins s1 σ H1 _ I1 q1) fun vl s2 ⟨l, H2, I2, pl, q2⟩ => thn (hu pins s2 σ H2 _ I2 q2) fun vu s3 ⟨u, H3, I3, pu, q3⟩ => ?_)
  rw [evalPart_none]
  refine wpAny_pure ?_
  have I4 : Inv X pins σ H3 { s3 with heap := s3.heap.push { cls := .type "slice", data := .fields #[vl, vu, .none] } } := I3.kept (t' := s3.toks) fun b ob q => Heap.get?_push_of_some _ q
  obtain ⟨T, id, hT, ht, hg⟩ := hr pins { s3 with heap := s3.heap.push { cls := .type "slice", data := .fields #[vl, vu, .none] } } σ H3 x v vl vu l u s3.heap.objs.size Q I4 r1 (Heap.IsSliceOf.new ..) pl pu q3
  show wpAny (model X.prog X.w) X.A (subscriptTail e (.Slice lo hi none p2) v (.ref s3.heap.objs.size)) (EP X pins σ Q) X.xe { s3 with heap := s3.heap.push { cls := .type "slice", data := .fields #[vl, vu, .none] } }
  exact tail_any (ops := [.ref s3.heap.objs.size, v]) ht hT hg (by with_unfolding_all rfl)

def cutV (xs : List V) (lo hi : Option Int) : List V := (xs.drop (HT.sIx xs.length 0 lo)).take (HT.sIx xs.length xs.length hi - HT.sIx xs.length 0 lo)
theorem cutV_length (xs : List V) (lo hi : Option Int) : (cutV xs lo hi).length ≤ xs.length := by
  unfold cutV
  rw [List.length_take, List.length_drop]
  omega
end
end L2
namespace L2
open PySem PySem.Spec PyProof.Rows
def ixN (n : Nat) (i : Int) : Option Nat := if 0 ≤ i then (if i < n then some i.toNat else none) else if -(n : Int) ≤ i then some (i + n).toNat else none
def atI {α : Type} (xs : List α) (i : Int) : Option α := (ixN xs.length i).bind fun j => xs[j]?
theorem ixN_seq {n : Nat} {i : Int} {j : Nat} (h : ixN n i = some j) : seqIndex? i n = some j ∧ j < n ∧ -(n : Int) ≤ i ∧ i < n := by
  unfold ixN at h
  by_cases h0 : 0 ≤ i
  · rw [if_pos h0] at h
    by_cases h1 : i < n
    · rw [if_pos h1] at h
      have e : i.toNat = j := Option.some.inj h
      exact ⟨by rw [seqIndex_of h0 h1, e], by omega, by omega, h1⟩
    · rw [if_neg h1] at h; cases h
  · rw [if_neg h0] at h
    by_cases h1 : -(n : Int) ≤ i
    · rw [if_pos h1] at h
      have e : (i + n).toNat = j := Option.some.inj h
      exact ⟨by rw [seqIndex_neg (by omega) h1, e], by omega, h1, by omega⟩
    · rw [if_neg h1] at h; cases h
theorem atI_get {α : Type} {xs : List α} {i : Int} {v : α} (h : atI xs i = some v) : ∃ j, seqIndex? i xs.length = some j ∧ xs[j]? = some v ∧ j < xs.length ∧ -(xs.length : Int) ≤ i ∧ i < xs.length := by
  unfold atI at h
  cases e : ixN xs.length i with
  | none => rw [e] at h; cases h
  | some j =>
    rw [e] at h
    obtain ⟨h1, h2, h3, h4⟩ := ixN_seq e
    exact ⟨j, h1, h, h2, h3, h4⟩
theorem atI_nat {α : Type} {xs : List α} {j : Nat} {v : α} (h : xs[j]? = some v) : atI xs (j : Int) = some v := by
  have hj : j < xs.length := (List.getElem?_eq_some_iff.mp h).1
  have e : ixN xs.length (j : Int) = some j := by
    unfold ixN
    rw [if_pos (by omega), if_pos (by omega)]; simp
  unfold atI; rw [e]; exact h
theorem atI_last {α : Type} (xs : List α) (v : α) : atI (xs ++ [v]) (-1) = some v := by
  have hl : (xs ++ [v]).length = xs.length + 1 := by simp
  have e : ixN (xs ++ [v]).length (-1) = some xs.length := by
    unfold ixN
    rw [hl, if_neg (by decide), if_pos (by omega)]
    congr 1
    omega
  unfold atI
  rw [e]
  show (xs ++ [v])[xs.length]? = some v
  simp

def PlainIx (b : Expr) : Prop := ∀ o i, subscripted b false o i = operate [o, i] (getItem o i)
def IxR (X : Cx) (r : R2) : Prop :=
  ∀ (value slice : Expr) (pins : List (Addr × Obj)) (s : Shared) (σ : St) (H : Hp) (x y : V) (v u : Value) (Q : VK), Inv X pins σ H s → RelV x v → RelV y u → r x y H Q →
    subscripted slice false v u = operate [v, u] (getItem v u) → wpAny (model X.prog X.w) X.A (subscriptTail value slice v u) (EP X pins σ Q) X.xe s
def MtR (X : Cx) (id : String) (r : V → List V → Hp → VK → Prop) : Prop :=
  ∀ (pins : List (Addr × Obj)) (s : Shared) (σ : St) (H : Hp) (x : V) (xs : List V) (v : Value) (us : List Value) (Q : VK), Inv X pins σ H s → RelV x v → Vals xs us → r x xs H Q →
    wpAny (model X.prog X.w) X.A (call (.builtin id) (v :: us)) (EP X pins σ Q) X.xe s
section
variable {X : Cx} {a b : Expr} {ta tb : TE} {pos : Pos}
theorem IxR.or {r r' : R2} (h : IxR X r) (h' : IxR X r') : IxR X (fun x y H Q => r x y H Q ∨ r' x y H Q) := by
  intro value slice pins s σ H x y v u Q I rx ry q hs
  rcases q with q | q
  · exact h value slice pins s σ H x y v u Q I rx ry q hs
  · exact h' value slice pins s σ H x y v u Q I rx ry q hs
theorem MtR.or {id : String} {r r' : V → List V → Hp → VK → Prop} (h : MtR X id r) (h' : MtR X id r') : MtR X id (fun x xs H Q => r x xs H Q ∨ r' x xs H Q) := by
  intro pins s σ H x xs v us Q I rx rs q
  rcases q with q | q
  · exact h pins s σ H x xs v us Q I rx rs q
  · exact h' pins s σ H x xs v us Q I rx rs q
theorem pe_ix {r : R2} (hr : IxR X r) (ha : PE X a ta) (hb : PE X b tb) (hs : PlainIx b) : PE X (.Subscript a b pos) (tOp r ta tb) := by
  intro pins s σ H Q I h
  exact Subscript_ (binT ha hb I h fun v u s2 x y H2 I2 rx ry q => hr a b pins s2 σ H2 x y v u Q I2 rx ry q (hs _ _))

def rIxL (K : PySem.W.Frag) : R2 := fun x y H Q => ∃ p xs i v, x = .ref p ∧ y = .int i ∧ SqL K H p xs ∧ atI xs i = some v ∧ Q v H
def rIxT (K : PySem.W.Frag) : R2 := fun x y H Q => ∃ p xs i v, x = .ref p ∧ y = .int i ∧ SqT K H p xs ∧ atI xs i = some v ∧ Q v H
def rIxS : R2 := fun x y H Q => ∃ z i c, x = .str z ∧ y = .int i ∧ z.length ≤ sizeLine ∧ atI z.cps.toList i = some c ∧ Q (.str ⟨#[c]⟩) H
theorem ix_list : IxR X (rIxL X.K) := by
  intro value slice pins s σ H x y v u Q I rx ry h hs
  obtain ⟨p, xs, i, z, rfl, rfl, hq, he, q⟩ := h
  cases rx
  obtain ⟨t, rfl⟩ := ry
  obtain ⟨its, r, pl, hz⟩ := I.list hq
  obtain ⟨j, h1, h2, h3, h4, h5⟩ := atI_get he
  obtain ⟨w, ew, rw'⟩ := r.get h2
  have hl := r.length
  have hn := line63
  have fin : EP X pins σ Q w s := ⟨z, H, I, rw', q⟩
  by_cases h0 : 0 ≤ i
  · have hj : i.toNat = j := by
      rw [seqIndex_of h0 h5] at h1
      exact Option.some.inj h1
    exact item_listR pl.isList h0 (by omega) (by rw [hj]; simpa using ew) fin hs
  · have hj : (i + (its.toArray.size : Int)).toNat = j := by
      rw [seqIndex_neg (by omega) h4] at h1
      rw [List.size_toArray, ← hl]
      exact Option.some.inj h1
    exact subscriptTail_builtinR (x := w) pl.isList.typeIs slot_list_getitem.lookup
      (wpAny_getItem_list_neg (Q := fun r s' => r = w ∧ EP X pins σ Q r s') pl.isList (by omega) (by rw [List.size_toArray] <;> omega) (by omega) (by rw [hj]; simpa using ew) ⟨rfl, fin⟩) hs
theorem ix_tup : IxR X (rIxT X.K) := by
  intro value slice pins s σ H x y v u Q I rx ry h hs
  obtain ⟨p, xs, i, z, rfl, rfl, hq, he, q⟩ := h
  cases rx
  obtain ⟨t, rfl⟩ := ry
  obtain ⟨its, r, pl, hz⟩ := I.tuple hq
  obtain ⟨j, h1, h2, h3, h4, h5⟩ := atI_get he
  obtain ⟨w, ew, rw'⟩ := r.get h2
  have hl := r.length
  have hn := line63
  have fin : EP X pins σ Q w s := ⟨z, H, I, rw', q⟩
  exact subscriptTail_builtinR (x := w) pl.typeIs slot_tuple_getitem.lookup
    (getItem_tuple (j := j) (Q := fun r s' => r = w ∧ EP X pins σ Q r s') pl (by omega) (by omega) (by rw [List.size_toArray, ← hl]; exact h1) (by simpa using ew) ⟨rfl, fin⟩) hs
theorem ix_str : IxR X rIxS := by
  intro value slice pins s σ H x y v u Q I rx ry h hs
  obtain ⟨z, i, c, rfl, rfl, hz, he, q⟩ := h
  obtain ⟨t, rfl⟩ := rx
  obtain ⟨t', rfl⟩ := ry
  obtain ⟨j, h1, h2, h3, h4, h5⟩ := atI_get he
  have hl : z.cps.toList.length = z.length := by simp [Str.length]
  rw [hl] at h1 h4 h5
  have hn := line63
  exact tail_any (typeIs_str s z t) slot_str_getitem.lookup (getItem_str (c := c) (by
    have e1 : decide (i < -(2 ^ 63 : Int)) = false := decide_eq_false (by omega)
    have e2 : decide (i ≥ 2 ^ 63) = false := decide_eq_false (by omega)
    rw [e1, e2, Bool.or_false]) (by rw [h1]; simpa using h2) ⟨.str ⟨#[c]⟩, H, I.tok _, ⟨_, rfl⟩, q⟩) hs
theorem mapSeq_set (its : List Value) (n j : Nat) (u : Value) : Obj.mapSeq (·.setIfInBounds j u) { cls := .type "list", data := .seq its.toArray n } = { cls := .type "list", data := .seq (its.set j u).toArray n } := by
  simp [Obj.mapSeq]
theorem Inv.lst {pins : List (Addr × Obj)} {σ : St} {H : Hp} {s : Shared} {p : Addr} {xs : List V} (I : Inv X pins σ H s) (h : H p = some (.lst xs)) :
    ∃ (its : List Value) (n : Nat), Vals xs its ∧ s.heap.get? p = some { cls := .type "list", data := .seq its.toArray n } ∧ xs.length ≤ sizeLine := by
  obtain ⟨z, its, n, r, e⟩ := I.hok p _ h
  exact ⟨its, n, r, e, z⟩
theorem Inv.lstUpd {pins : List (Addr × Obj)} {σ : St} {H : Hp} {s : Shared} {p : Addr} {xs ys : List V} {its its' : List Value} {n n' : Nat} {f : Obj → Obj} (I : Inv X pins σ H s) (h : H p = some (.lst xs))
    (ho : s.heap.get? p = some { cls := .type "list", data := .seq its.toArray n }) (hf : f { cls := .type "list", data := .seq its.toArray n } = { cls := .type "list", data := .seq its'.toArray n' }) (r : Vals ys its') (hz : ys.length ≤ sizeLine) (t : Nat) :
    Inv X pins σ (upd H p (.lst ys)) { s with heap := s.heap.update p f, toks := t } := by
  have e : (s.heap.update p f).get? p = some { cls := .type "list", data := .seq its'.toArray n' } := by
    rw [Heap.get?_update_self f ho (by rw [hf] <;> rfl), hf]
  refine I.write (x := p) (e := p) (by rw [h]; trivial) (.inl rfl) (fun b u hb q => (Heap.get?_update_other _ _ (Ne.symm hb)).trans q) ⟨_, e⟩ ?_
  exact ⟨hz, its', n', r, e⟩
def rSetL : V → V → V → Hp → (Hp → Prop) → Prop := fun o i v H Q => ∃ p xs k j, o = .ref p ∧ i = .int k ∧ H p = some (.lst xs) ∧ ixN xs.length k = some j ∧ Q (upd H p (.lst (xs.set j v)))
theorem set_list : PSet X rSetL := by
  intro pins s σ H o i v ov iv u Q I ro ri rv h
  obtain ⟨p, xs, k, j, rfl, rfl, hp, hj, q⟩ := h
  cases ro
  obtain ⟨t, rfl⟩ := ri
  obtain ⟨its, n, r, ho, hz⟩ := I.lst hp
  obtain ⟨h1, h2, h3, h4⟩ := ixN_seq hj
  have hl := r.length
  have hn := line63
  have I' : Inv X pins σ (upd H p (.lst (xs.set j v))) { s with heap := s.heap.update p (Obj.mapSeq (·.setIfInBounds j u)) } :=
    I.lstUpd hp ho (mapSeq_set its n j u) (r.set rv j) (by rw [List.length_set]; exact hz) s.toks
  by_cases h0 : 0 ≤ k
  · have hk : k.toNat = j := by
      rw [seqIndex_of h0 h4] at h1
      exact Option.some.inj h1
    exact PySem.W.ki_setAt ho h0 (by omega) (by rw [List.size_toArray, ← hl]; exact h4) (by rw [hk]; exact ⟨_, I', q⟩)
  · have hk : (k + (its.toArray.size : Int)).toNat = j := by
      rw [seqIndex_neg (by omega) h3] at h1
      rw [List.size_toArray, ← hl]
      exact Option.some.inj h1
    exact PySem.W.ki_setBack ho (by omega) (by rw [List.size_toArray, ← hl]; exact h3) (by omega) (by rw [hk]; exact ⟨_, I', q⟩)

theorem slice_bounds (lo hi : Option Int) (n : Nat) : (sliceBounds lo hi none n).1 = ((HT.sIx n 0 lo : Nat) : Int) ∧ (sliceBounds lo hi none n).2.1 = ((HT.sIx n n hi : Nat) : Int) ∧ (sliceBounds lo hi none n).2.2 = 1 := by
  refine ⟨?_, ?_, rfl⟩
  · cases lo with
    | none => simp [sliceBounds, HT.sIx]
    | some i =>
      simp only [sliceBounds, HT.sIx, Option.getD_none, show (1 : Int) > 0 by decide, if_true]
      by_cases h : i < 0
      · simp only [h, if_true] <;> omega
      · simp only [h, if_false] <;> omega
  · cases hi with
    | none => simp [sliceBounds, HT.sIx]
    | some i =>
      simp only [sliceBounds, HT.sIx, Option.getD_none, show (1 : Int) > 0 by decide, if_true]
      by_cases h : i < 0
      · simp only [h, if_true] <;> omega
      · simp only [h, if_false] <;> omega
theorem slicePick_cut (its : List Value) (lo hi : Option Int) : slicePick its.toArray lo hi none = ((its.drop (HT.sIx its.length 0 lo)).take (HT.sIx its.length its.length hi - HT.sIx its.length 0 lo)).toArray := by
  obtain ⟨h1, h2, h3⟩ := slice_bounds lo hi its.toArray.size
  unfold slicePick
  rw [h1, h2, h3]
  simp only [sliceRange_one, pick_run, List.size_toArray] <;> rfl
def rSlL (K : PySem.W.Frag) : V → Option Int → Option Int → Hp → VK → Prop := fun x lo hi H Q => ∃ a xs, x = .ref a ∧ SqL K H a xs ∧ ∀ p, H p = none → Q (.ref p) (upd H p (.lst (cutV xs lo hi)))
theorem sl_list : SlR X (rSlL X.K) := by
  intro pins s σ H x v vl vu lo hi sl Q I rx hs pl pu h
  obtain ⟨a, xs, rfl, hx, q⟩ := h
  cases rx
  obtain ⟨its, r, ht, hz⟩ := I.list hx
  have hlen := r.length
  refine ⟨"list", _, slot_list_getitem.lookup, ht.isList.typeIs, ?_⟩
  refine wpAny_getItem_list_slice ht.isList hs pl pu .none (by simp) ?_ (by rw [List.size_toArray] <;> omega)
  rw [slicePick_cut, ← hlen]
  refine ⟨.ref s.heap.objs.size, _, I.laid (t' := s.toks) (o := .lst (cutV xs lo hi)) (fun b ob q => Heap.get?_push_of_some _ q) (Nat.le_refl _) ?_, rfl, q _ (I.hok.fresh (Nat.le_refl _))⟩
  exact ⟨Nat.le_trans (cutV_length xs lo hi) hz, _, 0, (r.drop (HT.sIx xs.length 0 lo)).take (HT.sIx xs.length xs.length hi - HT.sIx xs.length 0 lo), Heap.get?_push_size _ rfl⟩

def flatV : V → Bool
  | .non => true
  | .bl _ => true
  | .int _ => true
  | .str _ => true
  | _ => false
def eqV : V → V → Bool
  | .non, .non => true
  | .bl a, .bl b => a == b
  | .bl a, .int b => (if a then 1 else 0) == b
  | .int a, .bl b => a == (if b then 1 else 0)
  | .int a, .int b => a == b
  | .str a, .str b => a == b
  | _, _ => false
theorem eqAt_V {A : Around} {s : Shared} {y x : V} {u v : Value} (ry : RelV y u) (rx : RelV x v) (fy : flatV y = true) (fx : flatV x = true) : SeqAt.EqAt A s u v (eqV y x) := by
  cases y with
  | non =>
    cases ry
    cases x with
    | non => cases rx; exact SeqAt.EqAt.same _
    | bl b => cases rx; exact SeqAt.EqAt.none_bool b
    | int b => obtain ⟨t, rfl⟩ := rx; exact SeqAt.EqAt.none_int b t
    | str b => obtain ⟨t, rfl⟩ := rx; exact SeqAt.EqAt.none_str b t
    | _ => exact absurd (show false = true from fx) Bool.false_ne_true
  | bl a =>
    cases ry
    cases x with
    | non => cases rx; exact SeqAt.EqAt.bool_none a
    | bl b => cases rx; exact SeqAt.EqAt.bool_bool a b
    | int b => obtain ⟨t, rfl⟩ := rx; exact SeqAt.EqAt.bool_int a b t
    | str b => obtain ⟨t, rfl⟩ := rx; exact SeqAt.EqAt.bool_str a b t
    | _ => exact absurd (show false = true from fx) Bool.false_ne_true
  | int a =>
    obtain ⟨t', rfl⟩ := ry
    cases x with
    | non => cases rx; exact SeqAt.EqAt.int_none a t'
    | bl b => cases rx; exact SeqAt.EqAt.int_bool a t' b
    | int b => obtain ⟨t, rfl⟩ := rx; exact SeqAt.EqAt.int_int a t' b t
    | str b => obtain ⟨t, rfl⟩ := rx; exact SeqAt.EqAt.int_str a t' b t
    | _ => exact absurd (show false = true from fx) Bool.false_ne_true
  | str a =>
    obtain ⟨t', rfl⟩ := ry
    cases x with
    | non => cases rx; exact SeqAt.EqAt.str_none a t'
    | bl b => cases rx; exact SeqAt.EqAt.str_bool a t' b
    | int b => obtain ⟨t, rfl⟩ := rx; exact SeqAt.EqAt.str_int a t' b t
    | str b => obtain ⟨t, rfl⟩ := rx; exact SeqAt.EqAt.str_str a t' b t
    | _ => exact absurd (show false = true from fx) Bool.false_ne_true
  | _ => exact absurd (show false = true from fy) Bool.false_ne_true
def eqU (x : V) (u : Value) : Bool := match u with
  | .none => eqV .non x
  | .bool b => eqV (.bl b) x
  | .int i _ => eqV (.int i) x
  | .str z _ => eqV (.str z) x
  | _ => false
theorem eqU_of {x y : V} {u : Value} (r : RelV y u) (f : flatV y = true) : eqU x u = eqV y x := by
  cases y with
  | non => cases r; rfl
  | bl b => cases r; rfl
  | int i => obtain ⟨t, rfl⟩ := r; rfl
  | str z => obtain ⟨t, rfl⟩ := r; rfl
  | _ => exact absurd (show false = true from f) Bool.false_ne_true
theorem any_eqU {x : V} : ∀ {xs : List V} {us : List Value}, Vals xs us → xs.all flatV = true → us.any (eqU x) = xs.any fun y => eqV y x
  | _, _, .nil, _ => rfl
  | y :: xs, u :: us, .cons r t, f => by
    rw [List.all_cons, Bool.and_eq_true] at f
    rw [List.any_cons, List.any_cons, eqU_of r f.1, any_eqU t f.2]
theorem mem_eqAt {A : Around} {s : Shared} {x : V} {v : Value} (rx : RelV x v) (fx : flatV x = true) : ∀ {xs : List V} {us : List Value}, Vals xs us → xs.all flatV = true → ∀ u ∈ us, SeqAt.EqAt A s u v (eqU x u)
  | _, _, .nil, _ => fun u hu => by cases hu
  | y :: xs, u :: us, .cons r t, f => fun u' hu => by
    rw [List.all_cons, Bool.and_eq_true] at f
    rcases List.mem_cons.mp hu with rfl | hu
    · rw [eqU_of r f.1]; exact eqAt_V r rx f.1 fx
    · exact mem_eqAt rx fx t f.2 u' hu
def inV (x : V) (xs : List V) : Bool := xs.any fun y => eqV y x
def rIn (K : PySem.W.Frag) (neg : Bool) : R2 := fun x y H Q => ∃ p xs, y = .ref p ∧ (SqL K H p xs ∨ SqT K H p xs) ∧ flatV x = true ∧ xs.all flatV = true ∧ Q (.bl (if neg then !inV x xs else inV x xs)) H
theorem op_in_seq : OpR X (compareOp .In) (rIn X.K false) := by
  intro pins s σ H x y v u Q I rx ry h
  obtain ⟨p, xs, rfl, hq, fx, fs, q⟩ := h
  cases ry
  rcases hq with hq | hq
  · obtain ⟨its, r, pl, hz⟩ := I.list hq
    refine SeqAt.in_listAt (eqU x) pl.isList (fun w hw => mem_eqAt rx fx r fs w (by simpa using hw)) ⟨.bl _, H, I, rfl, ?_⟩
    rw [show its.toArray.any (eqU x) = its.any (eqU x) by simp, any_eqU r fs]
    exact q
  · obtain ⟨its, r, pl, hz⟩ := I.tuple hq
    refine SeqAt.in_tupleAt (eqU x) pl (fun w hw => mem_eqAt rx fx r fs w (by simpa using hw)) ⟨.bl _, H, I, rfl, ?_⟩
    rw [show its.toArray.any (eqU x) = its.any (eqU x) by simp, any_eqU r fs]
    exact q
theorem op_notIn_seq : OpR X (compareOp .NotIn) (rIn X.K true) := by
  intro pins s σ H x y v u Q I rx ry h
  obtain ⟨p, xs, rfl, hq, fx, fs, q⟩ := h
  cases ry
  rcases hq with hq | hq
  · obtain ⟨its, r, pl, hz⟩ := I.list hq
    refine SeqAt.notIn_listAt (eqU x) pl.isList (fun w hw => mem_eqAt rx fx r fs w (by simpa using hw)) ⟨.bl _, H, I, rfl, ?_⟩
    rw [show its.toArray.any (eqU x) = its.any (eqU x) by simp, any_eqU r fs]
    exact q
  · obtain ⟨its, r, pl, hz⟩ := I.tuple hq
    refine SeqAt.notIn_tupleAt (eqU x) pl (fun w hw => mem_eqAt rx fx r fs w (by simpa using hw)) ⟨.bl _, H, I, rfl, ?_⟩
    rw [show its.toArray.any (eqU x) = its.any (eqU x) by simp, any_eqU r fs]
    exact q
theorem call_len_seq : CallR X (.builtin "len") (fun xs H Q => ∃ p ys, xs = [.ref p] ∧ (SqL X.K H p ys ∨ SqT X.K H p ys) ∧ Q (.int ys.length) H) := by
  intro pins s σ H xs us Q I r h
  obtain ⟨p, ys, rfl, hq, q⟩ := h
  obtain ⟨u, rfl, rx⟩ := vals1 r
  cases rx
  have hn := line63
  rcases hq with hq | hq
  · obtain ⟨its, r', pl, hz⟩ := I.list hq
    have hlen := r'.length
    exact Calls.call_len_list pl.isList (by simp only [List.size_toArray] <;> omega) ⟨.int ys.length, H, I.tok _, ⟨s.toks + 1, by rw [List.size_toArray, hlen]⟩, q⟩
  · obtain ⟨its, r', pl, hz⟩ := I.tuple hq
    have hlen := r'.length
    exact len_tuple pl (by simp only [List.size_toArray] <;> omega) ⟨.int ys.length, H, I.tok _, ⟨s.toks + 1, by rw [List.size_toArray, hlen]⟩, q⟩
theorem call_len_str : CallR X (.builtin "len") (fun xs H Q => ∃ z, xs = [.str z] ∧ z.length ≤ sizeLine ∧ Q (.int z.length) H) := by
  intro pins s σ H xs us Q I r h
  obtain ⟨z, rfl, hz, q⟩ := h
  obtain ⟨u, rfl, t, rfl⟩ := vals1 r
  have hn := line63
  exact len_str (by omega) ⟨.int z.length, H, I.tok _, ⟨_, rfl⟩, q⟩
theorem CallR.or {f : Value} {r r' : List V → Hp → VK → Prop} (h : CallR X f r) (h' : CallR X f r') : CallR X f (fun xs H Q => r xs H Q ∨ r' xs H Q) := by
  intro pins s σ H xs us Q I rs q
  rcases q with q | q
  · exact h pins s σ H xs us Q I rs q
  · exact h' pins s σ H xs us Q I rs q
theorem call_list_of : CallR X (.type "list") (fun xs H Q => ∃ p ys, xs = [.ref p] ∧ (SqL X.K H p ys ∨ SqT X.K H p ys) ∧ ∀ l, H l = none → Q (.ref l) (upd H l (.lst ys))) := by
  intro pins s σ H xs us Q I r h
  obtain ⟨p, ys, rfl, hq, q⟩ := h
  obtain ⟨u, rfl, rx⟩ := vals1 r
  cases rx
  have fin : ∀ (its : List Value), Vals ys its → ys.length ≤ sizeLine → ∀ (h' : Heap) (c' : Nat), (∀ b o', s.heap.get? b = some o' → h'.get? b = some o') →
      h'.get? s.heap.objs.size = some { cls := .type "list", dict := none, data := .seq its.toArray c', slots := #[] } → EP X pins σ Q (.ref s.heap.objs.size) { s with heap := h' } := fun its r' hz h' c' kp e =>
    ⟨.ref s.heap.objs.size, _, I.laid (t' := s.toks) kp (Nat.le_refl _) (show ObjOk X.prog X.w _ h' _ (.lst ys) from ⟨hz, its, c', r', e⟩), rfl, q _ (I.hok.fresh (Nat.le_refl _))⟩
  rcases hq with hq | hq
  · obtain ⟨its, r', pl, hz⟩ := I.list hq
    have hlen := r'.length
    obtain ⟨o, ho, hc, n, hd⟩ := pl.isList
    exact call_list_seq p (.inl rfl) ho hc hd (fun h' c' kp e => fin its r' hz h' c' kp e) (by simp only [List.size_toArray] <;> omega)
  · obtain ⟨its, r', pl, hz⟩ := I.tuple hq
    have hlen := r'.length
    obtain ⟨o, ho, hc, n, hd⟩ := pl
    exact call_list_seq p (.inr rfl) ho hc hd (fun h' c' kp e => fin its r' hz h' c' kp e) (by simp only [List.size_toArray] <;> omega)
def tyV (K : PySem.W.Frag) (T : String) (x : V) (H : Hp) : Prop := match x with
  | .str _ => T = "str"
  | .int _ => T = "int"
  | .ref p => (T = "list" ∧ ∃ xs, SqL K H p xs) ∨ (T = "tuple" ∧ ∃ o, K.lookup p = some o ∧ o.cls = .type "tuple" ∧ o.dict = none) ∨
      (T = "dict" ∧ ((∃ kvs, H p = some (.dK kvs)) ∨ ∃ kvs, H p = some (.dT kvs))) ∨ (T = "set" ∧ ∃ S n, H p = some (.set S n))
  | _ => False
theorem tyV_is {pins : List (Addr × Obj)} {σ : St} {H : Hp} {s : Shared} {T : String} {x : V} {v : Value} (I : Inv X pins σ H s) (r : RelV x v) (ty : tyV X.K T x H) :
    s.TypeIs v T ∧ ∀ a, v = .ref a → ∃ ob, s.heap.get? a = some ob ∧ ob.dict = none := by
  cases x with
  | str z =>
    obtain ⟨t, rfl⟩ := r
    cases (show T = "str" from ty)
    exact ⟨typeIs_str s z t, fun _ e => nomatch e⟩
  | int i =>
    obtain ⟨t, rfl⟩ := r
    cases (show T = "int" from ty)
    exact ⟨typeIs_int s i t, fun _ e => nomatch e⟩
  | ref p =>
    cases r
    rcases ty with ⟨rfl, xs, hq⟩ | ⟨rfl, o, hk, hc, hd⟩ | ⟨rfl, hk⟩ | ⟨rfl, S, n, hk⟩
    · obtain ⟨its, _, pl, _⟩ := I.list hq
      refine ⟨pl.isList.typeIs, fun a e => ?_⟩
      cases e
      obtain ⟨o, n, e, c, hd, _⟩ := pl
      exact ⟨o, e, hd⟩
    · refine ⟨⟨o, I.kIn p o hk, hc⟩, fun a e => ?_⟩
      cases e
      exact ⟨o, I.kIn _ o hk, hd⟩
    · have z : ∃ o, s.heap.get? p = some o ∧ o.ExactDict := by
        rcases hk with ⟨kvs, hk⟩ | ⟨kvs, hk⟩
        · obtain ⟨_, _, _, _, o, _, _, e, ex, _⟩ := I.hok p _ hk
          exact ⟨o, e, ex⟩
        · obtain ⟨_, _, _, _, o, _, _, e, ex, _⟩ := I.hok p _ hk
          exact ⟨o, e, ex⟩
      obtain ⟨o, e, ex⟩ := z
      refine ⟨⟨o, e, ex.1⟩, fun a e2 => ?_⟩
      cases e2
      exact ⟨o, e, ex.2.1⟩
    · obtain ⟨o, _, _, _, e, ex, _⟩ := I.hok p _ hk
      refine ⟨⟨o, e, ex.1⟩, fun a e2 => ?_⟩
      cases e2
      exact ⟨o, e, ex.2.1⟩
  | _ => exact False.elim ty
def tBM0 (K : PySem.W.Frag) (T : String) (r : V → List V → Hp → VK → Prop) (to : TE) : TE := fun σ H Q => to σ H fun x H1 => tyV K T x H1 ∧ r x [] H1 Q
def tBM (K : PySem.W.Frag) (T : String) (r : V → List V → Hp → VK → Prop) (to : TE) (t : TA) : TE := fun σ H Q => to σ H fun x H1 => tyV K T x H1 ∧ t σ H1 fun xs H2 => r x xs H2 Q
variable {o e : Expr} {es : List Expr} {to : TE} {t : TA} {name : Str} {apos cpos : Pos} {T id : String} {r : V → List V → Hp → VK → Prop}
theorem pe_bm0 (pa : PlainAttrs T) (slot : Slot T name id) (hty : typeOf (.builtin id) = pure (.type "method_descriptor")) (hm : MtR X id r) (ho : PE X o to)
    (hbase : attributeBase o name X.env (eval o X.env) = eval o X.env := by rfl) (hline : (apos.endLine == cpos.line) = true := by rfl) : PE X (.Call (.Attribute o name apos) [] [] cpos) (tBM0 X.K T r to) := by
  intro pins s σ H Q I h
  refine wpAny_Call_method0_late hbase hline (thn (ho pins s σ H _ I h) fun v s1 ⟨x, H1, I1, r1, ty, q1⟩ => ?_)
  obtain ⟨h1, h2⟩ := tyV_is I1 r1 ty
  exact ⟨T, id, pa, slot, hty, h1, h2, Calls.callWith_builtin rfl (PySem.evalArgs_none (hm pins s1 σ H1 x [] v [] Q I1 r1 .nil q1))⟩
theorem pe_bm (pa : PlainAttrs T) (slot : Slot T name id) (hty : typeOf (.builtin id) = pure (.type "method_descriptor")) (hm : MtR X id r) (ho : PE X o to) (ha : PA X (e :: es) t)
    (hbase : attributeBase o name X.env (eval o X.env) = eval o X.env := by rfl)
    (hfew : ((backTo cpos (starEach (e :: es) X.env)).all (fun x => !x.1) && (backToKw cpos (keywordEach [] X.env)).all (fun x => x.1.isSome)
      && decide ((e :: es).length + ([] : List Keyword).length + (if ([] : List Keyword).isEmpty then 0 else 1) < 30)) = true := by rfl)
    (hline : (apos.endLine == cpos.line) = true := by rfl) (hs : starEach (e :: es) X.env = (false, eval e X.env) :: starEach es X.env := by rfl) (hplain : (backTo cpos (starEach es X.env)).any (·.1) = false := by rfl) :
    PE X (.Call (.Attribute o name apos) (e :: es) [] cpos) (tBM X.K T r to t) := by
  intro pins s σ H Q I h
  refine wpAny_Call_method_late hbase hfew hline rfl (thn (ho pins s σ H _ I h) fun v s1 ⟨x, H1, I1, r1, ty, q1⟩ => ?_)
  obtain ⟨h1, h2⟩ := tyV_is I1 r1 ty
  refine ⟨T, id, pa, slot, hty, h1, h2, ?_⟩
  have hA := ha cpos pins s1 σ H1 _ I1 q1
  rw [hs] at hA ⊢
  refine Calls.callWith_builtin (by show (false || (backTo cpos (starEach es X.env)).any (·.1)) = false; rw [hplain] <;> rfl) (Calls.evalArgs_plain ?_)
  exact thn hA fun us s2 ⟨vs, H2, I2, r2, q2⟩ => hm pins s2 σ H2 x vs v us Q I2 r1 r2 q2
end
end L2
namespace L2
open PySem PySem.Spec PyProof.Rows
def MtM (X : Cx) (id : String) (r : V → List V → Hp → VK → Prop) : Prop :=
  ∀ (pins : List (Addr × Obj)) (s : Shared) (σ : St) (H : Hp) (x : V) (xs : List V) (v : Value) (us : List Value) (Q : VK), Inv X pins σ H s → RelV x v → Vals xs us → r x xs H Q →
    wpAny (model X.prog X.w) X.A (call (.builtin id) (v :: us)) (EP X pins σ Q) X.xe s

theorem Vals.one : ∀ {x : V} {us : List Value}, Vals [x] us → ∃ u, us = [u] ∧ RelV x u
  | _, _, .cons r .nil => ⟨_, rfl, r⟩
theorem Vals.two : ∀ {x y : V} {us : List Value}, Vals [x, y] us → ∃ u v, us = [u, v] ∧ RelV x u ∧ RelV y v
  | _, _, _, .cons r (.cons q .nil) => ⟨_, _, rfl, r, q⟩
theorem Vals.zero : ∀ {us : List Value}, Vals [] us → us = []
  | _, .nil => rfl
theorem Vals.dropLast {xs : List V} {us : List Value} (h : Vals xs us) : Vals xs.dropLast us.dropLast := by
  induction h with
  | nil => exact .nil
  | cons r t ih =>
    cases t with
    | nil => exact .nil
    | cons q t' => exact .cons r ih
theorem Vals.reverse {xs : List V} {us : List Value} (h : Vals xs us) : Vals xs.reverse us.reverse := by
  induction h with
  | nil => exact .nil
  | cons r t ih => rw [List.reverse_cons, List.reverse_cons]; exact Vals.append ih (.cons r .nil)
theorem Vals.rep {xs : List V} {us : List Value} (h : Vals xs us) : ∀ k : Nat, Vals (List.replicate k xs).flatten (List.replicate k us).flatten
  | 0 => .nil
  | k + 1 => by
    rw [List.replicate_succ, List.replicate_succ, List.flatten_cons, List.flatten_cons]
    exact Vals.append h (Vals.rep h k)
section
variable {X : Cx} {pins : List (Addr × Obj)} {σ : St} {H : Hp} {s : Shared} {l b : Addr} {xs ys zs : List V}
theorem Inv.lset {its its' : List Value} {n : Nat} {f : Array Value → Array Value} {t' : Nat} (I : Inv X pins σ H s) (hH : H l = some (.lst xs))
    (e : s.heap.get? l = some { cls := .type "list", data := .seq its.toArray n }) (hf : f its.toArray = its'.toArray) (hv : Vals ys its') (hz : ys.length ≤ sizeLine) :
    Inv X pins σ (upd H l (.lst ys)) { s with heap := s.heap.update l (Obj.mapSeq f), toks := t' } := by
  have q := PySem.IsL.update e f
  rw [hf] at q
  refine I.write (x := l) (e := l) (by rw [hH]; exact trivial) (.inl rfl) (fun b' u hb hu => (Heap.get?_update_other s.heap (Obj.mapSeq f) (Ne.symm hb)).trans hu) ⟨_, q⟩ ?_
  exact ⟨hz, its', _, hv, q⟩
theorem Inv.lnew {its : List Value} {t' : Nat} (I : Inv X pins σ H s) (hv : Vals ys its) (hz : ys.length ≤ sizeLine) :
    Inv X pins σ (upd H s.heap.objs.size (.lst ys)) { s with heap := s.heap.push { cls := .type "list", data := .seq its.toArray }, toks := t' } :=
  I.laid (fun _ _ q => Heap.get?_push_of_some _ q) (Nat.le_refl _) ⟨hz, its, 0, hv, Heap.get?_push_size _ rfl⟩
theorem Inv.fresh (I : Inv X pins σ H s) : H s.heap.objs.size = none := I.hok.fresh (Nat.le_refl _)
theorem Inv.lstM (I : Inv X pins σ H s) (hH : H l = some (.lst xs)) : xs.length ≤ sizeLine ∧ ∃ (its : List Value) (n : Nat), Vals xs its ∧ xs.length = its.length ∧ s.heap.get? l = some { cls := .type "list", data := .seq its.toArray n } := by
  obtain ⟨z, its, n, r, e⟩ := I.hok l _ hH
  exact ⟨z, its, n, r, r.length, e⟩

theorem notLongL {n : Nat} (h : n ≤ sizeLine) : Builtin.List.listTooLong n = false := by
  unfold Builtin.List.listTooLong
  exact decide_eq_false (by omega)
end
section
variable {X : Cx}
def rAppend : V → List V → Hp → VK → Prop := fun x vs H Q => ∃ l xs y, x = .ref l ∧ vs = [y] ∧ H l = some (.lst xs) ∧ xs.length < sizeLine ∧ Q .non (upd H l (.lst (xs ++ [y])))
theorem mt_append : MtM X "list.append" rAppend := by
  intro pins s σ H x vs v us Q I rx rv h
  obtain ⟨l, xs, y, rfl, rfl, hH, hz, q⟩ := h
  cases rx
  obtain ⟨u, rfl, ru⟩ := rv.one
  obtain ⟨z, its, n, r, hl, e⟩ := I.lstM hH
  refine call_meets F.slot_list_append ⟨_, e, rfl⟩ F.entry_list_append (F.args_list_append_2 _ _) (PySem.list_append l its.toArray n u (by rw [List.size_toArray]; omega)) ⟨e, ?_⟩
  refine ⟨.non, _, I.lset (its' := its ++ [u]) hH e (by simp) (r.append (.cons ru .nil)) ?_, rfl, q⟩
  rw [List.length_append, List.length_singleton]
  omega

def rExtend : V → List V → Hp → VK → Prop := fun x vs H Q => ∃ l b xs zs, x = .ref l ∧ vs = [.ref b] ∧ H l = some (.lst xs) ∧ H b = some (.lst zs) ∧ xs.length + zs.length ≤ sizeLine ∧ Q .non (upd H l (.lst (xs ++ zs)))
theorem mt_extend : MtM X "list.extend" rExtend := by
  intro pins s σ H x vs v us Q I rx rv h
  obtain ⟨l, b, xs, zs, rfl, rfl, hH, hB, hz, q⟩ := h
  cases rx
  obtain ⟨u, rfl, ru⟩ := rv.one
  cases ru
  obtain ⟨z, its, n, r, hl, e⟩ := I.lstM hH
  obtain ⟨z2, its2, n2, r2, hl2, e2⟩ := I.lstM hB
  have hsz : its.toArray.size + its2.toArray.size ≤ sizeLine := by rw [List.size_toArray, List.size_toArray]; omega
  have hlong : ¬ (!its.toArray.isEmpty && Builtin.List.listTooLong (its.toArray.size + its2.toArray.size)) = true := by
    rw [notLongL hsz, Bool.and_false]
    exact Bool.false_ne_true
  refine call_meets F.slot_list_extend ⟨_, e, rfl⟩ F.entry_list_extend (F.args_list_extend_2 _ _)
    (AutoSeq1.list_extend_list_list_0 l its.toArray n b its2.toArray n2 hlong (by rw [List.size_toArray]; omega) (by omega)) ⟨e, e2, ?_⟩
  refine ⟨.non, _, I.lset (its' := its ++ its2) hH e (by simp) (r.append r2) ?_, rfl, q⟩
  rw [List.length_append]
  omega

def rClear : V → List V → Hp → VK → Prop := fun x vs H Q => ∃ l xs, x = .ref l ∧ vs = [] ∧ H l = some (.lst xs) ∧ Q .non (upd H l (.lst []))
theorem mt_clear : MtM X "list.clear" rClear := by
  intro pins s σ H x vs v us Q I rx rv h
  obtain ⟨l, xs, rfl, rfl, hH, q⟩ := h
  cases rx
  have hus := rv.zero
  subst hus
  obtain ⟨z, its, n, r, hl, e⟩ := I.lstM hH
  refine call_meets F.slot_list_clear ⟨_, e, rfl⟩ F.entry_list_clear (F.args_list_clear_1 _) (AutoSeq1.list_clear_list_0 l its.toArray n (by rw [List.size_toArray]; omega)) ⟨e, ?_⟩
  exact ⟨.non, _, I.lset (its' := []) (ys := []) hH e rfl .nil (Nat.zero_le _), rfl, q⟩

def rCat : R2 := fun x y H Q => ∃ l b xs zs, x = .ref l ∧ y = .ref b ∧ H l = some (.lst xs) ∧ H b = some (.lst zs) ∧ xs.length + zs.length ≤ sizeLine ∧ ∀ p, H p = none → Q (.ref p) (upd H p (.lst (xs ++ zs)))
theorem op_cat : OpR X (binaryOp .Add) rCat := by
  intro pins s σ H x y v u Q I rx ry h
  obtain ⟨l, b, xs, zs, rfl, rfl, hH, hB, hz, q⟩ := h
  cases rx
  cases ry
  obtain ⟨z, its, n, r, hl, e⟩ := I.lstM hH
  obtain ⟨z2, its2, n2, r2, hl2, e2⟩ := I.lstM hB
  refine PySem.P.add_list e e2 ?_ (by rw [List.size_toArray, List.size_toArray]; omega)
  have ea : its.toArray ++ its2.toArray = (its ++ its2).toArray := by simp
  rw [ea]
  exact ⟨.ref _, _, I.lnew (t' := s.toks) (r.append r2) (by rw [List.length_append]; omega), rfl, q _ I.fresh⟩
end
section
variable {prog : Program} {w : World} {A : Around} {E : Value → Shared → Prop} {s : Shared}
end
section
variable {X : Cx}
end
end L2
namespace Att
open PySem PySem.W PySem.Calls PyProof.Rows
theorem ints_of_wellAll {P : Params} {h : Heap} : ∀ (ns : List Int) (vs : List Value), WellAll P h vs (ns.map WData.int) → IntsAre vs ns := by
  intro ns
  induction ns with
  | nil =>
    intro vs w
    rw [List.map_nil] at w
    cases w
    exact .nil
  | cons n ns ih =>
    intro vs w
    rw [List.map_cons] at w
    cases w with
    | cons a b =>
      cases a
      exact .cons _ _ (ih _ b)

theorem script_of {l : OpenLaw} {n : Nat} (hn : l.most = some n) {P : Params} {h : Heap} {args : List WData} {vals : List Value}
    (hpre : l.row.toRowW.claim.pre args = true) (hwl : WellAll P h vals args) :
    ∃ a vs ns, vals = [Value.ref a] ∧ args = [WData.list (ns.map WData.int)] ∧ h.get? a = some { cls := .type "list", data := .seq vs.toArray } ∧ IntsAre vs ns ∧ ns.length ≤ n := by
  have hsh : WShape.hasAll [] args [.list .int] = true := (pre_splitW hpre).1
  have hc : l.pre.holds [] { args := args } = true := (pre_splitW hpre).2
  obtain ⟨d, r, rfl, h1, h2⟩ := hasAllW_cons hsh
  obtain rfl := hasAllW_nil h2
  obtain ⟨xs, rfl, h3⟩ := hasW_list h1
  obtain ⟨ns, rfl⟩ := items_int h3
  have hlen : ns.length ≤ n := by
    unfold OpenLaw.pre at hc
    have h4 : (WTm.not (.lt (.lit (.int (n : Int))) (.len (.arg 0)))).holds [] { args := [.list (ns.map .int)] } = true := by
      have h4 := (holds_andW hc).1
      rw [hn] at h4
      exact h4
    have h5 := condW_of h4 (w_not (w_lt w_lit (w_len_list (w_arg rfl))))
    rw [List.length_map] at h5
    refine Nat.le_of_not_lt fun q => ?_
    have q' : (n : Int) < ((ns.length : Nat) : Int) := by omega
    first
      | (rw [decide_eq_true q'] at h5; exact absurd h5 (by decide))
      | (simp at h5; omega)
  cases hwl with
  | cons w1 w2 =>
    cases w2
    cases w1 with
    | list ho hall => exact ⟨_, _, ns, rfl, rfl, ho, ints_of_wellAll ns _ hall, hlen⟩

theorem post_true (l : OpenLaw) (args : List WData) : l.row.toRowW.claim.post args (.bool true) args = true :=
  postW_of (r := l.row.toRowW) (X := (true == true))
    (show WShape.has [] (.bool true) .bool = true by first | rfl | decide | simp [WShape.has, WShape.arms, WShape.armsAll])
    (show (WTm.eq .res (.lit (.bool true))).value [] { args := args, res := some (.bool true), after := args } = some (.bool (true == true)) from w_eq_bool (w_res rfl) w_lit) rfl

theorem attach_call {l : OpenLaw} {n : Nat} {q : Program} {loose : List Str} {XP : (Str → Option Value) → Heap → Prop} {YP : World → Heap → Prop} {d : DefRec}
    (hn : l.most = some n) (hdf : d.params.defaults = [])
    (call : ∀ (w : World) (s₀ s₁ : Shared) (mg mb : Str → Option Value) (fa : Addr) (o : Obj) (pm cd doc : Value) (a : Addr) (vs : List Value) (ns : List Int),
      Ground q loose [] XP w s₀ mg mb s₁.heap → YP w s₁.heap →
      s₁.heap.get? fa = some o → o.data = .func (docDef d.name d.params d.body d.scope pm cd doc) → s₁.heap.CodeRec cd d.name → mg d.name = some (.ref fa) →
      s₁.heap.get? a = some { cls := .type "list", data := .seq vs.toArray } → IntsAre vs ns → ns.length ≤ n → s₁.gens = #[] →
      codeAny (model l.prog w) callerA (.call (.ref fa) ⟨[.ref a], []⟩) (fun r s' => r = .ok (.ret (.bool true)) ∧ OldK s₁.heap s'.heap ∧ s'.os = s₁.os ∧ AllBare s'.gens) s₁) :
    WalkO q loose XP YP l.row.toRowW d [] (fun f vs => PySem.call f vs) := by
  intro w s₀ s₁ mg mb G Y fa o pm cd doc dV kV ho hd hcd hD hmg hg args vals as hpre hlay hrd hwl hlo
  obtain rfl : dV = .none := Dflts.none hD hdf
  obtain rfl : kV = .none := Dflts.noKw hD
  obtain ⟨a, vs, ns, rfl, rfl, hobj, hints, hlen⟩ := script_of hn hpre hwl
  refine enter_call (codeAny_mono (call w s₀ s₁ mg mb fa o pm cd doc a vs ns G Y ho (fd_plain hd) hcd hmg hobj hints hlen hg) fun r s' hq => ?_)
  obtain ⟨rfl, h2, h3, h4⟩ := hq
  exact ⟨.inl ⟨.bool true, .bool true, [], rfl, fun _ => rfl, .bool true, post_true l _, fun _ => ⟨List.Pairwise.nil, fun _ hm => (nomatch hm)⟩⟩, h2, h3, h4⟩

section
variable {prog : Program} {w : World} {A : Around} {E : Value → Shared → Prop} {s : Shared} {K : Frag}
end
end Att
namespace L2
open PySem PySem.Spec PyProof.Rows
theorem vals_ints : ∀ {vs : List Value} {ns : List Int}, IntsAre vs ns → Vals (ns.map V.int) vs
  | _, _, .nil => .nil
  | _, _, .cons n t h => .cons ⟨t, rfl⟩ (vals_ints h)

def Only (H : Hp) : Prop := ∀ b, H b = none ∨ ∃ o xs, H b = some (.frz o (.lst xs))

theorem law_call {P : Program} {w : World} {K : PySem.W.Frag} {mg mb : Str → Option Value} {CX : CXT} {k : Nat} {fa a : Addr} {fd : FuncData} {x : Str} {sp : Sp} {s₁ : Shared} {vs : List Value} {ns : List Int}
    (KX : K.In s₁.heap) (hns : s₁.heap.Ns mainGlobals mg) (hb : s₁.heap.Ns builtinsNs mb) (hbb : ∀ x : Str, x ≠ "__name__" → mb x = bootBuiltins x) (hlim : s₁.heap.NoLimit) (hg : s₁.gens = #[])
    (ha : s₁.heap.get? a = some { cls := .type "list", data := .seq vs.toArray }) (hi : IntsAre vs ns) (hl : ns.length ≤ sizeLine) (hr : Room k callerA)
    (F : ∀ base : Heap, K.In base → base.Ns mainGlobals mg → FnOk P w K mg base CX k fa fd [x] sp) (hbind : ∀ (s : Shared) (u : Value), BindsTo s fd ⟨[u], []⟩ [(x, u)])
    (hsp : ∀ H : Hp, Only H → SqL K H a (ns.map V.int) → sp [.ref a] H (fun v _ => v = .bl true) fun _ _ _ => False)
    (hCX : ∀ H e s', CX [] H s₁ (fun _ _ _ => False) e s' → False) :
    codeAny (model P w) callerA (.call (.ref fa) ⟨[.ref a], []⟩) (fun r s' => r = .ok (.ret (.bool true)) ∧ OldK s₁.heap s'.heap ∧ s'.os = s₁.os ∧ AllBare s'.gens) s₁ := by
  have rv := vals_ints hi
  have lenV := hi.length
  -- from an abstract heap in which nothing but the script may be tracked
  have core : ∀ H : Hp, Only H → SqL K H a (ns.map V.int) → HOk P w H s₁.heap → (∀ b, H b ≠ none → b = a) → (H a ≠ none → K.lookup a = none) →
      codeAny (model P w) callerA (.call (.ref fa) ⟨[.ref a], []⟩) (fun r s' => r = .ok (.ret (.bool true)) ∧ OldK s₁.heap s'.heap ∧ s'.os = s₁.os ∧ AllBare s'.gens) s₁ := by
    intro H hO hS hok hA hK
    have base_of : ∀ {b : Addr} {o : Obj}, s₁.heap.get? b = some o → H b = none → (hidT s₁.heap H).get? b = some o := fun e n => hidT_get e n
    have noA : ∀ {b : Addr} {o : Obj} {es : Array DictEntry} {ep : Nat}, s₁.heap.get? b = some o → o.data = .dict es ep → H b = none := fun {b o es ep} e d => by
      cases q : H b with
      | none => rfl
      | some u =>
        have e' : b = a := hA b (by rw [q]; simp)
        subst e'
        rw [ha] at e; cases e
        have d' : Data.seq vs.toArray _ = Data.dict es ep := d
        cases d'
    have nsK : ∀ {b : Addr} {m : Str → Option Value}, s₁.heap.Ns b m → (hidT s₁.heap H).Ns b m := fun {b m} ⟨o, es, ep, e, d, r⟩ => ⟨o, es, ep, base_of e (noA e d), d, r⟩
    have hKb : K.In (hidT s₁.heap H) := fun b o e => base_of (KX b o e) (by
      cases q : H b with
      | none => rfl
      | some u =>
        have e' : b = a := hA b (by rw [q]; simp)
        subst e'
        rw [hK (by rw [q]; simp)] at e; cases e)
    have hM : Mod K mg (hidT s₁.heap H) := ⟨hKb, nsK hns, ⟨mb, nsK hb, hbb⟩, let ⟨mc, h1, h2⟩ := hlim; ⟨mc, nsK h1, h2⟩⟩
    have e0 : Env0 P w K mg (hidT s₁.heap H) callerA [] s₁ H := ⟨rfl, hM, fun b o e => of_hidT e, Nat.le_of_eq (hidT_size _ _), trivial, fun b hb => absurd (show b ∈ ([] : List Addr) from hb) (by simp), hok, .of_eq hg⟩
    refine codeAny_mono ((F _ hKb (nsK hns)).run callerA [] s₁ H ⟨[.ref a], []⟩ [.ref a] [.ref a] _ _ hr e0 (hbind s₁ (.ref a)) (.cons rfl .nil) (hsp H hO hS)) fun r s' h => ?_
    cases r with
    | error e => exact (hCX H e s' h).elim
    | ok fl =>
      cases fl with
      | next => exact False.elim h
      | brk => exact False.elim h
      | cont => exact False.elim h
      | ret u =>
        obtain ⟨v, H', os, bare, un, hok', r', q⟩ := h
        have q' : v = .bl true := q
        subst q'
        obtain rfl : u = Value.bool true := r'
        refine ⟨rfl, OldK.of_keep fun b o e => ?_, os, bare⟩
        cases q : H b with
        | none => exact un.keep b o e q (by intro z; exact absurd (show b ∈ ([] : List Addr) from z) (by simp)) (by simp)
        | some u =>
          rcases hO b with z | ⟨ob, xs, z⟩
          · rw [q] at z; cases z
          · have z2 := un.frzs b ob _ z
            obtain ⟨e1, _⟩ := hok b _ z
            obtain ⟨e2, _⟩ := hok' b _ z2
            rw [e] at e1; cases e1
            exact e2
  cases hk : K.lookup a with
  | some o =>
    -- the script is one of the module's own objects
    have e := KX a o hk
    rw [ha] at e
    cases e
    refine core (fun _ => none) (fun _ => .inl rfl) (.inr ⟨_, vs.toArray, _, hk, rfl, rfl, rfl, by rw [List.size_toArray, lenV]; exact hl, by simpa using rv⟩) (fun b u z => by have z' : (none : Option HO) = some u := z; cases z') (fun b z => absurd rfl z) fun z => absurd rfl z
  | none =>
    refine core (fun b => if b = a then some (.frz { cls := .type "list", data := .seq vs.toArray } (.lst (ns.map V.int))) else none) (fun b => ?_) (.inl (.inr ⟨{ cls := .type "list", data := .seq vs.toArray }, if_pos rfl⟩)) (fun b u z => ?_) (fun b z => ?_) fun _ => hk
    · by_cases hb : b = a
      · exact .inr ⟨_, _, if_pos hb⟩
      · exact .inl (if_neg hb)
    · by_cases hb : b = a
      · have z' := (if_pos hb).symm.trans z
        cases z'
        subst hb
        exact ⟨ha, by rw [List.length_map]; exact hl, vs, _, rv, ha⟩
      · have z' := (if_neg hb).symm.trans z
        cases z'
    · by_cases hb : b = a
      · exact hb
      · exact absurd (if_neg hb) z
end L2
namespace L2
open PySem PySem.Spec PyProof.Rows
theorem walk_of {l : PySem.W.OpenLaw} {n k : Nat} {q : Program} {loose : List Str} {XP : (Str → Option Value) → Heap → Prop} {YP : World → Heap → Prop} {d : DefRec} {K : Params → PySem.W.Frag} {CX : World → CXT} {sp : World → Sp} {x : Str}
    (hn : l.most = some n) (hn2 : n ≤ sizeLine) (hdf : d.params.defaults = []) (hr : Room k callerA)
    (hY : ∀ (w : World) (h : Heap), YP w h → (K w.params).In h)
    (F : ∀ (w : World) (mg : Str → Option Value) (fa : Addr) (h : Heap), (K w.params).In h → h.Ns mainGlobals mg → mg d.name = some (.ref fa) →
      ∃ fd : FuncData, (∀ (s : Shared) (u : Value), BindsTo s fd ⟨[u], []⟩ [(x, u)]) ∧
        ∀ base : Heap, (K w.params).In base → base.Ns mainGlobals mg → FnOk l.prog w (K w.params) mg base (CX w) k fa fd [x] (sp w))
    (hsp : ∀ (w : World) (H : Hp) (a : Addr) (ns : List Int), ns.length ≤ n → Only H → SqL (K w.params) H a (ns.map V.int) → sp w [.ref a] H (fun v _ => v = .bl true) fun _ _ _ => False)
    (hCX : ∀ (w : World) (H : Hp) (s : Shared) (e : Value) (s' : Shared), CX w [] H s (fun _ _ _ => False) e s' → False) :
    PySem.W.WalkO q loose XP YP l.row.toRowW d [] (fun f vs => PySem.call f vs) := by
  refine Att.attach_call hn hdf fun w s₀ s₁ mg mb fa o pm cd doc a vs ns G Y ho hd hcd hmg hobj hints hlen hg => ?_
  have KX := hY w _ Y
  obtain ⟨fd, hb, hF⟩ := F w mg fa _ KX G.T.g hmg
  exact law_call KX G.T.g G.T.b G.T.builtins G.T.nolimit hg hobj hints (Nat.le_trans hlen hn2) hr hF hb (fun H hO hS => hsp w H a ns hlen hO hS) fun H e s' => hCX w H s₁ e s'
end L2
namespace L2
open PySem PySem.Spec PyProof.Rows
def defArgs (s : Stmt) : Arguments := match s with
  | .FunctionDef _ a _ _ _ _ _ _ _ _ => a
  | _ => { posonlyargs := [], args := [], vararg := none, kwonlyargs := [], kw_defaults := [], kwarg := none, defaults := [] }
def defBody (s : Stmt) : List Stmt := match s with
  | .FunctionDef _ _ b _ _ _ _ _ _ _ => b
  | _ => []
def defScope (s : Stmt) : Scope := match s with
  | .FunctionDef _ _ _ _ _ _ sc _ _ _ => sc
  | _ => { kind := .function, names := [], isGenerator := false, isCoroutine := false }

abbrev CX0 : CXT := fun _ _ _ _ _ _ => False
abbrev E0 : XK := fun _ _ _ => False
theorem pass0 {X : Cx} : Passes CX0 X E0 := fun _ _ _ _ _ _ _ h => h.elim

structure Fun (K : PySem.W.Frag) (x qual : Str) (st : Stmt) (f : Addr) (fd : FuncData) : Prop where
  ex : ∃ (oc : Value) (od : Option Addr) (kV doc pm : Value) (an : Option Addr) (cdv ct : Value) (osl : Array (Option Value)),
    fd = PySem.W.fnOf x qual (defArgs st) (defBody st) (defScope st) .none kV doc pm an cdv ct ∧ K.lookup f = some ⟨oc, od, .func fd, osl⟩ ∧ PySem.W.codeIn K cdv qual = true
  kp : PySem.W.keepIn K (.ref f) = true
section
variable {P : Program} {w : World} {K : PySem.W.Frag} {mg : Str → Option Value} {base : Heap}
theorem Fun.ok {x qual : Str} {st : Stmt} {f : Addr} {fd : FuncData} {N ps : List Str} {k : Nat} {sp : Sp} (F : Fun K x qual st f fd) (S : FnScope N ps (defScope st)) (len : ∀ vs H Q E, sp vs H Q E → vs.length = ps.length)
    (hbody : ∀ (cdv : Value) (A : Around) (outer : List Env) (s : Shared) (H : Hp) (vs : List V) (Q : VK) (E : XK), Room k (A.deeper (envOfC qual (defScope st) s.heap.objs.size f cdv)) → sp vs H Q E →
      ∃ t, PSs (cxOf CX0 P w K mg base N qual (defScope st) f cdv A outer s H E).nox (defBody st) t ∧ t { nx := fun _ H' => Q .non H', rt := Q } (start N vs) H) : FnOk P w K mg base CX0 (k + 1) f fd ps sp := by
  obtain ⟨oc, od, kV, doc, pm, an, cdv, ct, osl, rfl, lk, hcd⟩ := F.ex
  refine fn_of lk hcd S len fun A outer s H vs Q E hr hsp => ?_
  obtain ⟨t, h, q⟩ := hbody cdv A outer s H vs Q E hr hsp
  exact ⟨t, h.nox, q⟩
theorem Fun.binds {x qual : Str} {st : Stmt} {f : Addr} {fd : FuncData} {ps : List Str} (F : Fun K x qual st f fd)
    (h : ∀ (kV doc pm : Value) (an : Option Addr) (cdv ct : Value) (us : List Value), us.length = ps.length → bindArgs (PySem.W.fnOf x qual (defArgs st) (defBody st) (defScope st) .none kV doc pm an cdv ct) ⟨us, []⟩ = pure (ps.zip us)) : Binds K fd ps [] := by
  obtain ⟨oc, od, kV, doc, pm, an, cdv, ct, osl, rfl, lk, hcd⟩ := F.ex
  exact .all (h kV doc pm an cdv ct)
theorem fun_mk {x qual : Str} {st : Stmt} {f : Addr} {oc : Value} {od an : Option Addr} {osl : Array (Option Value)} {kV doc pm cdv ct : Value} (l : K.lookup f = some ⟨oc, od, .func (PySem.W.fnOf x qual (defArgs st) (defBody st) (defScope st) .none kV doc pm an cdv ct), osl⟩)
    (c : PySem.W.codeIn K cdv qual = true) (k : PySem.W.keepIn K (.ref f) = true) : Fun K x qual st f (PySem.W.fnOf x qual (defArgs st) (defBody st) (defScope st) .none kV doc pm an cdv ct) := ⟨⟨oc, od, kV, doc, pm, an, cdv, ct, osl, rfl, l, c⟩, k⟩
end
theorem small1000 {n : Nat} (h : n ≤ 1000) : n < sizeLine := Nat.lt_of_le_of_lt h (by decide)

section
variable {X : Cx}
end
def Same (H H' : Hp) : Prop := ∀ b o, H b = some o → H' b = some o
theorem Same.refl (H : Hp) : Same H H := fun _ _ h => h
theorem Same.trans {H H1 H2 : Hp} (a : Same H H1) (b : Same H1 H2) : Same H H2 := fun c o h => b c o (a c o h)
theorem Same.free {H H' : Hp} (e : Same H H') {l : Addr} (h : H' l = Option.none) : H l = Option.none := by
  cases q : H l with
  | none => rfl
  | some o =>
    rw [e l o q] at h
    cases h
theorem Same.seq {K : PySem.W.Frag} {H H' : Hp} {a : Addr} {xs : List V} (e : Same H H') (h : SqL K H a xs) : SqL K H' a xs := by
  rcases h with (h | ⟨o, h⟩) | h
  · exact .inl (.inl (e _ _ h))
  · exact .inl (.inr ⟨o, e _ _ h⟩)
  · exact .inr h

end L2
namespace TS
open PySem PyProof.Rows
section
variable {M : Model} {A : Around} {E : Value → Shared → Prop} {s : Shared} {O : KeyOrd} {kf : Keyed → O.α} {κ : SortKind} {G : Keyed → Prop}
variable {left : Bool} {key : Keyed} {arr : Array Keyed} {base n hint : Nat} {st : SortSt} {P : Nat → Bool}
end
end TS
namespace TS
open PySem PyProof.Rows
section
variable {O : KeyOrd} {kf : Keyed → O.α}
def le (O : KeyOrd) (kf : Keyed → O.α) (x y : Keyed) : Prop := O.kle (kf x) (kf y)
theorem le_of_lt {x y : Keyed} (h : O.blt (kf x) (kf y) = true) : le O kf x y := KeyOrd.kle_of_klt h
def Srt (O : KeyOrd) (kf : Keyed → O.α) (a : Array Keyed) (lo hi : Nat) : Prop := ∀ (i j : Nat) (x y : Keyed), lo ≤ i → i ≤ j → j < hi → a[i]? = some x → a[j]? = some y → le O kf x y
theorem drop_none {a : Array Keyed} {i : Nat} (h : a.size ≤ i) : a.toList.drop i = [] := List.drop_eq_nil_of_le (by simpa using h)
theorem ext_toList (a : Array Keyed) (i : Nat) : (a.extract i a.size).toList = a.toList.drop i := by
  rw [Array.toList_extract, List.extract_eq_take_drop]
  rw [List.take_of_length_le]
  simp
theorem Srt.pw {a : Array Keyed} (h : Srt O kf a 0 a.size) : a.toList.Pairwise (le O kf) := by
  rw [List.pairwise_iff_getElem]
  intro i j hi hj hij
  have hj' : j < a.size := by simpa using hj
  have hi' : i < a.size := by simpa using hi
  exact h i j _ _ (by omega) (by omega) hj' (by simp [hi']) (by simp [hj'])
theorem Srt.of {a : Array Keyed} (h : a.toList.Pairwise (le O kf)) : Srt O kf a 0 a.size := by
  rw [List.pairwise_iff_getElem] at h
  intro i j x y _ hij hj e1 e2
  obtain ⟨h1, rfl⟩ := Array.getElem?_eq_some_iff.mp e1
  obtain ⟨h2, rfl⟩ := Array.getElem?_eq_some_iff.mp e2
  by_cases e : i = j
  · subst e; exact KeyOrd.kle_refl _
  · exact h i j (by simpa using h1) (by simpa using h2) (by omega)

structure MI (O : KeyOrd) (kf : Keyed → O.α) (a b o : Array Keyed) (i j : Nat) : Prop where
  perm : (o.toList ++ (a.toList.drop i ++ b.toList.drop j)).Perm (a.toList ++ b.toList)
  srt : o.toList.Pairwise (le O kf)
  low : ∀ x ∈ o.toList, ∀ y ∈ a.toList.drop i ++ b.toList.drop j, le O kf x y
def Mrg (O : KeyOrd) (kf : Keyed → O.α) (a b r : Array Keyed) : Prop := r.toList.Perm (a.toList ++ b.toList) ∧ r.toList.Pairwise (le O kf)
variable {a b o : Array Keyed} {i j : Nat}
theorem MI.len (h : MI O kf a b o i j) (hi : i ≤ a.size) (hj : j ≤ b.size) : o.size = i + j := by
  have := h.perm.length_eq
  simp at this
  omega
theorem MI.fin (h : MI O kf a b o i j) (sa : Srt O kf a 0 a.size) (sb : Srt O kf b 0 b.size) (z : a.size ≤ i ∨ b.size ≤ j) : Mrg O kf a b (o ++ a.extract i a.size ++ b.extract j b.size) := by
  have e : (o ++ a.extract i a.size ++ b.extract j b.size).toList = o.toList ++ (a.toList.drop i ++ b.toList.drop j) := by
    rw [Array.toList_append, Array.toList_append, ext_toList, ext_toList, List.append_assoc]
  refine ⟨by rw [e]; exact h.perm, ?_⟩
  rw [e]
  refine List.pairwise_append.mpr ⟨h.srt, ?_, h.low⟩
  rcases z with z | z
  · rw [drop_none z]; exact sb.pw.sublist (List.drop_sublist j _)
  · rw [drop_none z, List.append_nil]; exact sa.pw.sublist (List.drop_sublist i _)
theorem MI.lst (h : MI O kf a b o i j) (sa : Srt O kf a 0 a.size) (sb : Srt O kf b 0 b.size) (z : ∀ y ∈ b.toList.drop j, ∀ x ∈ a.toList.drop i, le O kf y x) : Mrg O kf a b (o ++ b.extract j b.size ++ a.extract i a.size) := by
  have e : (o ++ b.extract j b.size ++ a.extract i a.size).toList = o.toList ++ (b.toList.drop j ++ a.toList.drop i) := by
    rw [Array.toList_append, Array.toList_append, ext_toList, ext_toList, List.append_assoc]
  refine ⟨by rw [e]; exact List.Perm.trans (List.Perm.append_left _ List.perm_append_comm) h.perm, ?_⟩
  rw [e]
  refine List.pairwise_append.mpr ⟨h.srt, ?_, fun x hx y hy => h.low x hx y (by
    rcases List.mem_append.mp hy with q | q
    · exact List.mem_append_right _ q
    · exact List.mem_append_left _ q)⟩
  exact List.pairwise_append.mpr ⟨sb.pw.sublist (List.drop_sublist j _), sa.pw.sublist (List.drop_sublist i _), z⟩
end
section
variable {M : Model} {A : Around} {E : Value → Shared → Prop} {s : Shared} {O : KeyOrd} {kf : Keyed → O.α} {κ : SortKind} {G : Keyed → Prop}
end
end TS
namespace TS
open PySem PyProof.Rows
section
variable {M : Model} {A : Around} {E : Value → Shared → Prop} {s : Shared} {O : KeyOrd} {kf : Keyed → O.α} {κ : SortKind} {G : Keyed → Prop} {a b : Array Keyed}
end
end TS
namespace TS
open PySem PyProof.Rows
section
variable {O : KeyOrd} {kf : Keyed → O.α} {G : Keyed → Prop} {a b o : Array Keyed} {p q : Nat}
theorem ext0_toList (a : Array Keyed) (p : Nat) : (a.extract 0 p).toList = a.toList.take p := by
  rw [Array.toList_extract, List.extract_eq_take_drop]
  simp
structure HI (O : KeyOrd) (kf : Keyed → O.α) (a b o : Array Keyed) (p q : Nat) : Prop where
  perm : (a.toList.take p ++ (b.toList.take q ++ o.toList.reverse)).Perm (a.toList ++ b.toList)
  srt : o.toList.Pairwise (fun x y => le O kf y x)
  hi : ∀ x ∈ o.toList, ∀ y ∈ a.toList.take p ++ b.toList.take q, le O kf y x
theorem HI.fin (h : HI O kf a b o p q) (sa : Srt O kf a 0 a.size) (sb : Srt O kf b 0 b.size) (z : p = 0 ∨ q = 0) : Mrg O kf a b (a.extract 0 p ++ b.extract 0 q ++ o.reverse) := by
  have e : (a.extract 0 p ++ b.extract 0 q ++ o.reverse).toList = a.toList.take p ++ (b.toList.take q ++ o.toList.reverse) := by
    rw [Array.toList_append, Array.toList_append, ext0_toList, ext0_toList, Array.toList_reverse, List.append_assoc]
  refine ⟨by rw [e]; exact h.perm, ?_⟩
  rw [e, ← List.append_assoc]
  refine List.pairwise_append.mpr ⟨?_, by rw [List.pairwise_reverse]; exact h.srt, fun x hx y hy => h.hi y (List.mem_reverse.mp hy) x hx⟩
  rcases z with z | z
  · subst z
    simpa using sb.pw.sublist (List.take_sublist q _)
  · subst z
    simpa using sa.pw.sublist (List.take_sublist p _)
end
section
variable {M : Model} {A : Around} {E : Value → Shared → Prop} {s : Shared} {O : KeyOrd} {kf : Keyed → O.α} {κ : SortKind} {G : Keyed → Prop} {a b : Array Keyed}
end
end TS
namespace TS
open PySem PyProof.Rows
section
variable {O : KeyOrd} {kf : Keyed → O.α}
def KA (O : KeyOrd) (kf : Keyed → O.α) (xs : Array Keyed) (i : Nat) : O.α := kf (xs[i]?.getD (Value.none, Value.none))
def Inc (O : KeyOrd) (kf : Keyed → O.α) (xs : Array Keyed) (lo hi : Nat) : Prop := ∀ i j, lo ≤ i → i ≤ j → j < hi → O.kle (KA O kf xs i) (KA O kf xs j)
theorem KA_at {xs : Array Keyed} {i : Nat} {x : Keyed} (h : xs[i]? = some x) : KA O kf xs i = kf x := by unfold KA; rw [h]; rfl
theorem Inc.srt {xs : Array Keyed} {lo hi : Nat} (h : Inc O kf xs lo hi) : Srt O kf xs lo hi := fun i j x y h1 h2 h3 e1 e2 => by
  have := h i j h1 h2 h3
  rw [KA_at e1, KA_at e2] at this
  exact this
structure Re (lo : Nat) (xs ys : Array Keyed) : Prop where
  perm : ys.Perm xs
  keep : ∀ k, k < lo → ys[k]? = xs[k]?
theorem Re.refl (lo : Nat) (xs : Array Keyed) : Re lo xs xs := ⟨Array.Perm.refl _, fun _ _ => rfl⟩
theorem Re.trans {lo : Nat} {xs ys zs : Array Keyed} (a : Re lo xs ys) (b : Re lo ys zs) : Re lo xs zs := ⟨b.perm.trans a.perm, fun k h => (b.keep k h).trans (a.keep k h)⟩
theorem Re.size {lo : Nat} {xs ys : Array Keyed} (a : Re lo xs ys) : ys.size = xs.size := a.perm.size_eq
theorem Re.mem {lo : Nat} {xs ys : Array Keyed} (a : Re lo xs ys) {G : Keyed → Prop} (h : ∀ x ∈ xs.toList, G x) : ∀ x ∈ ys.toList, G x := fun x hx => h x ((Array.perm_iff_toList_perm.mp a.perm).mem_iff.mp hx)
end
section
variable {M : Model} {A : Around} {E : Value → Shared → Prop} {s : Shared} {O : KeyOrd} {kf : Keyed → O.α} {κ : SortKind} {G : Keyed → Prop}
def RunAt (O : KeyOrd) (kf : Keyed → O.α) (lo nrem : Nat) (st : SortSt) (Q : Option Nat → SortSt → Prop) : Prop :=
  ∀ m xs, Re lo (arrOf st) xs → 1 ≤ m → m ≤ nrem → Inc O kf xs lo (lo + m) → Q (some m) (setArr st xs)
theorem RunAt.step {lo nrem : Nat} {st : SortSt} {Q : Option Nat → SortSt → Prop} {xs : Array Keyed} (h : RunAt O kf lo nrem st Q) (r : Re lo (arrOf st) xs) : RunAt O kf lo nrem (setArr st xs) Q :=
  fun m ys r' h1 h2 h3 => h m ys (r.trans r') h1 h2 h3
end
end TS
namespace TS
open PySem PyProof.Rows
abbrev Pd := Nat × Nat × Nat
section
variable {O : KeyOrd} {kf : Keyed → O.α} {G : Keyed → Prop}
end
section
variable {M : Model} {A : Around} {E : Value → Shared → Prop} {s : Shared} {O : KeyOrd} {kf : Keyed → O.α} {κ : SortKind} {G : Keyed → Prop}
end
end TS
namespace TS
open PySem PyProof.Rows
section
variable {O : KeyOrd} {kf : Keyed → O.α} {G : Keyed → Prop}
def Runs (O : KeyOrd) (kf : Keyed → O.α) (xs : Array Keyed) : List Pd → Nat → Nat → Prop
  | [], a, b => a = b
  | (s, n, _) :: r, a, b => s = a ∧ 0 < n ∧ Srt O kf xs s (s + n) ∧ Runs O kf xs r (s + n) b
theorem Runs.le {xs : Array Keyed} : ∀ {p : List Pd} {a b : Nat}, Runs O kf xs p a b → a + p.length ≤ b
  | [], a, b, h => Nat.le_of_eq h
  | (s, n, w) :: r, a, b, h => by
    obtain ⟨rfl, h1, _, h2⟩ := h
    have := Runs.le h2
    simp
    omega
theorem Runs.app {xs : Array Keyed} : ∀ {p q : List Pd} {a c : Nat}, Runs O kf xs (p ++ q) a c ↔ ∃ b, Runs O kf xs p a b ∧ Runs O kf xs q b c
  | [], q, a, c => ⟨fun h => ⟨a, rfl, h⟩, fun ⟨b, h1, h2⟩ => by
      have h1 : a = b := h1
      rw [h1]; exact h2⟩
  | (s, n, w) :: r, q, a, c => by
    constructor
    · rintro ⟨h1, h2, h3, h4⟩
      obtain ⟨b, h5, h6⟩ := Runs.app.mp h4
      exact ⟨b, ⟨h1, h2, h3, h5⟩, h6⟩
    · rintro ⟨b, ⟨h1, h2, h3, h5⟩, h6⟩
      exact ⟨h1, h2, h3, Runs.app.mpr ⟨b, h5, h6⟩⟩
theorem Srt.congr {xs ys : Array Keyed} {lo hi : Nat} (h : Srt O kf xs lo hi) (k : ∀ t, lo ≤ t → t < hi → ys[t]? = xs[t]?) : Srt O kf ys lo hi := fun i j x y a b c e1 e2 => by
  rw [k i a (by omega)] at e1
  rw [k j (by omega) c] at e2
  exact h i j x y a b c e1 e2
theorem Runs.congr {xs ys : Array Keyed} : ∀ {p : List Pd} {a b : Nat}, Runs O kf xs p a b → (∀ t, a ≤ t → t < b → ys[t]? = xs[t]?) → Runs O kf ys p a b
  | [], a, b, h, _ => h
  | (s, n, w) :: r, a, b, h, k => by
    obtain ⟨rfl, h1, h2, h3⟩ := h
    have := Runs.le h3
    exact ⟨rfl, h1, h2.congr fun t c d => k t c (by omega), Runs.congr h3 fun t c d => k t (by omega) d⟩
structure Good (O : KeyOrd) (kf : Keyed → O.α) (κ : SortKind) (a0 : Array Keyed) (lo : Nat) (st : SortSt) : Prop where
  kind : kindOf st = κ
  ok : failedOf st = none
  perm : (arrOf st).Perm a0
  runs : Runs O kf (arrOf st) (pendingOf st).toList 0 lo
theorem Runs.same {xs : Array Keyed} : ∀ {p q : List Pd} {a b : Nat}, p.map (fun v => (v.1, v.2.1)) = q.map (fun v => (v.1, v.2.1)) → Runs O kf xs p a b → Runs O kf xs q a b
  | [], [], _, _, _, h => h
  | [], _ :: _, _, _, e, _ => by simp at e
  | _ :: _, [], _, _, e, _ => by simp at e
  | (s, n, w) :: r, (s', n', w') :: r', a, b, e, h => by
    simp at e
    obtain ⟨⟨rfl, rfl⟩, e⟩ := e
    obtain ⟨h1, h2, h3, h4⟩ := h
    exact ⟨h1, h2, h3, Runs.same (by simpa using e) h4⟩
theorem Good.push {κ : SortKind} {a0 : Array Keyed} {lo n : Nat} {st : SortSt} (g : Good O kf κ a0 lo st) (hs : Srt O kf (arrOf st) lo (lo + n)) (hn : 1 ≤ n) : Good O kf κ a0 (lo + n) (setPending st ((pendingOf st).push (lo, n, 0))) :=
  ⟨g.kind, g.ok, g.perm, by
    show Runs O kf (arrOf st) ((pendingOf st).push (lo, n, 0)).toList 0 (lo + n)
    rw [Array.toList_push]
    exact Runs.app.mpr ⟨lo, g.runs, rfl, hn, hs, rfl⟩⟩
theorem Good.mem {κ : SortKind} {a0 : Array Keyed} {lo : Nat} {st : SortSt} (g : Good O kf κ a0 lo st) (h : ∀ x ∈ a0.toList, G x) : ∀ x ∈ (arrOf st).toList, G x := fun x hx => h x ((Array.perm_iff_toList_perm.mp g.perm).mem_iff.mp hx)
theorem Good.size {κ : SortKind} {a0 : Array Keyed} {lo : Nat} {st : SortSt} (g : Good O kf κ a0 lo st) : (arrOf st).size = a0.size := g.perm.size_eq
end
section
variable {M : Model} {A : Around} {E : Value → Shared → Prop} {s : Shared} {O : KeyOrd} {kf : Keyed → O.α} {κ : SortKind} {G : Keyed → Prop} {a0 : Array Keyed}
end
end TS
namespace TS
open PySem PyProof.Rows
section
variable {prog : Program} {w : World} {A : Around} {E : Value → Shared → Prop} {s : Shared} {O : KeyOrd} {kf : Keyed → O.α} {κ : SortKind}
def Grown (s s1 : Shared) : Prop := ∀ b o, s.heap.get? b = some o → s1.heap.get? b = some o
end
end TS
namespace TS
open PySem PyProof.Rows
def Two2 (h : Heap) (v : Value) (p : Int × Int) : Prop := ∃ a t u, v = .ref a ∧ IsTup h a #[.int p.1 t, .int p.2 u]
theorem Two2.grow {s s1 : Shared} {v : Value} {p : Int × Int} (e : Two2 s.heap v p) (g : Grown s s1) : Two2 s1.heap v p := by
  obtain ⟨a, t, u, rfl, o, ho, hc, n, hd⟩ := e
  exact ⟨a, t, u, rfl, o, g a o ho, hc, n, hd⟩
section
variable {prog : Program} {w : World} {A : Around} {E : Value → Shared → Prop} {s : Shared}
end
theorem Paired.perm {α β : Type} {R : α → β → Prop} {us us' : List β} (p : us'.Perm us) : ∀ {xs : List α}, Paired R xs us → ∃ xs', xs'.Perm xs ∧ Paired R xs' us' := by
  induction p with
  | nil => exact fun {xs} h => ⟨xs, List.Perm.refl _, h⟩
  | cons x _ ih =>
    intro xs h
    cases h with
    | cons r rs =>
      obtain ⟨xs', h1, h2⟩ := ih rs
      exact ⟨_ :: xs', h1.cons _, .cons r h2⟩
  | swap x y l =>
    intro xs h
    cases h with
    | cons r rs =>
      cases rs with
      | cons r' rs => exact ⟨_ :: _ :: _, List.Perm.swap .., .cons r' (.cons r rs)⟩
  | trans _ _ ih1 ih2 =>
    intro xs h
    obtain ⟨x1, h1, h2⟩ := ih2 h
    obtain ⟨x2, h3, h4⟩ := ih1 h2
    exact ⟨x2, h3.trans h1, h4⟩
end TS
namespace L2
open PySem PySem.Spec PyProof.Rows
def P2 (K : PySem.W.Frag) (H : Hp) (v : V) (p : Int × Int) : Prop := ∃ a, v = .ref a ∧ H a = some (.tup [.int p.1, .int p.2])
section
variable {X : Cx}
end
end L2
namespace L2
open PySem PySem.Spec PyProof.Rows
def cloOf (env : Env) (ns : List (Str × NameKind)) (acc : List (Str × Addr)) : List (Str × Addr) := ns.foldl (fun cs x => if x.2 == .free then (x.1, (env.cells.lookup x.1).getD 0) :: cs else cs) acc
theorem clo_go {env : Env} : ∀ (ns : List (Str × NameKind)) (acc : List (Str × Addr)), (∀ x ∈ ns, x.2 = .free → ∃ c, env.cells.lookup x.1 = some c) →
    (forIn ns acc fun (x : Str × NameKind) (cs : List (Str × Addr)) => (match x with | (name, kind) => if kind == .free then (do let c ← cellOf env name; pure (ForInStep.yield ((name, c) :: cs)) : Sem (ForInStep (List (Str × Addr)))) else pure (ForInStep.yield cs))) = (pure (cloOf env ns acc) : Sem (List (Str × Addr)))
  | [], acc, _ => by rw [List.forIn_nil]; rfl
  | (n, k) :: r, acc, h => by
    rw [List.forIn_cons]
    have hr := clo_go (env := env) r
    by_cases hk : k = .free
    · subst hk
      obtain ⟨c, hc⟩ := h (n, .free) List.mem_cons_self rfl
      have e1 : cellOf env n = pure c := by unfold cellOf; rw [hc]
      simp only [beq_self_eq_true, if_true, e1, pure_bind]
      rw [hr _ fun x hx => h x (List.mem_cons_of_mem _ hx)]
      unfold cloOf
      simp [hc]
    · have hb : (k == NameKind.free) = false := by simpa using hk
      simp only [hb, Bool.false_eq_true, if_false, pure_bind]
      rw [hr _ fun x hx => h x (List.mem_cons_of_mem _ hx)]
      unfold cloOf
      rw [List.foldl_cons]
      simp only [hb, Bool.false_eq_true, if_false]
theorem clo_eq {env : Env} {scope : Scope} (h : ∀ x ∈ scope.names, x.2 = .free → ∃ c, env.cells.lookup x.1 = some c) : closureFor scope env = pure (cloOf env scope.names []) := by
  unfold closureFor
  have := clo_go scope.names [] h
  simp only [bind_pure_comp] at this
  simp only [bind_pure_comp, id_map', this]
  rfl
theorem clo_sub {env : Env} : ∀ (ns : List (Str × NameKind)) (acc : List (Str × Addr)), (∀ x ∈ ns, x.2 = .free → ∃ c, env.cells.lookup x.1 = some c) → (∀ x c, acc.lookup x = some c → env.cells.lookup x = some c) →
    ∀ x c, (cloOf env ns acc).lookup x = some c → env.cells.lookup x = some c
  | [], _, _, h => h
  | (n, k) :: r, acc, hf, h => by
    have ih := clo_sub (env := env) r (if k == .free then (n, (env.cells.lookup n).getD 0) :: acc else acc) (fun x hx => hf x (List.mem_cons_of_mem _ hx)) (fun x c e => by
      by_cases hk : k = .free
      · subst hk
        simp only [beq_self_eq_true, if_true] at e
        obtain ⟨c', hc⟩ := hf (n, .free) List.mem_cons_self rfl
        rw [List.lookup_cons] at e
        by_cases hx : x = n
        · subst hx
          simp [hc] at e
          rw [hc, e]
        · rw [show (x == n) = false by simpa using hx] at e
          exact h x c e
      · rw [show (k == NameKind.free) = false by simpa using hk] at e
        exact h x c e)
    exact ih
theorem clo_sub0 {env : Env} {ns : List (Str × NameKind)} (h : ∀ x ∈ ns, x.2 = .free → ∃ c, env.cells.lookup x.1 = some c) : ∀ x c, (cloOf env ns []).lookup x = some c → env.cells.lookup x = some c := clo_sub ns [] h fun _ _ e => by cases e
theorem clo_acc {env : Env} : ∀ (ns : List (Str × NameKind)) (acc : List (Str × Addr)) (x : Str) (c : Addr), acc.lookup x = some c → ∃ c, (cloOf env ns acc).lookup x = some c
  | [], _, _, c, h => ⟨c, h⟩
  | (n, k) :: r, acc, x, c, h => by
    show ∃ c, (cloOf env r (if k == .free then (n, (env.cells.lookup n).getD 0) :: acc else acc)).lookup x = some c
    by_cases hk : k = .free
    · subst hk
      simp only [beq_self_eq_true, if_true]
      by_cases hx : x = n
      · subst hx
        exact clo_acc r _ x ((env.cells.lookup x).getD 0) (by rw [List.lookup_cons]; simp)
      · exact clo_acc r _ x c (by rw [List.lookup_cons, show (x == n) = false by simpa using hx]; exact h)
    · rw [show (k == NameKind.free) = false by simpa using hk]
      exact clo_acc r _ x c h
theorem clo_has {env : Env} : ∀ (ns : List (Str × NameKind)) (acc : List (Str × Addr)) (x : Str), (x, NameKind.free) ∈ ns → ∃ c, (cloOf env ns acc).lookup x = some c
  | (n, k) :: r, acc, x, h => by
    show ∃ c, (cloOf env r (if k == .free then (n, (env.cells.lookup n).getD 0) :: acc else acc)).lookup x = some c
    rcases List.mem_cons.mp h with e | h
    · injection e with e1 e2
      subst e1 e2
      simp only [beq_self_eq_true, if_true]
      exact clo_acc r _ x ((env.cells.lookup x).getD 0) (by rw [List.lookup_cons]; simp)
    · exact clo_has r _ x h
theorem rel_free {env : Env} : ∀ {names : List (Str × NameKind)} {x : Str}, names.lookup x = some .free →
    (names.map fun (n, k) => if (k == NameKind.free && env.scope.kind == .function && env.kindOf n == some .cell) then (n, NameKind.cell) else (n, k)).lookup x = some .cell ∨
    (names.map fun (n, k) => if (k == NameKind.free && env.scope.kind == .function && env.kindOf n == some .cell) then (n, NameKind.cell) else (n, k)).lookup x = some .free
  | [], _, h => by simp at h
  | (n, k) :: r, x, h => by
    simp only [List.map_cons]
    by_cases hx : x = n
    · subst hx
      simp [List.lookup_cons] at h
      subst h
      by_cases hc : (NameKind.free == NameKind.free && env.scope.kind == .function && env.kindOf x == some .cell) = true
      · rw [if_pos hc]; left; simp [List.lookup_cons]
      · rw [if_neg hc]; right; simp [List.lookup_cons]
    · have hb : (x == n) = false := by simpa using hx
      rw [List.lookup_cons, hb] at h
      have ih := rel_free (env := env) h
      by_cases hc : (k == NameKind.free && env.scope.kind == .function && env.kindOf n == some .cell) = true
      · rw [if_pos hc]; simp only [List.lookup_cons, hb]; exact ih
      · rw [if_neg hc]; simp only [List.lookup_cons, hb]; exact ih
theorem rel_of {env : Env} : ∀ {names : List (Str × NameKind)} {x : Str} {k' : NameKind}, (names.map fun (n, k) => if (k == NameKind.free && env.scope.kind == .function && env.kindOf n == some .cell) then (n, NameKind.cell) else (n, k)).lookup x = some k' →
    k' = .cell ∨ k' = .free → (x, NameKind.free) ∈ names ∨ (x, NameKind.cell) ∈ names
  | [], _, _, h, _ => by simp at h
  | (n, k) :: r, x, k', h, hk => by
    simp only [List.map_cons] at h
    by_cases hx : x = n
    · subst hx
      by_cases hc : (k == NameKind.free && env.scope.kind == .function && env.kindOf x == some .cell) = true
      · have : k = .free := by simp at hc; exact hc.1.1
        subst this
        exact .inl List.mem_cons_self
      · rw [if_neg hc] at h
        simp [List.lookup_cons] at h
        subst h
        rcases hk with rfl | rfl
        · exact .inr List.mem_cons_self
        · exact .inl List.mem_cons_self
    · have hb : (x == n) = false := by simpa using hx
      have ih := rel_of (env := env) (names := r) (x := x) (k' := k') (by
        by_cases hc : (k == NameKind.free && env.scope.kind == .function && env.kindOf n == some .cell) = true
        · rw [if_pos hc] at h; simp only [List.lookup_cons, hb] at h; exact h
        · rw [if_neg hc] at h; simp only [List.lookup_cons, hb] at h; exact h) hk
      exact ih.imp (List.mem_cons_of_mem _) (List.mem_cons_of_mem _)

def blk (X : Cx) (N : List Str) (scope : Scope) (cl : List (Str × Addr)) (C : Addr) (fp : List Addr) (s2 : Shared) (H2 : Hp) : Cx :=
  { X with N := N, s₀ := s2, H₀ := H2, env := compEnvC scope cl C X.env, outer := X.stack, stack := X.stack, ex := fp, fn := fun _ => false, pn := [], xe := fun _ _ => False }
structure BlkScope (X : Cx) (own : List Str) (fr : List Nat) (scope : Scope) : Prop where
  kind : scope.kind = .function
  nocell : ∀ x ∈ scope.names, x.2 ≠ .cell
  names : ∀ x ∈ scope.names, x.2 = .local → scope.names.lookup x.1 = some .local
  free : ∀ x ∈ scope.names, x.2 = .free → X.env.kindOf x.1 = some .cell ∨ X.env.kindOf x.1 = some .free
  look : ∀ i ∈ fr, scope.names.lookup (X.N.getD i "") = some .free
def blkN (X : Cx) (own : List Str) (fr : List Nat) : List Str := own ++ fr.map fun i => X.N.getD i ""
def blkSt (own : List Str) (fr : List Nat) (σ : St) : St := (own.map fun _ => none) ++ fr.map fun i => (σ[i]?).join
section
variable {X : Cx} {pins : List (Addr × Obj)} {σ : St} {H : Hp} {s : Shared} {own : List Str} {fr : List Nat} {scope : Scope}
abbrev lobj (its : List Value) (n : Nat) : Obj := { cls := .type "list", data := .seq its.toArray n }
theorem blk_ok {C : Addr} {fp : List Addr} (B : BlkScope X own fr scope) (I : Inv X pins σ H s) (hf : ∀ b ∈ fp, FpOk X pins H b) (hfo : ∀ b ∈ fp, b < s.heap.objs.size) (hC : s.heap.objs.size ≤ C) :
    (blk X (blkN X own fr) scope (cloOf X.env scope.names []) C fp s H).Ok where
  mod := I.ok.mod
  kind := B.kind
  glob := I.ok.glob
  blt := I.ok.blt
  above := hC
  inj := fun x y c h1 h2 => I.ok.inj x y c (clo_sub0 (fun z hz e => I.ok.has _ (B.free z hz e)) x c h1) (clo_sub0 (fun z hz e => I.ok.has _ (B.free z hz e)) y c h2)
  has := fun x h => by
    have h' : (x, NameKind.free) ∈ scope.names ∨ (x, NameKind.cell) ∈ scope.names := by
      rcases h with h | h
      · exact rel_of (env := X.env) h (.inl rfl)
      · exact rel_of (env := X.env) h (.inr rfl)
    rcases h' with h' | h'
    · exact clo_has _ _ _ h'
    · exact absurd rfl (B.nocell _ h')
  cab := fun x c h => nomatch h
  hd := I.ok.hd
  frames := I.ok.frames
  stk := .inl rfl
  exf := fun b hb => ⟨Nat.ne_of_lt (Nat.lt_of_lt_of_le (hfo b hb) hC), fun x c e => (hf b hb).2.2.2.2.1 x c (clo_sub0 (fun z hz e => I.ok.has _ (B.free z hz e)) x c e)⟩
  bs := I.bs
  bsz := Nat.le_trans I.ok.bsz I.sz
  noex := fun b o e hb => by
    rcases (hf b hb).2.2.2.1 with z | z
    · exact I.ok.noex b o e z
    · exact absurd (Nat.lt_of_lt_of_le (Heap.lt_size (I.ok.bs b o e).1) z) (Nat.lt_irrefl _)
  exfs := fun b hb z => by
    rcases List.mem_cons.mp (I.stkSub b z) with e | e
    · exact (hf b hb).2.1 e
    · exact (hf b hb).2.2.1 e
  funs := I.stack
  frf := I.stkFree
theorem blk_start {C D : Addr} {fp : List Addr} {h4 : Heap} {tk : Nat} {n : Nat} (B : BlkScope X own fr scope) (I : Inv X pins σ H s) (hf : ∀ b ∈ fp, FpOk X pins H b) (hfo : ∀ b ∈ fp, b < s.heap.objs.size) (hC : s.heap.objs.size ≤ C) (hD : s.heap.objs.size ≤ D) (hDC : D ≠ C)
    (k : ∀ b o, s.heap.get? b = some o → h4.get? b = some o) (hn : h4.Ns C fun _ => none) (hl : h4.get? D = some (lobj [] n)) :
    Inv (blk X (blkN X own fr) scope (cloOf X.env scope.names []) C fp s H) [(D, lobj [] n)] (blkSt own fr σ) H { s with heap := h4, toks := tk } := by
  have sub := clo_sub0 (env := X.env) (ns := scope.names) (fun z hz e => I.ok.has _ (B.free z hz e))
  refine ⟨blk_ok B I hf hfo hC, rfl, I.bare, Un.kept k, ⟨_, hn, fun i x v h1 h2 h3 => ?_⟩, fun x c e => ?_, I.hok.fresh hC, fun x c e => I.freeC x c (sub x c e), fun p hp => ?_, I.hok.kept k, ?_⟩
  · have h1 : (blkN X own fr)[i]? = some x := h1
    unfold blkN at h1
    unfold blkSt at h2
    by_cases hi : i < own.length
    · rw [List.getElem?_append_left (by simpa using hi), List.getElem?_map] at h2
      cases q : own[i]? with
      | none => rw [q] at h2; cases h2
      | some a => rw [q] at h2; cases h2
    · rw [List.getElem?_append_right (by simpa using hi), List.getElem?_map] at h2
      rw [List.getElem?_append_right (by simpa using hi), List.getElem?_map] at h1
      rw [List.length_map] at h2
      cases q : fr[i - own.length]? with
      | none => rw [q] at h2; cases h2
      | some j =>
        rw [q] at h1 h2
        have h1 : X.N.getD j "" = x := Option.some.inj h1
        have h2 : (σ[j]?).join = some v := Option.some.inj h2
        have h2' : σ[j]? = some (some v) := by
          cases w : σ[j]? with
          | none => rw [w] at h2; cases h2
          | some y => rw [w] at h2; cases y with
            | none => cases h2
            | some y => cases h2; rfl
        have hjl : j < X.N.length := by rw [← I.len]; exact (List.getElem?_eq_some_iff.mp h2').1
        have hN : X.N[j]? = some x := by
          rw [← h1, List.getElem?_eq_getElem hjl]
          simp [hjl]
        have hfree : scope.names.lookup x = some .free := by rw [← h1]; exact B.look j (List.mem_of_getElem? q)
        have hk := B.free (x, .free) (PySem.mem_of_lookup hfree) rfl
        obtain ⟨m, _, hloc⟩ := I.loc
        obtain ⟨u, r, l⟩ := hloc j x v hN h2' (by
          rcases hk with z | z
          · exact .inr (.inl z)
          · exact .inr (.inr z))
        refine ⟨u, r, .inr ⟨?_, ?_⟩⟩
        · exact rel_free (env := X.env) hfree
        · rcases l with ⟨l, _⟩ | ⟨_, c, hc, o, ho, hd⟩
          · have hk : X.env.kindOf x = some .cell ∨ X.env.kindOf x = some .free := hk
            rw [l] at hk
            rcases hk with z | z <;> cases z
          · obtain ⟨c', hc'⟩ := clo_has (env := X.env) scope.names [] x (PySem.mem_of_lookup hfree)
            have := sub x c' hc'
            rw [hc] at this
            cases this
            exact ⟨c, hc', o, k _ _ ho, hd⟩
  · obtain ⟨v, o, ho, hd⟩ := I.cell x c (sub x c e)
    exact ⟨v, o, k _ _ ho, hd⟩
  · have hp : p ∈ [(D, lobj [] n)] := by simpa [blk] using hp
    obtain rfl := List.mem_singleton.mp hp
    refine ⟨hl, I.hok.fresh hD, hDC, fun z => ?_, fun v e => by cases e⟩
    rcases List.mem_cons.mp (I.stkSub D z) with e | e
    · exact Nat.ne_of_lt (Nat.lt_of_lt_of_le I.lt hD) e.symm
    · exact I.nofs hD e
  · show (blkSt own fr σ).length = (blkN X own fr).length
    unfold blkSt blkN
    simp
end
end L2
namespace L2
open PySem PySem.Spec PyProof.Rows
def PIf (X : Cx) (ifs : List Expr) (t : TT) : Prop :=
  ∀ (pins : List (Addr × Obj)) (s : Shared) (σ : St) (H : Hp) (Q : Bool → Hp → Prop), Inv X pins σ H s → t σ H Q →
    wpAny (model X.prog X.w) X.A (forIn ifs true fun c r => if r = true then do let ok ← isTrue c X.env (eval c X.env); pure (ForInStep.yield ok) else pure (ForInStep.yield r)) (TP X pins σ Q) X.xe s
def tYes : TT := fun _ H Q => Q true H
section
variable {X : Cx} {pins : List (Addr × Obj)} {σ : St} {H : Hp} {s : Shared} {own : List Str} {fr : List Nat} {scope : Scope}
theorem pif_nil : PIf X [] tYes := fun _ _ _ H _ I h => wpAny_tests_nil ⟨H, I, h⟩
theorem pif_one {c : Expr} {t : TT} (h : PT X c t) : PIf X [c] t := fun pins s σ H Q I hw => wpAny_tests_one (h pins s σ H Q I hw)
def compLoopR (J : It) (g : TG) (tc : TT) (te : TE) (fin : List V → Hp → Prop) (W : Nat → Nat → List V → St → Hp → Prop) : Prop :=
  ∀ i m ys σ' H', W i m ys σ' H' → (J.stop i H' ∧ fin ys H') ∨
    (J.go i H' ∧ ys.length < sizeLine ∧ ∃ N : List V → St → Hp → Prop, (∀ ys' σ2 H2, N ys' σ2 H2 → ∃ m', m' < m ∧ W (i + 1) m' ys' σ2 H2) ∧
      ∀ x H2, J.yld i H' x H2 → g x σ' H2 fun σ2 H3 => tc σ2 H3 fun b H4 => if b = true then te σ2 H4 fun y H5 => N (ys ++ [y]) σ2 H5 else N ys σ2 H4)
def tComp (own : List Str) (fr : List Nat) (wi : TI) (g : TG) (tc : TT) (te : TE) : TE := fun σ H Q => wi σ H fun J H1 =>
  ∃ W : Nat → Nat → List V → St → Hp → Prop, (∃ m, W 0 m [] (blkSt own fr σ) H1) ∧ compLoopR J g tc te (fun ys H' => ∀ l, H' l = none → Q (.ref l) (upd H' l (.lst ys))) W
theorem blk_end {N : List Str} {cl : List (Str × Addr)} {C l : Addr} {fp : List Addr} {s4 : Shared} {H' : Hp} {σ' : St} {its : List Value} {k : Nat} {ys : List V} (I : Inv X pins σ H s) (hf : ∀ b ∈ fp, FpOk X pins H b) (hl : s.heap.objs.size ≤ l)
    (I4 : Inv (blk X N scope cl C fp s H) [(l, lobj its k)] σ' H' s4) (rv : Vals ys its) (hz : ys.length ≤ sizeLine) : Inv X pins σ (upd H' l (.lst ys)) s4 := by
  have base : Un (frs X.stack) fp H H' s.heap s4.heap := I4.base
  have pin := I4.pin (l, lobj its k) (List.mem_append_right _ List.mem_cons_self)
  have nl : ∀ b o, s.heap.get? b = some o → b ≠ l := fun b o e => Nat.ne_of_lt (Nat.lt_of_lt_of_le (Heap.lt_size e) hl)
  have nh : ∀ b u, H' b = some u → b ≠ l := fun b u e => ne_of_none e pin.2.1
  refine I.call' (ch := fp) I4.os ⟨base.keep, base.slot, fun b o e n hx => ?_, base.there, fun b xs e => ?_, fun b o u e => ?_, fun b ps e => ?_⟩ (fun b u e => ?_) I4.bare (fun b hb => ⟨(hf b hb).2.2.2.1, (hf b hb).2.1, (hf b hb).2.2.2.2.1, (hf b hb).2.2.2.2.2⟩)
  · rw [upd_ne (nl b o e)]; exact base.free b o e n hx
  · have := base.tups b xs e
    rw [upd_ne (nh b _ this)]; exact this
  · have := base.frzs b o u e
    rw [upd_ne (nh b _ this)]; exact this
  · obtain ⟨more, this⟩ := base.tbls b ps e
    exact ⟨more, by rw [upd_ne (nh b _ this)]; exact this⟩
  · by_cases hb : b = l
    · subst hb
      rw [upd_same] at e
      cases e
      exact ⟨hz, its, k, rv, pin.1⟩
    · rw [upd_ne hb] at e
      exact (I4.hok b u e).stay (fun c v _ q => q) (fun c q => by rw [upd_ne (nh c _ q)]; exact q) fun c xs q => by rw [upd_ne (nh c _ q)]; exact q
theorem comp_core {elt iter tg : Expr} {ifs : List Expr} {pos : Pos} {g : TG} {tc : TT} {te : TE} {it : Addr} {fp : List Addr} {tn : Nat → Heap → Prop} {J : It} {fin : List V → Hp → Prop} {W : Nat → Nat → List V → St → Hp → Prop} {m0 : Nat}
    {RR : Value → Addr → Result → Shared → Prop} {E : Value → Shared → Prop} (hc : X.calm = true) (B : BlkScope X own fr scope)
    (hg : ∀ cl C fp s2 H2, PG (blk X (blkN X own fr) scope cl C fp s2 H2) tg g) (ht : ∀ cl C fp s2 H2, PIf (blk X (blkN X own fr) scope cl C fp s2 H2) ifs tc) (he : ∀ cl C fp s2 H2, PE (blk X (blkN X own fr) scope cl C fp s2 H2) elt te)
    (I : Inv X pins σ H s) (T : Turn X.prog X.w X.K tg J fp it tn) (st0 : tn 0 s.heap) (hf : ∀ b ∈ fp, FpOk X pins H b) (w0 : W 0 m0 [] (blkSt own fr σ) H) (hW : compLoopR J g tc te fin W)
    (post : ∀ (l C : Addr) (s4 : Shared) (ys : List V) (H' : Hp) (m : Str → Option Value), s.heap.objs.size ≤ C → H' C = none → H' l = none → l ≠ C → s4.heap.Ns C m → Inv X pins σ (upd H' l (.lst ys)) s4 → fin ys H' → RR (.ref l) C (.ok .next) s4) :
    wpAny (model X.prog X.w) X.A (newList []) (fun acc s₃ => wpAny (model X.prog X.w) X.A (newFunctionEnv scope X.env.globals (cloOf X.env scope.names []) [] X.env.qual none .none (some X.env)) (fun cenv s₄ =>
      codeAny (model X.prog X.w) X.A (.compStart (.ListComp elt [⟨tg, iter, ifs, 0⟩] scope pos) 0 (.ref it) acc { cenv with scope := relabel scope X.env }) (RR acc cenv.locals) s₄) E s₃) E s := by
  have hfo : ∀ b ∈ fp, b < s.heap.objs.size := fun b hb => by
    obtain ⟨o, e, _⟩ := T.obj _ _ st0 b hb
    exact Heap.lt_size e
  refine wpAny_newObj_type (wpAny_newFunctionEnv B.nocell (by intro y hy; simp at hy) (fun h1 hns hsb => ?_) B.kind)
  dsimp only at hns hsb ⊢
  generalize hH2 : s.heap.push { cls := .type "list", dict := none, data := .seq ([] : List Value).toArray } = h2 at hns hsb ⊢
  have hC : h2.objs.size = s.heap.objs.size + 1 := by rw [← hH2, Heap.size_push]
  have hDC : s.heap.objs.size ≠ h2.objs.size := by rw [hC]; exact Nat.ne_of_lt (Nat.lt_succ_self _)
  have hCle : s.heap.objs.size ≤ h2.objs.size := by rw [hC]; exact Nat.le_succ _
  have old : ∀ b o, s.heap.get? b = some o → h1.get? b = some o := fun b o e => hsb.extBut b o (by rw [hC]; exact Nat.ne_of_lt (Nat.lt_succ_of_lt (Heap.lt_size e))) (Heap.get?_push_of_some _ (hH2 ▸ Heap.get?_push_of_some _ e))
  have hacc : h1.get? s.heap.objs.size = some (lobj [] 0) := hsb.extBut _ _ hDC (Heap.get?_push_of_some _ (hH2 ▸ Heap.get?_push_size _ rfl))
  have hns' : h1.Ns h2.objs.size fun _ => none := hns
  have I0 := blk_start (tk := s.toks + ([] : List (Str × Value)).length) B I hf hfo hCle (Nat.le_refl _) hDC old hns' hacc
  have st1 : tn 0 h1 := T.keep _ _ _ st0 fun b hb o e => old b o e
  have loop : codeAny (model X.prog X.w) X.A (.compLoop (.ListComp elt [⟨tg, iter, ifs, 0⟩] scope pos) 0 (.ref it) (.ref s.heap.objs.size) (compEnvC scope (cloOf X.env scope.names []) h2.objs.size X.env))
      (RR (.ref s.heap.objs.size) h2.objs.size) { s with heap := h1, toks := s.toks + ([] : List (Str × Value)).length } := by
    generalize hl : s.heap.objs.size = l at *
    generalize hCC : h2.objs.size = C at *
    -- what stays true of the iterator's objects
    have stat : ∀ {H' : Hp} {o : Obj}, (∀ b ∈ fp, H' b = none) → ∀ b ∈ fp, FpOk (blk X (blkN X own fr) scope (cloOf X.env scope.names []) C fp s H) [(l, o)] H' b := fun {H' o} hn b hb => by
      refine ⟨hn b hb, fun e => ?_, fun z => ?_, .inl hb, fun x c e z => ?_, fun p hp z => ?_⟩
      · exact Nat.ne_of_lt (Nat.lt_of_lt_of_le (hfo b hb) hCle) e
      · rcases List.mem_cons.mp (I.stkSub b z) with e | e
        · exact (hf b hb).2.1 e
        · exact (hf b hb).2.2.1 e
      · exact (hf b hb).2.2.2.2.1 x c (clo_sub0 (fun z hz e => I.ok.has _ (B.free z hz e)) x c e) z
      · have hp : p ∈ [(l, o)] := by simpa [blk] using hp
        obtain rfl := List.mem_singleton.mp hp
        exact Nat.ne_of_lt (hfo b hb) z.symm
    refine codeAny_loop rfl (fun n s' => ∃ i ys σ' H' its k, Inv (blk X (blkN X own fr) scope (cloOf X.env scope.names []) C fp s H) [(l, lobj its k)] σ' H' s' ∧ Vals ys its ∧ ys.length ≤ sizeLine ∧ tn i s'.heap ∧ (∀ b ∈ fp, H' b = none) ∧ W i n ys σ' H')
      (fun n s3 hI => ?_) m0 ⟨0, [], blkSt own fr σ, H, [], 0, I0, .nil, Nat.zero_le _, st1, fun b hb => (hf b hb).1, w0⟩
    show wpAny _ X.A ((compTurn (.ListComp elt [⟨tg, iter, ifs, 0⟩] scope pos) 0 (.ref it) (.ref l) (compEnvC scope (cloOf X.env scope.names []) C X.env)).onRaise (fun x => do noteFrame x (compEnvC scope (cloOf X.env scope.names []) C X.env); theTreesLotGoes x)) _ _ s3
    refine wpAny_noted ?_
    rw [compTurn_list]
    obtain ⟨i, ys, σ3, H3, its, k, I3, rv, hz, st3, fr3, w3⟩ := hI
    refine wpAny_bind (wpAny_standAt (wpAny_bind ?_))
    rcases hW i n ys σ3 H3 w3 with ⟨stop, qn⟩ | ⟨go, hlt, N, hN, step⟩
    · refine thn (T.done (blk X (blkN X own fr) scope (cloOf X.env scope.names []) C fp s H) rfl rfl rfl hc i _ s3 σ3 H3 _ I3 (stat fr3) st3 stop) fun r s4 ⟨hr, I4⟩ => ?_
      subst hr
      obtain ⟨m, hm, _⟩ := I4.loc
      exact wpAny_pure (post l C s4 ys H3 m hCle I4.free (I4.pin (l, lobj its k) (List.mem_append_right _ List.mem_cons_self)).2.1 hDC hm (blk_end I hf (Nat.le_of_eq hl) I4 rv hz) qn)
    · refine thn (T.item (blk X (blkN X own fr) scope (cloOf X.env scope.names []) C fp s H) rfl rfl rfl hc i _ s3 σ3 H3 _ I3 (stat fr3) st3 go) fun r s4 ⟨u, hr, h4⟩ => ?_
      subst hr
      refine wpAny_bind (thn h4 fun _ s5 ⟨x, H5, I5, r5, y5, st5, fr5⟩ => ?_)
      have I5' := I5.pinned (stat fr5) (T.obj _ _ st5)
      refine wpAny_bind (wpAny_mono (hg _ _ _ _ _ _ s5 σ3 H5 x u _ I5' r5 (step x H5 y5)) (fun _ s6 ⟨σ6, H6, I6, q6⟩ => ?_) fun _ _ z => z.elim)
      refine wpAny_bind (wpAny_mono (ht _ _ _ _ _ _ s6 σ6 H6 _ I6 q6) (fun b s7 ⟨H7, I7, q7⟩ => ?_) fun _ _ z => z.elim)
      -- the iterator stands as it stood
      have back : ∀ {σ8 : St} {H8 : Hp} {s8 : Shared}, Inv (blk X (blkN X own fr) scope (cloOf X.env scope.names []) C fp s H) ([(l, lobj its k)] ++ pinsAt fp s5.heap) σ8 H8 s8 → (∀ b ∈ fp, ∀ o, s5.heap.get? b = some o → s8.heap.get? b = some o) ∧ ∀ b ∈ fp, H8 b = none := fun I8 => by
        refine ⟨fun b hb o e => (I8.pin (b, o) (List.mem_append_right _ (List.mem_append_right _ (mem_pinsAt hb e)))).1, fun b hb => ?_⟩
        obtain ⟨o, e, _⟩ := T.obj _ _ st5 b hb
        exact (I8.pin (b, o) (List.mem_append_right _ (List.mem_append_right _ (mem_pinsAt hb e)))).2.1
      cases b with
      | false =>
        obtain ⟨k1, k2⟩ := back I7
        simp only [Bool.false_eq_true, if_false] at q7 ⊢
        obtain ⟨m', hm', w7⟩ := hN _ _ _ q7
        exact wpAny_pure ⟨rfl, m', hm', i + 1, ys, σ6, H7, its, k, I7.unpinned, rv, hz, T.keep _ _ _ st5 k1, k2, w7⟩
      | true =>
        simp only [if_true] at q7 ⊢
        refine wpAny_bind (wpAny_bind (wpAny_mono (he _ _ _ _ _ _ s7 σ6 H7 _ I7 q7) (fun w s8 ⟨y, H8, I8, r8, q8⟩ => ?_) fun _ _ z => z.elim))
        obtain ⟨k1, k2⟩ := back I8
        obtain ⟨m', hm', w8⟩ := hN _ _ _ q8
        have pin := I8.pin (l, lobj its k) (List.mem_append_right _ (List.mem_append_left _ List.mem_cons_self))
        have hil : its.length = ys.length := rv.length.symm
        refine wpAny_bind (append_at pin.1 (fun h9 hs9 hD9 => ?_) (by rw [List.size_toArray, hil]; exact hz))
        have new : h9.get? l = some (lobj (its ++ [w]) (k + 1)) := by rw [hD9, List.push_toArray]
        have Ia : Inv (blk X (blkN X own fr) scope (cloOf X.env scope.names []) C fp s H) [] σ6 H8 s8 := I8.pins_of (fun p hp => nomatch hp)
        have Ib : Inv (blk X (blkN X own fr) scope (cloOf X.env scope.names []) C fp s H) [] σ6 H8 { s8 with heap := h9 } := Ia.turned (t' := s8.toks) (fun b o hb e => hs9.extBut b o hb e) pin.2.1 pin.2.2.1 (.inr (Nat.le_of_eq hl)) (fun x c e z => by
          obtain ⟨v, o, ho, hd⟩ := I8.cell x c e
          rw [z, pin.1] at ho
          cases ho
          cases hd) (fun p hp => by
            have hp : p ∈ ([] : List (Addr × Obj)) := by simpa [blk] using hp
            cases hp)
        have Ic : Inv (blk X (blkN X own fr) scope (cloOf X.env scope.names []) C fp s H) [(l, lobj (its ++ [w]) (k + 1))] σ6 H8 { s8 with heap := h9 } := Ib.pins_of fun p hp => by
          obtain rfl := List.mem_singleton.mp hp
          exact ⟨new, pin.2.1, pin.2.2.1, pin.2.2.2.1, fun v e => by cases e⟩
        refine wpAny_pure (wpAny_pure ⟨rfl, m', hm', i + 1, ys ++ [y], σ6, H8, its ++ [w], k + 1, Ic, rv.append (.cons r8 .nil), by rw [List.length_append]; exact hlt, T.keep _ _ _ st5 fun b hb o e => ?_, k2, w8⟩)
        exact hs9.extBut b o (Nat.ne_of_lt (hfo b hb)) (k1 b hb o e)
  exact codeAny_compStart_list loop (T.self _ 0 _ _ _ st1 loop)
theorem Inv.letgo {s2 s4 : Shared} {H2 H4 : Hp} {C : Addr} {h' : Heap} (I2 : Inv X pins σ H2 s2) {σ4 : St} (I4 : Inv X pins σ4 H4 s4) (hC : s2.heap.objs.size ≤ C) (hn : H4 C = none) (hs : Heap.SameBut C s4.heap h') : Inv X pins σ4 H4 { s4 with heap := h' } := by
  obtain ⟨f0, f1, _, f3, f4, f5⟩ := I2.fpOk hC hn
  exact I4.turned (t' := s4.toks) (fun b o hb e => hs.extBut b o hb e) f0 f1 f3 f4 f5
theorem pe_comp {elt iter tg : Expr} {ifs : List Expr} {pos : Pos} {g : TG} {tc : TT} {te : TE} {wi : TI} (own : List Str) (fr : List Nat) (hc : X.calm = true) (B : BlkScope X own fr scope) (hi : PI X tg iter wi)
    (hg : ∀ cl C fp s2 H2, PG (blk X (blkN X own fr) scope cl C fp s2 H2) tg g) (ht : ∀ cl C fp s2 H2, PIf (blk X (blkN X own fr) scope cl C fp s2 H2) ifs tc) (he : ∀ cl C fp s2 H2, PE (blk X (blkN X own fr) scope cl C fp s2 H2) elt te)
    (hs : ∀ x, foldedSetIterable iter X.env x = pure x := by intro _; rfl) : PE X (.ListComp elt [⟨tg, iter, ifs, 0⟩] scope pos) (tComp own fr wi g tc te) := by
  intro pins s σ H Q I h
  rw [eval_ListComp]
  refine wpAny_comprehension_free (use := none) rfl hs (clo_eq fun z hz e => I.ok.has _ (B.free z hz e)) B.kind B.names ?_
  refine thn (hi pins s σ H _ I h) fun v s1 h1 => thn h1 fun itv s2 h2 => ?_
  obtain ⟨it, fp, tn, J, H2, e, I2, T, st2, f2, W, ⟨m0, w0⟩, hW⟩ := h2
  subst e
  refine comp_core hc B hg ht he I2 T st2 f2 w0 hW fun l C s4 ys H' m hC nC nl hlC hm I4 fin => ?_
  exact ⟨m, hm, fun h' hs' => ⟨.ref l, _, I2.letgo I4 hC (by rw [upd_ne (Ne.symm hlC)]; exact nC) hs', rfl, fin l nl⟩⟩
theorem ps_setC {elt iter tg : Expr} {ifs : List Expr} {pos pos' cpos : Pos} {g : TG} {tc : TT} {te : TE} {wi : TI} {i : Nat} {x : Str} (own : List Str) (fr : List Nat) (hN : X.N.Nodup) (hxi : X.N[i]? = some x) (hx : X.env.scope.names.lookup x = some .local) (hc : X.calm = true) (B : BlkScope X own fr scope) (hi : PI X tg iter wi)
    (hg : ∀ cl C fp s2 H2, PG (blk X (blkN X own fr) scope cl C fp s2 H2) tg g) (ht : ∀ cl C fp s2 H2, PIf (blk X (blkN X own fr) scope cl C fp s2 H2) ifs tc) (he : ∀ cl C fp s2 H2, PE (blk X (blkN X own fr) scope cl C fp s2 H2) elt te)
    (hsw : swapsWith (.ListComp elt [⟨tg, iter, ifs, 0⟩] scope cpos) (some (.Name x pos')) pos.line X.env = pure true := by rfl)
    (hs : ∀ x, foldedSetIterable iter X.env x = pure x := by intro _; rfl) : PS X (.Assign [.Name x pos'] (.ListComp elt [⟨tg, iter, ifs, 0⟩] scope cpos) pos) (tAsg (tComp own fr wi g tc te) (gName i)) := by
  intro pins s σ H D I h
  rw [exec_Assign_Name_used _ _ _ _ hsw]
  refine wpAny_bind (wpAny_standAt (wpAny_bind ?_))
  show wpAny _ X.A (do let _ ← comprehension (.ListComp elt [⟨tg, iter, ifs, 0⟩] scope cpos) scope X.env _ (newList []) false (eval iter X.env) (some (assign (.Name x pos') X.env))) _ _ s
  refine wpAny_bind (wpAny_mono (wpAny_comprehension_free (use := some (assign (.Name x pos') X.env)) (Q := fun _ s' => SP X pins D .next s') rfl hs (clo_eq fun z hz e => I.ok.has _ (B.free z hz e)) B.kind B.names ?_) (fun _ s' hq => wpAny_pure (wpAny_pure hq)) fun _ _ e => e)
  refine thn (hi pins s σ H _ I h) fun v s1 h1 => thn h1 fun itv s2 h2 => ?_
  obtain ⟨it, fp, tn, J, H2, e, I2, T, st2, f2, W, ⟨m0, w0⟩, hW⟩ := h2
  subst e
  refine comp_core (RR := fun acc C => compPost (model X.prog X.w) X.A X.xe (some (assign (.Name x pos') X.env)) (fun _ s' => SP X pins D .next s') acc C) hc B hg ht he I2 T st2 f2 w0 hW fun l C s4 ys H' m hC nC nl hlC hm I4 fin => ?_
  show wpAny _ X.A (assign (.Name x pos') X.env (.ref l)) _ _ s4
  refine wpAny_assign_Name (store_ok2 I4 hN hxi (.inl hx) (v := .ref l) rfl (fun s5 I5 hsb => ?_) (.inr hx))
  obtain ⟨a, sb, ha⟩ := hsb
  have hCa : C ≠ a := by
    rcases ha with rfl | ha
    · exact Nat.ne_of_gt (Nat.lt_of_lt_of_le I2.lt hC)
    · obtain ⟨v, q⟩ := I2.cell x a ha
      exact Nat.ne_of_gt (Nat.lt_of_lt_of_le q.lt hC)
  exact ⟨m, hm.sameBut sb hCa, fun h' hs' => ⟨_, _, I2.letgo I5 hC (by rw [upd_ne (Ne.symm hlC)]; exact nC) hs', fin l nl⟩⟩
end
end L2
namespace L2
open PySem PySem.Spec PyProof.Rows
mutual
def DV (K : PySem.W.Frag) (H : Hp) : PyData → V → Prop
  | .none, v => v = .non
  | .bool b, v => v = .bl b
  | .int i, v => v = .int i
  | .str x, v => v = .str x
  | .list ds, v => ∃ a xs, v = .ref a ∧ SqL K H a xs ∧ DVs K H ds xs
  | .tuple ds, v => ∃ a xs, v = .ref a ∧ SqT K H a xs ∧ DVs K H ds xs
  | .dict _, _ => False
def DVs (K : PySem.W.Frag) (H : Hp) : List PyData → List V → Prop
  | [], xs => xs = []
  | d :: ds, xs => ∃ x r, xs = x :: r ∧ DV K H d x ∧ DVs K H ds r
end
section
variable {X : Cx} {pins : List (Addr × Obj)} {σ : St} {H : Hp} {s : Shared}
mutual
theorem DV.reads (I : Inv X pins σ H s) : ∀ {d : PyData} {v : V} {u : Value}, DV X.K H d v → RelV v u → ∃ as, Reads s.heap u d as
  | .none, v, u, h, r => by
    have h : v = .non := by simpa [DV] using h
    subst h; cases r; exact ⟨_, Reads.none⟩
  | .bool b, v, u, h, r => by
    have h : v = .bl b := by simpa [DV] using h
    subst h; cases r; exact ⟨_, Reads.bool b⟩
  | .int i, v, u, h, r => by
    have h : v = .int i := by simpa [DV] using h
    subst h; obtain ⟨t, rfl⟩ := r; exact ⟨_, Reads.int i t⟩
  | .str x, v, u, h, r => by
    have h : v = .str x := by simpa [DV] using h
    subst h; obtain ⟨t, rfl⟩ := r; exact ⟨_, Reads.str x t⟩
  | .list ds, v, u, h, r => by
    have h : ∃ a xs, v = .ref a ∧ SqL X.K H a xs ∧ DVs X.K H ds xs := by simpa [DV] using h
    obtain ⟨a, xs, rfl, hq, hd⟩ := h
    cases r
    obtain ⟨its, rv, pl, _⟩ := I.list hq
    obtain ⟨as, ra⟩ := DVs.reads I hd rv
    obtain ⟨o, ho, hc, n, hdd⟩ := pl.isList
    exact ⟨_, reads_list_at ho hc hdd (by simpa using ra)⟩
  | .tuple ds, v, u, h, r => by
    have h : ∃ a xs, v = .ref a ∧ SqT X.K H a xs ∧ DVs X.K H ds xs := by simpa [DV] using h
    obtain ⟨a, xs, rfl, hq, hd⟩ := h
    cases r
    obtain ⟨its, rv, pl, _⟩ := I.tuple hq
    obtain ⟨as, ra⟩ := DVs.reads I hd rv
    obtain ⟨o, ho, hc, n, hdd⟩ := pl
    exact ⟨_, reads_tuple_at ho hc hdd (by simpa using ra)⟩
  | .dict _, v, u, h, r => by simp [DV] at h
theorem DVs.reads (I : Inv X pins σ H s) : ∀ {ds : List PyData} {vs : List V} {us : List Value}, DVs X.K H ds vs → Vals vs us → ∃ as, ReadsAll s.heap us ds as
  | [], vs, us, h, r => by
    have h : vs = [] := by simpa [DVs] using h
    subst h; cases r; exact ⟨_, ReadsAll.nil⟩
  | d :: ds, vs, us, h, r => by
    have h : ∃ x r, vs = x :: r ∧ DV X.K H d x ∧ DVs X.K H ds r := by simpa [DVs] using h
    obtain ⟨x, rr, rfl, h1, h2⟩ := h
    cases r with
    | cons r1 r2 =>
      obtain ⟨as, ra⟩ := DV.reads I h1 r1
      obtain ⟨bs, rb⟩ := DVs.reads I h2 r2
      exact ⟨_, ReadsAll.cons ra rb⟩
end
def rEqD (K : PySem.W.Frag) : R2 := fun x y H Q => ∃ d e, DV K H d x ∧ DV K H e y ∧ SeqAt.shaped d = true ∧ SeqAt.shaped e = true ∧ Q (.bl (PyData.eqv d e)) H
def rNeD (K : PySem.W.Frag) : R2 := fun x y H Q => ∃ d e, DV K H d x ∧ DV K H e y ∧ SeqAt.shaped d = true ∧ SeqAt.shaped e = true ∧ Q (.bl (!PyData.eqv d e)) H
theorem op_eqD (hu : X.A.units + 64 < cLine) : OpR X (compareOp .Eq) (rEqD X.K) := by
  intro pins s σ H x y v u Q I rx ry h
  obtain ⟨d, e, hd, he, sd, se, q⟩ := h
  obtain ⟨as, ra⟩ := DV.reads I hd rx
  obtain ⟨bs, rb⟩ := DV.reads I he ry
  exact eq_dataH ra rb sd se hu ⟨.bl _, H, I, rfl, q⟩
theorem op_neD (hu : X.A.units + 64 < cLine) : OpR X (compareOp .NotEq) (rNeD X.K) := by
  intro pins s σ H x y v u Q I rx ry h
  obtain ⟨d, e, hd, he, sd, se, q⟩ := h
  obtain ⟨as, ra⟩ := DV.reads I hd rx
  obtain ⟨bs, rb⟩ := DV.reads I he ry
  exact ne_dataH ra rb sd se hu ⟨.bl _, H, I, rfl, q⟩
theorem call_isi : CallR X (.builtin "isinstance") (fun vs H Q => ∃ x n t b, vs = [x, .ty n] ∧ TyOf X.K H x t ∧ PySem.W.kitOne X.K t (.type n) = some b ∧ Q (.bl b) H) := by
  intro pins s σ H xs us Q I r h
  obtain ⟨x, n, t, b, rfl, ty, e, q⟩ := h
  obtain ⟨u, w, rfl, rx, rn⟩ := vals2 r
  cases rn
  exact isinst_ok I rx ty e fun tk => ⟨.bl b, H, I.tok tk, rfl, q⟩
end
end L2
set_option maxHeartbeats 4000000
namespace L2
open PySem PySem.Spec PyProof.Rows
section
variable {X : Cx}
end
end L2
namespace L2
open PySem PySem.Spec PyProof.Rows
section
variable {κ : Type} [DecidableEq κ]
def valV (kvs : List (κ × V)) (k : κ) : Option V := (kvs.find? fun kv => decide (kv.1 = k)).map (·.2)
def putK (kvs : List (κ × V)) (k : κ) (v : V) : List (κ × V) :=
  if (kvs.any fun kv => decide (kv.1 = k)) = true then kvs.map (fun kv => if kv.1 = k then (kv.1, v) else kv) else kvs ++ [(k, v)]
def dropK (kvs : List (κ × V)) (k : κ) : List (κ × V) := kvs.filter fun kv => decide (kv.1 ≠ k)

theorem valV_pos {p : κ × V} {r : List (κ × V)} {k : κ} (e : p.1 = k) : valV (p :: r) k = some p.2 := by simp [valV, List.find?_cons, e]
theorem valV_neg {p : κ × V} {r : List (κ × V)} {k : κ} (e : ¬ p.1 = k) : valV (p :: r) k = valV r k := by simp [valV, List.find?_cons, e]
theorem RelO.getD {o : Option V} {u : Option Value} {d : V} {d' : Value} (r : RelO o u) (rd : RelV d d') : RelV (o.getD d) (u.getD d') := by
  cases o with
  | none => cases u with
    | none => exact rd
    | some _ => exact (show False from r).elim
  | some _ => cases u with
    | none => exact (show False from r).elim
    | some _ => exact r

theorem KV.val {kvs : List (κ × V)} {vs : List (κ × Value)} (r : KV kvs vs) (k : κ) : RelO (valV kvs k) (valueAt vs k) := by
  unfold KV at r
  induction r with
  | nil => exact True.intro
  | @cons p q ps qs h t ih =>
    obtain ⟨h1, h2⟩ := h
    by_cases e : p.1 = k
    · have e' : q.1 = k := h1.symm.trans e
      have b : valueAt (q :: qs) k = some q.2 := by simp [valueAt, List.find?_cons, e']
      rw [valV_pos e, b]; exact h2
    · have e' : ¬ q.1 = k := fun z => e (h1.trans z)
      have b : valueAt (q :: qs) k = valueAt qs k := by simp [valueAt, List.find?_cons, e']
      rw [valV_neg e, b]; exact ih
theorem KV.any {kvs : List (κ × V)} {vs : List (κ × Value)} (r : KV kvs vs) (k : κ) : (kvs.any fun kv => decide (kv.1 = k)) = vs.any fun kv => decide (kv.1 = k) := by
  unfold KV at r
  induction r with
  | nil => rfl
  | cons h t ih => rw [List.any_cons, List.any_cons, ih, h.1]
theorem KV.drop {kvs : List (κ × V)} {vs : List (κ × Value)} (r : KV kvs vs) (k : κ) : KV (dropK kvs k) (without vs k) := by
  unfold KV at r ⊢
  unfold dropK without
  induction r with
  | nil => exact .nil
  | @cons p q ps qs h t ih =>
    obtain ⟨h1, h2⟩ := h
    rw [List.filter_cons, List.filter_cons]
    by_cases e : p.1 = k
    · have a : ¬ decide (p.1 ≠ k) = true := by simp [e]
      have b : ¬ decide (q.1 ≠ k) = true := by simp [h1.symm.trans e]
      rw [if_neg a, if_neg b]; exact ih
    · have e' : ¬ q.1 = k := fun z => e (h1.trans z)
      have a : decide (p.1 ≠ k) = true := by simp [e]
      have b : decide (q.1 ≠ k) = true := by simp [e']
      rw [if_pos a, if_pos b]; exact .cons ⟨h1, h2⟩ ih
theorem KV.keys {kvs : List (κ × V)} {vs : List (κ × Value)} (r : KV kvs vs) : kvs.map (·.1) = vs.map (·.1) := by
  unfold KV at r
  induction r with
  | nil => rfl
  | cons h t ih => rw [List.map_cons, List.map_cons, ih, h.1]
theorem KV.length {kvs : List (κ × V)} {vs : List (κ × Value)} (r : KV kvs vs) : kvs.length = vs.length := Paired.length r
end
abbrev KT (H : Hp) : List (List Key × V) → List (List Key × Addr × Value) → Prop := Paired fun p q => p.1 = q.1 ∧ H q.2.1 = some (.tup (p.1.map kV)) ∧ RelV p.2 q.2.2
theorem KT.val {H : Hp} {kvs : List (List Key × V)} {xs : List (List Key × Addr × Value)} (r : KT H kvs xs) (k : List Key) : RelO (valV kvs k) ((atKey xs k).map (·.2)) := by
  induction r with
  | nil => exact True.intro
  | @cons p q ps qs h t ih =>
    obtain ⟨h1, _, h2⟩ := h
    by_cases e : p.1 = k
    · have e' : q.1 = k := h1.symm.trans e
      have b : atKey (q :: qs) k = some q.2 := by simp [atKey, List.find?_cons, e']
      rw [valV_pos e, b]; exact h2
    · have e' : ¬ q.1 = k := fun z => e (h1.trans z)
      have b : atKey (q :: qs) k = atKey qs k := by simp [atKey, List.find?_cons, e']
      rw [valV_neg e, b]; exact ih
theorem KT.keeps {H H' : Hp} {kvs : List (List Key × V)} {xs : List (List Key × Addr × Value)} (r : KT H kvs xs) (ht : ∀ b ys, H b = some (.tup ys) → H' b = some (.tup ys)) : KT H' kvs xs :=
  Paired.mapP r fun _ _ z => ⟨z.1, ht _ _ z.2.1, z.2.2⟩

section
variable {P : Program} {w : World} {H : Hp} {h : Heap} {a : Addr}
end
def DGet (H : Hp) (a : Addr) (y : V) (r : Option V) : Prop :=
  (∃ kvs k, Rd H a (.dK kvs) ∧ y = kV k ∧ r = valV kvs k) ∨ ∃ kvs k b, Rd H a (.dT kvs) ∧ y = .ref b ∧ H b = some (.tup (k.map kV)) ∧ r = valV kvs k
def DPut (H : Hp) (a : Addr) (y v : V) (H' : Hp) : Prop :=
  (∃ kvs k, H a = some (.dK kvs) ∧ y = kV k ∧ kvs.length < sizeLine ∧ H' = upd H a (.dK (putK kvs k v))) ∨
  ∃ kvs k b, H a = some (.dT kvs) ∧ y = .ref b ∧ H b = some (.tup (k.map kV)) ∧ kvs.length < sizeLine ∧ H' = upd H a (.dT (putK kvs k v))
theorem DGet.k {H : Hp} {a : Addr} {kvs : List (Key × V)} {k : Key} (e : H a = some (.dK kvs)) : DGet H a (kV k) (valV kvs k) := .inl ⟨kvs, k, .inl e, rfl, rfl⟩
theorem DGet.t {H : Hp} {a b : Addr} {kvs : List (List Key × V)} {k : List Key} (e : H a = some (.dT kvs)) (eb : H b = some (.tup (k.map kV))) : DGet H a (.ref b) (valV kvs k) := .inr ⟨kvs, k, b, .inl e, rfl, eb, rfl⟩
theorem DPut.k {H : Hp} {a : Addr} {kvs : List (Key × V)} {k : Key} {v : V} (e : H a = some (.dK kvs)) (hl : kvs.length < sizeLine) : DPut H a (kV k) v (upd H a (.dK (putK kvs k v))) := .inl ⟨kvs, k, e, rfl, hl, rfl⟩
theorem DPut.t {H : Hp} {a b : Addr} {kvs : List (List Key × V)} {k : List Key} {v : V} (e : H a = some (.dT kvs)) (eb : H b = some (.tup (k.map kV))) (hl : kvs.length < sizeLine) :
    DPut H a (.ref b) v (upd H a (.dT (putK kvs k v))) := .inr ⟨kvs, k, b, e, rfl, eb, hl, rfl⟩


section
variable {X : Cx} {pins : List (Addr × Obj)} {σ : St} {H : Hp} {s : Shared} {a : Addr} {y v : V} {u r : Value} {o : Option V} {A : Around} {E : Value → Shared → Prop}
end
section
variable {X : Cx} {pins : List (Addr × Obj)} {σ : St} {H : Hp} {s : Shared} {a : Addr} {kvs : List (Key × V)} {k : Key} {u : Value} {A : Around} {E : Value → Shared → Prop}
end
section
variable {X : Cx} {o i e value : Expr} {pos pos' tpos : Pos} {td ty tv : TE}
end
section
variable {X : Cx} {pos : Pos}
end
section
variable {X : Cx} {pins : List (Addr × Obj)} {σ : St} {H : Hp} {s : Shared} {a : Addr} {y d : V} {u r : Value} {o : Option V} {A : Around} {E : Value → Shared → Prop}
end
section
variable {X : Cx} {o e f : Expr} {apos cpos : Pos} {td ty tx : TE}
end
section
variable {X : Cx} {pins : List (Addr × Obj)} {σ : St} {H : Hp} {s : Shared} {a : Addr} {kvs : List (Key × V)} {A : Around} {E : Value → Shared → Prop}
end
section
variable {X : Cx} {pins : List (Addr × Obj)} {σ : St} {H : Hp} {s : Shared} {a : Addr} {y : V} {u : Value} {A : Around} {E : Value → Shared → Prop}
end
end L2
namespace L2
open PySem PySem.Spec PyProof.Rows
section
variable {X : Cx}
end
end L2
set_option maxHeartbeats 4000000
namespace L2
open PySem PySem.Spec PyProof.Rows
def blkCheck (osc : Scope) (N : List Str) (fr : List Nat) (sc : Scope) : Bool :=
  sc.kind == .function && (sc.names.all fun x => x.2 != .cell && (x.2 != .local || sc.names.lookup x.1 == some .local) && (x.2 != .free || (osc.names.lookup x.1 == some .cell || osc.names.lookup x.1 == some .free))) && fr.all fun i => sc.names.lookup (N.getD i "") == some .free
theorem Same.upd {H : Hp} {a : Addr} {o : HO} (h : H a = none) : Same H (upd H a o) := fun b u e => by
  rw [upd_ne (ne_of_none e h)]
  exact e
theorem P2.same {K : PySem.W.Frag} {H H' : Hp} (e : Same H H') {v : V} {p : Int × Int} (h : P2 K H v p) : P2 K H' v p := by
  obtain ⟨a, rfl, q⟩ := h
  exact ⟨a, rfl, e _ _ q⟩
theorem P2s.same {K : PySem.W.Frag} {H H' : Hp} (e : Same H H') {vs : List V} {ps : List (Int × Int)} (h : Paired (P2 K H) vs ps) : Paired (P2 K H') vs ps := Paired.mapP h fun _ _ r => r.same e
def PL (K : PySem.W.Frag) (H : Hp) (a : Addr) (ps : List (Int × Int)) : Prop := ∃ xs, SqL K H a xs ∧ Paired (P2 K H) xs ps
theorem PL.same {K : PySem.W.Frag} {H H' : Hp} (e : Same H H') {a : Addr} {ps : List (Int × Int)} (h : PL K H a ps) : PL K H' a ps := by
  obtain ⟨xs, h1, h2⟩ := h
  exact ⟨xs, e.seq h1, P2s.same e h2⟩
end L2
namespace L2
open PySem
def TK (H H' : Hp) : Prop := ∀ b xs, H b = some (.tup xs) → H' b = some (.tup xs)
theorem TK.of {H H' : Hp} (e : Same H H') : TK H H' := fun b xs h => e b _ h
theorem TK.trans {H H1 H2 : Hp} (a : TK H H1) (b : TK H1 H2) : TK H H2 := fun c xs h => b c xs (a c xs h)
theorem TK.upd {H : Hp} {a : Addr} {xs : List V} {o : HO} (h : H a = some (.lst xs)) : TK H (upd H a o) := fun b ys e => by
  rw [upd_ne (ne_of e h (by intro z; cases z))]
  exact e
theorem P2.tk {K : PySem.W.Frag} {H H' : Hp} (e : TK H H') {v : V} {p : Int × Int} (h : P2 K H v p) : P2 K H' v p := by
  obtain ⟨a, rfl, q⟩ := h
  exact ⟨a, rfl, e _ _ q⟩
theorem P2s.tk {K : PySem.W.Frag} {H H' : Hp} (e : TK H H') {vs : List V} {ps : List (Int × Int)} (h : PySem.Paired (P2 K H) vs ps) : PySem.Paired (P2 K H') vs ps := Paired.mapP h fun _ _ r => r.tk e
theorem Paired.snoc {α β : Type} {R : α → β → Prop} : ∀ {l : List α} {m : List β} {x : α} {y : β}, PySem.Paired R l m → R x y → PySem.Paired R (l ++ [x]) (m ++ [y])
  | _, _, _, _, .nil, r => .cons r .nil
  | _, _, _, _, .cons q t, r => .cons q (Paired.snoc t r)
end L2
set_option maxHeartbeats 4000000
namespace TS
open PySem PyProof.Rows
def iO : KeyOrd where
  α := Int
  blt p q := decide (p < q)
  irrefl a := by simp
  trans a b c h1 h2 := by
    simp at h1 h2 ⊢
    omega
  negTrans a b c h := by
    simp at h ⊢
    omega
  total a b h1 h2 := by
    simp at h1 h2
    omega
section
variable {prog : Program} {w : World} {A : Around} {E : Value → Shared → Prop} {s : Shared}
end
end TS
namespace L2
open PySem PySem.Spec PyProof.Rows
section
variable {X : Cx}
def dk (ns : List Int) : List (Key × V) := ns.map fun n => (Sum.inl n, V.bl true)
def FD (H : Hp) (d : Addr) (ns : List Int) : Prop := ∃ o, H d = some (.frz o (.dK (dk ns)))
theorem FD.same {H H' : Hp} {d : Addr} {ns : List Int} (h : FD H d ns) (e : Same H H') : FD H' d ns := by
  obtain ⟨o, q⟩ := h
  exact ⟨o, e _ _ q⟩
theorem FD.get {H : Hp} {d : Addr} {ns : List Int} (h : FD H d ns) (n : Int) : DGet H d (.int n) (valV (dk ns) (Sum.inl n)) := by
  obtain ⟨o, hd⟩ := h
  exact .inl ⟨dk ns, Sum.inl n, .inr ⟨o, hd⟩, rfl, rfl⟩
end
end L2
set_option maxHeartbeats 4000000
namespace L2
open PySem PySem.Spec PyProof.Rows PySem.W
structure NX (fs : List Addr) (e : Addr) (oT : Option Addr) (oe : Obj) (vs : Array Value) (T' : Addr) (fl : Value) (h h' : Heap) : Prop where
  kept : ∀ b o, b ∉ fs → b ≠ e → oT ≠ some b → h.get? b = some o → h'.get? b = some o
  frame : ∀ b o, b ∈ fs → h.get? b = some o → ∃ sl, h'.get? b = some { o with slots := sl }
  obj : ∃ o' vs', h'.get? e = some o' ∧ o'.cls = oe.cls ∧ o'.dict = oe.dict ∧ o'.data = .fields vs' ∧ vs'[0]? = vs[0]? ∧ vs'[1]? = some (.ref T')
  new : h.get? T' = none
  ne : T' ≠ e
  ent : ∃ ot ts, h'.get? T' = some ot ∧ ot.data = .fields ts ∧ ts[3]? = some fl
section
variable {M : Model} {A : Around} {E : Value → Shared → Prop} {s : Shared} {base : Heap} {env : Env} {outer : List Env} {L e : Addr} {oe : Obj} {vs : Array Value} {Q : Unit → Shared → Prop}
def Bears (h : Heap) (e : Addr) (vs : Array Value) : Option Addr → Prop
  | none => vs[1]? = some .none
  | some T => vs[1]? = some (.ref T) ∧ T ≠ e ∧ ∃ ot ts, h.get? T = some ot ∧ ot.data = .fields ts ∧ ts[3]? = some .none
end
end L2
set_option maxHeartbeats 4000000
namespace L2
open PySem PySem.Spec PyProof.Rows PySem.W
def Fly (h : Heap) (x : Addr) (C : Addr) (oT : Option Addr) : Prop := ∃ oe vs, h.get? x = some oe ∧ oe.cls = .ref C ∧ oe.dict = none ∧ oe.data = .fields vs ∧ Bears h x vs oT
theorem obj_some {P : Program} {w : World} {H : Hp} {h : Heap} {a : Addr} {o : HO} (x : ObjOk P w H h a o) : ∃ ob, h.get? a = some ob := by
  cases o with
  | lst xs => obtain ⟨z, its, n, r, e⟩ := x; exact ⟨_, e⟩
  | tup xs => obtain ⟨z, its, r, ob, e, c⟩ := x; exact ⟨_, e⟩
  | dK kvs => obtain ⟨z, y, vs, r, ob, es, ep, e, c⟩ := x; exact ⟨_, e⟩
  | dT kvs => obtain ⟨z, y, xs, r, ob, es, ep, e, c⟩ := x; exact ⟨_, e⟩
  | set S n => obtain ⟨ob, es, ep, t, e, c⟩ := x; exact ⟨_, e⟩
  | ins C dx fs => obtain ⟨d, z, ne, e, _⟩ := x; exact ⟨_, e⟩
  | own y => obtain ⟨ob, e⟩ := x; exact ⟨_, e⟩
  | xd fs => obtain ⟨mA, ⟨od, es, ep, e, c⟩, r⟩ := x; exact ⟨_, e⟩
  | rng lo hi => obtain ⟨t, u, v, e⟩ := x; exact ⟨_, e⟩
  | frz ob u => obtain ⟨e, q⟩ := x; exact ⟨_, e⟩
  | tbl ps => exact ⟨_, x⟩
  | met f y => exact ⟨_, x⟩
  | ext φ => obtain ⟨p, ⟨o, e⟩, st⟩ := x; exact ⟨_, e⟩
section
variable {X : Cx} {pins : List (Addr × Obj)} {σ : St} {H : Hp} {s : Shared}
structure Mine (X : Cx) (pins : List (Addr × Obj)) (H : Hp) (x : Addr) (oT : Option Addr) : Prop where
  hx : H x = none
  x0 : X.s₀.heap.get? x = none
  hT : ∀ T, oT = some T → H T = none ∧ X.s₀.heap.get? T = none
  pin : ∀ p ∈ X.pn ++ pins, p.1 ≠ x ∧ oT ≠ some p.1
variable {x T' : Addr} {oT : Option Addr} {oe : Obj} {vs : Array Value} {h' : Heap}
theorem noted_inv (I : Inv X pins σ H s) (hex : X.ex = []) (M : Mine X pins H x oT) (fx : ∃ o vs, s.heap.get? x = some o ∧ o.data = .fields vs) (fT : ∀ T, oT = some T → ∃ o vs, s.heap.get? T = some o ∧ o.data = .fields vs) (nx : NX (frs X.stack) x oT oe vs T' .none s.heap h') :
    Inv X pins σ H { s with heap := h' } := by
  obtain ⟨k1, k2, _⟩ := nx
  have nex : ∀ {b : Addr}, b ∉ X.ex := fun {b} hb => by rw [hex] at hb; cases hb
  have s0x : ∀ {b : Addr} {o : Obj}, X.s₀.heap.get? b = some o → b ≠ X.env.locals ∧ b ≠ x ∧ oT ≠ some b := fun {b o} e =>
    ⟨Nat.ne_of_lt (Nat.lt_of_lt_of_le (Heap.lt_size e) I.ok.above), (fun z => by rw [z, M.x0] at e; cases e), (fun z => by rw [(M.hT b z).2] at e; cases e)⟩
  have frm : ∀ {b : Addr}, b ∈ frs X.stack → b = X.env.locals ∨ b ∈ X.fs := fun {b} hb => List.mem_cons.mp (I.stkSub b hb)
  have any : ∀ {b : Addr} {o : Obj}, s.heap.get? b = some o → (∀ vs, o.data ≠ .fields vs) → ∃ sl, h'.get? b = some { o with slots := sl } := fun {b o} e hn => by
    by_cases hm : b ∈ frs X.stack
    · exact k2 b o hm e
    · refine ⟨o.slots, k1 b o hm (fun z => ?_) (fun z => ?_) e⟩
      · obtain ⟨o', v', q, qd⟩ := fx
        rw [z, q] at e
        cases e
        exact hn v' qd
      · obtain ⟨o', v', q, qd⟩ := fT b z
        rw [q] at e
        cases e
        exact hn v' qd
  have cellK : ∀ {c : Addr} {v : Option Value}, s.heap.IsCell c v → h'.IsCell c v := fun {c v} ⟨o, ho, hd⟩ => by
    obtain ⟨sl, e⟩ := any ho fun vs z => by rw [hd] at z; cases z
    exact ⟨_, e, hd⟩
  refine ⟨I.ok, I.os, I.bare, ⟨fun b o e n hb hx => ?_, fun b o e n hb hx => ?_, I.base.free, fun b o e hx => ?_, I.base.tups, I.base.frzs, I.base.tbls⟩, ?_, fun y c e => ?_, I.free, I.freeC, fun p hp => ?_, fun a o e => ?_, I.len⟩
  · obtain ⟨z1, z2, z3⟩ := s0x e
    refine k1 b o (fun z => ?_) z2 z3 (I.base.keep b o e n hb hx)
    rcases frm z with z | z
    · exact z1 z
    · exact hb z
  · obtain ⟨sl, e1⟩ := I.base.slot b o e n hb hx
    obtain ⟨_, o', ho', hd⟩ := I.ok.funs.mem hb
    rw [e] at ho'
    cases ho'
    obtain ⟨sl', e2⟩ := any e1 hd
    exact ⟨sl', e2⟩
  · obtain ⟨o1, e1⟩ := I.base.there b o e hx
    obtain ⟨z1, z2, z3⟩ := s0x e
    by_cases hm : b ∈ frs X.stack
    · obtain ⟨sl, e2⟩ := k2 b _ hm e1
      exact ⟨_, e2⟩
    · exact ⟨_, k1 b _ hm z2 z3 e1⟩
  · obtain ⟨m, ⟨o, es, ep, ho, hd, r⟩, hl⟩ := I.loc
    obtain ⟨sl, e2⟩ := any ho fun vs z => by rw [hd] at z; cases z
    refine ⟨m, ⟨_, es, ep, e2, hd, r⟩, fun i y v e1 e2 e3 => ?_⟩
    obtain ⟨u, r, l⟩ := hl i y v e1 e2 e3
    refine ⟨u, r, ?_⟩
    rcases l with l | ⟨k, c, e, z⟩
    · exact .inl l
    · exact .inr ⟨k, c, e, cellK z⟩
  · obtain ⟨v, z⟩ := I.cell y c e
    exact ⟨v, cellK z⟩
  · obtain ⟨e, n, ne, nf, d⟩ := I.pin p hp
    refine ⟨k1 _ _ (fun z => ?_) (M.pin p hp).1 (M.pin p hp).2 e, n, ne, nf, d⟩
    rcases frm z with z | z
    · exact ne z
    · exact nf z
  · have trk : ∀ {b : Addr} {u : HO}, H b = some u → b ∉ frs X.stack ∧ b ≠ x ∧ oT ≠ some b := fun {b u} e =>
      ⟨(fun z => by rw [I.stkFree b z] at e; cases e), (fun z => by rw [z, M.hx] at e; cases e), (fun z => by rw [(M.hT b z).1] at e; cases e)⟩
    refine (I.hok a o e).stay (fun b u hb q => ?_) (fun _ q => q) fun _ _ q => q
    have : b ∉ frs X.stack ∧ b ≠ x ∧ oT ≠ some b := by
      rcases hb with z | z
      · rw [z]; exact trk e
      · exact trk z
    exact k1 _ _ this.1 this.2.1 this.2.2 q
theorem NX.fly {C : Addr} {h : Heap} {fs : List Addr} (nx : NX fs x oT oe vs T' .none h h') (hc : oe.cls = .ref C) (hd : oe.dict = none) : Fly h' x C (some T') := by
  obtain ⟨_, _, ⟨o', vs', o1, o2, o3, o4, o5, o6⟩, _, n5, ot, ts, t1, t2, t3⟩ := nx
  exact ⟨o', vs', o1, o2.trans hc, o3.trans hd, o4, o6, n5, ot, ts, t1, t2, t3⟩
theorem Fly.fields {C : Addr} {h : Heap} (fl : Fly h x C oT) : (∃ o vs, h.get? x = some o ∧ o.data = .fields vs) ∧ ∀ T, oT = some T → ∃ o vs, h.get? T = some o ∧ o.data = .fields vs := by
  obtain ⟨o, vs, e1, _, _, e4, b⟩ := fl
  refine ⟨⟨o, vs, e1, e4⟩, fun T z => ?_⟩
  subst z
  obtain ⟨_, _, ot, ts, t1, t2, _⟩ := b
  exact ⟨ot, ts, t1, t2⟩
theorem Inv.newH {x : Addr} (I : Inv X pins σ H s) (h : s.heap.get? x = none) : H x = none := by
  cases e : H x with
  | none => rfl
  | some u =>
    obtain ⟨o, q⟩ := obj_some (I.hok x u e)
    rw [h] at q
    cases q
end
end L2
set_option maxHeartbeats 4000000
namespace L2
open PySem PySem.Spec PyProof.Rows PySem.W
section
variable {X : Cx} {pins : List (Addr × Obj)} {σ : St} {H : Hp} {s : Shared}
end
section
variable {P : Program} {w : World} {K : Frag} {mg : Str → Option Value} {base : Heap} {N : List Str} {qual : Str} {scope : Scope} {f : Addr} {cd : Value} {A : Around} {outer : List Env} {s : Shared} {H : Hp} {E : XK}
end
section
variable {X : Cx} {E : XK} {n : Str} {C : Addr} {bB : List Value} {B nid iid : String} {e0 : Expr} {es : List Expr} {t : TA} {np cpos pos : Pos}
end
end L2
set_option maxHeartbeats 4000000
namespace L2
open PySem PySem.Spec PyProof.Rows PySem.W
section
variable {X : Cx} {pins : List (Addr × Obj)} {σ : St} {H : Hp} {s : Shared} {x C : Addr} {oT : Option Addr}
end
section
variable {X : Cx} {pins : List (Addr × Obj)} {σ : St} {H : Hp} {s : Shared} {e : Value}
end
end L2
set_option maxHeartbeats 4000000
namespace L2
open PySem PySem.Spec PyProof.Rows PySem.W
section
variable {X : Cx} {pins : List (Addr × Obj)} {σ : St} {H : Hp} {s : Shared}
theorem PA.nox {es : List Expr} {t : TA} (h : PA X.nox es t) : PA X es t := fun pos pins s σ H Q I hw =>
  wpAny_mono (h pos pins s σ H Q (I.wish _) hw) (fun _ _ ⟨v, H', I', r, q⟩ => ⟨v, H', I'.unwish, r, q⟩) fun _ _ z => False.elim z
structure Held (X : Cx) (pins : List (Addr × Obj)) (σ : St) (H : Hp) (s : Shared) (x T C : Addr) (h : Heap) : Prop where
  inv : Inv X pins σ H s
  mine : Mine X pins H x (some T)
  fld : (∃ o vs, s.heap.get? x = some o ∧ o.data = .fields vs) ∧ ∀ T', some T = some T' → ∃ o vs, s.heap.get? T' = some o ∧ o.data = .fields vs
  nx : ∃ oe vs T', NX (frs X.stack) x (some T) oe vs T' .none s.heap h ∧ oe.cls = .ref C ∧ oe.dict = none
variable {x T C : Addr} {h : Heap}
theorem Held.now (Hd : Held X pins σ H s x T C h) (hex : X.ex = []) : Inv X pins σ H { s with heap := h } := by
  obtain ⟨oe, vs, T', nx, _⟩ := Hd.nx
  exact noted_inv Hd.inv hex Hd.mine Hd.fld.1 Hd.fld.2 nx
theorem Held.fly (Hd : Held X pins σ H s x T C h) : ∃ T', Fly h x C (some T') := by
  obtain ⟨oe, vs, T', nx, e1, e2⟩ := Hd.nx
  exact ⟨T', nx.fly e1 e2⟩
theorem Held.ty {M : Model} (Hd : Held X pins σ H s x T C h) : Looks M h (typeOf (.ref x)) (.ref C) := by
  obtain ⟨T', o, _, ho, hc, _⟩ := Hd.fly
  rw [← hc]
  exact (Looks.ld ho).andThen .now
variable {c n : Str} {Dc : Addr} {cp hpos : Pos} {b0 : Stmt} {suite : List Stmt} {rest : List ExceptHandler} {i : Nat} {D : Ends} {E : Value → Shared → Prop}
end
section
variable {X : Cx} {e : Expr} {t : XK → TE} {c n : Str} {Dc : Addr} {cp hpos ep pos : Pos} {b0 : Stmt} {suite : List Stmt} {i : Nat} {th : TS}
end
end L2
set_option maxHeartbeats 4000000
namespace L2
open PySem PySem.Spec PyProof.Rows PySem.W
section
variable {prog : Program} {w : World} {A : Around} {E : Value → Shared → Prop} {s : Shared} {K : Frag} {x C : Addr} {ox : Obj}
end
section
variable {X : Cx}
end
end L2
set_option maxHeartbeats 4000000
namespace L2
open PySem PySem.Spec PyProof.Rows PySem.W
def Its (x : Str) : It := ⟨fun i _ => i < x.cps.size, fun i H v H' => H' = H ∧ ∃ c, x.cps[i]? = some c ∧ v = .str ⟨#[c]⟩, fun i _ => i = x.cps.size⟩
theorem turn_str {P : Program} {w : World} {K : Frag} {tg : Expr} {x : Str} {t : Tok} {it : Addr} {T : String} (hT : T = "str_ascii_iterator" ∨ T = "str_iterator") (W : ∀ A' : Around, A'.handled = none → Walks P w A' it [it] [it] x.cps.size (SignAt x) (fun i h => h.IsStrIter it T x t i)) :
    Turn P w K tg (Its x) [it] it (fun i h => h.IsStrIter it T x t i) where
  mem := by simp
  obj := fun i h st b hb => by
    have e : b = it := by simpa using hb
    subst e
    obtain ⟨o, e, c, d⟩ := st
    exact ⟨o, e, fun v z => by rw [d] at z; cases z⟩
  keep := fun i h h' st k => let ⟨o, e, r⟩ := st; ⟨o, k it (by simp) o e, r⟩
  item := by
    intro X hP hw hK hc i pins s σ H E I hf st hg
    subst hP hw hK
    obtain ⟨f0, f1, f2, f3, f4, f5⟩ := hf it (by simp)
    refine (W X.A (I.ok.hd hc)).item i s _ _ hg st fun v h' tk hv st' kk => ?_
    obtain ⟨c, u, hcx, rfl⟩ := hv
    have I1 : Inv X pins σ H { s with heap := h', toks := tk } := I.turned (fun b o hb e => kk b o (by simpa using hb) e) f0 f1 f3 f4 f5
    obtain ⟨o, e1, e2, e3⟩ := id st'
    refine ⟨_, rfl, go_of (s := { s with heap := h', toks := tk }) e1 e2 e3 (by rcases hT with z | z <;> (rw [z]; decide)) ⟨.str ⟨#[c]⟩, H, I1, ⟨u, rfl⟩, ⟨rfl, c, hcx, rfl⟩, st', fun b hb => (hf b hb).1⟩⟩
  done := by
    intro X hP hw hK hc i pins s σ H E I hf st hg
    subst hP hw hK
    obtain rfl : i = x.cps.size := hg
    obtain ⟨f0, f1, f2, f3, f4, f5⟩ := hf it (by simp)
    exact (W X.A (I.ok.hd hc)).done s _ _ st fun h' tk kk => ⟨rfl, I.turned (fun b o hb e => kk b o (by simpa using hb) e) f0 f1 f3 f4 f5⟩
  self := fun A i s Q E st h => by
    rcases hT with z | z
    · subst z
      exact wpAny_pyIter_striter_ascii st h
    · subst z
      exact wpAny_pyIter_striter_wide st h
section
variable {X : Cx} {tg : Expr}
end
end L2
set_option maxHeartbeats 4000000
namespace L2
open PySem PySem.Spec PyProof.Rows PySem.W
section
variable {X : Cx} {CX : CXT} {k : Nat} {f C : Addr} {fd : FuncData} {ps : List Str} {sp : Sp} {dvs : List V} {ds : List Value} {E : XK} {x m : Str} {p pos apos : Pos} {e : Expr} {es : List Expr} {t : TA}
end
end L2
set_option maxHeartbeats 4000000
namespace L2
open PySem PySem.Spec PyProof.Rows PySem.W
def Itz (K : Frag) (a b : Addr) : It :=
  ⟨fun i H => ∃ xs ys x y, SqL K H a xs ∧ SqL K H b ys ∧ xs[i]? = some x ∧ ys[i]? = some y,
   fun i H v H' => ∃ T x y, v = .ref T ∧ H T = none ∧ H' = upd H T (.tup [x, y]) ∧ ∀ xs ys, SqL K H a xs → SqL K H b ys → xs[i]? = some x ∧ ys[i]? = some y,
   fun i H => ∃ xs ys, SqL K H a xs ∧ SqL K H b ys ∧ (xs.length ≤ i ∨ ys.length ≤ i)⟩
def ZSt (z TI TO i1 i2 a b : Addr) (i : Nat) (h : Heap) : Prop := IsZip h z TI TO .none ∧ IsPair h TI (.ref i1) (.ref i2) ∧ (∃ u v, IsPair h TO u v) ∧ h.IsListIter i1 a i ∧ h.IsListIter i2 b i
theorem Inv.turnedAll {X : Cx} {pins : List (Addr × Obj)} {σ : St} {H : Hp} {s : Shared} {h' : Heap} {t' : Nat} {ch : List Addr} (I : Inv X pins σ H s) (k : ∀ b o, b ∉ ch → s.heap.get? b = some o → h'.get? b = some o) (hf : ∀ b ∈ ch, FpOk X pins H b) : Inv X pins σ H { s with heap := h', toks := t' } := by
  have nch : ∀ {b : Addr} {u : HO}, H b = some u → b ∉ ch := fun {b u} e z => by rw [(hf b z).1] at e; cases e
  refine I.step (g' := s.gens) (d' := s.drawn) (ch := ch) (fun b hb => ?_) (fun b o _ _ hc e _ => k b o hc e) (fun b o _ _ hc e _ => ⟨o.slots, k b o hc e⟩) (fun _ _ _ _ n => n) (fun b o hc e => ⟨o, k b o hc e⟩) (fun _ _ e => e) (fun _ _ _ e => e) (fun b ps e => ⟨#[], by rw [e]; simp⟩) (fun m hm => ?_) (fun b u e => ?_) I.bare
  · obtain ⟨f0, f1, f2, f3, f4, f5⟩ := hf b hb
    exact ⟨f3, f1, f4, f5⟩
  · obtain ⟨o, es, ep, ho, r⟩ := hm
    exact ⟨o, es, ep, k _ o (fun z => (hf _ z).2.1 rfl) ho, r⟩
  · refine (I.hok b u e).stay (fun c v hc q => k c v ?_ q) (fun _ q => q) fun _ _ q => q
    rcases hc with z | z
    · rw [z]; exact nch e
    · exact nch z
theorem Inv.turnedNew {X : Cx} {pins : List (Addr × Obj)} {σ : St} {H : Hp} {s : Shared} {h' : Heap} {t' : Nat} {ch : List Addr} {T : Addr} {ob : HO} (I : Inv X pins σ H s) (k : ∀ b o, b ∉ ch → s.heap.get? b = some o → h'.get? b = some o) (hf : ∀ b ∈ ch, FpOk X pins H b)
    (hT : s.heap.get? T = none) (new : ObjOk X.prog X.w (upd H T ob) h' T ob) : Inv X pins σ (upd H T ob) { s with heap := h', toks := t' } := by
  have hH : H T = none := I.newH hT
  have nch : ∀ {b : Addr} {u : HO}, H b = some u → b ∉ ch := fun {b u} e z => by rw [(hf b z).1] at e; cases e
  have nT : ∀ {b : Addr} {u : HO}, H b = some u → b ≠ T := fun {b u} e z => by rw [z, hH] at e; cases e
  have up : ∀ {b : Addr} {u : HO}, H b = some u → upd H T ob b = some u := fun {b u} e => by rw [upd_ne (nT e)]; exact e
  refine I.step (g' := s.gens) (d' := s.drawn) (ch := ch) (fun b hb => ?_) (fun b o _ _ hc e _ => k b o hc e) (fun b o _ _ hc e _ => ⟨o.slots, k b o hc e⟩) (fun b o _ e n => ?_) (fun b o hc e => ⟨o, k b o hc e⟩) (fun _ _ e => up e) (fun _ _ _ e => up e) (fun b ps e => ⟨#[], by rw [up e]; simp⟩) (fun m hm => ?_) (fun b u e => ?_) I.bare
  · obtain ⟨f0, f1, f2, f3, f4, f5⟩ := hf b hb
    exact ⟨f3, f1, f4, f5⟩
  · rw [upd_ne (fun z => by rw [z, hT] at e; cases e)]
    exact n
  · obtain ⟨o, es, ep, ho, r⟩ := hm
    exact ⟨o, es, ep, k _ o (fun z => (hf _ z).2.1 rfl) ho, r⟩
  · by_cases hb : b = T
    · subst hb
      rw [upd_same] at e
      cases e
      exact new
    · rw [upd_ne hb] at e
      refine (I.hok b u e).stay (fun c v hc q => k c v ?_ q) (fun _ q => up q) fun _ _ q => up q
      rcases hc with z | z
      · rw [z]; exact nch e
      · exact nch z
theorem turn_zip {P : Program} {w : World} {K : Frag} {elts : List Expr} {kk : Nat} {pos : Pos} {z TI TO i1 i2 a b : Addr} (D : ZipApart z TI TO i1 i2 a b) :
    Turn P w K (.Tuple elts kk pos) (Itz K a b) [z, TI, TO, i1, i2] z (ZSt z TI TO i1 i2 a b) where
  mem := by simp
  obj := fun i h st c hc => by
    obtain ⟨s1, s2, ⟨u, v, s3⟩, ⟨o4, s4, _, d4⟩, ⟨o5, s5, _, d5⟩⟩ := st
    simp at hc
    rcases hc with rfl | rfl | rfl | rfl | rfl
    · exact ⟨_, s1, fun v q => by cases q⟩
    · exact ⟨_, s2, fun v q => by cases q⟩
    · exact ⟨_, s3, fun v q => by cases q⟩
    · exact ⟨_, s4, fun v q => by rw [d4] at q; cases q⟩
    · exact ⟨_, s5, fun v q => by rw [d5] at q; cases q⟩
  keep := fun i h h' st k => by
    obtain ⟨s1, s2, ⟨u, v, s3⟩, s4, s5⟩ := st
    exact ⟨k z (by simp) _ s1, k TI (by simp) _ s2, ⟨u, v, k TO (by simp) _ s3⟩, s4.at fun o e => k i1 (by simp) o e, s5.at fun o e => k i2 (by simp) o e⟩
  item := by
    intro X hP hw hK hc i pins s σ H E I hf st hg
    subst hP hw hK
    obtain ⟨xs, ys, x, y, qa, qb, hx, hy⟩ := hg
    obtain ⟨s1, s2, ⟨u, v, s3⟩, s4, s5⟩ := st
    obtain ⟨ia, ra, pa, za⟩ := I.list qa
    obtain ⟨ib, rb, pb, zb⟩ := I.list qb
    obtain ⟨ux, ex, rx⟩ := ra.get hx
    obtain ⟨uy, ey, ry⟩ := rb.get hy
    refine wpAny_pyNext_zip_item D s1 s2 s3 s4 s5 pa.isList pb.isList (x := ux) (y := uy) (by simpa using ex) (by simpa using ey) fun h' a1 a2 a3 a4 a5 a6 kp => ?_
    refine ⟨_, rfl, wpAny_letOwnedTupleGo_zip (s := { s with heap := h' }) a1 fun h2 b1 b2 => ?_⟩
    have two : (2 : Nat) ≤ sizeLine := Nat.le_of_lt (small1000 (by decide))
    have kp2 : ∀ c o, c ∉ [z, TI, TO, i1, i2] → s.heap.get? c = some o → h2.get? c = some o := fun c o hc e => by
      simp at hc
      exact b2.extBut c o hc.1 (kp c o hc.1 hc.2.2.1 hc.2.2.2.1 hc.2.2.2.2 e)
    have I1 : Inv X pins σ H { s with heap := h2 } := I.turnedAll (t' := s.toks) kp2 hf
    have hnew : s.heap.get? s.heap.objs.size = none := by
      cases q : s.heap.get? s.heap.objs.size with
      | none => rfl
      | some o => exact absurd (Heap.lt_size q) (Nat.lt_irrefl _)
    have hH : H s.heap.objs.size = none := I.hok.fresh (Nat.le_refl _)
    have hTz : s.heap.objs.size ≠ z := Nat.ne_of_gt (Heap.lt_size s1)
    have hT2 : IsPair h2 s.heap.objs.size ux uy := b2.extBut _ _ hTz a5
    have hf2 := hf
    have I2 : Inv X pins σ (upd H s.heap.objs.size (.tup [x, y])) { s with heap := h2 } := I.turnedNew (t' := s.toks) kp2 hf hnew ⟨two, [ux, uy], .cons rx (.cons ry .nil), _, hT2, rfl, 0, rfl⟩
    refine ⟨.ref s.heap.objs.size, _, I2, rfl, ⟨_, x, y, rfl, hH, rfl, fun xs' ys' h1 h2 => ?_⟩, ?_, fun c hc => ?_⟩
    · rw [I.list_inj h1 qa, I.list_inj h2 qb]
      exact ⟨hx, hy⟩
    · exact ⟨b1, b2.extBut _ _ D.TIz (kp TI _ D.TIz D.TITO D.TIi1 D.TIi2 s2), ⟨_, _, b2.extBut _ _ D.TOz a2⟩, a3.extBut b2.extBut D.i1z, a4.extBut b2.extBut D.i2z⟩
    · have hc0 := (hf c hc).1
      rw [upd_ne]
      · exact hc0
      · intro q
        have e : ∃ o, s.heap.get? c = some o := by
          simp at hc
          rcases hc with rfl | rfl | rfl | rfl | rfl
          · exact ⟨_, s1⟩
          · exact ⟨_, s2⟩
          · exact ⟨_, s3⟩
          · obtain ⟨o, e, _⟩ := s4; exact ⟨o, e⟩
          · obtain ⟨o, e, _⟩ := s5; exact ⟨o, e⟩
        obtain ⟨o, e⟩ := e
        rw [q, hnew] at e
        cases e
  done := by
    intro X hP hw hK hc i pins s σ H E I hf st hg
    subst hP hw hK
    obtain ⟨xs, ys, qa, qb, hend⟩ := hg
    obtain ⟨s1, s2, ⟨u, v, s3⟩, s4, s5⟩ := st
    obtain ⟨ia, ra, pa, za⟩ := I.list qa
    obtain ⟨ib, rb, pb, zb⟩ := I.list qb
    have la := ra.length
    have lb := rb.length
    refine wpAny_pyNext_zip_end (I.ok.hd hc) D s1 s2 s3 s4 s5 pa.isList pb.isList (by simp; omega) fun h' kp => ⟨rfl, I.turnedAll (t' := s.toks) (fun c o hc e => ?_) hf⟩
    simp at hc
    exact kp c o hc.1 hc.2.2.1 hc.2.2.2.1 hc.2.2.2.2 e
  self := fun A i s Q E st h => wpAny_pyIter_zip st.1 h
def iZip (K : Frag) (ta : TA) : TI := fun σ H R => ta σ H fun vs H1 => ∃ a b, vs = [.ref a, .ref b] ∧ (∃ xs, SqL K H1 a xs) ∧ (∃ ys, SqL K H1 b ys) ∧ R (Itz K a b) H1
section
variable {X : Cx}
theorem pi_zip {ea eb : Expr} {elts : List Expr} {kk : Nat} {tpos p pos : Pos} {ta : TA} (hg : Gl X "zip") (hm : X.mg "zip" = none) (ha : PA X [ea, eb] ta) (hs : starEach [ea, eb] X.env = [(false, eval ea X.env), (false, eval eb X.env)] := by rfl) (hs2 : starEach [eb] X.env = [(false, eval eb X.env)] := by rfl) :
    PI X (.Tuple elts kk tpos) (.Call (.Name "zip" p) [ea, eb] [] pos) (iZip X.K ta) := by
  intro pins s σ H R I h
  refine Call_ (ld_blt I hg hm boot_zip (PyProof.Rows.callWith_type1 (thn (ha pos pins s σ H _ I h) fun us s1 z => ?_) (by rw [hs, hs2]) (by rw [hs2]; rfl)))
  obtain ⟨vs, H1, I1, r1, a, b, rfl, ⟨xs, qa⟩, ⟨ys, qb⟩, q⟩ := z
  obtain ⟨u, v, rfl, ru, rv⟩ := vals2 r1
  cases ru
  cases rv
  obtain ⟨ia, ra, pa, za⟩ := I1.list qa
  obtain ⟨ib, rb, pb, zb⟩ := I1.list qb
  have la : a < s1.heap.objs.size := by obtain ⟨_, e, _⟩ := pa.isList; exact Heap.lt_size e
  have lb : b < s1.heap.objs.size := by obtain ⟨_, e, _⟩ := pb.isList; exact Heap.lt_size e
  refine call_zip_2 pa.isList pb.isList fun h' z1 z2 z3 z4 z5 z6 kp => wpAny_pyIter_zip z1 ?_
  have D : ZipApart (s1.heap.objs.size + 4) (s1.heap.objs.size + 2) (s1.heap.objs.size + 3) s1.heap.objs.size (s1.heap.objs.size + 1) a b := by
    constructor <;> (first | exact Nat.ne_of_lt (Nat.lt_of_lt_of_le la (Nat.le_add_right _ _)) | exact Nat.ne_of_lt (Nat.lt_of_lt_of_le lb (Nat.le_add_right _ _)) | exact Nat.ne_of_lt la | exact Nat.ne_of_lt lb | exact Nat.ne_of_lt (by omega) | exact Nat.ne_of_gt (by omega))
  refine ⟨s1.heap.objs.size + 4, [s1.heap.objs.size + 4, s1.heap.objs.size + 2, s1.heap.objs.size + 3, s1.heap.objs.size, s1.heap.objs.size + 1], _, _, H1, rfl, I1.kept (t' := s1.toks) kp, turn_zip D, ⟨z1, z2, ⟨_, _, z3⟩, z4, z5⟩, fun c hc => ?_, q⟩
  have : s1.heap.objs.size ≤ c := by
    simp at hc
    rcases hc with rfl | rfl | rfl | rfl | rfl
    · exact Nat.le_add_right _ _
    · exact Nat.le_add_right _ _
    · exact Nat.le_add_right _ _
    · exact Nat.le_refl _
    · exact Nat.le_add_right _ _
  exact I1.fpOk this (I1.hok.fresh this)
end
end L2
set_option maxHeartbeats 4000000
namespace L2
open PySem PySem.Spec PyProof.Rows PySem.W PyProof
section
variable {X : Cx}
end
end L2
set_option maxHeartbeats 4000000
namespace L2
open PySem PySem.Spec PyProof.Rows PySem.W
def Ite (K : Frag) (a : Addr) : It :=
  ⟨fun i H => ∃ xs x, SqL K H a xs ∧ xs[i]? = some x,
   fun i H v H' => ∃ T x, v = .ref T ∧ H T = none ∧ H' = upd H T (.tup [.int i, x]) ∧ ∀ xs, SqL K H a xs → xs[i]? = some x,
   fun i H => ∃ xs, SqL K H a xs ∧ xs.length ≤ i⟩
def ESt (e it a : Addr) (i : Nat) (h : Heap) : Prop := (∃ old, IsEnum h e it ((i : Nat) : Int) old) ∧ h.IsListIter it a i
theorem turn_enum {P : Program} {w : World} {K : Frag} {elts : List Expr} {kk : Nat} {pos : Pos} {e it a : Addr} (hne : e ≠ it) :
    Turn P w K (.Tuple elts kk pos) (Ite K a) [e, it] e (ESt e it a) where
  mem := by simp
  obj := fun i h st c hc => by
    obtain ⟨⟨old, s1⟩, ⟨o4, s4, _, d4⟩⟩ := st
    simp at hc
    rcases hc with rfl | rfl
    · exact ⟨_, s1, fun v q => by cases q⟩
    · exact ⟨_, s4, fun v q => by rw [d4] at q; cases q⟩
  keep := fun i h h' st k => by
    obtain ⟨⟨old, s1⟩, s4⟩ := st
    exact ⟨⟨old, k e (by simp) _ s1⟩, s4.at fun o e => k it (by simp) o e⟩
  item := by
    intro X hP hw hK hc i pins s σ H E I hf st hg
    subst hP hw hK
    obtain ⟨xs, x, qa, hx⟩ := hg
    obtain ⟨⟨old, s1⟩, s4⟩ := st
    obtain ⟨ia, ra, pa, za⟩ := I.list qa
    obtain ⟨ux, ex, rx⟩ := ra.get hx
    refine wpAny_pyNext_enum_item s1 s4 pa.isList (x := ux) (by simpa using ex) hne fun h' a1 a2 a3 a4 kp => ?_
    refine ⟨_, rfl, wpAny_letOwnedTupleGo_enum (s := { s with heap := h', toks := s.toks + 1 }) a1 fun h2 b1 b2 => ?_⟩
    have two : (2 : Nat) ≤ sizeLine := Nat.le_of_lt (small1000 (by decide))
    have kp2 : ∀ c o, c ∉ [e, it] → s.heap.get? c = some o → h2.get? c = some o := fun c o hc q => by
      simp at hc
      exact b2.extBut c o hc.1 (kp c o hc.1 hc.2 q)
    have hnew : s.heap.get? s.heap.objs.size = none := by
      cases q : s.heap.get? s.heap.objs.size with
      | none => rfl
      | some o => exact absurd (Heap.lt_size q) (Nat.lt_irrefl _)
    have hH : H s.heap.objs.size = none := I.hok.fresh (Nat.le_refl _)
    have hTe : s.heap.objs.size ≠ e := Nat.ne_of_gt (Heap.lt_size s1)
    have hT2 : IsPair h2 s.heap.objs.size (.int i s.toks) ux := b2.extBut _ _ hTe a3
    have I2 : Inv X pins σ (upd H s.heap.objs.size (.tup [.int i, x])) { s with heap := h2, toks := s.toks + 1 } := I.turnedNew (t' := s.toks + 1) kp2 hf hnew ⟨two, [.int i s.toks, ux], .cons ⟨_, rfl⟩ (.cons rx .nil), _, hT2, rfl, 0, rfl⟩
    refine ⟨.ref s.heap.objs.size, _, I2, rfl, ⟨_, x, rfl, hH, rfl, fun xs' h1 => ?_⟩, ?_, fun c hc => ?_⟩
    · rw [I.list_inj h1 qa]
      exact hx
    · have e1 : ((i + 1 : Nat) : Int) = (i : Int) + 1 := by omega
      refine ⟨⟨ux, ?_⟩, a2.extBut b2.extBut (Ne.symm hne)⟩
      rw [e1]
      exact b1
    · have hc0 := (hf c hc).1
      rw [upd_ne]
      · exact hc0
      · intro q
        have e : ∃ o, s.heap.get? c = some o := by
          simp at hc
          rcases hc with rfl | rfl
          · exact ⟨_, s1⟩
          · obtain ⟨o, e, _⟩ := s4; exact ⟨o, e⟩
        obtain ⟨o, e⟩ := e
        rw [q, hnew] at e
        cases e
  done := by
    intro X hP hw hK hc i pins s σ H E I hf st hg
    subst hP hw hK
    obtain ⟨xs, qa, hend⟩ := hg
    obtain ⟨⟨old, s1⟩, s4⟩ := st
    obtain ⟨ia, ra, pa, za⟩ := I.list qa
    have la := ra.length
    refine wpAny_pyNext_enum_end (I.ok.hd hc) s1 s4 pa.isList (by simp; omega) fun h' kp => ⟨rfl, I.turnedAll (t' := s.toks) (fun c o hc e => ?_) hf⟩
    simp at hc
    exact kp c o hc.2 e
  self := fun A i s Q E st h => by
    obtain ⟨⟨old, s1⟩, _⟩ := st
    exact wpAny_pyIter_enum s1 h
def iEnum (K : Frag) (ta : TA) : TI := fun σ H R => ta σ H fun vs H1 => ∃ a, vs = [.ref a] ∧ (∃ xs, SqL K H1 a xs) ∧ R (Ite K a) H1
section
variable {X : Cx}
theorem pi_enum {ea : Expr} {elts : List Expr} {kk : Nat} {tpos p pos : Pos} {ta : TA} (hg : Gl X "enumerate") (hm : X.mg "enumerate" = none) (ha : PA X [ea] ta) (hs : starEach [ea] X.env = [(false, eval ea X.env)] := by rfl) :
    PI X (.Tuple elts kk tpos) (.Call (.Name "enumerate" p) [ea] [] pos) (iEnum X.K ta) := by
  intro pins s σ H R I h
  refine Call_ (ld_blt I hg hm boot_enumerate (PyProof.Rows.callWith_type1 (thn (ha pos pins s σ H _ I h) fun us s1 z => ?_) hs rfl))
  obtain ⟨vs, H1, I1, r1, a, rfl, ⟨xs, qa⟩, q⟩ := z
  obtain ⟨u, rfl, ru⟩ := vals1 r1
  cases ru
  obtain ⟨ia, ra, pa, za⟩ := I1.list qa
  refine call_enumerate_list pa.isList fun h' z1 z2 z3 kp => wpAny_pyIter_enum z1 ?_
  refine ⟨s1.heap.objs.size + 1, [s1.heap.objs.size + 1, s1.heap.objs.size], _, _, H1, rfl, I1.kept (t' := s1.toks) kp, turn_enum (Nat.succ_ne_self _), ⟨⟨_, z1⟩, z2⟩, fun c hc => ?_, q⟩
  have : s1.heap.objs.size ≤ c := by
    simp at hc
    rcases hc with rfl | rfl
    · exact Nat.le_add_right _ _
    · exact Nat.le_refl _
  exact I1.fpOk this (I1.hok.fresh this)
end
end L2
set_option maxHeartbeats 4000000
namespace DE
open PySem L2
inductive D where
  | non | bl (b : Bool) | int (n : Int) | str (s : Str) | lst (l : List D) | tup (l : List D) | ins (c : Str) (ns : List Str) (l : List D)
  deriving Inhabited
abbrev KC := Str → Option Addr
mutual
def Rep (κ : KC) (G : Hp) : D → V → Prop
  | .non, v => v = .non
  | .bl b, v => v = .bl b
  | .int n, v => v = .int n
  | .str s, v => v = .str s
  | .lst ds, v => ∃ a xs, v = .ref a ∧ G a = some (.lst xs) ∧ Reps κ G ds xs
  | .tup ds, v => ∃ a xs, v = .ref a ∧ G a = some (.tup xs) ∧ Reps κ G ds xs
  | .ins c ns ds, v => ∃ p dx C xs, κ c = some C ∧ v = .ref p ∧ G p = some (.ins C dx (ns.zip xs)) ∧ xs.length = ns.length ∧ Reps κ G ds xs
def Reps (κ : KC) (G : Hp) : List D → List V → Prop
  | [], xs => xs = []
  | d :: ds, xs => ∃ x r, xs = x :: r ∧ Rep κ G d x ∧ Reps κ G ds r
end
mutual
theorem Rep.same {κ : KC} {G G' : Hp} (e : Same G G') : ∀ {d : D} {v : V}, Rep κ G d v → Rep κ G' d v
  | .non, v, h => by simp only [Rep] at h ⊢; exact h
  | .bl b, v, h => by simp only [Rep] at h ⊢; exact h
  | .int i, v, h => by simp only [Rep] at h ⊢; exact h
  | .str x, v, h => by simp only [Rep] at h ⊢; exact h
  | .lst ds, v, h => by
    simp only [Rep] at h ⊢
    obtain ⟨a, xs, rfl, h1, h2⟩ := h
    exact ⟨a, xs, rfl, e _ _ h1, Reps.same e h2⟩
  | .tup ds, v, h => by
    simp only [Rep] at h ⊢
    obtain ⟨a, xs, rfl, h1, h2⟩ := h
    exact ⟨a, xs, rfl, e _ _ h1, Reps.same e h2⟩
  | .ins c ns ds, v, h => by
    simp only [Rep] at h ⊢
    obtain ⟨p, dx, C, xs, hc, rfl, h1, hl, h2⟩ := h
    exact ⟨p, dx, C, xs, hc, rfl, e _ _ h1, hl, Reps.same e h2⟩
theorem Reps.same {κ : KC} {G G' : Hp} (e : Same G G') : ∀ {ds : List D} {vs : List V}, Reps κ G ds vs → Reps κ G' ds vs
  | [], vs, h => by simp only [Reps] at h ⊢; exact h
  | d :: ds, vs, h => by
    simp only [Reps] at h ⊢
    obtain ⟨x, r, rfl, h1, h2⟩ := h
    exact ⟨x, r, rfl, Rep.same e h1, Reps.same e h2⟩
end
section
variable {κ : KC} {G G' : Hp}
theorem Reps.nil : Reps κ G [] [] := by simp only [Reps]
theorem Reps.cons {d : D} {ds : List D} {v : V} {vs : List V} (h : Rep κ G d v) (t : Reps κ G ds vs) : Reps κ G (d :: ds) (v :: vs) := by
  simp only [Reps]; exact ⟨v, vs, rfl, h, t⟩
theorem Reps.len : ∀ {ds : List D} {vs : List V}, Reps κ G ds vs → ds.length = vs.length
  | [], vs, h => by simp only [Reps] at h; subst h; rfl
  | d :: ds, vs, h => by
    simp only [Reps] at h
    obtain ⟨x, r, rfl, h1, h2⟩ := h
    simp [Reps.len h2]
theorem Reps.app : ∀ {ds es : List D} {vs us : List V}, Reps κ G ds vs → Reps κ G es us → Reps κ G (ds ++ es) (vs ++ us)
  | [], es, vs, us, h, h' => by simp only [Reps] at h; subst h; exact h'
  | d :: ds, es, vs, us, h, h' => by
    simp only [Reps] at h
    obtain ⟨x, r, rfl, h1, h2⟩ := h
    exact Reps.cons h1 (Reps.app h2 h')
theorem Reps.snoc {ds : List D} {vs : List V} {d : D} {v : V} (h : Reps κ G ds vs) (h' : Rep κ G d v) : Reps κ G (ds ++ [d]) (vs ++ [v]) := h.app (.cons h' .nil)
theorem Reps.drop : ∀ (n : Nat) {ds : List D} {vs : List V}, Reps κ G ds vs → Reps κ G (ds.drop n) (vs.drop n)
  | 0, _, _, h => h
  | n + 1, [], vs, h => by simp only [Reps] at h; subst h; exact .nil
  | n + 1, d :: ds, vs, h => by
    simp only [Reps] at h
    obtain ⟨x, r, rfl, h1, h2⟩ := h
    exact Reps.drop n h2
theorem Reps.take : ∀ (n : Nat) {ds : List D} {vs : List V}, Reps κ G ds vs → Reps κ G (ds.take n) (vs.take n)
  | 0, _, _, h => by simpa using Reps.nil
  | n + 1, [], vs, h => by simp only [Reps] at h; subst h; exact .nil
  | n + 1, d :: ds, vs, h => by
    simp only [Reps] at h
    obtain ⟨x, r, rfl, h1, h2⟩ := h
    exact Reps.cons h1 (Reps.take n h2)
theorem Reps.at : ∀ {ds : List D} {vs : List V} {i : Nat} {v : V}, Reps κ G ds vs → vs[i]? = some v → ∃ d, ds[i]? = some d ∧ Rep κ G d v
  | [], vs, i, v, h, e => by simp only [Reps] at h; subst h; simp at e
  | d :: ds, vs, 0, v, h, e => by
    simp only [Reps] at h
    obtain ⟨x, r, rfl, h1, h2⟩ := h
    simp at e
    subst e
    exact ⟨d, rfl, h1⟩
  | d :: ds, vs, i + 1, v, h, e => by
    simp only [Reps] at h
    obtain ⟨x, r, rfl, h1, h2⟩ := h
    obtain ⟨d', e1, e2⟩ := Reps.at (i := i) h2 (by simpa using e)
    exact ⟨d', by simpa using e1, e2⟩
theorem Reps.atD : ∀ {ds : List D} {vs : List V} {i : Nat} {d : D}, Reps κ G ds vs → ds[i]? = some d → ∃ v, vs[i]? = some v ∧ Rep κ G d v
  | [], vs, i, d, h, e => by simp at e
  | d :: ds, vs, 0, d', h, e => by
    simp only [Reps] at h
    obtain ⟨x, r, rfl, h1, h2⟩ := h
    simp at e
    subst e
    exact ⟨x, rfl, h1⟩
  | d :: ds, vs, i + 1, d', h, e => by
    simp only [Reps] at h
    obtain ⟨x, r, rfl, h1, h2⟩ := h
    obtain ⟨v', e1, e2⟩ := Reps.atD (i := i) h2 (by simpa using e)
    exact ⟨v', by simpa using e1, e2⟩
theorem Reps.set : ∀ {ds : List D} {vs : List V} (i : Nat) {d : D} {v : V}, Reps κ G ds vs → Rep κ G d v → Reps κ G (ds.set i d) (vs.set i v)
  | [], vs, i, d, v, h, h' => by simp only [Reps] at h; subst h; exact .nil
  | d :: ds, vs, 0, d', v, h, h' => by
    simp only [Reps] at h
    obtain ⟨x, r, rfl, h1, h2⟩ := h
    exact Reps.cons h' h2
  | d :: ds, vs, i + 1, d', v, h, h' => by
    simp only [Reps] at h
    obtain ⟨x, r, rfl, h1, h2⟩ := h
    exact Reps.cons h1 (Reps.set i h2 h')
end
inductive Sl where
  | no | val (d : D) | own (l : List D) | bor (l : List D) | scr (l : List D)
abbrev Env := List Sl
def SlR (κ : KC) (K : PySem.W.Frag) (G H H₀ : Hp) : Sl → Option (Option V) → Prop
  | .no, _ => True
  | .val d, o => ∃ v, o = some (some v) ∧ Rep κ G d v
  | .own ds, o => ∃ a xs, o = some (some (.ref a)) ∧ H a = some (.lst xs) ∧ H₀ a = none ∧ G a = none ∧ Reps κ G ds xs
  | .bor ds, o => ∃ a xs, o = some (some (.ref a)) ∧ H₀ a = some (.lst xs) ∧ Reps κ G ds xs
  | .scr ds, o => ∃ a xs, o = some (some (.ref a)) ∧ SqL K H₀ a xs ∧ Reps κ G ds xs
def OwnAt (ρ : Env) (σ : St) (a : Addr) : Prop := ∃ (i : Nat) (l : List D), ρ[i]? = some (.own l) ∧ σ[i]? = some (some (.ref a))
structure ER (κ : KC) (K : PySem.W.Frag) (G₀ H₀ G H : Hp) (ρ : Env) (σ : St) : Prop where
  len : ρ.length = σ.length
  sub : Same G H
  base : Same H₀ H
  g0 : Same G₀ G
  fresh : ∀ a o, G a = some o → (∃ o', G₀ a = some o') ∨ H₀ a = none
  sl : ∀ (i : Nat) (s : Sl), ρ[i]? = some s → SlR κ K G H H₀ s σ[i]?
  ap : ∀ (i j : Nat) (a : Addr) (l m : List D), ρ[i]? = some (.own l) → ρ[j]? = some (.own m) → σ[i]? = some (some (.ref a)) → σ[j]? = some (some (.ref a)) → i = j
structure Po (κ : KC) (K : PySem.W.Frag) (G₀ H₀ : Hp) (σ : St) (G H : Hp) (ρ : Env) (G' H' : Hp) (ρ' : Env) : Prop where
  er : ER κ K G₀ H₀ G' H' ρ' σ
  hs : Same H H'
  gs : Same G G'
  new : ∀ a o, G' a = some o → (∃ o', G a = some o') ∨ H a = none ∨ OwnAt ρ σ a
  fz : ∀ (i : Nat) (l : List D), ρ'[i]? = some (.own l) → ρ[i]? = some (.own l)
theorem Same.none {H H' : Hp} (e : Same H H') {a : Addr} (h : H' a = none) : H a = none := by
  cases q : H a with
  | none => rfl
  | some o => rw [e a o q] at h; cases h
section
variable {κ : KC} {K : PySem.W.Frag} {G₀ H₀ G H G' H' G'' H'' : Hp} {ρ ρ' ρ'' : Env} {σ : St}
theorem Po.refl (h : ER κ K G₀ H₀ G H ρ σ) : Po κ K G₀ H₀ σ G H ρ G H ρ := ⟨h, fun _ _ e => e, fun _ _ e => e, fun _ o e => .inl ⟨o, e⟩, fun _ _ e => e⟩
theorem Po.trans (a : Po κ K G₀ H₀ σ G H ρ G' H' ρ') (b : Po κ K G₀ H₀ σ G' H' ρ' G'' H'' ρ'') : Po κ K G₀ H₀ σ G H ρ G'' H'' ρ'' :=
  ⟨b.er, fun c o e => b.hs c o (a.hs c o e), fun c o e => b.gs c o (a.gs c o e), fun c o e => by
    rcases b.new c o e with ⟨o', z⟩ | z | ⟨i, l, z1, z2⟩
    · exact a.new c o' z
    · exact .inr (.inl (Same.none a.hs z))
    · exact .inr (.inr ⟨i, l, a.fz i l z1, z2⟩), fun i l e => a.fz i l (b.fz i l e)⟩
theorem SqL.same {H H' : Hp} (e : Same H H') {a : Addr} {xs : List V} (h : SqL K H a xs) : SqL K H' a xs := e.seq h
theorem SlR.grow (hs : Same H H') (gs : Same G G') (nw : ∀ a xs, H a = some (.lst xs) → H₀ a = none → G a = none → G' a = none) {s : Sl} {o : Option (Option V)} (h : SlR κ K G H H₀ s o) : SlR κ K G' H' H₀ s o := by
  cases s with
  | no => trivial
  | val d => obtain ⟨v, e, r⟩ := h; exact ⟨v, e, r.same gs⟩
  | own ds => obtain ⟨a, xs, e, h1, h2, h3, h4⟩ := h; exact ⟨a, xs, e, hs _ _ h1, h2, nw a xs h1 h2 h3, h4.same gs⟩
  | bor ds => obtain ⟨a, xs, e, h1, h4⟩ := h; exact ⟨a, xs, e, h1, h4.same gs⟩
  | scr ds => obtain ⟨a, xs, e, h1, h4⟩ := h; exact ⟨a, xs, e, h1, h4.same gs⟩
theorem Po.more (h : ER κ K G₀ H₀ G H ρ σ) (hs : Same H H') (gs : Same G G') (sub : Same G' H') (new : ∀ a o, G' a = some o → (∃ o', G a = some o') ∨ H a = none) : Po κ K G₀ H₀ σ G H ρ G' H' ρ := by
  refine ⟨⟨h.len, sub, fun b o e => hs b o (h.base b o e), fun b o e => gs b o (h.g0 b o e), fun a o e => ?_, fun i s e => (h.sl i s e).grow hs gs fun a xs h1 h2 h3 => ?_, h.ap⟩, hs, gs, fun a o e => ?_, fun _ _ e => e⟩
  · rcases new a o e with ⟨o', z⟩ | z
    · exact h.fresh a o' z
    · exact .inr (Same.none h.base z)
  · cases q : G' a with
    | none => rfl
    | some o =>
      rcases new a o q with ⟨o', z⟩ | z
      · rw [h3] at z; cases z
      · rw [h1] at z; cases z
  · rcases new a o e with z | z
    · exact .inl z
    · exact .inr (.inl z)
theorem Po.room (h : ER κ K G₀ H₀ G H ρ σ) (hs : Same H H') : Po κ K G₀ H₀ σ G H ρ G H' ρ :=
  Po.more h hs (fun _ _ e => e) (fun b o e => hs b o (h.sub b o e)) fun _ o e => .inl ⟨o, e⟩
theorem Po.lay (h : ER κ K G₀ H₀ G H ρ σ) {a : Addr} {o : HO} (ha : H a = none) : Po κ K G₀ H₀ σ G H ρ (upd G a o) (upd H a o) ρ := by
  have ga : G a = none := Same.none h.sub ha
  refine Po.more h (Same.upd ha) (Same.upd ga) (fun b u e => ?_) fun b u e => ?_
  · by_cases hb : b = a
    · subst hb; rw [upd_same] at e ⊢; exact e
    · rw [upd_ne hb] at e ⊢; exact h.sub b u e
  · by_cases hb : b = a
    · subst hb; exact .inr ha
    · rw [upd_ne hb] at e; exact .inl ⟨u, e⟩
end
inductive Rv where
  | val (d : D) | tmp (l : List D) | cell (l : List D) | scr (l : List D)
def RvR (κ : KC) (K : PySem.W.Frag) (H₀ Hb G H : Hp) (ρ : Env) (σ : St) : Rv → V → Prop
  | .val d, v => Rep κ G d v
  | .tmp ds, v => ∃ a xs, v = .ref a ∧ H a = some (.lst xs) ∧ Hb a = none ∧ H₀ a = none ∧ G a = none ∧ ¬ OwnAt ρ σ a ∧ Reps κ G ds xs
  | .cell ds, v => ∃ a xs, v = .ref a ∧ H a = some (.lst xs) ∧ Reps κ G ds xs
  | .scr ds, v => ∃ a xs, v = .ref a ∧ SqL K H a xs ∧ Reps κ G ds xs
section
variable {κ : KC} {K : PySem.W.Frag} {G₀ H₀ Hb G H G' H' : Hp} {ρ ρ' : Env} {σ : St}
theorem RvR.keep {r : Rv} {v : V} (h : RvR κ K H₀ Hb G H ρ σ r v) (p : Po κ K G₀ H₀ σ G H ρ G' H' ρ') : RvR κ K H₀ Hb G' H' ρ' σ r v := by
  cases r with
  | val d => exact Rep.same p.gs h
  | tmp ds =>
    obtain ⟨a, xs, rfl, h1, h2, h3, h4, h5, h6⟩ := h
    refine ⟨a, xs, rfl, p.hs _ _ h1, h2, h3, ?_, fun ⟨i, l, z1, z2⟩ => h5 ⟨i, l, p.fz i l z1, z2⟩, h6.same p.gs⟩
    cases q : G' a with
    | none => rfl
    | some o =>
      rcases p.new a o q with ⟨o', z⟩ | z | z
      · rw [h4] at z; cases z
      · rw [h1] at z; cases z
      · exact absurd z h5
  | cell ds => obtain ⟨a, xs, rfl, h1, h6⟩ := h; exact ⟨a, xs, rfl, p.hs _ _ h1, h6.same p.gs⟩
  | scr ds => obtain ⟨a, xs, rfl, h1, h6⟩ := h; exact ⟨a, xs, rfl, p.hs.seq h1, h6.same p.gs⟩
theorem RvR.back {Hc : Hp} {r : Rv} {v : V} (h : RvR κ K H₀ Hc G H ρ σ r v) (e : Same Hb Hc) : RvR κ K H₀ Hb G H ρ σ r v := by
  cases r with
  | val d => exact h
  | tmp ds =>
    obtain ⟨a, xs, rfl, h1, h2, h3, h4, h5, h6⟩ := h
    exact ⟨a, xs, rfl, h1, Same.none e h2, h3, h4, h5, h6⟩
  | cell ds => exact h
  | scr ds => exact h
def Rv.list? : Rv → Option (List D)
  | .val (.lst l) => some l
  | .tmp l => some l
  | .cell l => some l
  | .scr l => some l
  | _ => none
def Rv.plain? : Rv → Option (List D)
  | .val (.lst l) => some l
  | .tmp l => some l
  | .cell l => some l
  | _ => none
theorem RvR.plain (er : ER κ K G₀ H₀ G H ρ σ) {r : Rv} {v : V} {l : List D} (h : RvR κ K H₀ Hb G H ρ σ r v) (e : r.plain? = some l) : ∃ a xs, v = .ref a ∧ H a = some (.lst xs) ∧ Reps κ G l xs := by
  cases r with
  | val d =>
    cases d <;> simp only [Rv.plain?] at e <;> try (cases e)
    simp only [RvR, Rep] at h
    obtain ⟨a, xs, rfl, h1, h2⟩ := h
    exact ⟨a, xs, rfl, er.sub _ _ h1, h2⟩
  | tmp ds =>
    simp only [Rv.plain?] at e
    cases e
    obtain ⟨a, xs, rfl, h1, _, _, _, _, h6⟩ := h
    exact ⟨a, xs, rfl, h1, h6⟩
  | cell ds =>
    simp only [Rv.plain?] at e
    cases e
    exact h
  | scr ds => simp only [Rv.plain?] at e; cases e
theorem RvR.list (er : ER κ K G₀ H₀ G H ρ σ) {r : Rv} {v : V} {l : List D} (h : RvR κ K H₀ Hb G H ρ σ r v) (e : r.list? = some l) : ∃ a xs, v = .ref a ∧ SqL K H a xs ∧ Reps κ G l xs := by
  cases r with
  | scr ds =>
    simp only [Rv.list?] at e
    cases e
    exact h
  | val d =>
    have e' : (Rv.val d).plain? = some l := by cases d <;> simp only [Rv.list?] at e <;> first | (cases e; rfl) | cases e
    obtain ⟨a, xs, h1, h2, h3⟩ := h.plain er e'
    exact ⟨a, xs, h1, SqL.of h2, h3⟩
  | tmp ds =>
    obtain ⟨a, xs, h1, h2, h3⟩ := h.plain er (l := l) e
    exact ⟨a, xs, h1, SqL.of h2, h3⟩
  | cell ds =>
    obtain ⟨a, xs, h1, h2, h3⟩ := h.plain er (l := l) e
    exact ⟨a, xs, h1, SqL.of h2, h3⟩
theorem Po.freeze {a : Addr} {xs : List V} {G1 H1 : Hp} {ρ1 : Env} (p : Po κ K G₀ H₀ σ G H ρ G1 H1 ρ1) (h1 : H1 a = some (.lst xs)) (h2 : H a = none) (h3 : H₀ a = none) (h4 : G1 a = none) (h5 : ¬ OwnAt ρ1 σ a) : Po κ K G₀ H₀ σ G H ρ (upd G1 a (.lst xs)) H1 ρ1 := by
  have gs : Same G1 (upd G1 a (.lst xs)) := Same.upd h4
  have er := p.er
  refine ⟨⟨er.len, fun b u e => ?_, er.base, fun b o e => gs b o (er.g0 b o e), fun b o e => ?_, fun i s e => ?_, er.ap⟩, p.hs, fun b o e => gs b o (p.gs b o e), fun b o e => ?_, p.fz⟩
  · by_cases hb : b = a
    · subst hb; rw [upd_same] at e; cases e; exact h1
    · rw [upd_ne hb] at e; exact er.sub b u e
  · by_cases hb : b = a
    · subst hb; exact .inr h3
    · rw [upd_ne hb] at e; exact er.fresh b o e
  · have q := er.sl i s e
    cases s with
    | no => trivial
    | val d => obtain ⟨v, z, r⟩ := q; exact ⟨v, z, r.same gs⟩
    | own ds =>
      obtain ⟨b, ys, z, q1, q2, q3, q4⟩ := q
      have hb : b ≠ a := fun w => h5 ⟨i, ds, e, by rw [← w]; exact z⟩
      exact ⟨b, ys, z, q1, q2, by rw [upd_ne hb]; exact q3, q4.same gs⟩
    | bor ds => obtain ⟨b, ys, z, q1, q4⟩ := q; exact ⟨b, ys, z, q1, q4.same gs⟩
    | scr ds => obtain ⟨b, ys, z, q1, q4⟩ := q; exact ⟨b, ys, z, q1, q4.same gs⟩
  · by_cases hb : b = a
    · subst hb; exact .inr (.inl h2)
    · rw [upd_ne hb] at e; exact p.new b o e
theorem ER.froze {i : Nat} {l : List D} (h : ER κ K G₀ H₀ G H ρ σ) (e : ρ[i]? = some (.own l)) : ∃ a xs, σ[i]? = some (some (.ref a)) ∧ Po κ K G₀ H₀ σ G H ρ (upd G a (.lst xs)) H (ρ.set i (.val (.lst l))) ∧ Rep κ (upd G a (.lst xs)) (.lst l) (.ref a) := by
  obtain ⟨a, xs, z, h1, h2, h3, h4⟩ := h.sl i _ e
  have gs : Same G (upd G a (.lst xs)) := Same.upd h3
  have hi : i < ρ.length := (List.getElem?_eq_some_iff.mp e).1
  have rp : Rep κ (upd G a (.lst xs)) (.lst l) (.ref a) := by simp only [Rep]; exact ⟨a, xs, rfl, upd_same, h4.same gs⟩
  refine ⟨a, xs, z, ⟨⟨by rw [List.length_set]; exact h.len, fun b u q => ?_, h.base, fun b o q => gs b o (h.g0 b o q), fun b o q => ?_, fun j s q => ?_, fun j k b m n q1 q2 => ?_⟩, fun _ _ q => q, gs, fun b o q => ?_, fun j m q => ?_⟩, rp⟩
  · by_cases hb : b = a
    · subst hb; rw [upd_same] at q; cases q; exact h1
    · rw [upd_ne hb] at q; exact h.sub b u q
  · by_cases hb : b = a
    · subst hb; exact .inr h2
    · rw [upd_ne hb] at q; exact h.fresh b o q
  · by_cases hj : i = j
    · subst hj
      rw [List.getElem?_set_self hi] at q
      cases q
      exact ⟨_, z, rp⟩
    · rw [List.getElem?_set_ne hj] at q
      have w := h.sl j s q
      cases s with
      | no => trivial
      | val d => obtain ⟨v, z, r⟩ := w; exact ⟨v, z, r.same gs⟩
      | own ds =>
        obtain ⟨b, ys, z', q1, q2, q3, q4⟩ := w
        have hb : b ≠ a := fun u => hj (h.ap i j a l ds e q z (by rw [← u]; exact z'))
        exact ⟨b, ys, z', q1, q2, by rw [upd_ne hb]; exact q3, q4.same gs⟩
      | bor ds => obtain ⟨b, ys, z, q1, q4⟩ := w; exact ⟨b, ys, z, q1, q4.same gs⟩
      | scr ds => obtain ⟨b, ys, z, q1, q4⟩ := w; exact ⟨b, ys, z, q1, q4.same gs⟩
  · have f : ∀ {j : Nat} {m : List D}, (ρ.set i (.val (.lst l)))[j]? = some (.own m) → ρ[j]? = some (.own m) := fun {j m} q => by
      by_cases hj : i = j
      · subst hj; rw [List.getElem?_set_self hi] at q; cases q
      · rw [List.getElem?_set_ne hj] at q; exact q
    exact h.ap j k b m n (f q1) (f q2)
  · by_cases hb : b = a
    · subst hb; exact .inr (.inr ⟨i, l, e, z⟩)
    · rw [upd_ne hb] at q; exact .inl ⟨o, q⟩
  · by_cases hj : i = j
    · subst hj; rw [List.getElem?_set_self hi] at q; cases q
    · rw [List.getElem?_set_ne hj] at q; exact q
theorem ER.setVal {i : Nat} {d : D} {v : V} (h : ER κ K G₀ H₀ G H ρ σ) (r : Rep κ G d v) : ER κ K G₀ H₀ G H (ρ.set i (.val d)) (σ.set i (some v)) := by
  refine ⟨by rw [List.length_set, List.length_set]; exact h.len, h.sub, h.base, h.g0, h.fresh, fun j s q => ?_, fun j k b m n q1 q2 q3 q4 => ?_⟩
  · by_cases hj : i = j
    · subst hj
      have hi : i < ρ.length := by simpa using (List.getElem?_eq_some_iff.mp q).1
      rw [List.getElem?_set_self hi] at q
      cases q
      exact ⟨v, by rw [List.getElem?_set_self (by rw [← h.len]; exact hi)], r⟩
    · rw [List.getElem?_set_ne hj] at q ⊢
      exact h.sl j s q
  · have f : ∀ {j : Nat} {m : List D}, (ρ.set i (.val d))[j]? = some (.own m) → i ≠ j ∧ ρ[j]? = some (.own m) := fun {j m} q => by
      by_cases hj : i = j
      · subst hj
        have hi : i < ρ.length := by simpa using (List.getElem?_eq_some_iff.mp q).1
        rw [List.getElem?_set_self hi] at q; cases q
      · rw [List.getElem?_set_ne hj] at q; exact ⟨hj, q⟩
    obtain ⟨n1, e1⟩ := f q1
    obtain ⟨n2, e2⟩ := f q2
    rw [List.getElem?_set_ne n1] at q3
    rw [List.getElem?_set_ne n2] at q4
    exact h.ap j k b m n e1 e2 q3 q4
theorem ER.setOwn {i : Nat} {l : List D} {a : Addr} {xs : List V} (h : ER κ K G₀ H₀ G H ρ σ) (h1 : H a = some (.lst xs)) (h2 : H₀ a = none) (h3 : G a = none) (h4 : ¬ OwnAt ρ σ a) (r : Reps κ G l xs) : ER κ K G₀ H₀ G H (ρ.set i (.own l)) (σ.set i (some (.ref a))) := by
  have f : ∀ {j : Nat} {m : List D}, (ρ.set i (.own l))[j]? = some (.own m) → i ≠ j → ρ[j]? = some (.own m) := fun {j m} q hj => by rw [List.getElem?_set_ne hj] at q; exact q
  refine ⟨by rw [List.length_set, List.length_set]; exact h.len, h.sub, h.base, h.g0, h.fresh, fun j s q => ?_, fun j k b m n q1 q2 q3 q4 => ?_⟩
  · by_cases hj : i = j
    · subst hj
      have hi : i < ρ.length := by simpa using (List.getElem?_eq_some_iff.mp q).1
      rw [List.getElem?_set_self hi] at q
      cases q
      exact ⟨a, xs, by rw [List.getElem?_set_self (by rw [← h.len]; exact hi)], h1, h2, h3, r⟩
    · rw [List.getElem?_set_ne hj] at q ⊢
      exact h.sl j s q
  · by_cases hj : i = j
    · by_cases hk : i = k
      · omega
      · subst hj
        have hi : i < σ.length := by simpa using (List.getElem?_eq_some_iff.mp q3).1
        rw [List.getElem?_set_self hi] at q3
        rw [List.getElem?_set_ne hk] at q4
        cases q3
        exact absurd ⟨k, n, f q2 hk, q4⟩ h4
    · by_cases hk : i = k
      · subst hk
        have hi : i < σ.length := by simpa using (List.getElem?_eq_some_iff.mp q4).1
        rw [List.getElem?_set_self hi] at q4
        rw [List.getElem?_set_ne hj] at q3
        cases q4
        exact absurd ⟨j, m, f q1 hj, q3⟩ h4
      · rw [List.getElem?_set_ne hj] at q3
        rw [List.getElem?_set_ne hk] at q4
        exact h.ap j k b m n (f q1 hj) (f q2 hk) q3 q4
theorem ER.write {i : Nat} {l m : List D} {a : Addr} {ys : List V} (h : ER κ K G₀ H₀ G H ρ σ) (e : ρ[i]? = some (.own l)) (z : σ[i]? = some (some (.ref a))) (r : Reps κ G m ys) : ER κ K G₀ H₀ G (upd H a (.lst ys)) (ρ.set i (.own m)) σ := by
  obtain ⟨a', xs, z', h1, h2, h3, h4⟩ := h.sl i _ e
  have ea : a' = a := by rw [z'] at z; injection z with z; injection z with z; injection z
  subst ea
  have hi : i < ρ.length := (List.getElem?_eq_some_iff.mp e).1
  refine ⟨by rw [List.length_set]; exact h.len, fun b u q => ?_, fun b u q => ?_, h.g0, h.fresh, fun j s q => ?_, fun j k b m' n q1 q2 => ?_⟩
  · have hb : b ≠ a' := fun w => by rw [w, h3] at q; cases q
    rw [upd_ne hb]; exact h.sub b u q
  · have hb : b ≠ a' := fun w => by rw [w, h2] at q; cases q
    rw [upd_ne hb]; exact h.base b u q
  · by_cases hj : i = j
    · subst hj
      rw [List.getElem?_set_self hi] at q
      cases q
      exact ⟨a', ys, z', upd_same, h2, h3, r⟩
    · rw [List.getElem?_set_ne hj] at q
      have w := h.sl j s q
      cases s with
      | no => trivial
      | val d => exact w
      | own ds =>
        obtain ⟨b, zs, z2, q1, q2, q3, q4⟩ := w
        have hb : b ≠ a' := fun u => hj (h.ap i j a' l ds e q z' (by rw [← u]; exact z2))
        exact ⟨b, zs, z2, by rw [upd_ne hb]; exact q1, q2, q3, q4⟩
      | bor ds => exact w
      | scr ds => exact w
  · have f : ∀ {j : Nat} {n : List D}, (ρ.set i (.own m))[j]? = some (.own n) → ∃ n', ρ[j]? = some (.own n') := fun {j n} q => by
      by_cases hj : i = j
      · subst hj; exact ⟨l, e⟩
      · rw [List.getElem?_set_ne hj] at q; exact ⟨n, q⟩
    obtain ⟨_, e1⟩ := f q1
    obtain ⟨_, e2⟩ := f q2
    exact h.ap j k b _ _ e1 e2
end
end DE
set_option maxHeartbeats 4000000
namespace DE
open PySem L2
inductive Sk where
  | lst | tup | str
def sigD (s : Str) : List D := s.cps.toList.map fun c => D.str ⟨#[c]⟩
inductive R (α : Type) where
  | ok (a : α) | exc (c : Str) (l : List (Str × D)) | no
def R.th {α β : Type} : R α → (α → R β) → R β
  | .ok a, f => f a
  | .exc c l, _ => .exc c l
  | .no, _ => .no
def R.of {α : Type} : Option α → R α
  | some a => .ok a
  | none => .no
mutual
def toP : D → Option PyData
  | .non => some .none
  | .bl b => some (.bool b)
  | .int n => some (.int n)
  | .str s => some (.str s)
  | .lst l => (toPs l).map .list
  | .tup l => (toPs l).map .tuple
  | .ins .. => none
def toPs : List D → Option (List PyData)
  | [] => some []
  | d :: l => (toP d).bind fun p => (toPs l).map (p :: ·)
end
def Rv.data : Rv → D
  | .val d => d
  | .tmp l => .lst l
  | .cell l => .lst l
  | .scr l => .lst l
inductive Ar where
  | val (d : D) | bor (l : List D) | scr (l : List D)
structure Ct where
  N : List Str
  sc : Scope
  tab : List Str
  gl : Str → Option D
  cl : Str → List Ar → R Rv
def ixOf : List Str → Str → Option Nat
  | [], _ => none
  | y :: r, x => if y = x then some 0 else (ixOf r x).map (· + 1)
def visB (sc : Scope) (x : Str) : Bool := match sc.names.lookup x with
  | some .local => true
  | some .cell => true
  | some .free => true
  | _ => false
def locB (sc : Scope) (x : Str) : Bool := match sc.names.lookup x with
  | some .local => true
  | some .cell => true
  | _ => false
def glB (sc : Scope) (x : Str) : Bool := sc.names.lookup x == some .globalImplicit
def nameOk (x : Str) : Bool := !(x == ("__debug__" : Str)) && !(x == ("__classdict__" : Str)) && !(x == ("__name__" : Str))
def nameR (Γ : Ct) (x : Str) (ρ : Env) : R Rv := if nameOk x then (match ixOf Γ.N x with
  | some i => if visB Γ.sc x then (match ρ[i]? with
    | some (.val d) => .ok (.val d)
    | some (.own l) => .ok (.cell l)
    | some (.bor l) => .ok (.cell l)
    | some (.scr l) => .ok (.scr l)
    | _ => .no) else .no
  | none => if glB Γ.sc x then (match Γ.gl x with | some d => .ok (.val d) | none => .no) else .no) else .no
def nameE (Γ : Ct) (x : Str) (ρ : Env) : R (D × Env) := if nameOk x then (match ixOf Γ.N x with
  | some i => if visB Γ.sc x then (match ρ[i]? with
    | some (.val d) => .ok (d, ρ)
    | some (.own l) => .ok (.lst l, ρ.set i (.val (.lst l)))
    | _ => .no) else .no
  | none => if glB Γ.sc x then (match Γ.gl x with | some d => .ok (d, ρ) | none => .no) else .no) else .no
def nameL (Γ : Ct) (x : Str) (ρ : Env) : R ((Sk × List D) × Env) := if nameOk x then (match ixOf Γ.N x with
  | some i => if visB Γ.sc x then (match ρ[i]? with
    | some (.val (.lst l)) => .ok ((.lst, l), ρ)
    | some (.val (.tup l)) => .ok ((.tup, l), ρ)
    | some (.val (.str z)) => .ok ((.str, sigD z), ρ)
    | some (.own l) => .ok ((.lst, l), ρ.set i (.val (.lst l)))
    | some (.bor l) => .ok ((.lst, l), ρ)
    | some (.scr l) => .ok ((.lst, l), ρ)
    | _ => .no) else .no
  | none => .no) else .no
def constD : Const → R Rv
  | .none => .ok (.val .non)
  | .bool b => .ok (.val (.bl b))
  | .int i => .ok (.val (.int i))
  | .str s => .ok (.val (.str s))
  | _ => .no
def Rv.int? : Rv → Option Int
  | .val (.int i) => some i
  | _ => none
def Rv.str? : Rv → Option Str
  | .val (.str i) => some i
  | _ => none
def Rv.bl? : Rv → Option Bool
  | .val (.bl i) => some i
  | _ => none
def Rv.tup? : Rv → Option (List D)
  | .val (.tup i) => some i
  | _ => none
def mulB (i j : Int) : Bool := (decide (-(2 ^ 64) < i) && decide (i < 2 ^ 64)) || (decide (-(2 ^ 64) < j) && decide (j < 2 ^ 64))
def int2 (x y : Rv) (f : Int → Int → R Rv) : R Rv := match x.int?, y.int? with
  | some i, some j => f i j
  | _, _ => .no
def addD (x y : Rv) : R Rv := match x.int?, y.int? with
  | some i, some j => .ok (.val (.int (i + j)))
  | _, _ => match x.str?, y.str? with
    | some a, some b => if a.length + b.length ≤ sizeLine then .ok (.val (.str (a ++ b))) else .no
    | _, _ => match x.plain?, y.plain? with
      | some l, some m => if l.length + m.length ≤ sizeLine then .ok (.tmp (l ++ m)) else .no
      | _, _ => .no
def binD (op : Operator) (x y : Rv) : R Rv := match op with
  | .Add => addD x y
  | .Sub => int2 x y fun i j => .ok (.val (.int (i - j)))
  | .Mult => int2 x y fun i j => if mulB i j = true then .ok (.val (.int (i * j))) else .no
  | .FloorDiv => int2 x y fun i j => if 0 < j ∧ j < 1073741824 then .ok (.val (.int (i / j))) else .no
  | .Mod => int2 x y fun i j => if 0 < j then .ok (.val (.int (i % j))) else .no
  | .Pow => int2 x y fun i j => if 0 ≤ j ∧ j ≤ 1000000 ∧ i.natAbs < 2 ^ 64 then .ok (.val (.int (i ^ j.toNat))) else .no
  | _ => .no
def eqD (x y : D) : Option Bool := match toP x, toP y with
  | some p, some q => if SeqAt.shaped p && SeqAt.shaped q then some (PyData.eqv p q) else none
  | _, _ => none
def flatD : D → Bool
  | .non => true
  | .bl _ => true
  | .int _ => true
  | .str _ => true
  | _ => false
def seqD (r : Rv) : Option (List D) := match r.tup? with
  | some l => some l
  | none => r.list?
def flV : D → V
  | .bl b => .bl b
  | .int n => .int n
  | .str s => .str s
  | _ => .non
def inD (x : D) (l : List D) : Option Bool := if (flatD x && l.all flatD) = true then some (inV (flV x) (l.map flV)) else none
def cmpI (x y : Rv) (f : Int → Int → Bool) : Option Bool := match x.int?, y.int? with
  | some i, some j => some (f i j)
  | _, _ => none
def Rv.non? : Rv → Bool
  | .val .non => true
  | _ => false
def occB (a b : Str) : Bool := !(Builtin.Str.occurrences b a 0 b.length 1).isEmpty
def memD (x y : Rv) : Option Bool := match x.str?, y.str? with
  | some a, some b => some (occB a b)
  | _, _ => (seqD y).bind (inD x.data)
def cmpD (op : CmpOp) (x y : Rv) : Option Bool := match op with
  | .Eq => eqD x.data y.data
  | .NotEq => (eqD x.data y.data).map (!·)
  | .Lt => cmpI x y fun i j => decide (i < j)
  | .LtE => cmpI x y fun i j => decide (i ≤ j)
  | .Gt => cmpI x y fun i j => decide (j < i)
  | .GtE => cmpI x y fun i j => decide (j ≤ i)
  | .Is => if y.non? then some x.non? else none
  | .IsNot => if y.non? then some (!x.non?) else none
  | .In => memD x y
  | .NotIn => (memD x y).map (!·)
def idxD (x y : Rv) : R Rv := match y.int? with
  | some i => (match x.str? with
    | some z => if z.length ≤ sizeLine then (match atI z.cps.toList i with | some c => .ok (.val (.str ⟨#[c]⟩)) | none => .no) else .no
    | none => match seqD x with
      | some l => (match atI l i with | some d => .ok (.val d) | none => .no)
      | none => .no)
  | none => .no
def cutD (l : List D) (lo hi : Option Int) : List D := (l.drop (HT.sIx l.length 0 lo)).take (HT.sIx l.length l.length hi - HT.sIx l.length 0 lo)
def sliceD (r : Rv) (lo hi : Option Int) : R Rv := (R.of r.list?).th fun l => .ok (.tmp (cutD l lo hi))
def truthD (r : Rv) : Option Bool := match r with
  | .val .non => some false
  | .val (.bl b) => some b
  | .val (.int i) => some (i != 0)
  | .val (.str s) => if s.length ≤ sizeLine then some ((s.length : Int) != 0) else none
  | r => (seqD r).map fun l => !l.isEmpty
def isiD (d : D) (t : Str) : Option Bool := match d with
  | .ins .. => none
  | _ => if t = "int" then some (match d with | .int _ => true | .bl _ => true | _ => false)
    else if t = "bool" then some (match d with | .bl _ => true | _ => false)
    else if t = "str" then some (match d with | .str _ => true | _ => false)
    else if t = "list" then some (match d with | .lst _ => true | _ => false)
    else if t = "tuple" then some (match d with | .tup _ => true | _ => false)
    else none
def isiR : Rv → Str → Option Bool
  | .scr _, _ => none
  | r, t => isiD r.data t
def lenD (r : Rv) : R Rv := match r.str? with
  | some s => if s.length ≤ sizeLine then .ok (.val (.int s.length)) else .no
  | none => match seqD r with
    | some l => .ok (.val (.int l.length))
    | none => .no
def listD (r : Rv) : R Rv := match seqD r with
  | some l => .ok (.tmp l)
  | none => .no
def intD (r : Rv) : R Rv := match r.int? with
  | some i => .ok (.val (.int i))
  | none => match r.bl? with
    | some b => .ok (.val (.int (if b then 1 else 0)))
    | none => .no
def maxD (x y : Rv) : R Rv := int2 x y fun i j => .ok (.val (.int (if j > i then j else i)))
def minD (x y : Rv) : R Rv := int2 x y fun i j => .ok (.val (.int (if j < i then j else i)))
def call1 (f : Str) (x : Rv) : R Rv :=
  if f = "len" then lenD x else if f = "list" then listD x else if f = "int" then intD x else .no
def call2 (f : Str) (x y : Rv) : R Rv :=
  if f = "max" then maxD x y else if f = "min" then minD x y else .no
def foldOk : Expr → Bool
  | .Set .. => false
  | _ => true
def starB : Expr → Bool
  | .Starred .. => true
  | _ => false
def tgNames : Expr → Option (List Str)
  | .Name x _ => some [x]
  | .Tuple es _ _ => es.foldr (fun e r => match e, r with | .Name x _, some l => some (x :: l) | _, _ => none) (some [])
  | _ => none
def setN (Γ : Ct) (x : Str) (d : D) (ρ : Env) : R Env := (R.of (ixOf Γ.N x)).th fun i => if locB Γ.sc x && nameOk x then .ok (ρ.set i (.val d)) else .no
def setNs (Γ : Ct) : List Str → List D → Env → R Env
  | [], [], ρ => .ok ρ
  | x :: xs, d :: ds, ρ => (setN Γ x d ρ).th fun ρ1 => setNs Γ xs ds ρ1
  | _, _, _ => .no
def asgD (Γ : Ct) (tg : Expr) (d : D) (ρ : Env) : R Env := match tg with
  | .Name x _ => setN Γ x d ρ
  | .Tuple es _ _ => (R.of (tgNames tg)).th fun xs => match d with
    | .tup ds => if es.any starB then .no else setNs Γ xs ds ρ
    | _ => .no
  | _ => .no
def tupB : Expr → Bool
  | .Tuple .. => true
  | _ => false
def lend : Sl → Sl
  | .own l => .bor l
  | s => s
def frOf (N : List Str) (sc : Scope) : List Nat := (List.range N.length).filter fun i => sc.names.lookup (N.getD i "") == some .free
def blkEnv (own : List Str) (fr : List Nat) (ρ : Env) : Env := (own.map fun _ => Sl.no) ++ fr.map fun i => lend (ρ.getD i .no)
def enumD (l : List D) : List D := (List.range l.length).zipWith (fun (i : Nat) d => D.tup [.int i, d]) l
def zipD (l m : List D) : List D := List.zipWith (fun a b => D.tup [a, b]) l m
def rangeD (lo hi : Int) : List D := (List.range (hi - lo).toNat).map fun i : Nat => D.int (lo + i)
def smallI (i : Int) : Bool := decide (-(2 ^ 62) ≤ i) && decide (i < 2 ^ 62)
def compL (asg : D → Env → R Env) (test : Env → R (Bool × Env)) (elt : Env → R (D × Env)) : List D → Env → List D → R (List D)
  | [], _, acc => .ok acc
  | d :: ds, ρ, acc => (asg d ρ).th fun ρ1 => (test ρ1).th fun bt => if bt.1 then (elt bt.2).th fun x => if acc.length < sizeLine then compL asg test elt ds x.2 (acc ++ [x.1]) else .no else compL asg test elt ds bt.2 acc
mutual
def evR : Nat → Ct → Expr → Env → R (Rv × Env)
  | 0, _, _, _ => .no
  | m + 1, Γ, e, ρ => match e with
    | .Name x _ => (nameR Γ x ρ).th fun r => .ok (r, ρ)
    | .Constant c _ _ => (constD c).th fun r => .ok (r, ρ)
    | .BinOp a op b _ => (evR m Γ a ρ).th fun x => (evR m Γ b x.2).th fun y => (binD op x.1 y.1).th fun r => .ok (r, y.2)
    | .UnaryOp .USub a _ => (evR m Γ a ρ).th fun x => match x.1 with
      | .val (.int i) => .ok (.val (.int (-i)), x.2)
      | _ => .no
    | .UnaryOp .Not a _ => (evR m Γ a ρ).th fun x => match x.1 with
      | .val (.bl b) => .ok (.val (.bl (!b)), x.2)
      | _ => .no
    | .BoolOp _ [a] _ => evR m Γ a ρ
    | .BoolOp .And (a :: b :: l) p => (evR m Γ a ρ).th fun x => match x.1 with
      | .val (.bl true) => evR m Γ (.BoolOp .And (b :: l) p) x.2
      | .val (.bl false) => .ok (.val (.bl false), x.2)
      | _ => .no
    | .BoolOp .Or (a :: b :: l) p => (evR m Γ a ρ).th fun x => match x.1 with
      | .val (.bl false) => evR m Γ (.BoolOp .Or (b :: l) p) x.2
      | .val (.bl true) => .ok (.val (.bl true), x.2)
      | _ => .no
    | .Compare a [op] [b] _ => (evR m Γ a ρ).th fun x => (evR m Γ b x.2).th fun y => if behindInMarks op b then .no else (R.of (cmpD op x.1 y.1)).th fun r => .ok (.val (.bl r), y.2)
    | .IfExp c a b _ => (evT m Γ c ρ).th fun t => if t.1 then evR m Γ a t.2 else evR m Γ b t.2
    | .Subscript a (.Slice lo hi none _) _ => (evR m Γ a ρ).th fun x => (evO m Γ lo x.2).th fun l => (evO m Γ hi l.2).th fun h => (sliceD x.1 l.1 h.1).th fun r => .ok (r, h.2)
    | .Subscript a (.Slice _ _ (some _) _) _ => .no
    | .Subscript a i _ => (evR m Γ a ρ).th fun x => (evR m Γ i x.2).th fun y => (idxD x.1 y.1).th fun r => .ok (r, y.2)
    | .List es _ => (evEs m Γ es ρ).th fun x => if x.1.length ≤ sizeLine then .ok (.tmp x.1, x.2) else .no
    | .Tuple es _ _ => (evEs m Γ es ρ).th fun x => if x.1.length ≤ sizeLine then .ok (.val (.tup x.1), x.2) else .no
    | .Call (.Name f p) es [] _ => if nameOk f && glB Γ.sc f && (ixOf Γ.N f).isNone then (
        if f = "isinstance" then (match es with
          | [a, b] => (match b with
            | .Name t _ => if (nameOk t && glB Γ.sc t && (ixOf Γ.N t).isNone && !starB a) = true then (evR m Γ a ρ).th fun x => (R.of (isiR x.1 t)).th fun b => .ok (.val (.bl b), x.2) else .no
            | _ => .no)
          | _ => .no)
        else if Γ.tab.contains f then (evAs m Γ es ρ).th fun x => (Γ.cl f x.1).th fun r => .ok (r, x.2)
        else match es with
          | [a] => if starB a then .no else (evR m Γ a ρ).th fun x => (call1 f x.1).th fun r => .ok (r, x.2)
          | [a, b] => if starB a || starB b then .no else (evR m Γ a ρ).th fun x => (evR m Γ b x.2).th fun y => (call2 f x.1 y.1).th fun r => .ok (r, y.2)
          | _ => .no) else .no
    | .ListComp elt [g] sc _ => if g.is_async = 0 then (evI m Γ (tupB g.target) g.iter ρ).th fun x => (R.of (tgNames g.target)).th fun own =>
        let fr := frOf Γ.N sc
        let Δ : Ct := { Γ with N := own ++ fr.map fun i => Γ.N.getD i "", sc := sc }
        if (blkCheck Γ.sc Γ.N fr sc && decide Δ.N.Nodup && decide (x.1.length ≤ sizeLine) && foldOk g.iter) = true then
          (compL (asgD Δ g.target) (fun ρ1 => evIf m Δ g.ifs ρ1) (fun ρ1 => evE m Δ elt ρ1) x.1 (blkEnv own fr x.2) []).th fun l => .ok (.tmp l, x.2)
        else .no else .no
    | _ => .no
/-- its thing goes on elsewhere -/
def evE : Nat → Ct → Expr → Env → R (D × Env)
  | 0, _, _, _ => .no
  | m + 1, Γ, e, ρ => match e with
    | .Name x _ => nameE Γ x ρ
    | e => (evR m Γ e ρ).th fun x => match x.1 with
      | .val d => .ok (d, x.2)
      | .tmp l => .ok (.lst l, x.2)
      | _ => .no
def evT : Nat → Ct → Expr → Env → R (Bool × Env)
  | 0, _, _, _ => .no
  | m + 1, Γ, e, ρ => match e with
    | .UnaryOp .Not a _ => (evT m Γ a ρ).th fun t => .ok (!t.1, t.2)
    | .BoolOp _ [a] _ => evT m Γ a ρ
    | .BoolOp .And (a :: b :: l) p => (evT m Γ a ρ).th fun t => if t.1 then evT m Γ (.BoolOp .And (b :: l) p) t.2 else .ok (false, t.2)
    | .BoolOp .Or (a :: b :: l) p => (evT m Γ a ρ).th fun t => if t.1 then .ok (true, t.2) else evT m Γ (.BoolOp .Or (b :: l) p) t.2
    | .BoolOp _ [] _ => .no
    | .IfExp .. => .no
    | .Compare a [op] [b] _ => (evR m Γ a ρ).th fun x => (evR m Γ b x.2).th fun y => if behindInMarks op b then .no else (R.of (cmpD op x.1 y.1)).th fun r => .ok (r, y.2)
    | .Compare .. => .no
    | e => (evR m Γ e ρ).th fun x => (R.of (truthD x.1)).th fun b => .ok (b, x.2)
def evEs : Nat → Ct → List Expr → Env → R (List D × Env)
  | 0, _, _, _ => .no
  | m + 1, Γ, es, ρ => match es with
    | [] => .ok ([], ρ)
    | e :: l => if starB e then .no else (evE m Γ e ρ).th fun x => (evEs m Γ l x.2).th fun y => .ok (x.1 :: y.1, y.2)
def evAs : Nat → Ct → List Expr → Env → R (List Ar × Env)
  | 0, _, _, _ => .no
  | m + 1, Γ, es, ρ => match es with
    | [] => .ok ([], ρ)
    | e :: l => if starB e then .no else (evR m Γ e ρ).th fun x => (evAs m Γ l x.2).th fun y => .ok ((match x.1 with | .val d => Ar.val d | .tmp l => .val (.lst l) | .cell l => .bor l | .scr l => .scr l) :: y.1, y.2)
def evO : Nat → Ct → Option Expr → Env → R (Option Int × Env)
  | 0, _, _, _ => .no
  | m + 1, Γ, o, ρ => match o with
    | none => .ok (none, ρ)
    | some e => (evR m Γ e ρ).th fun x => match x.1 with
      | .val (.int i) => .ok (some i, x.2)
      | _ => .no
def evIf : Nat → Ct → List Expr → Env → R (Bool × Env)
  | 0, _, _, _ => .no
  | m + 1, Γ, es, ρ => match es with
    | [] => .ok (true, ρ)
    | [c] => evT m Γ c ρ
    | _ => .no
/-- a list or a tuple that a loop walks; true: a tuple -/
def evL : Nat → Ct → Expr → Env → R ((Sk × List D) × Env)
  | 0, _, _, _ => .no
  | m + 1, Γ, e, ρ => match e with
    | .Name x _ => nameL Γ x ρ
    | e => (evR m Γ e ρ).th fun x => match x.1 with
      | .val (.lst l) => .ok ((.lst, l), x.2)
      | .val (.tup l) => .ok ((.tup, l), x.2)
      | .val (.str z) => .ok ((.str, sigD z), x.2)
      | .tmp l => .ok ((.lst, l), x.2)
      | _ => .no
/-- what a loop walks -/
def evI : Nat → Ct → Bool → Expr → Env → R (List D × Env)
  | 0, _, _, _, _ => .no
  | m + 1, Γ, tb, e, ρ => match e with
    | .Call (.Name f p) es [] q => if f = "range" || f = "enumerate" || f = "zip" then (if nameOk f && glB Γ.sc f && (ixOf Γ.N f).isNone then (match es with
        | [a] => if starB a then .no else
            if f = "range" then (evR m Γ a ρ).th fun x => (match x.1.int? with
              | some n => if smallI n = true then .ok (rangeD 0 n, x.2) else .no
              | none => .no)
            else if f = "enumerate" then (if tb then (evL m Γ a ρ).th fun x => match x.1.1 with | .lst => .ok (enumD x.1.2, x.2) | _ => .no else .no)
            else .no
        | [a, b] => if starB a || starB b then .no else
            if f = "range" then (evR m Γ a ρ).th fun x => (evR m Γ b x.2).th fun y => (match x.1.int?, y.1.int? with
              | some i, some j => if smallI i = true ∧ smallI j = true then .ok (rangeD i j, y.2) else .no
              | _, _ => .no)
            else if f = "zip" then (if tb then (evL m Γ a ρ).th fun x => (evL m Γ b x.2).th fun y => match x.1.1, y.1.1 with | .lst, .lst => .ok (zipD x.1.2 y.1.2, y.2) | _, _ => .no else .no)
            else .no
        | _ => .no) else .no)
      else (evL m Γ (.Call (.Name f p) es [] q) ρ).th fun x => .ok (x.1.2, x.2)
    | e => (evL m Γ e ρ).th fun x => .ok (x.1.2, x.2)
end
end DE
set_option maxHeartbeats 4000000
namespace DE
open PySem L2
def Wk {α : Type} (x : R α) (f : α → Prop) : Prop := match x with
  | .ok a => f a
  | .exc _ _ => False
  | .no => False
theorem Wk.th {α β : Type} {x : R α} {g : α → R β} {f : β → Prop} (h : Wk (x.th g) f) : Wk x fun a => Wk (g a) f := by
  cases x <;> exact h
theorem Wk.mono {α : Type} {x : R α} {f g : α → Prop} (h : Wk x f) (i : ∀ a, f a → g a) : Wk x g := by
  cases x with
  | ok a => exact i a h
  | exc c l => exact h
  | no => exact h
theorem Wk.of {α : Type} {x : Option α} {f : α → Prop} (h : Wk (R.of x) f) : ∃ a, x = some a ∧ f a := by
  cases x with
  | none => exact h.elim
  | some a => exact ⟨a, rfl, h⟩
theorem Wk.iff {α : Type} {c : Prop} [Decidable c] {x : R α} {f : α → Prop} (h : Wk (if c then x else .no) f) : c ∧ Wk x f := by
  by_cases hc : c
  · rw [if_pos hc] at h; exact ⟨hc, h⟩
  · rw [if_neg hc] at h; exact h.elim
theorem Wk.nif {α : Type} {c : Prop} [Decidable c] {x : R α} {f : α → Prop} (h : Wk (if c then .no else x) f) : ¬ c ∧ Wk x f := by
  by_cases hc : c
  · rw [if_pos hc] at h; exact h.elim
  · rw [if_neg hc] at h; exact ⟨hc, h⟩
section
variable (κ : KC) (K : PySem.W.Frag) (G₀ H₀ : Hp) (Γ : Ct) (m : Nat)
def tR (e : Expr) : TE := fun σ H Q => ∃ ρ G, ER κ K G₀ H₀ G H ρ σ ∧ Wk (evR m Γ e ρ) fun x => ∀ v G' H', Po κ K G₀ H₀ σ G H ρ G' H' x.2 → RvR κ K H₀ H G' H' x.2 σ x.1 v → Q v H'
def tE (e : Expr) : TE := fun σ H Q => ∃ ρ G, ER κ K G₀ H₀ G H ρ σ ∧ Wk (evE m Γ e ρ) fun x => ∀ v G' H', Po κ K G₀ H₀ σ G H ρ G' H' x.2 → Rep κ G' x.1 v → Q v H'
def tT (e : Expr) : TT := fun σ H Q => ∃ ρ G, ER κ K G₀ H₀ G H ρ σ ∧ Wk (evT m Γ e ρ) fun x => ∀ G' H', Po κ K G₀ H₀ σ G H ρ G' H' x.2 → Q x.1 H'
def tEs (es : List Expr) : TA := fun σ H Q => ∃ ρ G, ER κ K G₀ H₀ G H ρ σ ∧ Wk (evEs m Γ es ρ) fun x => ∀ vs G' H', Po κ K G₀ H₀ σ G H ρ G' H' x.2 → Reps κ G' x.1 vs → Q vs H'
def ArR (G H : Hp) : Ar → V → Prop
  | .val d, v => Rep κ G d v
  | .bor ds, v => ∃ a xs, v = .ref a ∧ H a = some (.lst xs) ∧ Reps κ G ds xs
  | .scr ds, v => ∃ a xs, v = .ref a ∧ SqL K H a xs ∧ Reps κ G ds xs
def ArRs (G H : Hp) : List Ar → List V → Prop
  | [], vs => vs = []
  | a :: l, vs => ∃ v r, vs = v :: r ∧ ArR κ K G H a v ∧ ArRs G H l r
def tAs (es : List Expr) : TA := fun σ H Q => ∃ ρ G, ER κ K G₀ H₀ G H ρ σ ∧ Wk (evAs m Γ es ρ) fun x => ∀ vs G' H', Po κ K G₀ H₀ σ G H ρ G' H' x.2 → ArRs κ K G' H' x.1 vs → Q vs H'
def tO (o : Option Expr) : TO := fun σ H Q => ∃ ρ G, ER κ K G₀ H₀ G H ρ σ ∧ Wk (evO m Γ o ρ) fun x => ∀ G' H', Po κ K G₀ H₀ σ G H ρ G' H' x.2 → Q x.1 H'
def tF (es : List Expr) : TT := fun σ H Q => ∃ ρ G, ER κ K G₀ H₀ G H ρ σ ∧ Wk (evIf m Γ es ρ) fun x => ∀ G' H', Po κ K G₀ H₀ σ G H ρ G' H' x.2 → Q x.1 H'
def SrR (G : Hp) (s : Sk × List D) (v : V) : Prop := match s.1 with
  | .str => ∃ x, v = .str x ∧ s.2 = sigD x
  | .tup => ∃ a xs, v = .ref a ∧ Reps κ G s.2 xs ∧ G a = some (.tup xs)
  | .lst => ∃ a xs, v = .ref a ∧ Reps κ G s.2 xs ∧ (G a = some (.lst xs) ∨ SqL K H₀ a xs)
def tL (e : Expr) : TE := fun σ H Q => ∃ ρ G, ER κ K G₀ H₀ G H ρ σ ∧ Wk (evL m Γ e ρ) fun x => ∀ v G' H', Po κ K G₀ H₀ σ G H ρ G' H' x.2 → SrR κ K H₀ G' x.1 v → Q v H'
def ItR (G₁ : Hp) (J : It) (l : List D) : Prop := ∀ (i : Nat) (G H : Hp), Same G₁ G → Same H₀ H → Same G H →
  (∀ d, l[i]? = some d → J.go i H ∧ ∀ x H', J.yld i H x H' → ∃ G', Same H H' ∧ Same G G' ∧ Same G' H' ∧ (∀ a o, G' a = some o → (∃ o', G a = some o') ∨ H a = none) ∧ Rep κ G' d x) ∧ (l.length = i → J.stop i H)
def tI (tb : Bool) (e : Expr) : TI := fun σ H Q => ∃ ρ G, ER κ K G₀ H₀ G H ρ σ ∧ Wk (evI m Γ tb e ρ) fun x => ∀ J G' H', Po κ K G₀ H₀ σ G H ρ G' H' x.2 → ItR κ H₀ G' J x.1 → Q J H'
def ReR (G' H' H : Hp) : Rv → V → Prop
  | .val d, v => Rep κ G' d v
  | .tmp ds, v => ∃ a xs, v = .ref a ∧ H' a = some (.lst xs) ∧ H a = none ∧ G' a = none ∧ Reps κ G' ds xs
  | _, _ => False
def spF (cl : Str → List Ar → R Rv) (f : Str) : Sp := fun vs H Q _ => ∃ G args, Same G H ∧ ArRs κ K G H args vs ∧
  Wk (cl f args) fun r => ∀ v G' H', Same H H' → Same G G' → Same G' H' → (∀ a o, G' a = some o → (∃ o', G a = some o') ∨ H a = none) → ReR κ G' H' H r v → Q v H'
end
def bNames : List Str := ["len", "list", "tuple", "int", "bool", "str", "max", "min", "isinstance", "range", "enumerate", "zip"]
structure Gd (κ : KC) (K : PySem.W.Frag) (k : Nat) (X : Cx) (Γ : Ct) : Prop where
  hN : X.N = Γ.N
  vis : ∀ x, visB Γ.sc x = true → Vis X.env.scope x
  loc : ∀ x, locB Γ.sc x = true → L2.Loc X.env.scope x ∧ (X.fn x = true ∨ X.env.scope.names.lookup x = some .local)
  glo : ∀ x, glB Γ.sc x = true → Gl X x
  cf : ∀ x, (Γ.sc.names.lookup x = some .cell ∨ Γ.sc.names.lookup x = some .free) → X.env.kindOf x = some .cell ∨ X.env.kindOf x = some .free
  nd : Γ.N.Nodup
  calm : X.calm = true
  hK : X.K = K
  room : Room k X.A
  fns : ∀ f, Γ.tab.contains f = true → ∃ fa fd ps, FnOk X.prog X.w X.K X.mg X.base CX0 k fa fd ps (spF κ K Γ.cl f) ∧ X.mg f = some (.ref fa) ∧ PySem.W.keepIn X.K (.ref fa) = true ∧ Binds X.K fd ps []
  blt : ∀ f ∈ bNames, X.mg f = none
  gl : ∀ x d, Γ.gl x = some d → ∃ v u, X.mg x = some u ∧ RelV v u ∧ ∀ G, Rep κ G d v
theorem PE.imp {X : Cx} {e : Expr} {t t' : TE} (h : PE X e t') (i : ∀ σ H Q, t σ H Q → t' σ H Q) : PE X e t := fun pins s σ H Q I hw => h pins s σ H Q I (i σ H Q hw)
theorem PT.imp {X : Cx} {e : Expr} {t t' : TT} (h : PT X e t') (i : ∀ σ H Q, t σ H Q → t' σ H Q) : PT X e t := fun pins s σ H Q I hw => h pins s σ H Q I (i σ H Q hw)
theorem PA.imp {X : Cx} {es : List Expr} {t t' : TA} (h : PA X es t') (i : ∀ σ H Q, t σ H Q → t' σ H Q) : PA X es t := fun pos pins s σ H Q I hw => h pos pins s σ H Q I (i σ H Q hw)
theorem PO.imp {X : Cx} {o : Option Expr} {t t' : TO} (h : PO X o t') (i : ∀ σ H Q, t σ H Q → t' σ H Q) : PO X o t := fun pins s σ H Q I hw => h pins s σ H Q I (i σ H Q hw)
theorem PIf.imp {X : Cx} {es : List Expr} {t t' : TT} (h : PIf X es t') (i : ∀ σ H Q, t σ H Q → t' σ H Q) : PIf X es t := fun pins s σ H Q I hw => h pins s σ H Q I (i σ H Q hw)
theorem PI.imp {X : Cx} {tg e : Expr} {t t' : TI} (h : PI X tg e t') (i : ∀ σ H Q, t σ H Q → t' σ H Q) : PI X tg e t := fun pins s σ H Q I hw => h pins s σ H Q I (i σ H Q hw)
theorem pe_none {X : Cx} {e : Expr} {t : TE} (h : ∀ σ H Q, ¬ t σ H Q) : PE X e t := fun pins s σ H Q I hw => absurd hw (h σ H Q)
theorem pt_none {X : Cx} {e : Expr} {t : TT} (h : ∀ σ H Q, ¬ t σ H Q) : PT X e t := fun pins s σ H Q I hw => absurd hw (h σ H Q)
theorem pa_none {X : Cx} {e : List Expr} {t : TA} (h : ∀ σ H Q, ¬ t σ H Q) : PA X e t := fun pos pins s σ H Q I hw => absurd hw (h σ H Q)
theorem po_no {X : Cx} {e : Option Expr} {t : TO} (h : ∀ σ H Q, ¬ t σ H Q) : PO X e t := fun pins s σ H Q I hw => absurd hw (h σ H Q)
theorem pif_none {X : Cx} {e : List Expr} {t : TT} (h : ∀ σ H Q, ¬ t σ H Q) : PIf X e t := fun pins s σ H Q I hw => absurd hw (h σ H Q)
theorem pi_none {X : Cx} {tg e : Expr} {t : TI} (h : ∀ σ H Q, ¬ t σ H Q) : PI X tg e t := fun pins s σ H Q I hw => absurd hw (h σ H Q)
theorem ixOf_at : ∀ {N : List Str} {x : Str} {i : Nat}, ixOf N x = some i → N[i]? = some x
  | [], x, i, h => by cases h
  | y :: r, x, i, h => by
    unfold ixOf at h
    by_cases e : y = x
    · rw [if_pos e] at h; cases h; rw [e]; rfl
    · rw [if_neg e] at h
      cases q : ixOf r x with
      | none => rw [q] at h; cases h
      | some j =>
        rw [q] at h
        cases h
        show (y :: r)[j + 1]? = some x
        rw [List.getElem?_cons_succ]
        exact ixOf_at q
theorem nameOk_is {x : Str} (h : nameOk x = true) : (x == ("__debug__" : Str)) = false ∧ (x == ("__classdict__" : Str)) = false ∧ x ≠ "__name__" := by
  unfold nameOk at h
  simp only [Bool.and_eq_true, Bool.not_eq_true'] at h
  refine ⟨h.1.1, h.1.2, fun z => ?_⟩
  rw [z] at h
  exact absurd h.2 (by decide)
theorem vis_is {sc : Scope} {x : Str} (h : visB sc x = true) : Vis sc x := by
  unfold visB at h
  unfold Vis
  split at h
  · rename_i e; exact .inl e
  · rename_i e; exact .inr (.inl e)
  · rename_i e; exact .inr (.inr e)
  · cases h
theorem loc_is {sc : Scope} {x : Str} (h : locB sc x = true) : L2.Loc sc x := by
  unfold locB at h
  unfold L2.Loc
  split at h
  · rename_i e; exact .inl e
  · rename_i e; exact .inr e
  · cases h
theorem star_one {e : Expr} {es : List Expr} {env : PySem.Env} (h : starB e = false) : starEach (e :: es) env = (false, eval e env) :: starEach es env := by
  cases e <;> first | rfl | (simp [starB] at h)
section
variable {κ : KC} {K : PySem.W.Frag} {G₀ H₀ : Hp} {k : Nat} {X : Cx} {Γ : Ct}
theorem ER.notOwn {G H : Hp} {ρ : Env} {σ : St} (er : ER κ K G₀ H₀ G H ρ σ) {a : Addr} (h : H a = none) : ¬ OwnAt ρ σ a := fun ⟨i, l, e, z⟩ => by
  obtain ⟨b, xs, z', h1, _⟩ := er.sl i _ e
  rw [z] at z'
  injection z' with z'
  injection z' with z'
  injection z' with z'
  rw [← z', h] at h1
  cases h1
theorem ER.newList {G H : Hp} {ρ : Env} {σ : St} (er : ER κ K G₀ H₀ G H ρ σ) {a : Addr} {xs : List V} {l : List D} (h : H a = none) (r : Reps κ G l xs) :
    Po κ K G₀ H₀ σ G H ρ G (upd H a (.lst xs)) ρ ∧ RvR κ K H₀ H G (upd H a (.lst xs)) ρ σ (.tmp l) (.ref a) :=
  ⟨Po.room er (Same.upd h), a, xs, rfl, upd_same, h, Same.none er.base h, Same.none er.sub h, er.notOwn h, r⟩
theorem nameR_ok (gd : Gd κ K k X Γ) (m : Nat) (x : Str) (pos : Pos) : PE X (.Name x pos) (tR κ K G₀ H₀ Γ (m + 1) (.Name x pos)) := by
  by_cases hok : nameOk x = true
  case neg =>
    refine pe_none fun σ H Q ⟨ρ, G, er, h⟩ => ?_
    have h := Wk.th (x := nameR Γ x ρ) h
    unfold nameR at h
    exact hok (Wk.iff h).1
  obtain ⟨n1, n2, n3⟩ := nameOk_is hok
  cases hi : ixOf Γ.N x with
  | some i =>
    by_cases hv : visB Γ.sc x = true
    case neg =>
      refine pe_none fun σ H Q ⟨ρ, G, er, h⟩ => ?_
      have h := Wk.th (x := nameR Γ x ρ) h
      unfold nameR at h
      rw [if_pos hok, hi] at h
      exact hv (Wk.iff h).1
    have hx := gd.vis x hv
    refine PE.imp (pe_var (i := i) (by rw [gd.hN]; exact ixOf_at hi) hx n1 n2) fun σ H Q ⟨ρ, G, er, h⟩ => ?_
    have h := Wk.th (x := nameR Γ x ρ) h
    unfold nameR at h
    rw [if_pos hok, hi] at h
    have h := (Wk.iff h).2
    cases q : ρ[i]? with
    | none => rw [q] at h; exact h.elim
    | some s =>
      rw [q] at h
      have w := er.sl i s q
      cases s with
      | no => exact h.elim
      | val d => obtain ⟨v, z, r⟩ := w; exact ⟨v, z, h v G H (Po.refl er) r⟩
      | own l => obtain ⟨a, xs, z, r1, r2, r3, r4⟩ := w; exact ⟨_, z, h _ G H (Po.refl er) ⟨a, xs, rfl, r1, r4⟩⟩
      | bor l => obtain ⟨a, xs, z, r1, r4⟩ := w; exact ⟨_, z, h _ G H (Po.refl er) ⟨a, xs, rfl, er.base _ _ r1, r4⟩⟩
      | scr l => obtain ⟨a, xs, z, r1, r4⟩ := w; exact ⟨_, z, h _ G H (Po.refl er) ⟨a, xs, rfl, er.base.seq r1, r4⟩⟩
  | none =>
    by_cases hg : glB Γ.sc x = true
    case neg =>
      refine pe_none fun σ H Q ⟨ρ, G, er, h⟩ => ?_
      have h := Wk.th (x := nameR Γ x ρ) h
      unfold nameR at h
      rw [if_pos hok, hi] at h
      exact hg (Wk.iff h).1
    cases hd : Γ.gl x with
    | none =>
      refine pe_none fun σ H Q ⟨ρ, G, er, h⟩ => ?_
      have h := Wk.th (x := nameR Γ x ρ) h
      unfold nameR at h
      rw [if_pos hok, hi] at h
      have h := (Wk.iff h).2
      rw [hd] at h
      exact h
    | some d =>
      obtain ⟨v, u, e1, e2, e3⟩ := gd.gl x d hd
      refine PE.imp (pe_glob (gd.glo x hg) e1 e2 n1) fun σ H Q ⟨ρ, G, er, h⟩ => ?_
      have h := Wk.th (x := nameR Γ x ρ) h
      unfold nameR at h
      rw [if_pos hok, hi] at h
      have h := (Wk.iff h).2
      rw [hd] at h
      exact h v G H (Po.refl er) (e3 G)
theorem nameE_ok (gd : Gd κ K k X Γ) (m : Nat) (x : Str) (pos : Pos) : PE X (.Name x pos) (tE κ K G₀ H₀ Γ (m + 1) (.Name x pos)) := by
  by_cases hok : nameOk x = true
  case neg =>
    refine pe_none fun σ H Q ⟨ρ, G, er, h⟩ => ?_
    have h : Wk (nameE Γ x ρ) _ := h
    unfold nameE at h
    exact hok (Wk.iff h).1
  obtain ⟨n1, n2, n3⟩ := nameOk_is hok
  cases hi : ixOf Γ.N x with
  | some i =>
    by_cases hv : visB Γ.sc x = true
    case neg =>
      refine pe_none fun σ H Q ⟨ρ, G, er, h⟩ => ?_
      have h : Wk (nameE Γ x ρ) _ := h
      unfold nameE at h
      rw [if_pos hok, hi] at h
      exact hv (Wk.iff h).1
    have hx := gd.vis x hv
    refine PE.imp (pe_var (i := i) (by rw [gd.hN]; exact ixOf_at hi) hx n1 n2) fun σ H Q ⟨ρ, G, er, h⟩ => ?_
    have h : Wk (nameE Γ x ρ) _ := h
    unfold nameE at h
    rw [if_pos hok, hi] at h
    have h := (Wk.iff h).2
    cases q : ρ[i]? with
    | none => rw [q] at h; exact h.elim
    | some s =>
      rw [q] at h
      have w := er.sl i s q
      cases s with
      | no => exact h.elim
      | val d => obtain ⟨v, z, r⟩ := w; exact ⟨v, z, h v G H (Po.refl er) r⟩
      | own l => obtain ⟨a, xs, z, p, r⟩ := er.froze q; exact ⟨_, z, h _ _ H p r⟩
      | bor l => exact h.elim
      | scr l => exact h.elim
  | none =>
    by_cases hg : glB Γ.sc x = true
    case neg =>
      refine pe_none fun σ H Q ⟨ρ, G, er, h⟩ => ?_
      have h : Wk (nameE Γ x ρ) _ := h
      unfold nameE at h
      rw [if_pos hok, hi] at h
      exact hg (Wk.iff h).1
    cases hd : Γ.gl x with
    | none =>
      refine pe_none fun σ H Q ⟨ρ, G, er, h⟩ => ?_
      have h : Wk (nameE Γ x ρ) _ := h
      unfold nameE at h
      rw [if_pos hok, hi] at h
      have h := (Wk.iff h).2
      rw [hd] at h
      exact h
    | some d =>
      obtain ⟨v, u, e1, e2, e3⟩ := gd.gl x d hd
      refine PE.imp (pe_glob (gd.glo x hg) e1 e2 n1) fun σ H Q ⟨ρ, G, er, h⟩ => ?_
      have h : Wk (nameE Γ x ρ) _ := h
      unfold nameE at h
      rw [if_pos hok, hi] at h
      have h := (Wk.iff h).2
      rw [hd] at h
      exact h v G H (Po.refl er) (e3 G)
end
end DE
set_option maxHeartbeats 4000000
namespace DE
open PySem L2
section
variable {κ : KC} {K : PySem.W.Frag} {G₀ H₀ Hb Hc G H : Hp} {ρ : Env} {σ : St} {r s : Rv} {x y : V}
theorem RvR.int {i : Int} (h : RvR κ K H₀ Hb G H ρ σ r x) (e : r.int? = some i) : x = .int i := by
  cases r with
  | val d => cases d <;> simp only [Rv.int?] at e <;> first | (cases e; simpa only [RvR, Rep] using h) | cases e
  | _ => cases e
theorem RvR.str {i : Str} (h : RvR κ K H₀ Hb G H ρ σ r x) (e : r.str? = some i) : x = .str i := by
  cases r with
  | val d => cases d <;> simp only [Rv.str?] at e <;> first | (cases e; simpa only [RvR, Rep] using h) | cases e
  | _ => cases e
theorem RvR.bl {i : Bool} (h : RvR κ K H₀ Hb G H ρ σ r x) (e : r.bl? = some i) : x = .bl i := by
  cases r with
  | val d => cases d <;> simp only [Rv.bl?] at e <;> first | (cases e; simpa only [RvR, Rep] using h) | cases e
  | _ => cases e
theorem RvR.tup {l : List D} (h : RvR κ K H₀ Hb G H ρ σ r x) (e : r.tup? = some l) : ∃ a xs, x = .ref a ∧ G a = some (.tup xs) ∧ Reps κ G l xs := by
  cases r with
  | val d => cases d <;> simp only [Rv.tup?] at e <;> first | (cases e; simpa only [RvR, Rep] using h) | cases e
  | _ => cases e
theorem RvR.seq (er : ER κ K G₀ H₀ G H ρ σ) {l : List D} (h : RvR κ K H₀ Hb G H ρ σ r x) (e : seqD r = some l) : ∃ a xs, x = .ref a ∧ (SqL K H a xs ∨ SqT K H a xs) ∧ Reps κ G l xs := by
  unfold seqD at e
  cases q : r.tup? with
  | some l' =>
    rw [q] at e
    cases e
    obtain ⟨a, xs, e1, e2, e3⟩ := h.tup q
    exact ⟨a, xs, e1, .inr (SqT.of (er.sub _ _ e2)), e3⟩
  | none =>
    rw [q] at e
    obtain ⟨a, xs, e1, e2, e3⟩ := h.list er e
    exact ⟨a, xs, e1, .inl e2, e3⟩
theorem RvR.non (h : RvR κ K H₀ Hb G H ρ σ r x) : decide (x = .non) = r.non? := by
  cases r with
  | val d =>
    cases d <;> simp only [RvR, Rep] at h <;> simp only [Rv.non?]
    · subst h; rfl
    · subst h; rfl
    · subst h; rfl
    · subst h; rfl
    · obtain ⟨a, xs, rfl, _⟩ := h; rfl
    · obtain ⟨a, xs, rfl, _⟩ := h; rfl
    · obtain ⟨p, dx, C, xs, _, rfl, _⟩ := h; rfl
  | tmp l => obtain ⟨a, xs, rfl, _⟩ := h; rfl
  | cell l => obtain ⟨a, xs, rfl, _⟩ := h; rfl
  | scr l => obtain ⟨a, xs, rfl, _⟩ := h; rfl
mutual
theorem Rep.dv (sub : Same G H) : ∀ {d : D} {v : V} {p : PyData}, Rep κ G d v → toP d = some p → DV K H p v
  | .non, v, p, h, e => by simp only [toP] at e; cases e; simp only [Rep] at h; simp only [DV]; exact h
  | .bl b, v, p, h, e => by simp only [toP] at e; cases e; simp only [Rep] at h; simp only [DV]; exact h
  | .int b, v, p, h, e => by simp only [toP] at e; cases e; simp only [Rep] at h; simp only [DV]; exact h
  | .str b, v, p, h, e => by simp only [toP] at e; cases e; simp only [Rep] at h; simp only [DV]; exact h
  | .lst l, v, p, h, e => by
    simp only [toP] at e
    obtain ⟨ps, e1, rfl⟩ := Option.map_eq_some_iff.mp e
    simp only [Rep] at h
    obtain ⟨a, xs, rfl, h1, h2⟩ := h
    simp only [DV]
    exact ⟨a, xs, rfl, SqL.of (sub _ _ h1), Reps.dvs sub h2 e1⟩
  | .tup l, v, p, h, e => by
    simp only [toP] at e
    obtain ⟨ps, e1, rfl⟩ := Option.map_eq_some_iff.mp e
    simp only [Rep] at h
    obtain ⟨a, xs, rfl, h1, h2⟩ := h
    simp only [DV]
    exact ⟨a, xs, rfl, SqT.of (sub _ _ h1), Reps.dvs sub h2 e1⟩
  | .ins c ns l, v, p, h, e => by simp only [toP] at e; cases e
theorem Reps.dvs (sub : Same G H) : ∀ {ds : List D} {vs : List V} {ps : List PyData}, Reps κ G ds vs → toPs ds = some ps → DVs K H ps vs
  | [], vs, ps, h, e => by simp only [toPs] at e; cases e; simp only [Reps] at h; simp only [DVs]; exact h
  | d :: ds, vs, ps, h, e => by
    simp only [toPs] at e
    obtain ⟨p, e1, e2⟩ := Option.bind_eq_some_iff.mp e
    obtain ⟨qs, e3, rfl⟩ := Option.map_eq_some_iff.mp e2
    simp only [Reps] at h
    obtain ⟨x, r, rfl, h1, h2⟩ := h
    simp only [DVs]
    exact ⟨x, r, rfl, Rep.dv sub h1 e1, Reps.dvs sub h2 e3⟩
end
theorem RvR.dv (er : ER κ K G₀ H₀ G H ρ σ) {p : PyData} (h : RvR κ K H₀ Hb G H ρ σ r x) (e : toP r.data = some p) : DV K H p x := by
  have lst : ∀ {l : List D} {a : Addr} {xs : List V}, SqL K H a xs → Reps κ G l xs → toP (.lst l) = some p → DV K H p (.ref a) := fun {l a xs} hq hr e => by
    simp only [toP] at e
    obtain ⟨ps, e1, rfl⟩ := Option.map_eq_some_iff.mp e
    simp only [DV]
    exact ⟨a, xs, rfl, hq, Reps.dvs er.sub hr e1⟩
  cases r with
  | val d => exact Rep.dv er.sub h e
  | tmp l => obtain ⟨a, xs, rfl, h1, _, _, _, _, h6⟩ := h; exact lst (SqL.of h1) h6 e
  | cell l => obtain ⟨a, xs, rfl, h1, h6⟩ := h; exact lst (SqL.of h1) h6 e
  | scr l => obtain ⟨a, xs, rfl, h1, h6⟩ := h; exact lst h1 h6 e
theorem flat_rep {d : D} {v : V} (h : Rep κ G d v) (f : flatD d = true) : v = flV d ∧ flatV v = true := by
  cases d <;> simp only [flatD] at f <;> try (exact absurd f (by decide))
  all_goals (simp only [Rep] at h; subst h; exact ⟨rfl, rfl⟩)
theorem flat_reps : ∀ {l : List D} {vs : List V}, Reps κ G l vs → l.all flatD = true → vs = l.map flV ∧ vs.all flatV = true
  | [], vs, h, f => by simp only [Reps] at h; subst h; exact ⟨rfl, rfl⟩
  | d :: l, vs, h, f => by
    simp only [Reps] at h
    obtain ⟨x, r, rfl, h1, h2⟩ := h
    simp only [List.all_cons, Bool.and_eq_true] at f
    obtain ⟨e1, e2⟩ := flat_rep h1 f.1
    obtain ⟨e3, e4⟩ := flat_reps h2 f.2
    subst e1 e3
    exact ⟨rfl, by simp only [List.all_cons, e2, e4, Bool.and_self]⟩
theorem flat_rv (h : RvR κ K H₀ Hb G H ρ σ r x) (f : flatD r.data = true) : x = flV r.data ∧ flatV x = true := by
  cases r with
  | val d => exact flat_rep h f
  | _ => simp only [Rv.data, flatD] at f; exact absurd f (by decide)
theorem int2_is {f : Int → Int → R Rv} {F : Rv → Prop} (h : Wk (int2 r s f) F) : ∃ i j, r.int? = some i ∧ s.int? = some j ∧ Wk (f i j) F := by
  unfold int2 at h
  cases e1 : r.int? with
  | none => rw [e1] at h; exact h.elim
  | some i =>
    cases e2 : s.int? with
    | none => rw [e1, e2] at h; exact h.elim
    | some j => rw [e1, e2] at h; exact ⟨i, j, rfl, rfl, h⟩
theorem atI_reps {l : List D} {xs : List V} {i : Int} {d : D} (h : Reps κ G l xs) (e : atI l i = some d) : ∃ v, atI xs i = some v ∧ Rep κ G d v := by
  unfold atI at e ⊢
  rw [← h.len]
  obtain ⟨j, e1, e2⟩ := Option.bind_eq_some_iff.mp e
  obtain ⟨v, e3, e4⟩ := h.atD e2
  exact ⟨v, by rw [e1]; exact e3, e4⟩
theorem cut_reps {l : List D} {xs : List V} {lo hi : Option Int} (h : Reps κ G l xs) : Reps κ G (cutD l lo hi) (cutV xs lo hi) := by
  unfold cutD cutV
  rw [h.len]
  exact (h.drop _).take _
end
section
variable (κ : KC) (K : PySem.W.Frag) (G₀ H₀ : Hp)
def rBin (op : Operator) : R2 := fun x y H Q => ∃ (ρ : Env) (σ : St) (G Hb Hc : Hp) (r s : Rv), ER κ K G₀ H₀ G H ρ σ ∧ RvR κ K H₀ Hb G H ρ σ r x ∧ RvR κ K H₀ Hc G H ρ σ s y ∧
  Wk (binD op r s) fun z => ∀ v G' H', Po κ K G₀ H₀ σ G H ρ G' H' ρ → RvR κ K H₀ H G' H' ρ σ z v → Q v H'
def rCmp (op : CmpOp) : R2 := fun x y H Q => ∃ (ρ : Env) (σ : St) (G Hb Hc : Hp) (r s : Rv) (b : Bool), ER κ K G₀ H₀ G H ρ σ ∧ RvR κ K H₀ Hb G H ρ σ r x ∧ RvR κ K H₀ Hc G H ρ σ s y ∧ cmpD op r s = some b ∧ Q (.bl b) H
def rIdx : R2 := fun x y H Q => ∃ (ρ : Env) (σ : St) (G Hb Hc : Hp) (r s : Rv), ER κ K G₀ H₀ G H ρ σ ∧ RvR κ K H₀ Hb G H ρ σ r x ∧ RvR κ K H₀ Hc G H ρ σ s y ∧
  Wk (idxD r s) fun z => ∀ v G' H', Po κ K G₀ H₀ σ G H ρ G' H' ρ → RvR κ K H₀ H G' H' ρ σ z v → Q v H'
def rSli : V → Option Int → Option Int → Hp → VK → Prop := fun x lo hi H Q => ∃ (ρ : Env) (σ : St) (G Hb : Hp) (r : Rv), ER κ K G₀ H₀ G H ρ σ ∧ RvR κ K H₀ Hb G H ρ σ r x ∧
  Wk (sliceD r lo hi) fun z => ∀ v G' H', Po κ K G₀ H₀ σ G H ρ G' H' ρ → RvR κ K H₀ H G' H' ρ σ z v → Q v H'
def rC1 (f : Rv → R Rv) : List V → Hp → VK → Prop := fun xs H Q => ∃ (ρ : Env) (σ : St) (G Hb : Hp) (r : Rv) (x : V), xs = [x] ∧ ER κ K G₀ H₀ G H ρ σ ∧ RvR κ K H₀ Hb G H ρ σ r x ∧
  Wk (f r) fun z => ∀ v G' H', Po κ K G₀ H₀ σ G H ρ G' H' ρ → RvR κ K H₀ H G' H' ρ σ z v → Q v H'
def rC2 (f : Rv → Rv → R Rv) : List V → Hp → VK → Prop := fun xs H Q => ∃ (ρ : Env) (σ : St) (G Hb Hc : Hp) (r s : Rv) (x y : V), xs = [x, y] ∧ ER κ K G₀ H₀ G H ρ σ ∧ RvR κ K H₀ Hb G H ρ σ r x ∧ RvR κ K H₀ Hc G H ρ σ s y ∧
  Wk (f r s) fun z => ∀ v G' H', Po κ K G₀ H₀ σ G H ρ G' H' ρ → RvR κ K H₀ H G' H' ρ σ z v → Q v H'
end
section
variable {κ : KC} {K : PySem.W.Frag} {G₀ H₀ : Hp} {k : Nat} {X : Cx} {Γ : Ct}
theorem bin_int (op : Operator) {f : Int → Int → R Rv} {C : Int → Int → Prop} {g : Int → Int → Int} (hop : OpR X (binaryOp op) (rI C fun i j => .int (g i j))) (hf : ∀ r s, binD op r s = int2 r s f) (hw : ∀ i j F, Wk (f i j) F → C i j ∧ F (.val (.int (g i j)))) :
    OpR X (binaryOp op) (rBin κ K G₀ H₀ op) := by
  intro pins st σ' H x y v u Q I rx ry ⟨ρ, σ, G, Hb, Hc, r, s, er, h1, h2, h⟩
  rw [hf] at h
  obtain ⟨i, j, e1, e2, h⟩ := int2_is h
  obtain ⟨hc, h⟩ := hw i j _ h
  exact hop pins st σ' H x y v u Q I rx ry ⟨i, j, h1.int e1, h2.int e2, hc, h _ G H (Po.refl er) (by simp only [RvR, Rep])⟩
theorem opI0' {f : Value → Value → Sem Value} {g : Int → Int → V} (h : OpR X f (rI0 g)) : OpR X f (rI (fun _ _ => True) g) := fun pins st σ' H x y v u Q I rx ry ⟨i, j, e1, e2, _, q⟩ => h pins st σ' H x y v u Q I rx ry ⟨i, j, e1, e2, q⟩
theorem add_ok : OpR X (binaryOp .Add) (rBin κ K G₀ H₀ .Add) := by
  intro pins st σ' H x y v u Q I rx ry ⟨ρ, σ, G, Hb, Hc, r, s, er, h1, h2, h⟩
  have h : Wk (addD r s) _ := h
  unfold addD at h
  have cat : Wk (match r.plain?, s.plain? with
      | some l, some m => if l.length + m.length ≤ sizeLine then R.ok (Rv.tmp (l ++ m)) else .no
      | _, _ => .no) (fun z => ∀ v G' H', Po κ K G₀ H₀ σ G H ρ G' H' ρ → RvR κ K H₀ H G' H' ρ σ z v → Q v H') → wpAny (model X.prog X.w) X.A (binaryOp .Add v u) (EP X pins σ' Q) X.xe st := fun h => by
    cases e1 : r.plain? with
    | none => rw [e1] at h; exact h.elim
    | some l =>
      cases e2 : s.plain? with
      | none => rw [e1, e2] at h; exact h.elim
      | some m =>
        rw [e1, e2] at h
        obtain ⟨hz, h⟩ := Wk.iff h
        obtain ⟨a, xs, q1, q2, q3⟩ := h1.plain er e1
        obtain ⟨b, ys, p1, p2, p3⟩ := h2.plain er e2
        refine op_cat pins st σ' H x y v u Q I rx ry ⟨a, b, xs, ys, q1, p1, q2, p2, by rw [← q3.len, ← p3.len]; exact hz, fun p hp => ?_⟩
        obtain ⟨z1, z2⟩ := er.newList hp (q3.app p3)
        exact h _ _ _ z1 z2
  have txt : Wk (match r.str?, s.str? with
      | some a, some b => if a.length + b.length ≤ sizeLine then R.ok (Rv.val (.str (a ++ b))) else .no
      | _, _ => match r.plain?, s.plain? with
        | some l, some m => if l.length + m.length ≤ sizeLine then R.ok (Rv.tmp (l ++ m)) else .no
        | _, _ => .no) (fun z => ∀ v G' H', Po κ K G₀ H₀ σ G H ρ G' H' ρ → RvR κ K H₀ H G' H' ρ σ z v → Q v H') → wpAny (model X.prog X.w) X.A (binaryOp .Add v u) (EP X pins σ' Q) X.xe st := fun h => by
    cases e1 : r.str? with
    | none => rw [e1] at h; exact cat h
    | some l =>
      cases e2 : s.str? with
      | none => rw [e1, e2] at h; exact cat h
      | some m =>
        rw [e1, e2] at h
        obtain ⟨hz, h⟩ := Wk.iff h
        exact op_add_str pins st σ' H x y v u Q I rx ry ⟨l, m, h1.str e1, h2.str e2, hz, h _ G H (Po.refl er) (by simp only [RvR, Rep])⟩
  cases e1 : r.int? with
  | none => rw [e1] at h; exact txt h
  | some i =>
    cases e2 : s.int? with
    | none => rw [e1, e2] at h; exact txt h
    | some j =>
      rw [e1, e2] at h
      exact op_add pins st σ' H x y v u Q I rx ry ⟨i, j, h1.int e1, h2.int e2, h _ G H (Po.refl er) (by simp only [RvR, Rep])⟩
theorem mulB_is {i j : Int} (h : mulB i j = true) : CMul i j := by
  unfold mulB at h
  simp only [Bool.or_eq_true, Bool.and_eq_true, decide_eq_true_eq] at h
  exact h
theorem bin_ok (op : Operator) : OpR X (binaryOp op) (rBin κ K G₀ H₀ op) := by
  cases op with
  | Add => exact add_ok
  | Sub => exact bin_int .Sub (opI0' op_sub) (fun _ _ => rfl) fun i j F h => ⟨trivial, h⟩
  | Mult => exact bin_int .Mult op_mul (fun _ _ => rfl) fun i j F h => ⟨mulB_is (Wk.iff h).1, (Wk.iff h).2⟩
  | FloorDiv => exact bin_int .FloorDiv op_fdiv (fun _ _ => rfl) fun i j F h => ⟨(Wk.iff h).1, (Wk.iff h).2⟩
  | Mod => exact bin_int .Mod op_mod (fun _ _ => rfl) fun i j F h => ⟨(Wk.iff h).1, (Wk.iff h).2⟩
  | Pow => exact bin_int .Pow op_pow (fun _ _ => rfl) fun i j F h => ⟨(Wk.iff h).1, (Wk.iff h).2⟩
  | _ => intro pins st σ' H x y v u Q I rx ry ⟨ρ, σ, G, Hb, Hc, r, s, er, h1, h2, h⟩; exact h.elim
theorem cmp_int (op : CmpOp) {g : Int → Int → Bool} (hop : OpR X (compareOp op) (rI0 fun i j => .bl (g i j))) (hf : ∀ r s, cmpD op r s = cmpI r s g) : OpR X (compareOp op) (rCmp κ K G₀ H₀ op) := by
  intro pins st σ' H x y v u Q I rx ry ⟨ρ, σ, G, Hb, Hc, r, s, b, er, h1, h2, h, q⟩
  rw [hf] at h
  unfold cmpI at h
  cases e1 : r.int? with
  | none => rw [e1] at h; cases h
  | some i =>
    cases e2 : s.int? with
    | none => rw [e1, e2] at h; cases h
    | some j =>
      rw [e1, e2] at h
      cases h
      exact hop pins st σ' H x y v u Q I rx ry ⟨i, j, h1.int e1, h2.int e2, q⟩
theorem eqD_is {x y : D} {b : Bool} (h : eqD x y = some b) : ∃ p q, toP x = some p ∧ toP y = some q ∧ SeqAt.shaped p = true ∧ SeqAt.shaped q = true ∧ b = PyData.eqv p q := by
  unfold eqD at h
  cases e1 : toP x with
  | none => rw [e1] at h; cases h
  | some p =>
    cases e2 : toP y with
    | none => rw [e1, e2] at h; cases h
    | some q =>
      rw [e1, e2] at h
      dsimp only at h
      by_cases hs : (SeqAt.shaped p && SeqAt.shaped q) = true
      · rw [if_pos hs] at h
        cases h
        rw [Bool.and_eq_true] at hs
        exact ⟨p, q, rfl, rfl, hs.1, hs.2, rfl⟩
      · rw [if_neg hs] at h; cases h
theorem mem_ok (gd : Gd κ K k X Γ) (neg : Bool) (op : CmpOp) (hs : OpR X (compareOp op) (fun x y H Q => ∃ i j, x = .str i ∧ y = .str j ∧ Q (.bl (if neg then !occB i j else occB i j)) H)) (hl : OpR X (compareOp op) (rIn X.K neg))
    (hf : ∀ r s, cmpD op r s = (memD r s).map fun b => if neg then !b else b) : OpR X (compareOp op) (rCmp κ K G₀ H₀ op) := by
  intro pins st σ' H x y v u Q I rx ry ⟨ρ, σ, G, Hb, Hc, r, s, b, er, h1, h2, h, q⟩
  rw [hf] at h
  obtain ⟨b', hb', rfl⟩ := Option.map_eq_some_iff.mp h
  replace h := hb'
  unfold memD at h
  have sq : (seqD s).bind (inD r.data) = some b' → wpAny (model X.prog X.w) X.A (compareOp op v u) (EP X pins σ' Q) X.xe st := fun h => by
    obtain ⟨l, e1, e2⟩ := Option.bind_eq_some_iff.mp h
    unfold inD at e2
    by_cases hc : (flatD r.data && l.all flatD) = true
    · rw [if_pos hc] at e2
      cases e2
      rw [Bool.and_eq_true] at hc
      obtain ⟨a, xs, p1, p2, p3⟩ := h2.seq er e1
      obtain ⟨f1, f2⟩ := flat_rv h1 hc.1
      obtain ⟨f3, f4⟩ := flat_reps p3 hc.2
      refine hl pins st σ' H x y v u Q I rx ry ⟨a, xs, p1, by rw [gd.hK]; exact p2, f2, f4, ?_⟩
      rw [f1, f3]
      exact q
    · rw [if_neg hc] at e2; cases e2
  cases e1 : r.str? with
  | none => rw [e1] at h; exact sq h
  | some i =>
    cases e2 : s.str? with
    | none => rw [e1, e2] at h; exact sq h
    | some j =>
      rw [e1, e2] at h
      cases h
      exact hs pins st σ' H x y v u Q I rx ry ⟨i, j, h1.str e1, h2.str e2, q⟩
theorem cmp_ok (gd : Gd κ K k X Γ) (op : CmpOp) : OpR X (compareOp op) (rCmp κ K G₀ H₀ op) := by
  have hu : X.A.units + 64 < cLine := by have := gd.room.un; omega
  cases op with
  | Eq =>
    intro pins st σ' H x y v u Q I rx ry ⟨ρ, σ, G, Hb, Hc, r, s, b, er, h1, h2, h, q⟩
    obtain ⟨p, p', e1, e2, e3, e4, rfl⟩ := eqD_is h
    exact op_eqD hu pins st σ' H x y v u Q I rx ry ⟨p, p', by rw [gd.hK]; exact h1.dv er e1, by rw [gd.hK]; exact h2.dv er e2, e3, e4, q⟩
  | NotEq =>
    intro pins st σ' H x y v u Q I rx ry ⟨ρ, σ, G, Hb, Hc, r, s, b, er, h1, h2, h, q⟩
    obtain ⟨b', h', rfl⟩ := Option.map_eq_some_iff.mp h
    obtain ⟨p, p', e1, e2, e3, e4, rfl⟩ := eqD_is h'
    exact op_neD hu pins st σ' H x y v u Q I rx ry ⟨p, p', by rw [gd.hK]; exact h1.dv er e1, by rw [gd.hK]; exact h2.dv er e2, e3, e4, q⟩
  | Lt => exact cmp_int .Lt op_lt fun _ _ => rfl
  | LtE => exact cmp_int .LtE op_le fun _ _ => rfl
  | Gt => exact cmp_int .Gt op_gt fun _ _ => rfl
  | GtE => exact cmp_int .GtE op_ge fun _ _ => rfl
  | Is =>
    intro pins st σ' H x y v u Q I rx ry ⟨ρ, σ, G, Hb, Hc, r, s, b, er, h1, h2, h, q⟩
    have h : (if s.non? = true then some r.non? else none) = some b := h
    by_cases hn : s.non? = true
    · rw [if_pos hn] at h
      cases h
      refine op_isN pins st σ' H x y v u Q I rx ry ⟨of_decide_eq_true (h2.non.trans hn), ?_⟩
      rw [h1.non]
      exact q
    · rw [if_neg hn] at h; cases h
  | IsNot =>
    intro pins st σ' H x y v u Q I rx ry ⟨ρ, σ, G, Hb, Hc, r, s, b, er, h1, h2, h, q⟩
    have h : (if s.non? = true then some (!r.non?) else none) = some b := h
    by_cases hn : s.non? = true
    · rw [if_pos hn] at h
      cases h
      refine op_notN pins st σ' H x y v u Q I rx ry ⟨of_decide_eq_true (h2.non.trans hn), ?_⟩
      rw [h1.non]
      exact q
    · rw [if_neg hn] at h; cases h
  | In => exact mem_ok gd false .In op_in_str op_in_seq fun r s => by show memD r s = _; cases memD r s <;> rfl
  | NotIn => exact mem_ok gd true .NotIn op_notin_str op_notIn_seq fun r s => rfl
theorem idx_ok (gd : Gd κ K k X Γ) : IxR X (rIdx κ K G₀ H₀) := by
  intro value slice pins st σ' H x y v u Q I rx ry ⟨ρ, σ, G, Hb, Hc, r, s, er, h1, h2, h⟩ hs
  unfold idxD at h
  cases e1 : s.int? with
  | none => rw [e1] at h; exact h.elim
  | some i =>
    rw [e1] at h
    dsimp only at h
    cases e2 : r.str? with
    | some z =>
      rw [e2] at h
      dsimp only at h
      obtain ⟨hz, h⟩ := Wk.iff h
      cases e3 : atI z.cps.toList i with
      | none => rw [e3] at h; exact h.elim
      | some c =>
        rw [e3] at h
        exact ix_str value slice pins st σ' H x y v u Q I rx ry ⟨z, i, c, h1.str e2, h2.int e1, hz, e3, h _ G H (Po.refl er) (by simp only [RvR, Rep])⟩ hs
    | none =>
      rw [e2] at h
      dsimp only at h
      cases e3 : seqD r with
      | none => rw [e3] at h; exact h.elim
      | some l =>
        rw [e3] at h
        dsimp only at h
        cases e4 : atI l i with
        | none => rw [e4] at h; exact h.elim
        | some d =>
          rw [e4] at h
          obtain ⟨a, xs, p1, p2, p3⟩ := h1.seq er e3
          obtain ⟨w, p4, p5⟩ := atI_reps p3 e4
          rcases p2 with p2 | p2
          · exact ix_list value slice pins st σ' H x y v u Q I rx ry ⟨a, xs, i, w, p1, h2.int e1, by rw [gd.hK]; exact p2, p4, h w G H (Po.refl er) p5⟩ hs
          · exact ix_tup value slice pins st σ' H x y v u Q I rx ry ⟨a, xs, i, w, p1, h2.int e1, by rw [gd.hK]; exact p2, p4, h w G H (Po.refl er) p5⟩ hs
theorem sli_ok (gd : Gd κ K k X Γ) : L2.SlR X (rSli κ K G₀ H₀) := by
  intro pins st σ' H x v vl vu lo hi sl Q I rx hs pl pu ⟨ρ, σ, G, Hb, r, er, h1, h⟩
  obtain ⟨l, e1, h⟩ := Wk.of (Wk.th h)
  obtain ⟨a, xs, p1, p2, p3⟩ := h1.list er e1
  refine sl_list pins st σ' H x v vl vu lo hi sl Q I rx hs pl pu ⟨a, xs, p1, by rw [gd.hK]; exact p2, fun p hp => ?_⟩
  obtain ⟨z1, z2⟩ := er.newList hp (cut_reps (lo := lo) (hi := hi) p3)
  exact h _ _ _ z1 z2
theorem len_ok (gd : Gd κ K k X Γ) : CallR X (.builtin "len") (rC1 κ K G₀ H₀ lenD) := by
  intro pins st σ' H xs us Q I rs ⟨ρ, σ, G, Hb, r, x, hx, er, h1, h⟩
  unfold lenD at h
  cases e2 : r.str? with
  | some z =>
    rw [e2] at h
    dsimp only at h
    obtain ⟨hz, h⟩ := Wk.iff h
    exact call_len_str pins st σ' H xs us Q I rs ⟨z, by rw [hx, h1.str e2], hz, h _ G H (Po.refl er) (by simp only [RvR, Rep])⟩
  | none =>
    rw [e2] at h
    dsimp only at h
    cases e3 : seqD r with
    | none => rw [e3] at h; exact h.elim
    | some l =>
      rw [e3] at h
      obtain ⟨a, ys, p1, p2, p3⟩ := h1.seq er e3
      refine call_len_seq pins st σ' H xs us Q I rs ⟨a, ys, by rw [hx, p1], by rw [gd.hK]; exact p2, ?_⟩
      rw [← p3.len]
      exact h _ G H (Po.refl er) (by simp only [RvR, Rep])
theorem list_ok (gd : Gd κ K k X Γ) : CallR X (.type "list") (rC1 κ K G₀ H₀ listD) := by
  intro pins st σ' H xs us Q I rs ⟨ρ, σ, G, Hb, r, x, hx, er, h1, h⟩
  unfold listD at h
  cases e3 : seqD r with
  | none => rw [e3] at h; exact h.elim
  | some l =>
    rw [e3] at h
    obtain ⟨a, ys, p1, p2, p3⟩ := h1.seq er e3
    refine call_list_of pins st σ' H xs us Q I rs ⟨a, ys, by rw [hx, p1], by rw [gd.hK]; exact p2, fun p hp => ?_⟩
    obtain ⟨z1, z2⟩ := er.newList hp p3
    exact h _ _ _ z1 z2
theorem int_ok : CallR X (.type "int") (rC1 κ K G₀ H₀ intD) := by
  intro pins st σ' H xs us Q I rs ⟨ρ, σ, G, Hb, r, x, hx, er, h1, h⟩
  unfold intD at h
  cases e3 : r.int? with
  | some i =>
    rw [e3] at h
    exact call_int1 pins st σ' H xs us Q I rs (.inl ⟨i, by rw [hx, h1.int e3], h _ G H (Po.refl er) (by simp only [RvR, Rep])⟩)
  | none =>
    rw [e3] at h
    dsimp only at h
    cases e4 : r.bl? with
    | none => rw [e4] at h; exact h.elim
    | some b =>
      rw [e4] at h
      exact call_int1 pins st σ' H xs us Q I rs (.inr ⟨b, by rw [hx, h1.bl e4], h _ G H (Po.refl er) (by simp only [RvR, Rep])⟩)
theorem max_ok (gd : Gd κ K k X Γ) : CallR X (.builtin "max") (rC2 κ K G₀ H₀ maxD) := by
  intro pins st σ' H xs us Q I rs ⟨ρ, σ, G, Hb, Hc, r, s, x, y, hx, er, h1, h2, h⟩
  obtain ⟨i, j, e1, e2, h⟩ := int2_is h
  exact call_max2 gd.calm pins st σ' H xs us Q I rs ⟨i, j, by rw [hx, h1.int e1, h2.int e2], h _ G H (Po.refl er) (by simp only [RvR, Rep])⟩
theorem min_ok (gd : Gd κ K k X Γ) : CallR X (.builtin "min") (rC2 κ K G₀ H₀ minD) := by
  intro pins st σ' H xs us Q I rs ⟨ρ, σ, G, Hb, Hc, r, s, x, y, hx, er, h1, h2, h⟩
  obtain ⟨i, j, e1, e2, h⟩ := int2_is h
  exact call_min2 gd.calm pins st σ' H xs us Q I rs ⟨i, j, by rw [hx, h1.int e1, h2.int e2], h _ G H (Po.refl er) (by simp only [RvR, Rep])⟩
theorem truth_is (gd : Gd κ K k X Γ) {G H Hb : Hp} {ρ : Env} {σ : St} {r : Rv} {x : V} {b : Bool} (er : ER κ K G₀ H₀ G H ρ σ) (h : RvR κ K H₀ Hb G H ρ σ r x) (e : truthD r = some b) : TruV X.K x H b := by
  have sq : ∀ {r : Rv}, RvR κ K H₀ Hb G H ρ σ r x → (seqD r).map (fun l => !l.isEmpty) = some b → TruV X.K x H b := fun {r} h e => by
    obtain ⟨l, e1, rfl⟩ := Option.map_eq_some_iff.mp e
    obtain ⟨a, xs, rfl, p2, p3⟩ := h.seq er e1
    have hl : (!l.isEmpty) = !xs.isEmpty := by
      have := p3.len
      cases l <;> cases xs <;> simp_all
    rw [hl, gd.hK]
    rcases p2 with p2 | p2
    · exact .inl ⟨xs, p2, rfl⟩
    · exact .inr (.inl ⟨xs, p2, rfl⟩)
  cases r with
  | val d =>
    cases d with
    | non => simp only [RvR, Rep] at h; subst h; simp only [truthD] at e; cases e; exact rfl
    | bl c => simp only [RvR, Rep] at h; subst h; simp only [truthD] at e; cases e; exact rfl
    | int c => simp only [RvR, Rep] at h; subst h; simp only [truthD] at e; cases e; exact rfl
    | str c =>
      simp only [RvR, Rep] at h; subst h
      simp only [truthD] at e
      by_cases hz : c.length ≤ sizeLine
      · rw [if_pos hz] at e; cases e; exact ⟨hz, rfl⟩
      · rw [if_neg hz] at e; cases e
    | lst l => exact sq h e
    | tup l => exact sq h e
    | ins c ns l => exact sq h e
  | tmp l => exact sq h e
  | cell l => exact sq h e
  | scr l => exact sq h e
end
end DE
set_option maxHeartbeats 4000000
namespace DE
open PySem PySem.Spec PyProof.Rows L2
structure All (κ : KC) (K : PySem.W.Frag) (k : Nat) (X : Cx) (Γ : Ct) (m : Nat) : Prop where
  r : ∀ G₀ H₀ e, PE X e (tR κ K G₀ H₀ Γ m e)
  e : ∀ G₀ H₀ e, PE X e (tE κ K G₀ H₀ Γ m e)
  t : ∀ G₀ H₀ e, PT X e (tT κ K G₀ H₀ Γ m e)
  es : ∀ G₀ H₀ es, PA X es (tEs κ K G₀ H₀ Γ m es)
  as : ∀ G₀ H₀ es, PA X es (tAs κ K G₀ H₀ Γ m es)
  o : ∀ G₀ H₀ o, PO X o (tO κ K G₀ H₀ Γ m o)
  f : ∀ G₀ H₀ es, PIf X es (tF κ K G₀ H₀ Γ m es)
  l : ∀ G₀ H₀ e, PE X e (tL κ K G₀ H₀ Γ m e)
  i : ∀ G₀ H₀ tg e, PI X tg e (tI κ K G₀ H₀ Γ m (tupB tg) e)
section
variable {κ : KC} {K : PySem.W.Frag} {G₀ H₀ : Hp} {k m : Nat} {X : Cx} {Γ : Ct}
theorem all0 : All κ K k X Γ 0 :=
  ⟨fun _ _ e => pe_none fun _ _ _ ⟨_, _, _, h⟩ => h, fun _ _ e => pe_none fun _ _ _ ⟨_, _, _, h⟩ => h, fun _ _ e => pt_none fun _ _ _ ⟨_, _, _, h⟩ => h, fun _ _ e => pa_none fun _ _ _ ⟨_, _, _, h⟩ => h, fun _ _ e => pa_none fun _ _ _ ⟨_, _, _, h⟩ => h,
    fun _ _ e => po_no fun _ _ _ ⟨_, _, _, h⟩ => h, fun _ _ e => pif_none fun _ _ _ ⟨_, _, _, h⟩ => h, fun _ _ e => pe_none fun _ _ _ ⟨_, _, _, h⟩ => h, fun _ _ _ e => pi_none fun _ _ _ ⟨_, _, _, h⟩ => h⟩
theorem const_ok (c : Const) (j : Nat) (pos : Pos) : PE X (.Constant c j pos) (tR κ K G₀ H₀ Γ (m + 1) (.Constant c j pos)) := by
  cases c with
  | none => exact PE.imp pe_non fun σ H Q ⟨ρ, G, er, h⟩ => h _ G H (Po.refl er) (by simp only [RvR, Rep])
  | bool b => exact PE.imp pe_bl fun σ H Q ⟨ρ, G, er, h⟩ => h _ G H (Po.refl er) (by simp only [RvR, Rep])
  | int b => exact PE.imp pe_int fun σ H Q ⟨ρ, G, er, h⟩ => h _ G H (Po.refl er) (by simp only [RvR, Rep])
  | str b => exact PE.imp pe_str fun σ H Q ⟨ρ, G, er, h⟩ => h _ G H (Po.refl er) (by simp only [RvR, Rep])
  | _ => exact pe_none fun σ H Q ⟨ρ, G, er, h⟩ => h
theorem binop_ok (A : All κ K k X Γ m) (a b : Expr) (op : Operator) (pos : Pos) : PE X (.BinOp a op b pos) (tR κ K G₀ H₀ Γ (m + 1) (.BinOp a op b pos)) := by
  refine PE.imp (pe_op (bin_ok (κ := κ) (K := K) (G₀ := G₀) (H₀ := H₀) op) (A.r G₀ H₀ a) (A.r G₀ H₀ b)) fun σ H Q ⟨ρ, G, er, h⟩ => ?_
  refine ⟨ρ, G, er, Wk.mono (Wk.th (x := evR m Γ a ρ) h) fun x h v G1 H1 p1 r1 => ⟨x.2, G1, p1.er, Wk.mono (Wk.th h) fun y h w G2 H2 p2 r2 => ?_⟩⟩
  exact ⟨y.2, σ, G2, H, H1, x.1, y.1, p2.er, r1.keep p2, r2, Wk.mono (Wk.th h) fun z h u G3 H3 p3 r3 => h u G3 H3 (p1.trans (p2.trans p3)) (r3.back (p1.trans p2).hs)⟩
theorem neg_ok (A : All κ K k X Γ m) (a : Expr) (pos : Pos) : PE X (.UnaryOp .USub a pos) (tR κ K G₀ H₀ Γ (m + 1) (.UnaryOp .USub a pos)) := by
  refine PE.imp (pe_un un_neg (A.r G₀ H₀ a)) fun σ H Q ⟨ρ, G, er, h⟩ => ?_
  refine ⟨ρ, G, er, Wk.mono (Wk.th (x := evR m Γ a ρ) h) fun x h v G1 H1 p1 r1 => ?_⟩
  obtain ⟨rv, ρ1⟩ := x
  cases rv with
  | val d =>
    cases d with
    | int i => exact ⟨i, by simpa only [RvR, Rep] using r1, h _ G1 H1 p1 (by simp only [RvR, Rep])⟩
    | _ => exact False.elim h
  | _ => exact False.elim h
theorem notv_ok (A : All κ K k X Γ m) (a : Expr) (pos : Pos) : PE X (.UnaryOp .Not a pos) (tR κ K G₀ H₀ Γ (m + 1) (.UnaryOp .Not a pos)) := by
  refine PE.imp (pe_not (A.r G₀ H₀ a)) fun σ H Q ⟨ρ, G, er, h⟩ => ?_
  refine ⟨ρ, G, er, Wk.mono (Wk.th (x := evR m Γ a ρ) h) fun x h v G1 H1 p1 r1 => ?_⟩
  obtain ⟨rv, ρ1⟩ := x
  cases rv with
  | val d =>
    cases d with
    | bl i => exact ⟨i, by simpa only [RvR, Rep] using r1, h _ G1 H1 p1 (by simp only [RvR, Rep])⟩
    | _ => exact False.elim h
  | _ => exact False.elim h
theorem cmpv_ok (gd : Gd κ K k X Γ) (A : All κ K k X Γ m) (a b : Expr) (op : CmpOp) (pos : Pos) : PE X (.Compare a [op] [b] pos) (tR κ K G₀ H₀ Γ (m + 1) (.Compare a [op] [b] pos)) := by
  by_cases hm : behindInMarks op b = true
  · refine pe_none fun σ H Q ⟨ρ, G, er, h⟩ => ?_
    have h := Wk.th (x := evR m Γ a ρ) h
    cases e1 : evR m Γ a ρ with
    | ok x =>
      rw [e1] at h
      have h := Wk.th (x := evR m Γ b x.2) h
      cases e2 : evR m Γ b x.2 with
      | ok y => rw [e2] at h; exact (Wk.nif h).1 hm
      | exc c l => rw [e2] at h; exact h
      | no => rw [e2] at h; exact h
    | exc c l => rw [e1] at h; exact h
    | no => rw [e1] at h; exact h
  refine PE.imp (pe_cmpR (cmp_ok (G₀ := G₀) (H₀ := H₀) gd op) (A.r G₀ H₀ a) (A.r G₀ H₀ b) (Bool.eq_false_iff.mpr hm)) fun σ H Q ⟨ρ, G, er, h⟩ => ?_
  refine ⟨ρ, G, er, Wk.mono (Wk.th (x := evR m Γ a ρ) h) fun x h v G1 H1 p1 r1 => ⟨x.2, G1, p1.er, Wk.mono (Wk.th (x := evR m Γ b x.2) h) fun y h w G2 H2 p2 r2 => ?_⟩⟩
  obtain ⟨c, e, h⟩ := Wk.of (Wk.th (Wk.nif h).2)
  exact ⟨y.2, σ, G2, H, H1, x.1, y.1, c, p2.er, r1.keep p2, r2, e, h _ G2 H2 (p1.trans p2) (by simp only [RvR, Rep])⟩
theorem cmpt_ok (gd : Gd κ K k X Γ) (A : All κ K k X Γ m) (a b : Expr) (op : CmpOp) (pos : Pos) : PT X (.Compare a [op] [b] pos) (tT κ K G₀ H₀ Γ (m + 1) (.Compare a [op] [b] pos)) := by
  by_cases hm : behindInMarks op b = true
  · refine pt_none fun σ H Q ⟨ρ, G, er, h⟩ => ?_
    have h := Wk.th (x := evR m Γ a ρ) h
    cases e1 : evR m Γ a ρ with
    | ok x =>
      rw [e1] at h
      have h := Wk.th (x := evR m Γ b x.2) h
      cases e2 : evR m Γ b x.2 with
      | ok y => rw [e2] at h; exact (Wk.nif h).1 hm
      | exc c l => rw [e2] at h; exact h
      | no => rw [e2] at h; exact h
    | exc c l => rw [e1] at h; exact h
    | no => rw [e1] at h; exact h
  refine PT.imp (pt_cmpR (cmp_ok (G₀ := G₀) (H₀ := H₀) gd op) (A.r G₀ H₀ a) (A.r G₀ H₀ b) (Bool.eq_false_iff.mpr hm)) fun σ H Q ⟨ρ, G, er, h⟩ => ?_
  refine ⟨ρ, G, er, Wk.mono (Wk.th (x := evR m Γ a ρ) h) fun x h v G1 H1 p1 r1 => ⟨x.2, G1, p1.er, Wk.mono (Wk.th (x := evR m Γ b x.2) h) fun y h w G2 H2 p2 r2 => ?_⟩⟩
  obtain ⟨c, e, h⟩ := Wk.of (Wk.th (Wk.nif h).2)
  exact ⟨y.2, σ, G2, H, H1, x.1, y.1, c, p2.er, r1.keep p2, r2, e, c, rfl, h G2 H2 (p1.trans p2)⟩
theorem and_ok (A : All κ K k X Γ m) (a b : Expr) (l : List Expr) (pos : Pos) : PE X (.BoolOp .And (a :: b :: l) pos) (tR κ K G₀ H₀ Γ (m + 1) (.BoolOp .And (a :: b :: l) pos)) := by
  refine PE.imp (pe_and (A.r G₀ H₀ a) (A.r G₀ H₀ (.BoolOp .And (b :: l) pos))) fun σ H Q ⟨ρ, G, er, h⟩ => ?_
  refine ⟨ρ, G, er, Wk.mono (Wk.th (x := evR m Γ a ρ) h) fun x h v G1 H1 p1 r1 => ?_⟩
  obtain ⟨rv, ρ1⟩ := x
  cases rv with
  | val d =>
    cases d with
    | bl c =>
      refine ⟨c, by simpa only [RvR, Rep] using r1, ?_⟩
      cases c with
      | true =>
        rw [if_pos rfl]
        exact ⟨ρ1, G1, p1.er, Wk.mono h fun y h w G2 H2 p2 r2 => h w G2 H2 (p1.trans p2) (r2.back p1.hs)⟩
      | false =>
        rw [if_neg (fun z => by cases z)]
        exact h _ G1 H1 p1 (by simp only [RvR, Rep])
    | _ => exact False.elim h
  | _ => exact False.elim h
theorem or_ok (A : All κ K k X Γ m) (a b : Expr) (l : List Expr) (pos : Pos) : PE X (.BoolOp .Or (a :: b :: l) pos) (tR κ K G₀ H₀ Γ (m + 1) (.BoolOp .Or (a :: b :: l) pos)) := by
  refine PE.imp (pe_or (A.r G₀ H₀ a) (A.r G₀ H₀ (.BoolOp .Or (b :: l) pos))) fun σ H Q ⟨ρ, G, er, h⟩ => ?_
  refine ⟨ρ, G, er, Wk.mono (Wk.th (x := evR m Γ a ρ) h) fun x h v G1 H1 p1 r1 => ?_⟩
  obtain ⟨rv, ρ1⟩ := x
  cases rv with
  | val d =>
    cases d with
    | bl c =>
      refine ⟨c, by simpa only [RvR, Rep] using r1, ?_⟩
      cases c with
      | false =>
        rw [if_neg (fun z => by cases z)]
        exact ⟨ρ1, G1, p1.er, Wk.mono h fun y h w G2 H2 p2 r2 => h w G2 H2 (p1.trans p2) (r2.back p1.hs)⟩
      | true =>
        rw [if_pos rfl]
        exact h _ G1 H1 p1 (by simp only [RvR, Rep])
    | _ => exact False.elim h
  | _ => exact False.elim h
theorem ifx_ok (A : All κ K k X Γ m) (c a b : Expr) (pos : Pos) : PE X (.IfExp c a b pos) (tR κ K G₀ H₀ Γ (m + 1) (.IfExp c a b pos)) := by
  refine PE.imp (pe_ifExp (A.t G₀ H₀ c) (A.r G₀ H₀ a) (A.r G₀ H₀ b)) fun σ H Q ⟨ρ, G, er, h⟩ => ?_
  refine ⟨ρ, G, er, Wk.mono (Wk.th (x := evT m Γ c ρ) h) fun x h G1 H1 p1 => ?_⟩
  obtain ⟨d, ρ1⟩ := x
  cases d with
  | true =>
    rw [if_pos rfl]
    exact ⟨ρ1, G1, p1.er, Wk.mono h fun y h w G2 H2 p2 r2 => h w G2 H2 (p1.trans p2) (r2.back p1.hs)⟩
  | false =>
    rw [if_neg (fun z => by cases z)]
    exact ⟨ρ1, G1, p1.er, Wk.mono h fun y h w G2 H2 p2 r2 => h w G2 H2 (p1.trans p2) (r2.back p1.hs)⟩
theorem plainIx_of {b : Expr} (h : ∀ lo hi st p, b ≠ .Slice lo hi st p) : PlainIx b := fun o i => by
  cases b <;> first | rfl | exact absurd rfl (h _ _ _ _)
theorem sub_ok (gd : Gd κ K k X Γ) (A : All κ K k X Γ m) (a b : Expr) (pos : Pos) : PE X (.Subscript a b pos) (tR κ K G₀ H₀ Γ (m + 1) (.Subscript a b pos)) := by
  have gen : (∀ lo hi st p, b ≠ .Slice lo hi st p) → (∀ ρ, evR (m + 1) Γ (.Subscript a b pos) ρ = (evR m Γ a ρ).th fun x => (evR m Γ b x.2).th fun y => (idxD x.1 y.1).th fun r => .ok (r, y.2)) → PE X (.Subscript a b pos) (tR κ K G₀ H₀ Γ (m + 1) (.Subscript a b pos)) := fun hb he => by
    refine PE.imp (pe_ix (idx_ok (G₀ := G₀) (H₀ := H₀) gd) (A.r G₀ H₀ a) (A.r G₀ H₀ b) (plainIx_of hb)) fun σ H Q ⟨ρ, G, er, h⟩ => ?_
    rw [he] at h
    refine ⟨ρ, G, er, Wk.mono (Wk.th h) fun x h v G1 H1 p1 r1 => ⟨x.2, G1, p1.er, Wk.mono (Wk.th h) fun y h w G2 H2 p2 r2 => ?_⟩⟩
    exact ⟨y.2, σ, G2, H, H1, x.1, y.1, p2.er, r1.keep p2, r2, Wk.mono (Wk.th h) fun z h u G3 H3 p3 r3 => h u G3 H3 (p1.trans (p2.trans p3)) (r3.back (p1.trans p2).hs)⟩
  cases b with
  | Slice lo hi st p =>
    cases st with
    | some st => exact pe_none fun σ H Q ⟨ρ, G, er, h⟩ => h
    | none =>
      refine PE.imp (pe_slice (sli_ok (G₀ := G₀) (H₀ := H₀) gd) (A.r G₀ H₀ a) (A.o G₀ H₀ lo) (A.o G₀ H₀ hi)) fun σ H Q ⟨ρ, G, er, h⟩ => ?_
      refine ⟨ρ, G, er, Wk.mono (Wk.th (x := evR m Γ a ρ) h) fun x h v G1 H1 p1 r1 => ⟨x.2, G1, p1.er, Wk.mono (Wk.th (x := evO m Γ lo x.2) h) fun y h G2 H2 p2 => ⟨y.2, G2, p2.er, Wk.mono (Wk.th (x := evO m Γ hi y.2) h) fun z h G3 H3 p3 => ?_⟩⟩⟩
      exact ⟨z.2, σ, G3, H, x.1, p3.er, (r1.keep p2).keep p3, Wk.mono (Wk.th h) fun u h w G4 H4 p4 r4 => h w G4 H4 (p1.trans (p2.trans (p3.trans p4))) (r4.back (p1.trans (p2.trans p3)).hs)⟩
  | _ => exact gen (fun _ _ _ _ z => by cases z) fun _ => rfl
theorem lst_ok (A : All κ K k X Γ m) (es : List Expr) (pos : Pos) : PE X (.List es pos) (tR κ K G₀ H₀ Γ (m + 1) (.List es pos)) := by
  refine PE.imp (pe_lst (A.es G₀ H₀ es)) fun σ H Q ⟨ρ, G, er, h⟩ => ?_
  refine ⟨ρ, G, er, Wk.mono (Wk.th (x := evEs m Γ es ρ) h) fun x h vs G1 H1 p1 r1 => ?_⟩
  obtain ⟨hz, h⟩ := Wk.iff h
  refine ⟨by rw [← r1.len]; exact hz, fun p hp => ?_⟩
  obtain ⟨z1, z2⟩ := p1.er.newList hp r1
  exact h _ _ _ (p1.trans z1) (z2.back p1.hs)
theorem tup_ok (A : All κ K k X Γ m) (es : List Expr) (j : Nat) (pos : Pos) : PE X (.Tuple es j pos) (tR κ K G₀ H₀ Γ (m + 1) (.Tuple es j pos)) := by
  refine PE.imp (pe_tup (A.es G₀ H₀ es)) fun σ H Q ⟨ρ, G, er, h⟩ => ?_
  refine ⟨ρ, G, er, Wk.mono (Wk.th (x := evEs m Γ es ρ) h) fun x h vs G1 H1 p1 r1 => ?_⟩
  obtain ⟨hz, h⟩ := Wk.iff h
  refine ⟨by rw [← r1.len]; exact hz, fun p hp => ?_⟩
  have z1 := Po.lay (o := .tup vs) p1.er hp
  refine h _ _ _ (p1.trans z1) ?_
  simp only [RvR, Rep]
  exact ⟨p, vs, rfl, upd_same, r1.same z1.gs⟩
theorem e_ok (gd : Gd κ K k X Γ) (A : All κ K k X Γ m) (e : Expr) : PE X e (tE κ K G₀ H₀ Γ (m + 1) e) := by
  have gen : (∀ ρ, evE (m + 1) Γ e ρ = (evR m Γ e ρ).th fun x => match x.1 with
      | .val d => .ok (d, x.2)
      | .tmp l => .ok (.lst l, x.2)
      | _ => .no) → PE X e (tE κ K G₀ H₀ Γ (m + 1) e) := fun he => by
    refine PE.imp (A.r G₀ H₀ e) fun σ H Q ⟨ρ, G, er, h⟩ => ?_
    rw [he] at h
    refine ⟨ρ, G, er, Wk.mono (Wk.th h) fun x h v G1 H1 p1 r1 => ?_⟩
    obtain ⟨rv, ρ1⟩ := x
    cases rv with
    | val d => exact h v G1 H1 p1 r1
    | tmp l =>
      obtain ⟨a, xs, rfl, h1, h2, h3, h4, h5, h6⟩ := r1
      have p2 := p1.freeze h1 h2 h3 h4 h5
      refine h _ _ H1 p2 ?_
      simp only [Rep]
      exact ⟨a, xs, rfl, upd_same, h6.same (Same.upd h4)⟩
    | cell l => exact False.elim h
    | scr l => exact False.elim h
  cases e with
  | Name x pos => exact nameE_ok gd m x pos
  | _ => exact gen fun _ => rfl
theorem es_ok (A : All κ K k X Γ m) : ∀ es, PA X es (tEs κ K G₀ H₀ Γ (m + 1) es)
  | [] => PA.imp pa_nil fun σ H Q ⟨ρ, G, er, h⟩ => h [] G H (Po.refl er) .nil
  | e :: l => by
    by_cases hs : starB e = true
    · exact pa_none fun σ H Q ⟨ρ, G, er, h⟩ => (Wk.nif (c := starB e = true) h).1 hs
    refine PA.imp (pa_cons (A.e G₀ H₀ e) (A.es G₀ H₀ l) (star_one (Bool.eq_false_iff.mpr hs))) fun σ H Q ⟨ρ, G, er, h⟩ => ?_
    have h := (Wk.nif (c := starB e = true) h).2
    refine ⟨ρ, G, er, Wk.mono (Wk.th h) fun x h v G1 H1 p1 r1 => ⟨x.2, G1, p1.er, Wk.mono (Wk.th h) fun y h vs G2 H2 p2 r2 => ?_⟩⟩
    exact h _ G2 H2 (p1.trans p2) (.cons (r1.same p2.gs) r2)
theorem as_ok (A : All κ K k X Γ m) : ∀ es, PA X es (tAs κ K G₀ H₀ Γ (m + 1) es)
  | [] => PA.imp pa_nil fun σ H Q ⟨ρ, G, er, h⟩ => h [] G H (Po.refl er) rfl
  | e :: l => by
    by_cases hs : starB e = true
    · exact pa_none fun σ H Q ⟨ρ, G, er, h⟩ => (Wk.nif (c := starB e = true) h).1 hs
    refine PA.imp (pa_cons (A.r G₀ H₀ e) (A.as G₀ H₀ l) (star_one (Bool.eq_false_iff.mpr hs))) fun σ H Q ⟨ρ, G, er, h⟩ => ?_
    have h := (Wk.nif (c := starB e = true) h).2
    refine ⟨ρ, G, er, Wk.mono (Wk.th h) fun x h v G1 H1 p1 r1 => ?_⟩
    obtain ⟨rv, ρ1⟩ := x
    cases rv with
    | val d => exact ⟨ρ1, G1, p1.er, Wk.mono (Wk.th h) fun y h vs G2 H2 p2 r2 => h _ G2 H2 (p1.trans p2) ⟨v, vs, rfl, Rep.same p2.gs r1, r2⟩⟩
    | tmp ds =>
      obtain ⟨a, xs, rfl, h1, h2, h3, h4, h5, h6⟩ := r1
      have p1' := p1.freeze h1 h2 h3 h4 h5
      refine ⟨ρ1, _, p1'.er, Wk.mono (Wk.th h) fun y h vs G2 H2 p2 r2 => h _ G2 H2 (p1'.trans p2) ⟨_, vs, rfl, ?_, r2⟩⟩
      show Rep κ G2 (.lst ds) (.ref a)
      simp only [Rep]
      exact ⟨a, xs, rfl, p2.gs _ _ upd_same, (h6.same (Same.upd h4)).same p2.gs⟩
    | cell ds =>
      obtain ⟨a, xs, rfl, h1, h6⟩ := r1
      exact ⟨ρ1, G1, p1.er, Wk.mono (Wk.th h) fun y h vs G2 H2 p2 r2 => h _ G2 H2 (p1.trans p2) ⟨_, vs, rfl, ⟨a, xs, rfl, p2.hs _ _ h1, h6.same p2.gs⟩, r2⟩⟩
    | scr ds =>
      obtain ⟨a, xs, rfl, h1, h6⟩ := r1
      exact ⟨ρ1, G1, p1.er, Wk.mono (Wk.th h) fun y h vs G2 H2 p2 r2 => h _ G2 H2 (p1.trans p2) ⟨_, vs, rfl, ⟨a, xs, rfl, p2.hs.seq h1, h6.same p2.gs⟩, r2⟩⟩
theorem o_ok (A : All κ K k X Γ m) : ∀ o, PO X o (tO κ K G₀ H₀ Γ (m + 1) o)
  | none => PO.imp po_none fun σ H Q ⟨ρ, G, er, h⟩ => h G H (Po.refl er)
  | some e => by
    refine PO.imp (po_some (A.r G₀ H₀ e)) fun σ H Q ⟨ρ, G, er, h⟩ => ?_
    refine ⟨ρ, G, er, Wk.mono (Wk.th (x := evR m Γ e ρ) h) fun x h v G1 H1 p1 r1 => ?_⟩
    obtain ⟨rv, ρ1⟩ := x
    cases rv with
    | val d =>
      cases d with
      | int i => exact ⟨i, by simpa only [RvR, Rep] using r1, h G1 H1 p1⟩
      | _ => exact False.elim h
    | _ => exact False.elim h
theorem f_ok (A : All κ K k X Γ m) : ∀ es, PIf X es (tF κ K G₀ H₀ Γ (m + 1) es)
  | [] => PIf.imp pif_nil fun σ H Q ⟨ρ, G, er, h⟩ => h G H (Po.refl er)
  | [c] => PIf.imp (pif_one (A.t G₀ H₀ c)) fun σ H Q h => h
  | _ :: _ :: _ => pif_none fun σ H Q ⟨ρ, G, er, h⟩ => h
def plainT : Expr → Bool
  | .UnaryOp .Not _ _ => false
  | .BoolOp .. => false
  | .IfExp .. => false
  | .Compare .. => false
  | _ => true
theorem isTrue_of {e : Expr} (h : plainT e = true) (env : PySem.Env) : ∀ whole, isTrue e env whole = (do let v ← whole; standAt e.pos; holding [v] (truthy v)) := by
  intro whole
  cases e with
  | UnaryOp op a pos => cases op <;> first | rfl | cases h
  | BoolOp => cases h
  | IfExp => cases h
  | Compare => cases h
  | _ => rfl
theorem t_ok (gd : Gd κ K k X Γ) (A : All κ K k X Γ m) (e : Expr) : PT X e (tT κ K G₀ H₀ Γ (m + 1) e) := by
  have gen : plainT e = true → (∀ ρ, evT (m + 1) Γ e ρ = (evR m Γ e ρ).th fun x => (R.of (truthD x.1)).th fun b => .ok (b, x.2)) → PT X e (tT κ K G₀ H₀ Γ (m + 1) e) := fun hp he => by
    refine PT.imp (pt_truth (A.r G₀ H₀ e) (isTrue_of hp X.env)) fun σ H Q ⟨ρ, G, er, h⟩ => ?_
    rw [he] at h
    refine ⟨ρ, G, er, Wk.mono (Wk.th h) fun x h v G1 H1 p1 r1 => ?_⟩
    obtain ⟨b, e1, h⟩ := Wk.of (Wk.th h)
    exact ⟨b, truth_is gd p1.er r1 e1, h G1 H1 p1⟩
  cases e with
  | UnaryOp op a pos =>
    cases op with
    | Not =>
      refine PT.imp (pt_not (A.t G₀ H₀ a)) fun σ H Q ⟨ρ, G, er, h⟩ => ?_
      exact ⟨ρ, G, er, Wk.mono (Wk.th (x := evT m Γ a ρ) h) fun x h G1 H1 p1 => h G1 H1 p1⟩
    | _ => exact gen rfl fun _ => rfl
  | BoolOp op vs pos =>
    cases vs with
    | nil => exact pt_none fun σ H Q ⟨ρ, G, er, h⟩ => by cases op <;> exact h
    | cons a vs =>
      cases vs with
      | nil =>
        cases op with
        | And => exact PT.imp (PW.pt (pw_and1 (A.t G₀ H₀ a))) fun σ H Q h => h
        | Or => exact PT.imp (PW.pt (pw_or1 (A.t G₀ H₀ a))) fun σ H Q h => h
      | cons b l =>
        cases op with
        | And =>
          intro pins s σ H Q I hw
          obtain ⟨ρ, G, er, h⟩ := hw
          refine isTrue_and (thn (A.t G₀ H₀ a pins s σ H (fun c H1 => if c = true then tT κ K G₀ H₀ Γ m (.BoolOp .And (b :: l) pos) σ H1 Q else Q false H1) I ?_) fun c s1 ⟨H1, I1, q1⟩ => ?_)
          · refine ⟨ρ, G, er, Wk.mono (Wk.th (x := evT m Γ a ρ) h) fun x h G1 H1 p1 => ?_⟩
            obtain ⟨d, ρ1⟩ := x
            cases d with
            | true =>
              rw [if_pos rfl]
              exact ⟨ρ1, G1, p1.er, Wk.mono h fun y h G2 H2 p2 => h G2 H2 (p1.trans p2)⟩
            | false =>
              rw [if_neg (fun z => by cases z)]
              exact h G1 H1 p1
          · cases c with
            | true => exact A.t G₀ H₀ (.BoolOp .And (b :: l) pos) pins s1 σ H1 Q I1 q1
            | false => exact ⟨H1, I1, q1⟩
        | Or =>
          intro pins s σ H Q I hw
          obtain ⟨ρ, G, er, h⟩ := hw
          refine isTrue_or (thn (A.t G₀ H₀ a pins s σ H (fun c H1 => if c = true then Q true H1 else tT κ K G₀ H₀ Γ m (.BoolOp .Or (b :: l) pos) σ H1 Q) I ?_) fun c s1 ⟨H1, I1, q1⟩ => ?_)
          · refine ⟨ρ, G, er, Wk.mono (Wk.th (x := evT m Γ a ρ) h) fun x h G1 H1 p1 => ?_⟩
            obtain ⟨d, ρ1⟩ := x
            cases d with
            | false =>
              rw [if_neg (fun z => by cases z)]
              exact ⟨ρ1, G1, p1.er, Wk.mono h fun y h G2 H2 p2 => h G2 H2 (p1.trans p2)⟩
            | true =>
              rw [if_pos rfl]
              exact h G1 H1 p1
          · cases c with
            | true => exact ⟨H1, I1, q1⟩
            | false => exact A.t G₀ H₀ (.BoolOp .Or (b :: l) pos) pins s1 σ H1 Q I1 q1
  | IfExp c a b pos => exact pt_none fun σ H Q ⟨ρ, G, er, h⟩ => h
  | Compare a ops bs pos =>
    cases ops with
    | nil => exact pt_none fun σ H Q ⟨ρ, G, er, h⟩ => h
    | cons op ops =>
      cases ops with
      | nil =>
        cases bs with
        | nil => exact pt_none fun σ H Q ⟨ρ, G, er, h⟩ => h
        | cons b bs =>
          cases bs with
          | nil => exact cmpt_ok gd A a b op pos
          | cons c bs => exact pt_none fun σ H Q ⟨ρ, G, er, h⟩ => h
      | cons op' ops => exact pt_none fun σ H Q ⟨ρ, G, er, h⟩ => h
  | _ => exact gen rfl fun _ => rfl
end
end DE
set_option maxHeartbeats 4000000
namespace DE
open PySem PySem.Spec PyProof.Rows L2
section
variable {κ : KC} {K : PySem.W.Frag} {G₀ H₀ : Hp} {k m : Nat} {X : Cx} {Γ : Ct}
theorem pi_seq {tg l : Expr} {tl : TE} (hl : PE X l tl) : PI X tg l (fun σ H R => tl σ H fun x H1 => (∃ a, x = .ref a ∧ (((∃ xs, SqL X.K H1 a xs) ∧ R (Itl X.K a) H1) ∨ ((∃ xs, SqT X.K H1 a xs) ∧ R (Itt X.K a) H1))) ∨ ∃ z, x = .str z ∧ R (Its z) H1) := by
  intro pins s σ H R I h
  refine thn (hl pins s σ H _ I h) fun v s1 ⟨x, H1, I1, r1, q1⟩ => ?_
  rcases q1 with ⟨a, e, q⟩ | ⟨x, rfl, q⟩
  · subst e
    cases r1
    rcases q with ⟨⟨xs, hq⟩, q⟩ | ⟨⟨xs, hq⟩, q⟩
    · obtain ⟨its, rv, p, hz⟩ := I1.list hq
      refine wpAny_pyIter_list p.isList ?_
      refine ⟨s1.heap.objs.size, [s1.heap.objs.size], _, _, H1, rfl, I1.kept (t' := s1.toks) fun b o e => Heap.get?_push_of_some _ e, turn_list a _, ⟨_, Heap.get?_push_size _ rfl, rfl, rfl⟩, fun b hb => ?_, q⟩
      have e : b = s1.heap.objs.size := by simpa using hb
      subst e
      exact I1.fpOk (Nat.le_refl _) (I1.hok.fresh (Nat.le_refl _))
    · obtain ⟨its, rv, p, hz⟩ := I1.tuple hq
      refine wpAny_pyIter_tuple (show s1.heap.IsTuple a its.toArray from p) ?_
      refine ⟨s1.heap.objs.size, [s1.heap.objs.size], _, _, H1, rfl, I1.kept (t' := s1.toks) fun b o e => Heap.get?_push_of_some _ e, turn_tuple a _, ⟨_, Heap.get?_push_size _ rfl, rfl, rfl⟩, fun b hb => ?_, q⟩
      have e : b = s1.heap.objs.size := by simpa using hb
      subst e
      exact I1.fpOk (Nat.le_refl _) (I1.hok.fresh (Nat.le_refl _))
  · obtain ⟨t, rfl⟩ := r1
    have fin : ∀ (T : String) (o : Obj), (T = "str_ascii_iterator" ∨ T = "str_iterator") → (∀ A' : Around, A'.handled = none → Walks X.prog X.w A' s1.heap.objs.size [s1.heap.objs.size] [s1.heap.objs.size] x.cps.size (SignAt x) (fun i h => h.IsStrIter s1.heap.objs.size T x t i)) →
        (s1.heap.push o).IsStrIter s1.heap.objs.size T x t 0 → PIE X pins σ tg R (.ref s1.heap.objs.size) { s1 with heap := s1.heap.push o } := fun T o hT W st => by
      refine ⟨s1.heap.objs.size, [s1.heap.objs.size], _, _, H1, rfl, I1.kept (t' := s1.toks) fun b o e => Heap.get?_push_of_some _ e, turn_str hT W, st, fun b hb => ?_, q⟩
      have e : b = s1.heap.objs.size := by simpa using hb
      subst e
      exact I1.fpOk (Nat.le_refl _) (I1.hok.fresh (Nat.le_refl _))
    cases ha : x.cps.all (· < 128)
    · exact wpAny_pyIter_wide ha (fin _ _ (.inr rfl) (fun A' hA => Walks.strWide hA _ x t) ⟨_, Heap.get?_push_size _ rfl, rfl, rfl⟩)
    · exact wpAny_pyIter_ascii ha (fin _ _ (.inl rfl) (fun A' hA => Walks.strAscii hA _ x t) ⟨_, Heap.get?_push_size _ rfl, rfl, rfl⟩)
theorem nameL_ok (gd : Gd κ K k X Γ) (m : Nat) (x : Str) (pos : Pos) : PE X (.Name x pos) (tL κ K G₀ H₀ Γ (m + 1) (.Name x pos)) := by
  by_cases hok : nameOk x = true
  case neg =>
    refine pe_none fun σ H Q ⟨ρ, G, er, h⟩ => ?_
    have h : Wk (nameL Γ x ρ) _ := h
    unfold nameL at h
    exact hok (Wk.iff h).1
  obtain ⟨n1, n2, n3⟩ := nameOk_is hok
  cases hi : ixOf Γ.N x with
  | none =>
    refine pe_none fun σ H Q ⟨ρ, G, er, h⟩ => ?_
    have h : Wk (nameL Γ x ρ) _ := h
    unfold nameL at h
    rw [if_pos hok, hi] at h
    exact h
  | some i =>
    by_cases hv : visB Γ.sc x = true
    case neg =>
      refine pe_none fun σ H Q ⟨ρ, G, er, h⟩ => ?_
      have h : Wk (nameL Γ x ρ) _ := h
      unfold nameL at h
      rw [if_pos hok, hi] at h
      exact hv (Wk.iff h).1
    have hx := gd.vis x hv
    refine PE.imp (pe_var (i := i) (by rw [gd.hN]; exact ixOf_at hi) hx n1 n2) fun σ H Q ⟨ρ, G, er, h⟩ => ?_
    have h : Wk (nameL Γ x ρ) _ := h
    unfold nameL at h
    rw [if_pos hok, hi] at h
    have h := (Wk.iff h).2
    cases q : ρ[i]? with
    | none => rw [q] at h; exact False.elim h
    | some s =>
      rw [q] at h
      have w := er.sl i s q
      cases s with
      | no => exact False.elim h
      | val d =>
        obtain ⟨v, z, r⟩ := w
        cases d with
        | lst l =>
          simp only [Rep] at r
          obtain ⟨a, xs, rfl, r1, r2⟩ := r
          exact ⟨_, z, h _ G H (Po.refl er) ⟨a, xs, rfl, r2, .inl r1⟩⟩
        | str y =>
          simp only [Rep] at r
          subst r
          exact ⟨_, z, h _ G H (Po.refl er) ⟨y, rfl, rfl⟩⟩
        | tup l =>
          simp only [Rep] at r
          obtain ⟨a, xs, rfl, r1, r2⟩ := r
          exact ⟨_, z, h _ G H (Po.refl er) ⟨a, xs, rfl, r2, r1⟩⟩
        | _ => exact False.elim h
      | own l =>
        obtain ⟨a, xs, z, p, r⟩ := er.froze q
        simp only [Rep] at r
        obtain ⟨a', xs', e, r1, r2⟩ := r
        cases e
        exact ⟨_, z, h _ _ H p ⟨a, xs', rfl, r2, .inl r1⟩⟩
      | bor l => obtain ⟨a, xs, z, r1, r4⟩ := w; exact ⟨_, z, h _ G H (Po.refl er) ⟨a, xs, rfl, r4, .inr (SqL.of r1)⟩⟩
      | scr l => obtain ⟨a, xs, z, r1, r4⟩ := w; exact ⟨_, z, h _ G H (Po.refl er) ⟨a, xs, rfl, r4, .inr r1⟩⟩
theorem l_ok (gd : Gd κ K k X Γ) (A : All κ K k X Γ m) (e : Expr) : PE X e (tL κ K G₀ H₀ Γ (m + 1) e) := by
  have gen : (∀ ρ, evL (m + 1) Γ e ρ = (evR m Γ e ρ).th fun x => match x.1 with
      | .val (.lst l) => .ok ((.lst, l), x.2)
      | .val (.tup l) => .ok ((.tup, l), x.2)
      | .val (.str z) => .ok ((.str, sigD z), x.2)
      | .tmp l => .ok ((.lst, l), x.2)
      | _ => .no) → PE X e (tL κ K G₀ H₀ Γ (m + 1) e) := fun he => by
    refine PE.imp (A.r G₀ H₀ e) fun σ H Q ⟨ρ, G, er, h⟩ => ?_
    rw [he] at h
    refine ⟨ρ, G, er, Wk.mono (Wk.th h) fun x h v G1 H1 p1 r1 => ?_⟩
    obtain ⟨rv, ρ1⟩ := x
    cases rv with
    | val d =>
      cases d with
      | lst l =>
        simp only [RvR, Rep] at r1
        obtain ⟨a, xs, rfl, q1, q2⟩ := r1
        exact h _ G1 H1 p1 ⟨a, xs, rfl, q2, .inl q1⟩
      | str y =>
        simp only [RvR, Rep] at r1
        subst r1
        exact h _ G1 H1 p1 ⟨y, rfl, rfl⟩
      | tup l =>
        simp only [RvR, Rep] at r1
        obtain ⟨a, xs, rfl, q1, q2⟩ := r1
        exact h _ G1 H1 p1 ⟨a, xs, rfl, q2, q1⟩
      | _ => exact False.elim h
    | tmp l =>
      obtain ⟨a, xs, rfl, h1, h2, h3, h4, h5, h6⟩ := r1
      exact h _ _ H1 (p1.freeze h1 h2 h3 h4 h5) ⟨a, xs, rfl, h6.same (Same.upd h4), .inl upd_same⟩
    | cell l => exact False.elim h
    | scr l => exact False.elim h
  cases e with
  | Name x pos => exact nameL_ok gd m x pos
  | _ => exact gen fun _ => rfl
theorem itl_ok {G : Hp} {a : Addr} {xs : List V} {l : List D} (h : G a = some (.lst xs) ∨ SqL K H₀ a xs) (r : Reps κ G l xs) : ItR κ H₀ G (Itl K a) l := by
  intro i G1 H1 s1 s2 s3
  have hq : SqL K H1 a xs := h.elim (fun z => SqL.of (s3 _ _ (s1 _ _ z))) fun z => s2.seq z
  refine ⟨fun d e => ?_, fun e => ⟨xs, hq, by rw [← r.len]; omega⟩⟩
  obtain ⟨v, e1, e2⟩ := r.atD e
  refine ⟨⟨xs, v, hq, e1⟩, fun x H' ⟨z1, z2⟩ => ⟨G1, by rw [z1]; exact fun _ _ q => q, fun _ _ q => q, by rw [z1]; exact s3, fun _ o q => .inl ⟨o, q⟩, ?_⟩⟩
  have := z2 xs hq
  rw [e1] at this
  cases this
  exact e2.same s1
theorem itt_ok {G : Hp} {a : Addr} {xs : List V} {l : List D} (h : G a = some (.tup xs)) (r : Reps κ G l xs) : ItR κ H₀ G (Itt K a) l := by
  intro i G1 H1 s1 s2 s3
  have hq : SqT K H1 a xs := SqT.of (s3 _ _ (s1 _ _ h))
  refine ⟨fun d e => ?_, fun e => ⟨xs, hq, by rw [← r.len]; omega⟩⟩
  obtain ⟨v, e1, e2⟩ := r.atD e
  refine ⟨⟨xs, v, hq, e1⟩, fun x H' ⟨z1, z2⟩ => ⟨G1, by rw [z1]; exact fun _ _ q => q, fun _ _ q => q, by rw [z1]; exact s3, fun _ o q => .inl ⟨o, q⟩, ?_⟩⟩
  have := z2 xs hq
  rw [e1] at this
  cases this
  exact e2.same s1
theorem its_ok {G : Hp} {x : Str} : ItR κ H₀ G (Its x) (sigD x) := by
  intro i G1 H1 s1 s2 s3
  have hl : (sigD x).length = x.cps.size := by simp [sigD]
  refine ⟨fun d e => ?_, fun e => by rw [← e, hl]; rfl⟩
  unfold sigD at e
  rw [List.getElem?_map] at e
  obtain ⟨c, e1, rfl⟩ := Option.map_eq_some_iff.mp e
  rw [Array.getElem?_toList] at e1
  refine ⟨(Array.getElem?_eq_some_iff.mp e1).1, fun v H' ⟨z1, c', z2, z3⟩ => ⟨G1, by rw [z1]; exact fun _ _ q => q, fun _ _ q => q, by rw [z1]; exact s3, fun _ o q => .inl ⟨o, q⟩, ?_⟩⟩
  rw [e1] at z2
  cases z2
  rw [z3]
  simp only [Rep]
theorem itr_ok {G : Hp} {lo hi : Int} : ItR κ H₀ G (Itr lo (hi - lo).toNat) (rangeD lo hi) := by
  intro i G1 H1 s1 s2 s3
  refine ⟨fun d e => ?_, fun e => ?_⟩
  · unfold rangeD at e
    rw [List.getElem?_map] at e
    obtain ⟨j, e1, rfl⟩ := Option.map_eq_some_iff.mp e
    obtain ⟨h1, h2⟩ := List.getElem?_eq_some_iff.mp e1
    have hi' : i < (hi - lo).toNat := by simpa using h1
    have hj : j = i := by rw [← h2]; simp
    subst hj
    refine ⟨hi', fun x H' ⟨z1, z2⟩ => ⟨G1, by rw [z1]; exact fun _ _ q => q, fun _ _ q => q, by rw [z1]; exact s3, fun _ o q => .inl ⟨o, q⟩, ?_⟩⟩
    rw [z2]
    simp only [Rep]
  · have hl : (rangeD lo hi).length = (hi - lo).toNat := by simp only [rangeD, List.length_map, List.length_range]
    show (hi - lo).toNat ≤ i
    omega
theorem pair_ok {G H : Hp} {T : Addr} {x y : V} {d e : D} (sub : Same G H) (hT : H T = none) (hx : Rep κ G d x) (hy : Rep κ G e y) :
    ∃ G', Same H (upd H T (.tup [x, y])) ∧ Same G G' ∧ Same G' (upd H T (.tup [x, y])) ∧ (∀ a o, G' a = some o → (∃ o', G a = some o') ∨ H a = none) ∧ Rep κ G' (.tup [d, e]) (.ref T) := by
  have gT : G T = none := Same.none sub hT
  have gs : Same G (upd G T (.tup [x, y])) := Same.upd gT
  refine ⟨upd G T (.tup [x, y]), Same.upd hT, gs, fun b u q => ?_, fun b u q => ?_, ?_⟩
  · by_cases hb : b = T
    · subst hb; rw [upd_same] at q ⊢; exact q
    · rw [upd_ne hb] at q ⊢; exact sub b u q
  · by_cases hb : b = T
    · subst hb; exact .inr hT
    · rw [upd_ne hb] at q; exact .inl ⟨u, q⟩
  · simp only [Rep]
    exact ⟨T, _, rfl, upd_same, .cons (hx.same gs) (.cons (hy.same gs) .nil)⟩
theorem ite_ok {G : Hp} {a : Addr} {xs : List V} {l : List D} (h : G a = some (.lst xs) ∨ SqL K H₀ a xs) (r : Reps κ G l xs) : ItR κ H₀ G (Ite K a) (enumD l) := by
  intro i G1 H1 s1 s2 s3
  have hq : SqL K H1 a xs := h.elim (fun z => SqL.of (s3 _ _ (s1 _ _ z))) fun z => s2.seq z
  have hlen : (enumD l).length = l.length := by simp [enumD]
  refine ⟨fun d e => ?_, fun e => ⟨xs, hq, by rw [← r.len]; omega⟩⟩
  have hi : i < l.length := by rw [← hlen]; exact (List.getElem?_eq_some_iff.mp e).1
  have e0 : (enumD l)[i]? = some (.tup [.int i, l[i]]) := by
    unfold enumD
    rw [List.getElem?_zipWith]
    simp [hi]
  rw [e0] at e
  cases e
  obtain ⟨v, e1, e2⟩ := r.atD (List.getElem?_eq_getElem hi)
  refine ⟨⟨xs, v, hq, e1⟩, fun x H' z => ?_⟩
  obtain ⟨T, x', rfl, hT, rfl, z2⟩ := z
  have := z2 xs hq
  rw [e1] at this
  cases this
  exact pair_ok s3 hT (by simp only [Rep]) (e2.same s1)
theorem itz_ok {G : Hp} {a b : Addr} {xs ys : List V} {l n : List D} (h : G a = some (.lst xs) ∨ SqL K H₀ a xs) (r : Reps κ G l xs) (h' : G b = some (.lst ys) ∨ SqL K H₀ b ys) (r' : Reps κ G n ys) : ItR κ H₀ G (Itz K a b) (zipD l n) := by
  intro i G1 H1 s1 s2 s3
  have hq : SqL K H1 a xs := h.elim (fun z => SqL.of (s3 _ _ (s1 _ _ z))) fun z => s2.seq z
  have hq' : SqL K H1 b ys := h'.elim (fun z => SqL.of (s3 _ _ (s1 _ _ z))) fun z => s2.seq z
  have hlen : (zipD l n).length = min l.length n.length := by simp [zipD]
  have l1 := r.len
  have l2 := r'.len
  refine ⟨fun d e => ?_, fun e => ⟨xs, ys, hq, hq', by omega⟩⟩
  have hi : i < min l.length n.length := by rw [← hlen]; exact (List.getElem?_eq_some_iff.mp e).1
  have i1 : i < l.length := by omega
  have i2 : i < n.length := by omega
  have e0 : (zipD l n)[i]? = some (.tup [l[i], n[i]]) := by
    unfold zipD
    rw [List.getElem?_zipWith]
    simp [i1, i2]
  rw [e0] at e
  cases e
  obtain ⟨v, e1, e2⟩ := r.atD (List.getElem?_eq_getElem i1)
  obtain ⟨w, e3, e4⟩ := r'.atD (List.getElem?_eq_getElem i2)
  refine ⟨⟨xs, ys, v, w, hq, hq', e1, e3⟩, fun x H' z => ?_⟩
  obtain ⟨T, x', y', rfl, hT, rfl, z2⟩ := z
  obtain ⟨z3, z4⟩ := z2 xs ys hq hq'
  rw [e1] at z3
  rw [e3] at z4
  cases z3
  cases z4
  exact pair_ok s3 hT (e2.same s1) (e4.same s1)
theorem smallI_is {i : Int} (h : smallI i = true) : -(2 ^ 62) ≤ i ∧ i < 2 ^ 62 := by
  unfold smallI at h
  simpa [Bool.and_eq_true] using h
theorem i_gen (gd : Gd κ K k X Γ) (A : All κ K k X Γ m) (tg e : Expr) (he : ∀ ρ, evI (m + 1) Γ (tupB tg) e ρ = (evL m Γ e ρ).th fun x => .ok (x.1.2, x.2)) : PI X tg e (tI κ K G₀ H₀ Γ (m + 1) (tupB tg) e) := by
  refine PI.imp (pi_seq (A.l G₀ H₀ e)) fun σ H Q ⟨ρ, G, er, h⟩ => ?_
  rw [he] at h
  refine ⟨ρ, G, er, Wk.mono (Wk.th h) fun x h v G1 H1 p1 r1 => ?_⟩
  obtain ⟨⟨b, l⟩, ρ1⟩ := x
  cases b with
  | str =>
    obtain ⟨y, rfl, rfl⟩ := r1
    exact .inr ⟨y, rfl, h _ G1 H1 p1 its_ok⟩
  | tup =>
    obtain ⟨a, xs, rfl, r2, r3⟩ := r1
    exact .inl ⟨a, rfl, .inr ⟨⟨xs, SqT.of (p1.er.sub _ _ r3)⟩, h _ G1 H1 p1 (by rw [gd.hK]; exact itt_ok r3 r2)⟩⟩
  | lst =>
    obtain ⟨a, xs, rfl, r2, r3⟩ := r1
    refine .inl ⟨a, rfl, .inl ⟨⟨xs, ?_⟩, h _ G1 H1 p1 (by rw [gd.hK]; exact itl_ok r3 r2)⟩⟩
    rw [gd.hK]
    exact r3.elim (fun z => SqL.of (p1.er.sub _ _ z)) fun z => p1.er.base.seq z
theorem star_two {a b : Expr} {env : PySem.Env} (h1 : starB a = false) (h2 : starB b = false) : starEach [a, b] env = [(false, eval a env), (false, eval b env)] := by
  rw [star_one h1, star_one h2]
  rfl
theorem i_call1 (gd : Gd κ K k X Γ) (A : All κ K k X Γ m) (tg a : Expr) (f : Str) (p q : Pos) (hf : f = "range" ∨ f = "enumerate" ∨ f = "zip") :
    PI X tg (.Call (.Name f p) [a] [] q) (tI κ K G₀ H₀ Γ (m + 1) (tupB tg) (.Call (.Name f p) [a] [] q)) := by
  by_cases hn : (nameOk f && glB Γ.sc f && (ixOf Γ.N f).isNone) = true
  case neg =>
    refine pi_none fun σ H Q ⟨ρ, G, er, h⟩ => ?_
    rcases hf with rfl | rfl | rfl <;> exact hn (Wk.iff (show Wk (if (_ && _ && _) = true then _ else R.no) _ from h)).1
  have hn' := hn
  simp only [Bool.and_eq_true] at hn'
  have hg := gd.glo _ hn'.1.2
  by_cases hs : starB a = true
  · refine pi_none fun σ H Q ⟨ρ, G, er, h⟩ => ?_
    rcases hf with rfl | rfl | rfl
    all_goals
      have h := (Wk.iff (show Wk (if (_ && _ && _) = true then _ else R.no) _ from h)).2
      exact (Wk.nif (c := starB a = true) h).1 hs
  have hs := Bool.eq_false_iff.mpr hs
  rcases hf with rfl | rfl | rfl
  · refine PI.imp (pi_range1 hg (gd.blt _ (by decide)) (pa_cons (A.r G₀ H₀ a) pa_nil (star_one hs)) (star_one hs)) fun σ H Q ⟨ρ, G, er, h⟩ => ?_
    have h := (Wk.iff (show Wk (if (_ && _ && _) = true then _ else R.no) _ from h)).2
    have h := (Wk.nif (c := starB a = true) h).2
    refine ⟨ρ, G, er, Wk.mono (Wk.th (x := evR m Γ a ρ) h) fun x h v G1 H1 p1 r1 => ?_⟩
    cases e1 : x.1.int? with
    | none => rw [e1] at h; exact False.elim h
    | some n =>
      rw [e1] at h
      obtain ⟨hz, h⟩ := Wk.iff h
      obtain ⟨z1, z2⟩ := smallI_is hz
      refine ⟨n, by rw [r1.int e1], z1, z2, h _ G1 H1 p1 ?_⟩
      have := itr_ok (κ := κ) (H₀ := H₀) (G := G1) (lo := 0) (hi := n)
      rw [Int.sub_zero] at this
      exact this
  · cases tg with
    | Tuple es j tp =>
      refine PI.imp (pi_enum hg (gd.blt _ (by decide)) (pa_cons (A.l G₀ H₀ a) pa_nil (star_one hs)) (star_one hs)) fun σ H Q ⟨ρ, G, er, h⟩ => ?_
      have h := (Wk.iff (show Wk (if (_ && _ && _) = true then _ else R.no) _ from h)).2
      have h := (Wk.nif (c := starB a = true) h).2
      refine ⟨ρ, G, er, Wk.mono (Wk.th (x := evL m Γ a ρ) h) fun x h v G1 H1 p1 r1 => ?_⟩
      obtain ⟨⟨b, l⟩, ρ1⟩ := x
      cases b with
      | str => exact False.elim h
      | tup => exact False.elim h
      | lst =>
        obtain ⟨c, xs, rfl, r2, r3⟩ := r1
        refine ⟨c, rfl, ⟨xs, ?_⟩, h _ G1 H1 p1 (by rw [gd.hK]; exact ite_ok r3 r2)⟩
        rw [gd.hK]
        exact r3.elim (fun z => SqL.of (p1.er.sub _ _ z)) fun z => p1.er.base.seq z
    | _ =>
      refine pi_none fun σ H Q ⟨ρ, G, er, h⟩ => ?_
      have h := (Wk.iff (show Wk (if (_ && _ && _) = true then _ else R.no) _ from h)).2
      exact (Wk.nif (c := starB a = true) h).2
  · refine pi_none fun σ H Q ⟨ρ, G, er, h⟩ => ?_
    have h := (Wk.iff (show Wk (if (_ && _ && _) = true then _ else R.no) _ from h)).2
    exact (Wk.nif (c := starB a = true) h).2
theorem i_call2 (gd : Gd κ K k X Γ) (A : All κ K k X Γ m) (tg a b : Expr) (f : Str) (p q : Pos) (hf : f = "range" ∨ f = "enumerate" ∨ f = "zip") :
    PI X tg (.Call (.Name f p) [a, b] [] q) (tI κ K G₀ H₀ Γ (m + 1) (tupB tg) (.Call (.Name f p) [a, b] [] q)) := by
  by_cases hn : (nameOk f && glB Γ.sc f && (ixOf Γ.N f).isNone) = true
  case neg =>
    refine pi_none fun σ H Q ⟨ρ, G, er, h⟩ => ?_
    rcases hf with rfl | rfl | rfl <;> exact hn (Wk.iff (show Wk (if (_ && _ && _) = true then _ else R.no) _ from h)).1
  have hn' := hn
  simp only [Bool.and_eq_true] at hn'
  have hg := gd.glo _ hn'.1.2
  by_cases hs : (starB a || starB b) = true
  · refine pi_none fun σ H Q ⟨ρ, G, er, h⟩ => ?_
    rcases hf with rfl | rfl | rfl
    all_goals
      have h := (Wk.iff (show Wk (if (_ && _ && _) = true then _ else R.no) _ from h)).2
      exact (Wk.nif (c := (starB a || starB b) = true) h).1 hs
  have hsf := Bool.eq_false_iff.mpr hs
  rw [Bool.or_eq_false_iff] at hsf
  obtain ⟨s1, s2⟩ := hsf
  rcases hf with rfl | rfl | rfl
  · refine PI.imp (pi_range2 hg (gd.blt _ (by decide)) (pa_cons (A.r G₀ H₀ a) (pa_cons (A.r G₀ H₀ b) pa_nil (star_one s2)) (star_one s1)) (star_two s1 s2) (star_one s2)) fun σ H Q ⟨ρ, G, er, h⟩ => ?_
    have h := (Wk.iff (show Wk (if (_ && _ && _) = true then _ else R.no) _ from h)).2
    have h := (Wk.nif (c := (starB a || starB b) = true) h).2
    refine ⟨ρ, G, er, Wk.mono (Wk.th (x := evR m Γ a ρ) h) fun x h v G1 H1 p1 r1 => ⟨x.2, G1, p1.er, Wk.mono (Wk.th (x := evR m Γ b x.2) h) fun y h w G2 H2 p2 r2 => ?_⟩⟩
    cases e1 : x.1.int? with
    | none => rw [e1] at h; exact False.elim h
    | some i =>
      cases e2 : y.1.int? with
      | none => rw [e1, e2] at h; exact False.elim h
      | some j =>
        rw [e1, e2] at h
        obtain ⟨hz, h⟩ := Wk.iff h
        obtain ⟨z1, z2⟩ := smallI_is hz.1
        obtain ⟨z3, z4⟩ := smallI_is hz.2
        exact ⟨i, j, by rw [r1.int e1, r2.int e2], ⟨z1, z2, z3, z4⟩, h _ G2 H2 (p1.trans p2) itr_ok⟩
  · refine pi_none fun σ H Q ⟨ρ, G, er, h⟩ => ?_
    have h := (Wk.iff (show Wk (if (_ && _ && _) = true then _ else R.no) _ from h)).2
    exact (Wk.nif (c := (starB a || starB b) = true) h).2
  · cases tg with
    | Tuple es j tp =>
      refine PI.imp (pi_zip hg (gd.blt _ (by decide)) (pa_cons (A.l G₀ H₀ a) (pa_cons (A.l G₀ H₀ b) pa_nil (star_one s2)) (star_one s1)) (star_two s1 s2) (star_one s2)) fun σ H Q ⟨ρ, G, er, h⟩ => ?_
      have h := (Wk.iff (show Wk (if (_ && _ && _) = true then _ else R.no) _ from h)).2
      have h := (Wk.nif (c := (starB a || starB b) = true) h).2
      refine ⟨ρ, G, er, Wk.mono (Wk.th (x := evL m Γ a ρ) h) fun x h v G1 H1 p1 r1 => ⟨x.2, G1, p1.er, Wk.mono (Wk.th (x := evL m Γ b x.2) h) fun y h w G2 H2 p2 r2 => ?_⟩⟩
      obtain ⟨⟨bx, l⟩, ρ1⟩ := x
      obtain ⟨⟨by', n⟩, ρ2⟩ := y
      cases bx with
      | str => exact False.elim h
      | tup => exact False.elim h
      | lst =>
        cases by' with
        | str => exact False.elim h
        | tup => exact False.elim h
        | lst =>
          obtain ⟨c, xs, rfl, r3, r4⟩ := r1
          obtain ⟨d, ys, rfl, r5, r6⟩ := r2
          have r4' : G2 c = some (.lst xs) ∨ SqL K H₀ c xs := r4.imp (fun z => p2.gs _ _ z) id
          have r6 : G2 d = some (.lst ys) ∨ SqL K H₀ d ys := r6
          refine ⟨c, d, rfl, ⟨xs, ?_⟩, ⟨ys, ?_⟩, h _ G2 H2 (p1.trans p2) (by rw [gd.hK]; exact itz_ok r4' (r3.same p2.gs) r6 r5)⟩
          · rw [gd.hK]
            exact r4'.elim (fun z => SqL.of (p2.er.sub _ _ z)) fun z => p2.er.base.seq z
          · rw [gd.hK]
            exact r6.elim (fun z => SqL.of (p2.er.sub _ _ z)) fun z => p2.er.base.seq z
    | _ =>
      refine pi_none fun σ H Q ⟨ρ, G, er, h⟩ => ?_
      have h := (Wk.iff (show Wk (if (_ && _ && _) = true then _ else R.no) _ from h)).2
      exact (Wk.nif (c := (starB a || starB b) = true) h).2
theorem i_ok (gd : Gd κ K k X Γ) (A : All κ K k X Γ m) (tg e : Expr) : PI X tg e (tI κ K G₀ H₀ Γ (m + 1) (tupB tg) e) := by
  cases e with
  | Call fn es kws q =>
    cases fn with
    | Name f p =>
      cases kws with
      | nil =>
        by_cases hf : f = "range" ∨ f = "enumerate" ∨ f = "zip"
        · match es with
          | [] => exact pi_none fun σ H Q ⟨ρ, G, er, h⟩ => by rcases hf with rfl | rfl | rfl <;> exact (Wk.iff (show Wk (if (_ && _ && _) = true then _ else R.no) _ from h)).2
          | [a] => exact i_call1 gd A tg a f p q hf
          | [a, b] => exact i_call2 gd A tg a b f p q hf
          | _ :: _ :: _ :: _ => exact pi_none fun σ H Q ⟨ρ, G, er, h⟩ => by rcases hf with rfl | rfl | rfl <;> exact (Wk.iff (show Wk (if (_ && _ && _) = true then _ else R.no) _ from h)).2
        · refine i_gen gd A tg _ fun ρ => ?_
          have hc : ¬ ((decide (f = "range") || decide (f = "enumerate") || decide (f = "zip")) = true) := by
            simp only [Bool.or_eq_true, decide_eq_true_eq]
            intro z
            exact hf (by rcases z with (z | z) | z <;> simp [z])
          show (if (decide (f = "range") || decide (f = "enumerate") || decide (f = "zip")) = true then _ else _) = _
          rw [if_neg hc]
      | cons kw kws => exact i_gen gd A tg _ fun _ => rfl
    | _ => exact i_gen gd A tg _ fun _ => rfl
  | _ => exact i_gen gd A tg _ fun _ => rfl
end
end DE
set_option maxHeartbeats 4000000
namespace DE
open PySem PySem.Spec PyProof.Rows L2
section
variable {κ : KC} {K : PySem.W.Frag} {G₀ H₀ : Hp} {k m : Nat} {X : Cx} {Γ : Ct}
theorem nostar : ∀ {es : List Expr} {m : Nat} {ρ : Env} {F : List Ar × Env → Prop}, Wk (evAs m Γ es ρ) F → es.any starB = false
  | [], _, _, _, _ => rfl
  | e :: l, 0, ρ, F, h => False.elim h
  | e :: l, m + 1, ρ, F, h => by
    obtain ⟨h1, h⟩ := Wk.nif (c := starB e = true) h
    have h := Wk.th (x := evR m Γ e ρ) h
    cases e1 : evR m Γ e ρ with
    | ok x =>
      rw [e1] at h
      have h2 := nostar (es := l) (m := m) (ρ := x.2) (Wk.th (x := evAs m Γ l x.2) h)
      simp only [List.any_cons, Bool.eq_false_iff.mpr h1, h2, Bool.or_self]
    | exc c l => rw [e1] at h; exact False.elim h
    | no => rw [e1] at h; exact False.elim h
theorem star_any {env : PySem.Env} {pos : Pos} : ∀ {es : List Expr}, es.any starB = false → (backTo pos (starEach es env)).any (·.1) = false
  | [], _ => rfl
  | e :: l, h => by
    simp only [List.any_cons, Bool.or_eq_false_iff] at h
    rw [star_one h.1]
    show (false || (backTo pos (starEach l env)).any (·.1)) = false
    rw [star_any h.2]
    rfl
theorem ReR.rv {G H G1 H1 G2 H2 : Hp} {ρ ρ1 : Env} {σ : L2.St} {r : Rv} {v : V} (p : Po κ K G₀ H₀ σ G H ρ G1 H1 ρ1) (hs : Same H1 H2) (gs : Same G1 G2) (sub : Same G2 H2) (new : ∀ a o, G2 a = some o → (∃ o', G1 a = some o') ∨ H1 a = none) (h : ReR κ G2 H2 H1 r v) :
    Po κ K G₀ H₀ σ G H ρ G2 H2 ρ1 ∧ RvR κ K H₀ H G2 H2 ρ1 σ r v := by
  refine ⟨p.trans (Po.more p.er hs gs sub new), ?_⟩
  cases r with
  | val d => exact h
  | tmp ds =>
    obtain ⟨a, xs, rfl, h1, h2, h3, h4⟩ := h
    exact ⟨a, xs, rfl, h1, Same.none p.hs h2, Same.none p.er.base h2, h3, p.er.notOwn h2, h4⟩
  | cell ds => exact False.elim h
  | scr ds => exact False.elim h
theorem ucall_ok (gd : Gd κ K k X Γ) (A : All κ K k X Γ m) (f : Str) (es : List Expr) (p q : Pos) (hok : nameOk f = true) (hgl : glB Γ.sc f = true) (ht : Γ.tab.contains f = true)
    (he : ∀ ρ, evR (m + 1) Γ (.Call (.Name f p) es [] q) ρ = (evAs m Γ es ρ).th fun x => (Γ.cl f x.1).th fun r => .ok (r, x.2)) : PE X (.Call (.Name f p) es [] q) (tR κ K G₀ H₀ Γ (m + 1) (.Call (.Name f p) es [] q)) := by
  by_cases hs : es.any starB = false
  case neg =>
    refine pe_none fun σ H Q ⟨ρ, G, er, h⟩ => ?_
    rw [he] at h
    exact hs (nostar (Wk.th h))
  obtain ⟨fa, fd, ps, F, hm, hk, hb⟩ := gd.fns f ht
  obtain ⟨n1, n2, n3⟩ := nameOk_is hok
  have key : ∀ σ H Q, tR κ K G₀ H₀ Γ (m + 1) (.Call (.Name f p) es [] q) σ H Q → tCall (spF κ K Γ.cl f) [] E0 (tAs κ K G₀ H₀ Γ m es) σ H Q := fun σ H Q ⟨ρ, G, er, h⟩ => by
    rw [he] at h
    refine ⟨ρ, G, er, Wk.mono (Wk.th h) fun x h vs G1 H1 p1 r1 => ?_⟩
    show spF κ K Γ.cl f (vs ++ []) H1 Q E0
    rw [List.append_nil]
    refine ⟨G1, x.1, p1.er.sub, r1, Wk.mono (Wk.th h) fun r h v G2 H2 hs gs sub new rr => ?_⟩
    obtain ⟨z1, z2⟩ := ReR.rv p1 hs gs sub new rr
    exact h v G2 H2 z1 z2
  cases es with
  | nil =>
    refine PE.imp (pe_call0 F gd.room (gd.glo f hgl) hm hk hb .nil pass0 n1) fun σ H Q h => ?_
    obtain ⟨ρ, G, er, h⟩ := key σ H Q h
    have hz : ∀ {m : Nat}, Wk (evAs m Γ [] ρ) (fun x => ∀ vs G' H', Po κ K G₀ H₀ σ G H ρ G' H' x.2 → ArRs κ K G' H' x.1 vs → spF κ K Γ.cl f (vs ++ []) H' Q E0) → spF κ K Γ.cl f ([] ++ []) H Q E0 := fun {m} h => by
      cases m with
      | zero => exact False.elim h
      | succ m => exact h [] G H (Po.refl er) rfl
    exact hz h
  | cons e l =>
    simp only [List.any_cons, Bool.or_eq_false_iff] at hs
    exact PE.imp (pe_call F gd.room (gd.glo f hgl) hm hk hb .nil pass0 (A.as G₀ H₀ (e :: l)) n1 (star_one hs.1) (star_any hs.2)) key
theorem call1_ok (gd : Gd κ K k X Γ) (A : All κ K k X Γ m) (f : Str) (a : Expr) (p q : Pos) (hgl : glB Γ.sc f = true)
    (he : ∀ ρ, evR (m + 1) Γ (.Call (.Name f p) [a] [] q) ρ = if starB a = true then .no else (evR m Γ a ρ).th fun x => (call1 f x.1).th fun r => .ok (r, x.2)) : PE X (.Call (.Name f p) [a] [] q) (tR κ K G₀ H₀ Γ (m + 1) (.Call (.Name f p) [a] [] q)) := by
  by_cases hs : starB a = true
  · refine pe_none fun σ H Q ⟨ρ, G, er, h⟩ => ?_
    rw [he, if_pos hs] at h
    exact h
  have s1 := Bool.eq_false_iff.mpr hs
  have key : ∀ (g : Rv → R Rv), (∀ r, call1 f r = g r) → ∀ σ H Q, tR κ K G₀ H₀ Γ (m + 1) (.Call (.Name f p) [a] [] q) σ H Q → tCB (rC1 κ K G₀ H₀ g) (tCons (tR κ K G₀ H₀ Γ m a) tNil) σ H Q := fun g hg σ H Q ⟨ρ, G, er, h⟩ => by
    rw [he, if_neg hs] at h
    refine ⟨ρ, G, er, Wk.mono (Wk.th h) fun x h v G1 H1 p1 r1 => ?_⟩
    rw [hg] at h
    exact ⟨x.2, σ, G1, H, x.1, v, rfl, p1.er, r1, Wk.mono (Wk.th h) fun z h u G2 H2 p2 r2 => h u G2 H2 (p1.trans p2) (r2.back p1.hs)⟩
  by_cases h1 : f = "len"
  · subst h1
    exact PE.imp (pe_callB (len_ok (G₀ := G₀) (H₀ := H₀) gd) (gd.glo _ hgl) (gd.blt _ (by decide)) PySem.boot_len (pa_cons (A.r G₀ H₀ a) pa_nil (star_one s1)) (by decide) (by decide) (star_one s1) rfl) (key _ fun r => rfl)
  by_cases h2 : f = "list"
  · subst h2
    exact PE.imp (pe_callTy (list_ok (G₀ := G₀) (H₀ := H₀) gd) (gd.glo _ hgl) (gd.blt _ (by decide)) PyProof.Rows.boot_list (pa_cons (A.r G₀ H₀ a) pa_nil (star_one s1)) (by decide) (by decide) (star_one s1) rfl) (key _ fun r => rfl)
  by_cases h3 : f = "int"
  · subst h3
    exact PE.imp (pe_callTy (int_ok (κ := κ) (K := K) (G₀ := G₀) (H₀ := H₀)) (gd.glo _ hgl) (gd.blt _ (by decide)) PyProof.Rows.boot_int (pa_cons (A.r G₀ H₀ a) pa_nil (star_one s1)) (by decide) (by decide) (star_one s1) rfl) (key _ fun r => rfl)
  refine pe_none fun σ H Q ⟨ρ, G, er, h⟩ => ?_
  rw [he, if_neg hs] at h
  have h := Wk.th h
  cases e1 : evR m Γ a ρ with
  | ok x =>
    rw [e1] at h
    have e2 : call1 f x.1 = .no := by unfold call1; rw [if_neg h1, if_neg h2, if_neg h3]
    have h := Wk.th (x := call1 f x.1) h
    rw [e2] at h
    exact h
  | exc c l => rw [e1] at h; exact h
  | no => rw [e1] at h; exact h
theorem call2_ok (gd : Gd κ K k X Γ) (A : All κ K k X Γ m) (f : Str) (a b : Expr) (p q : Pos) (hgl : glB Γ.sc f = true)
    (he : ∀ ρ, evR (m + 1) Γ (.Call (.Name f p) [a, b] [] q) ρ = if (starB a || starB b) = true then .no else (evR m Γ a ρ).th fun x => (evR m Γ b x.2).th fun y => (call2 f x.1 y.1).th fun r => .ok (r, y.2)) : PE X (.Call (.Name f p) [a, b] [] q) (tR κ K G₀ H₀ Γ (m + 1) (.Call (.Name f p) [a, b] [] q)) := by
  by_cases hs : (starB a || starB b) = true
  · refine pe_none fun σ H Q ⟨ρ, G, er, h⟩ => ?_
    rw [he, if_pos hs] at h
    exact h
  have hsf := Bool.eq_false_iff.mpr hs
  rw [Bool.or_eq_false_iff] at hsf
  obtain ⟨s1, s2⟩ := hsf
  have key : ∀ (g : Rv → Rv → R Rv), (∀ r s, call2 f r s = g r s) → ∀ σ H Q, tR κ K G₀ H₀ Γ (m + 1) (.Call (.Name f p) [a, b] [] q) σ H Q → tCB (rC2 κ K G₀ H₀ g) (tCons (tR κ K G₀ H₀ Γ m a) (tCons (tR κ K G₀ H₀ Γ m b) tNil)) σ H Q := fun g hg σ H Q ⟨ρ, G, er, h⟩ => by
    rw [he, if_neg hs] at h
    refine ⟨ρ, G, er, Wk.mono (Wk.th h) fun x h v G1 H1 p1 r1 => ⟨x.2, G1, p1.er, Wk.mono (Wk.th h) fun y h w G2 H2 p2 r2 => ?_⟩⟩
    rw [hg] at h
    exact ⟨y.2, σ, G2, H, H1, x.1, y.1, v, w, rfl, p2.er, r1.keep p2, r2, Wk.mono (Wk.th h) fun z h u G3 H3 p3 r3 => h u G3 H3 (p1.trans (p2.trans p3)) (r3.back (p1.trans p2).hs)⟩
  have sa : (backTo q (starEach [b] X.env)).any (·.1) = false := star_any (by simp [s2])
  by_cases h1 : f = "max"
  · subst h1
    exact PE.imp (pe_callB (max_ok (G₀ := G₀) (H₀ := H₀) gd) (gd.glo _ hgl) (gd.blt _ (by decide)) PyProof.Rows.boot_max (pa_cons (A.r G₀ H₀ a) (pa_cons (A.r G₀ H₀ b) pa_nil (star_one s2)) (star_one s1)) (by decide) (by decide) (star_one s1) sa) (key _ fun r s => rfl)
  by_cases h2 : f = "min"
  · subst h2
    exact PE.imp (pe_callB (min_ok (G₀ := G₀) (H₀ := H₀) gd) (gd.glo _ hgl) (gd.blt _ (by decide)) PyProof.Rows.boot_min (pa_cons (A.r G₀ H₀ a) (pa_cons (A.r G₀ H₀ b) pa_nil (star_one s2)) (star_one s1)) (by decide) (by decide) (star_one s1) sa) (key _ fun r s => rfl)
  refine pe_none fun σ H Q ⟨ρ, G, er, h⟩ => ?_
  rw [he, if_neg hs] at h
  have h := Wk.th h
  cases e1 : evR m Γ a ρ with
  | ok x =>
    rw [e1] at h
    have h := Wk.th (x := evR m Γ b x.2) h
    cases e2 : evR m Γ b x.2 with
    | ok y =>
      rw [e2] at h
      have e3 : call2 f x.1 y.1 = .no := by unfold call2; rw [if_neg h1, if_neg h2]
      have h := Wk.th (x := call2 f x.1 y.1) h
      rw [e3] at h
      exact h
    | exc c l => rw [e2] at h; exact h
    | no => rw [e2] at h; exact h
  | exc c l => rw [e1] at h; exact h
  | no => rw [e1] at h; exact h
def tyN : D → String
  | .non => "NoneType" | .bl _ => "bool" | .int _ => "int" | .str _ => "str" | .lst _ => "list" | .tup _ => "tuple" | .ins .. => "object"
theorem ty_rv {G H Hb : Hp} {ρ : Env} {σ : L2.St} {r : Rv} {x : V} {t : Str} {b : Bool} (er : ER κ K G₀ H₀ G H ρ σ) (h : RvR κ K H₀ Hb G H ρ σ r x) (e : isiR r t = some b) : TyOf K H x (.type (tyN r.data)) := by
  cases r with
  | val d =>
    cases d <;> simp only [RvR, Rep] at h
    · subst h; exact .non
    · subst h; exact .bl _
    · subst h; exact .int _
    · subst h; exact .str _
    · obtain ⟨a, xs, rfl, h1, _⟩ := h; exact .lst (er.sub _ _ h1)
    · obtain ⟨a, xs, rfl, h1, _⟩ := h; exact .tup (er.sub _ _ h1)
    · simp only [isiR, Rv.data, isiD] at e; cases e
  | tmp l => obtain ⟨a, xs, rfl, h1, _⟩ := h; exact .lst h1
  | cell l => obtain ⟨a, xs, rfl, h1, _⟩ := h; exact .lst h1
  | scr l => simp only [isiR] at e; cases e
theorem isi_is {r : Rv} {t : Str} {b : Bool} (e : isiR r t = some b) : ∃ n : String, t = (n : Str) ∧ n ∈ ["int", "bool", "str", "list", "tuple"] ∧ PySem.W.kitOne K (.type (tyN r.data)) (.type n) = some b := by
  have main : ∀ d : D, isiD d t = some b → ∃ n : String, t = (n : Str) ∧ n ∈ ["int", "bool", "str", "list", "tuple"] ∧ PySem.W.kitOne K (.type (tyN d)) (.type n) = some b := fun d e => by
    have e' := e
    unfold isiD at e
    cases d <;> dsimp only at e
    case ins => cases e
    all_goals
      split at e
      · rename_i ht; cases e; exact ⟨"int", ht, by decide, rfl⟩
      split at e
      · rename_i ht; cases e; exact ⟨"bool", ht, by decide, rfl⟩
      split at e
      · rename_i ht; cases e; exact ⟨"str", ht, by decide, rfl⟩
      split at e
      · rename_i ht; cases e; exact ⟨"list", ht, by decide, rfl⟩
      split at e
      · rename_i ht; cases e; exact ⟨"tuple", ht, by decide, rfl⟩
      cases e
  cases r with
  | val d => exact main d e
  | tmp l => exact main (.lst l) e
  | cell l => exact main (.lst l) e
  | scr l => simp only [isiR] at e; cases e
theorem five_inj : ∀ n ∈ ["int", "bool", "str", "list", "tuple"], ∀ n' ∈ ["int", "bool", "str", "list", "tuple"], (Str.ofString n) = (Str.ofString n') → n = n' := by decide +kernel
theorem isi_ok (gd : Gd κ K k X Γ) (A : All κ K k X Γ m) (a : Expr) (t : Str) (p tp q : Pos) (hgl : glB Γ.sc "isinstance" = true)
    (he : ∀ ρ, evR (m + 1) Γ (.Call (.Name "isinstance" p) [a, .Name t tp] [] q) ρ = if (nameOk t && glB Γ.sc t && (ixOf Γ.N t).isNone && !starB a) = true then (evR m Γ a ρ).th fun x => (R.of (isiR x.1 t)).th fun b => .ok (.val (.bl b), x.2) else .no) :
    PE X (.Call (.Name "isinstance" p) [a, .Name t tp] [] q) (tR κ K G₀ H₀ Γ (m + 1) (.Call (.Name "isinstance" p) [a, .Name t tp] [] q)) := by
  by_cases hc : (nameOk t && glB Γ.sc t && (ixOf Γ.N t).isNone && !starB a) = true
  case neg =>
    refine pe_none fun σ H Q ⟨ρ, G, er, h⟩ => ?_
    rw [he, if_neg hc] at h
    exact h
  have hc' := hc
  simp only [Bool.and_eq_true, Bool.not_eq_true'] at hc'
  obtain ⟨⟨⟨c1, c2⟩, c3⟩, s1⟩ := hc'
  have key : ∀ n : String, n ∈ ["int", "bool", "str", "list", "tuple"] → t = (n : Str) → ∀ σ H Q, tR κ K G₀ H₀ Γ (m + 1) (.Call (.Name "isinstance" p) [a, .Name t tp] [] q) σ H Q →
      tCB (fun vs H Q => ∃ x n t b, vs = [x, .ty n] ∧ TyOf X.K H x t ∧ PySem.W.kitOne X.K t (.type n) = some b ∧ Q (.bl b) H) (tCons (tR κ K G₀ H₀ Γ m a) (tCons (tC (.ty n)) tNil)) σ H Q := fun n hm hn σ H Q ⟨ρ, G, er, h⟩ => by
    rw [he, if_pos hc] at h
    refine ⟨ρ, G, er, Wk.mono (Wk.th h) fun x h v G1 H1 p1 r1 => ?_⟩
    obtain ⟨b, e1, h⟩ := Wk.of (Wk.th h)
    obtain ⟨n', hn', hm', kt⟩ := isi_is (K := K) e1
    have : n = n' := five_inj n hm n' hm' (hn.symm.trans hn')
    subst this
    exact ⟨v, n, _, b, rfl, by rw [gd.hK]; exact ty_rv p1.er r1 e1, by rw [gd.hK]; exact kt, h _ G1 H1 p1 (by simp only [RvR, Rep])⟩
  have go : ∀ n : String, n ∈ ["int", "bool", "str", "list", "tuple"] → t = (n : Str) → (hb : PE X (.Name t tp) (tC (.ty n))) → PE X (.Call (.Name "isinstance" p) [a, .Name t tp] [] q) (tR κ K G₀ H₀ Γ (m + 1) (.Call (.Name "isinstance" p) [a, .Name t tp] [] q)) := fun n hm hn hb =>
    PE.imp (pe_callB call_isi (gd.glo _ hgl) (gd.blt _ (by decide)) PyProof.Rows.boot_isinstance (pa_cons (A.r G₀ H₀ a) (pa_cons hb pa_nil rfl) (star_one s1)) (by decide) (by decide) (star_one s1) rfl) (key n hm hn)
  by_cases h1 : t = "int"
  · subst h1; exact go "int" (by decide) rfl (pe_bltn (gd.glo _ c2) (gd.blt _ (by decide)) PyProof.Rows.boot_int rfl)
  by_cases h2 : t = "bool"
  · subst h2; exact go "bool" (by decide) rfl (pe_bltn (gd.glo _ c2) (gd.blt _ (by decide)) PyProof.Rows.boot_bool rfl)
  by_cases h3 : t = "str"
  · subst h3; exact go "str" (by decide) rfl (pe_bltn (gd.glo _ c2) (gd.blt _ (by decide)) PyProof.Rows.boot_str rfl)
  by_cases h4 : t = "list"
  · subst h4; exact go "list" (by decide) rfl (pe_bltn (gd.glo _ c2) (gd.blt _ (by decide)) PyProof.Rows.boot_list rfl)
  by_cases h5 : t = "tuple"
  · subst h5; exact go "tuple" (by decide) rfl (pe_bltn (gd.glo _ c2) (gd.blt _ (by decide)) PyProof.Rows.boot_tuple rfl)
  refine pe_none fun σ H Q ⟨ρ, G, er, h⟩ => ?_
  rw [he, if_pos hc] at h
  have h := Wk.th h
  cases e1 : evR m Γ a ρ with
  | ok x =>
    rw [e1] at h
    obtain ⟨b, e2, h⟩ := Wk.of (Wk.th (x := R.of (isiR x.1 t)) h)
    obtain ⟨n, hn, hm, _⟩ := isi_is (K := K) e2
    simp only [List.mem_cons, List.not_mem_nil, or_false] at hm
    rcases hm with rfl | rfl | rfl | rfl | rfl
    · exact h1 hn
    · exact h2 hn
    · exact h3 hn
    · exact h4 hn
    · exact h5 hn
  | exc c l => rw [e1] at h; exact h
  | no => rw [e1] at h; exact h
end
end DE
set_option maxHeartbeats 4000000
namespace DE
open PySem PySem.Spec PyProof.Rows L2
def gT (κ : KC) (K : PySem.W.Frag) (Γ : Ct) (tg : Expr) : TG := fun v σ H Q => ∃ (G₀ H₀ : Hp) (ρ : Env) (G : Hp) (d : D), ER κ K G₀ H₀ G H ρ σ ∧ Rep κ G d v ∧ Wk (asgD Γ tg d ρ) fun ρ' => ∀ σ', ER κ K G₀ H₀ G H ρ' σ' → Q σ' H
def gN (κ : KC) (K : PySem.W.Frag) (Γ : Ct) (x : Str) : TG := fun v σ H Q => ∃ (G₀ H₀ : Hp) (ρ : Env) (G : Hp) (d : D), ER κ K G₀ H₀ G H ρ σ ∧ Rep κ G d v ∧ Wk (setN Γ x d ρ) fun ρ' => ∀ σ', ER κ K G₀ H₀ G H ρ' σ' → Q σ' H
def gNs (κ : KC) (K : PySem.W.Frag) (Γ : Ct) (xs : List Str) : TGs := fun vs σ H Q => ∃ (G₀ H₀ : Hp) (ρ : Env) (G : Hp) (ds : List D), ER κ K G₀ H₀ G H ρ σ ∧ Reps κ G ds vs ∧ Wk (setNs Γ xs ds ρ) fun ρ' => ∀ σ', ER κ K G₀ H₀ G H ρ' σ' → Q σ' H
theorem PG.imp {X : Cx} {tg : Expr} {t t' : TG} (h : PG X tg t') (i : ∀ v σ H Q, t v σ H Q → t' v σ H Q) : PG X tg t := fun pins s σ H v u Q I r hw => h pins s σ H v u Q I r (i v σ H Q hw)
theorem PGs.imp {X : Cx} {tg : List Expr} {t t' : TGs} (h : PGs X tg t') (i : ∀ v σ H Q, t v σ H Q → t' v σ H Q) : PGs X tg t := fun pins s σ H v u Q I r hw => h pins s σ H v u Q I r (i v σ H Q hw)
theorem pg_none {X : Cx} {tg : Expr} {t : TG} (h : ∀ v σ H Q, ¬ t v σ H Q) : PG X tg t := fun pins s σ H v u Q I r hw => absurd hw (h v σ H Q)
section
variable {κ : KC} {K : PySem.W.Frag} {G₀ H₀ : Hp} {k m : Nat} {X : Cx} {Γ : Ct}
theorem gN_ok (gd : Gd κ K k X Γ) (x : Str) (pos : Pos) : PG X (.Name x pos) (gN κ K Γ x) := by
  cases hi : ixOf Γ.N x with
  | none =>
    refine pg_none fun v σ H Q ⟨G₀, H₀, ρ, G, d, er, r, h⟩ => ?_
    unfold setN at h
    rw [hi] at h
    exact h
  | some i =>
    by_cases hc : (locB Γ.sc x && nameOk x) = true
    case neg =>
      refine pg_none fun v σ H Q ⟨G₀, H₀, ρ, G, d, er, r, h⟩ => ?_
      unfold setN at h
      rw [hi] at h
      exact hc (Wk.iff (Wk.th (x := R.of (some i)) h)).1
    have hc' := hc
    rw [Bool.and_eq_true] at hc'
    obtain ⟨l1, l2⟩ := gd.loc x hc'.1
    refine PG.imp (pg_name (i := i) (by rw [gd.hN]; exact gd.nd) (by rw [gd.hN]; exact ixOf_at hi) l1 l2) fun v σ H Q ⟨G₀, H₀, ρ, G, d, er, r, h⟩ => ?_
    unfold setN at h
    rw [hi] at h
    exact (Wk.iff (Wk.th (x := R.of (some i)) h)).2 _ (er.setVal r)
theorem tgN_cons {e : Expr} {es : List Expr} {j : Nat} {p : Pos} {xs : List Str} (h : tgNames (.Tuple (e :: es) j p) = some xs) : ∃ x pos r, e = .Name x pos ∧ xs = x :: r ∧ tgNames (.Tuple es j p) = some r := by
  have q0 : tgNames (.Tuple es j p) = (es.foldr (fun e r => match e, r with | .Name x _, some l => some (x :: l) | _, _ => none) (some []) : Option (List Str)) := rfl
  cases e with
  | Name x pos =>
    cases q : (es.foldr (fun e r => match e, r with | .Name x _, some l => some (x :: l) | _, _ => none) (some []) : Option (List Str)) with
    | none =>
      have h' : (match (Expr.Name x pos : Expr), (es.foldr (fun e r => match e, r with | .Name x _, some l => some (x :: l) | _, _ => none) (some []) : Option (List Str)) with | .Name x _, some l => some (x :: l) | _, _ => none) = some xs := h
      rw [q] at h'
      cases h'
    | some l =>
      have h' : (match (Expr.Name x pos : Expr), (es.foldr (fun e r => match e, r with | .Name x _, some l => some (x :: l) | _, _ => none) (some []) : Option (List Str)) with | .Name x _, some l => some (x :: l) | _, _ => none) = some xs := h
      rw [q] at h'
      cases h'
      exact ⟨x, pos, l, rfl, rfl, q0.trans q⟩
  | _ => cases h
theorem gNs_ok (gd : Gd κ K k X Γ) {j : Nat} {p : Pos} : ∀ {es : List Expr} {xs : List Str}, tgNames (.Tuple es j p) = some xs → PGs X es (gNs κ K Γ xs)
  | [], xs, h => by
    have e : xs = [] := by unfold tgNames at h; cases h; rfl
    subst e
    refine PGs.imp pgs_nil fun vs σ H Q ⟨G₀, H₀, ρ, G, ds, er, r, h⟩ => ?_
    cases ds with
    | nil => simp only [Reps] at r; exact ⟨r, h σ er⟩
    | cons d ds => exact False.elim h
  | e :: es, xs, h => by
    obtain ⟨x, pos, r, rfl, rfl, h'⟩ := tgN_cons h
    refine PGs.imp (pgs_cons (gN_ok gd x pos) (gNs_ok gd h')) fun vs σ H Q ⟨G₀, H₀, ρ, G, ds, er, rr, h⟩ => ?_
    cases ds with
    | nil => exact False.elim h
    | cons d ds =>
      simp only [Reps] at rr
      obtain ⟨v, vr, rfl, r1, r2⟩ := rr
      exact ⟨v, vr, rfl, G₀, H₀, ρ, G, d, er, r1, Wk.mono (Wk.th (x := setN Γ x d ρ) h) fun ρ1 h σ1 er1 => ⟨G₀, H₀, ρ1, G, ds, er1, r2, h⟩⟩
theorem tgs_plain {env : PySem.Env} {j : Nat} {p : Pos} : ∀ {es : List Expr} {xs : List Str}, tgNames (.Tuple es j p) = some xs → (assignEach es env).length = xs.length ∧ (assignEach es env).findIdx? (·.1) = none
  | [], xs, h => by unfold tgNames at h; cases h; exact ⟨rfl, rfl⟩
  | e :: es, xs, h => by
    obtain ⟨x, pos, r, rfl, rfl, h'⟩ := tgN_cons h
    obtain ⟨h1, h2⟩ := tgs_plain (env := env) h'
    have e : assignEach (.Name x pos :: es) env = (false, assign (.Name x pos) env) :: assignEach es env := rfl
    rw [e]
    refine ⟨by simp [h1], ?_⟩
    rw [List.findIdx?_cons]
    simp [h2]
theorem setNs_len {xs : List Str} : ∀ {ds : List D} {ρ : Env} {F : Env → Prop}, Wk (setNs Γ xs ds ρ) F → ds.length = xs.length := by
  induction xs with
  | nil => intro ds ρ F h; cases ds with
    | nil => rfl
    | cons d ds => exact False.elim h
  | cons x xs ih => intro ds ρ F h; cases ds with
    | nil => exact False.elim h
    | cons d ds =>
      have h := Wk.th (x := setN Γ x d ρ) h
      cases e : setN Γ x d ρ with
      | ok ρ1 => rw [e] at h; simp [ih h]
      | exc c l => rw [e] at h; exact False.elim h
      | no => rw [e] at h; exact False.elim h
theorem gT_ok (gd : Gd κ K k X Γ) (tg : Expr) : PG X tg (gT κ K Γ tg) := by
  cases tg with
  | Name x pos => exact gN_ok gd x pos
  | Tuple es j p =>
    cases hx : tgNames (.Tuple es j p) with
    | none =>
      refine pg_none fun v σ H Q ⟨G₀, H₀, ρ, G, d, er, r, h⟩ => ?_
      have h : Wk ((R.of (tgNames (.Tuple es j p))).th _) _ := h
      rw [hx] at h
      exact h
    | some xs =>
      obtain ⟨t1, t2⟩ := tgs_plain (env := X.env) hx
      refine PG.imp (pg_tup (n := xs.length) gd.calm (gNs_ok gd hx) t1 t2) fun v σ H Q ⟨G₀, H₀, ρ, G, d, er, r, h⟩ => ?_
      have h : Wk ((R.of (tgNames (.Tuple es j p))).th _) _ := h
      rw [hx] at h
      cases d with
      | tup ds =>
        have h := (Wk.nif (c := es.any starB = true) h).2
        simp only [Rep] at r
        obtain ⟨a, ys, rfl, r1, r2⟩ := r
        exact ⟨a, ys, rfl, SqT.of (er.sub _ _ r1), by rw [← r2.len]; exact setNs_len h, G₀, H₀, ρ, G, ds, er, r2, h⟩
      | _ => exact False.elim h
  | _ => exact pg_none fun v σ H Q ⟨G₀, H₀, ρ, G, d, er, r, h⟩ => h
theorem rel_gl {env : PySem.Env} : ∀ {names : List (Str × NameKind)} {x : Str}, names.lookup x = some .globalImplicit →
    (names.map fun (n, k) => if (k == NameKind.free && env.scope.kind == .function && env.kindOf n == some .cell) then (n, NameKind.cell) else (n, k)).lookup x = some .globalImplicit
  | [], _, h => by simp at h
  | (n, k) :: r, x, h => by
    simp only [List.map_cons]
    by_cases hx : x = n
    · subst hx
      simp [List.lookup_cons] at h
      subst h
      rw [if_neg (by simp)]
      simp [List.lookup_cons]
    · have hb : (x == n) = false := by simpa using hx
      rw [List.lookup_cons, hb] at h
      have ih := rel_gl (env := env) h
      by_cases hc : (k == NameKind.free && env.scope.kind == .function && env.kindOf n == some .cell) = true
      · rw [if_pos hc]; simp only [List.lookup_cons, hb]; exact ih
      · rw [if_neg hc]; simp only [List.lookup_cons, hb]; exact ih
theorem blk_scope (gd : Gd κ K k X Γ) {own : List Str} {fr : List Nat} {sc : Scope} (h : blkCheck Γ.sc Γ.N fr sc = true) : BlkScope X own fr sc := by
  unfold blkCheck at h
  simp only [Bool.and_eq_true, List.all_eq_true] at h
  obtain ⟨⟨hk, hn⟩, hf⟩ := h
  refine ⟨by simpa using hk, fun x hx => by simpa using (hn x hx).1.1, fun x hx e => ?_, fun x hx e => ?_, fun i hi => ?_⟩
  · have := (hn x hx).1.2
    simpa [e] using this
  · have := (hn x hx).2
    exact gd.cf x.1 (by simpa [e] using this)
  · rw [gd.hN]
    simpa using hf i hi
theorem blk_gd (gd : Gd κ K k X Γ) {own : List Str} {fr : List Nat} {sc : Scope} (B : BlkScope X own fr sc) (hnd : (own ++ fr.map fun i => Γ.N.getD i "").Nodup) (cl : List (Str × Addr)) (C : Addr) (fp : List Addr) (s2 : Shared) (H2 : Hp) :
    Gd κ K k (blk X (blkN X own fr) sc cl C fp s2 H2) { Γ with N := own ++ fr.map fun i => Γ.N.getD i "", sc := sc } where
  hN := by show blkN X own fr = _; unfold blkN; rw [gd.hN]
  vis := fun x h => by
    have h := vis_is h
    rcases h with h | h | h
    · exact .inl (lookup_relabel_local h)
    · exact absurd rfl (B.nocell _ (PySem.mem_of_lookup h))
    · rcases rel_free (env := X.env) h with z | z
      · exact .inr (.inl z)
      · exact .inr (.inr z)
  loc := fun x h => by
    have h := loc_is h
    rcases h with h | h
    · have z : (relabel sc X.env).names.lookup x = some .local := lookup_relabel_local h
      exact ⟨.inl z, .inr z⟩
    · exact absurd rfl (B.nocell _ (PySem.mem_of_lookup h))
  glo := fun x h => by
    unfold glB at h
    exact rel_gl (env := X.env) (by simpa using h)
  cf := fun x h => by
    rcases h with h | h
    · exact absurd rfl (B.nocell _ (PySem.mem_of_lookup h))
    · exact rel_free (env := X.env) h
  nd := hnd
  calm := gd.calm
  hK := gd.hK
  room := gd.room
  fns := gd.fns
  blt := gd.blt
  gl := gd.gl
theorem blk_er {G H : Hp} {ρ : Env} {σ : L2.St} (er : ER κ K G₀ H₀ G H ρ σ) (own : List Str) (fr : List Nat) : ER κ K G H G H (blkEnv own fr ρ) (blkSt own fr σ) := by
  refine ⟨by simp [blkEnv, blkSt], er.sub, fun _ _ e => e, fun _ _ e => e, fun a o e => .inl ⟨o, e⟩, fun i s e => ?_, fun i j a l n e1 => ?_⟩
  · unfold blkEnv at e
    unfold blkSt
    by_cases hi : i < own.length
    · rw [List.getElem?_append_left (by simpa using hi)] at e
      rw [List.getElem?_map] at e
      obtain ⟨_, _, rfl⟩ := Option.map_eq_some_iff.mp e
      trivial
    · rw [List.getElem?_append_right (by simpa using hi)] at e ⊢
      simp only [List.length_map] at e ⊢
      rw [List.getElem?_map] at e ⊢
      obtain ⟨j, e1, rfl⟩ := Option.map_eq_some_iff.mp e
      rw [e1]
      show SlR κ K G H H (lend (ρ.getD j .no)) (some (σ[j]?).join)
      cases q : ρ[j]? with
      | none => rw [List.getD_eq_getElem?_getD, q]; trivial
      | some s =>
        rw [List.getD_eq_getElem?_getD, q]
        have w := er.sl j s q
        cases s with
        | no => trivial
        | val d => obtain ⟨v, z, r⟩ := w; exact ⟨v, by rw [z]; rfl, r⟩
        | own l => obtain ⟨a, xs, z, r1, r2, r3, r4⟩ := w; exact ⟨a, xs, by rw [z]; rfl, r1, r4⟩
        | bor l => obtain ⟨a, xs, z, r1, r4⟩ := w; exact ⟨a, xs, by rw [z]; rfl, er.base _ _ r1, r4⟩
        | scr l => obtain ⟨a, xs, z, r1, r4⟩ := w; exact ⟨a, xs, by rw [z]; rfl, er.base.seq r1, r4⟩
  · exfalso
    unfold blkEnv at e1
    by_cases hi : i < own.length
    · rw [List.getElem?_append_left (by simpa using hi), List.getElem?_map] at e1
      obtain ⟨_, _, z⟩ := Option.map_eq_some_iff.mp e1
      cases z
    · rw [List.getElem?_append_right (by simpa using hi), List.getElem?_map] at e1
      obtain ⟨j, _, z⟩ := Option.map_eq_some_iff.mp e1
      cases q : ρ.getD j .no <;> rw [q] at z <;> cases z
theorem fold_is {it : Expr} (h : foldOk it = true) (env : PySem.Env) : ∀ x, foldedSetIterable it env x = pure x := by
  intro x
  cases it <;> first | rfl | (simp [foldOk] at h)
theorem pe_ex (A : All κ K k X Γ m) (e : Expr) : PE X e (fun σ H Q => ∃ G₀ H₀, tE κ K G₀ H₀ Γ m e σ H Q) := fun pins s σ H Q I ⟨G₀, H₀, h⟩ => A.e G₀ H₀ e pins s σ H Q I h
theorem pif_ex (A : All κ K k X Γ m) (es : List Expr) : PIf X es (fun σ H Q => ∃ G₀ H₀, tF κ K G₀ H₀ Γ m es σ H Q) := fun pins s σ H Q I ⟨G₀, H₀, h⟩ => A.f G₀ H₀ es pins s σ H Q I h
structure CompS (Γ : Ct) (tg it : Expr) (sc : Scope) (own : List Str) : Prop where
  nm : tgNames tg = some own
  chk : blkCheck Γ.sc Γ.N (frOf Γ.N sc) sc = true
  nd : (own ++ (frOf Γ.N sc).map fun i => Γ.N.getD i "").Nodup
  fold : foldOk it = true
theorem comp_or (elt tg it : Expr) (ifs : List Expr) (sc : Scope) (pos : Pos) : (∃ own, CompS Γ tg it sc own) ∨ ∀ σ H Q, ¬ tR κ K G₀ H₀ Γ (m + 1) (.ListComp elt [⟨tg, it, ifs, 0⟩] sc pos) σ H Q := by
  cases hown : tgNames tg with
  | none =>
    refine .inr fun σ H Q ⟨ρ, G, er, h⟩ => ?_
    have h := (Wk.iff (show Wk (if (0 : Int) = 0 then _ else R.no) _ from h)).2
    have h := Wk.th (x := evI m Γ (tupB tg) it ρ) h
    cases e1 : evI m Γ (tupB tg) it ρ with
    | ok x =>
      rw [e1] at h
      obtain ⟨own, e2, _⟩ := Wk.of (Wk.th (x := R.of (tgNames tg)) h)
      rw [hown] at e2
      cases e2
    | exc c l => rw [e1] at h; exact h
    | no => rw [e1] at h; exact h
  | some own =>
    by_cases hst : (blkCheck Γ.sc Γ.N (frOf Γ.N sc) sc && decide (own ++ (frOf Γ.N sc).map fun i => Γ.N.getD i "").Nodup && foldOk it) = true
    case neg =>
      refine .inr fun σ H Q ⟨ρ, G, er, h⟩ => ?_
      have h := (Wk.iff (show Wk (if (0 : Int) = 0 then _ else R.no) _ from h)).2
      have h := Wk.th (x := evI m Γ (tupB tg) it ρ) h
      cases e1 : evI m Γ (tupB tg) it ρ with
      | ok x =>
        rw [e1] at h
        obtain ⟨own', e2, h⟩ := Wk.of (Wk.th (x := R.of (tgNames tg)) h)
        rw [hown] at e2
        cases e2
        obtain ⟨hc, _⟩ := Wk.iff h
        simp only [Bool.and_eq_true] at hc hst
        exact hst ⟨hc.1.1, hc.2⟩
      | exc c l => rw [e1] at h; exact h
      | no => rw [e1] at h; exact h
    simp only [Bool.and_eq_true] at hst
    exact .inl ⟨own, hown, hst.1.1, of_decide_eq_true hst.1.2, hst.2⟩
theorem comp_imp {own : List Str} (elt tg it : Expr) (ifs : List Expr) (sc : Scope) (pos : Pos) (S : CompS Γ tg it sc own) : ∀ σ H Q, tR κ K G₀ H₀ Γ (m + 1) (.ListComp elt [⟨tg, it, ifs, 0⟩] sc pos) σ H Q →
    tComp own (frOf Γ.N sc) (tI κ K G₀ H₀ Γ m (tupB tg) it) (gT κ K { Γ with N := own ++ (frOf Γ.N sc).map fun i => Γ.N.getD i "", sc := sc } tg) (fun σ H Q => ∃ G₀ H₀, tF κ K G₀ H₀ { Γ with N := own ++ (frOf Γ.N sc).map fun i => Γ.N.getD i "", sc := sc } m ifs σ H Q)
      (fun σ H Q => ∃ G₀ H₀, tE κ K G₀ H₀ { Γ with N := own ++ (frOf Γ.N sc).map fun i => Γ.N.getD i "", sc := sc } m elt σ H Q) σ H Q := fun σ H Q ⟨ρ, G, er, h⟩ => by
  have h := (Wk.iff (show Wk (if (0 : Int) = 0 then _ else R.no) _ from h)).2
  refine ⟨ρ, G, er, Wk.mono (Wk.th (x := evI m Γ (tupB tg) it ρ) h) fun x h J G1 H1 p1 it1 => ?_⟩
  obtain ⟨own', e2, h⟩ := Wk.of (Wk.th (x := R.of (tgNames tg)) h)
  rw [S.nm] at e2
  cases e2
  obtain ⟨hc, h⟩ := Wk.iff h
  simp only [Bool.and_eq_true] at hc
  have hz : x.1.length ≤ sizeLine := by simpa using hc.1.2
  have h := Wk.th h
  refine ⟨fun i mm ys σ' H' => mm = x.1.length - i ∧ i ≤ x.1.length ∧ ∃ ρb Gb ds, ER κ K G1 H1 Gb H' ρb σ' ∧ Reps κ Gb ds ys ∧ ds.length ≤ i ∧
      Wk (compL (asgD { Γ with N := own ++ (frOf Γ.N sc).map fun i => Γ.N.getD i "", sc := sc } tg) (fun ρ1 => evIf m { Γ with N := own ++ (frOf Γ.N sc).map fun i => Γ.N.getD i "", sc := sc } ifs ρ1) (fun ρ1 => evE m { Γ with N := own ++ (frOf Γ.N sc).map fun i => Γ.N.getD i "", sc := sc } elt ρ1) (x.1.drop i) ρb ds)
        (fun l => ∀ v G' H', Po κ K G₀ H₀ σ G H ρ G' H' x.2 → RvR κ K H₀ H G' H' x.2 σ (.tmp l) v → Q v H'),
    ⟨x.1.length, by simp, Nat.zero_le _, blkEnv own (frOf Γ.N sc) x.2, G1, [], blk_er p1.er own (frOf Γ.N sc), .nil, Nat.le_refl _, ?_⟩, ?_⟩
  · rw [List.drop_zero]
    exact h
  rintro i mm ys σ' H' ⟨rfl, hi, ρb, Gb, ds, erb, rds, hdl, hw⟩
  have it2 := it1 i Gb H' erb.g0 (fun b o e => erb.base b o (p1.er.base b o e)) erb.sub
  by_cases hlt : i < x.1.length
  · obtain ⟨go, yl⟩ := it2.1 x.1[i] (List.getElem?_eq_getElem hlt)
    have hyl := rds.len
    refine .inr ⟨go, by omega, _, fun ys' σ2 H2 w => ⟨x.1.length - (i + 1), by omega, w⟩, fun v H2 hy => ?_⟩
    obtain ⟨G', hs, gs, sub, new, rep⟩ := yl v H2 hy
    have p2 := Po.more erb hs gs sub new
    rw [List.drop_eq_getElem_cons hlt] at hw
    refine ⟨G1, H1, ρb, G', x.1[i], p2.er, rep, Wk.mono (Wk.th hw) fun ρ1 hw σ1 er1 => ⟨G1, H1, ρ1, G', er1, Wk.mono (Wk.th hw) fun bt hw G2 H3 p3 => ?_⟩⟩
    obtain ⟨b, ρ2⟩ := bt
    cases b with
    | true =>
      rw [if_pos rfl]
      refine ⟨G1, H1, ρ2, G2, p3.er, Wk.mono (Wk.th hw) fun y hw w G3 H4 p4 rep4 => ⟨rfl, hlt, y.2, G3, ds ++ [y.1], p4.er, ?_, by simp; omega, (Wk.iff hw).2⟩⟩
      exact (((rds.same gs).same p3.gs).same p4.gs).snoc rep4
    | false =>
      rw [if_neg (fun z => by cases z)]
      exact ⟨rfl, hlt, ρ2, G2, ds, p3.er, (rds.same gs).same p3.gs, by omega, hw⟩
  · have e : i = x.1.length := by omega
    subst e
    refine .inl ⟨it2.2 rfl, fun p hp => ?_⟩
    rw [List.drop_length] at hw
    have p2 := p1.trans (Po.more p1.er erb.base erb.g0 erb.sub erb.fresh)
    obtain ⟨z1, z2⟩ := p2.er.newList hp rds
    exact hw _ _ _ (p2.trans z1) (z2.back p2.hs)
theorem comp_ok (gd : Gd κ K k X Γ) (A : All κ K k X Γ m) (ih : ∀ X' Γ', Gd κ K k X' Γ' → All κ K k X' Γ' m) (elt tg it : Expr) (ifs : List Expr) (sc : Scope) (pos : Pos) :
    PE X (.ListComp elt [⟨tg, it, ifs, 0⟩] sc pos) (tR κ K G₀ H₀ Γ (m + 1) (.ListComp elt [⟨tg, it, ifs, 0⟩] sc pos)) := by
  rcases comp_or (κ := κ) (K := K) (G₀ := G₀) (H₀ := H₀) (m := m) (Γ := Γ) elt tg it ifs sc pos with ⟨own, S⟩ | no
  · have B : BlkScope X own (frOf Γ.N sc) sc := blk_scope gd S.chk
    exact PE.imp (pe_comp own (frOf Γ.N sc) gd.calm B (A.i G₀ H₀ tg it) (fun cl C fp s2 H2 => gT_ok (blk_gd gd B S.nd cl C fp s2 H2) tg) (fun cl C fp s2 H2 => pif_ex (ih _ _ (blk_gd gd B S.nd cl C fp s2 H2)) ifs)
      (fun cl C fp s2 H2 => pe_ex (ih _ _ (blk_gd gd B S.nd cl C fp s2 H2)) elt) (fold_is S.fold X.env)) (comp_imp elt tg it ifs sc pos S)
  · exact pe_none no
theorem call_ok (gd : Gd κ K k X Γ) (A : All κ K k X Γ m) (f : Str) (es : List Expr) (p q : Pos) : PE X (.Call (.Name f p) es [] q) (tR κ K G₀ H₀ Γ (m + 1) (.Call (.Name f p) es [] q)) := by
  by_cases hn : (nameOk f && glB Γ.sc f && (ixOf Γ.N f).isNone) = true
  case neg => exact pe_none fun σ H Q ⟨ρ, G, er, h⟩ => hn (Wk.iff (show Wk (if (nameOk f && glB Γ.sc f && (ixOf Γ.N f).isNone) = true then _ else R.no) _ from h)).1
  have hn' := hn
  simp only [Bool.and_eq_true] at hn'
  obtain ⟨⟨h1, h2⟩, h3⟩ := hn'
  by_cases hi : f = "isinstance"
  · subst hi
    match es with
    | [a, b] =>
      have non : (∀ ρ, evR (m + 1) Γ (.Call (.Name "isinstance" p) [a, b] [] q) ρ = .no) → PE X (.Call (.Name "isinstance" p) [a, b] [] q) (tR κ K G₀ H₀ Γ (m + 1) (.Call (.Name "isinstance" p) [a, b] [] q)) := fun he => pe_none fun σ H Q ⟨ρ, G, er, h⟩ => by
        rw [he] at h
        exact h
      cases b with
      | Name t tp =>
        refine isi_ok gd A a t p tp q h2 fun ρ => ?_
        show (if (nameOk "isinstance" && glB Γ.sc "isinstance" && (ixOf Γ.N "isinstance").isNone) = true then _ else R.no) = _
        rw [if_pos hn]
        rfl
      | _ =>
        refine non fun ρ => ?_
        show (if (nameOk "isinstance" && glB Γ.sc "isinstance" && (ixOf Γ.N "isinstance").isNone) = true then _ else R.no) = _
        rw [if_pos hn]
        rfl
    | [] => exact pe_none fun σ H Q ⟨ρ, G, er, h⟩ => (Wk.iff (show Wk (if (nameOk "isinstance" && glB Γ.sc "isinstance" && (ixOf Γ.N "isinstance").isNone) = true then _ else R.no) _ from h)).2
    | [_] => exact pe_none fun σ H Q ⟨ρ, G, er, h⟩ => (Wk.iff (show Wk (if (nameOk "isinstance" && glB Γ.sc "isinstance" && (ixOf Γ.N "isinstance").isNone) = true then _ else R.no) _ from h)).2
    | a :: b :: c :: l => exact pe_none fun σ H Q ⟨ρ, G, er, h⟩ => (Wk.iff (show Wk (if (nameOk "isinstance" && glB Γ.sc "isinstance" && (ixOf Γ.N "isinstance").isNone) = true then _ else R.no) _ from h)).2
  by_cases ht : Γ.tab.contains f = true
  · refine ucall_ok gd A f es p q h1 h2 ht fun ρ => ?_
    show (if (nameOk f && glB Γ.sc f && (ixOf Γ.N f).isNone) = true then _ else R.no) = _
    rw [if_pos hn, if_neg hi, if_pos ht]
  match es with
  | [a] =>
    refine call1_ok gd A f a p q h2 fun ρ => ?_
    show (if (nameOk f && glB Γ.sc f && (ixOf Γ.N f).isNone) = true then _ else R.no) = _
    rw [if_pos hn, if_neg hi, if_neg ht]
  | [a, b] =>
    refine call2_ok gd A f a b p q h2 fun ρ => ?_
    show (if (nameOk f && glB Γ.sc f && (ixOf Γ.N f).isNone) = true then _ else R.no) = _
    rw [if_pos hn, if_neg hi, if_neg ht]
  | [] =>
    refine pe_none fun σ H Q ⟨ρ, G, er, h⟩ => ?_
    have h := (Wk.iff (show Wk (if (nameOk f && glB Γ.sc f && (ixOf Γ.N f).isNone) = true then _ else R.no) _ from h)).2
    rw [if_neg hi, if_neg ht] at h
    exact h
  | a :: b :: c :: l =>
    refine pe_none fun σ H Q ⟨ρ, G, er, h⟩ => ?_
    have h := (Wk.iff (show Wk (if (nameOk f && glB Γ.sc f && (ixOf Γ.N f).isNone) = true then _ else R.no) _ from h)).2
    rw [if_neg hi, if_neg ht] at h
    exact h
theorem r_ok (gd : Gd κ K k X Γ) (A : All κ K k X Γ m) (ih : ∀ X' Γ', Gd κ K k X' Γ' → All κ K k X' Γ' m) (e : Expr) : PE X e (tR κ K G₀ H₀ Γ (m + 1) e) := by
  cases e with
  | Name x pos => exact nameR_ok gd m x pos
  | Constant c j pos => exact const_ok c j pos
  | BinOp a op b pos => exact binop_ok A a b op pos
  | UnaryOp op a pos =>
    cases op with
    | USub => exact neg_ok A a pos
    | Not => exact notv_ok A a pos
    | _ => exact pe_none fun σ H Q ⟨ρ, G, er, h⟩ => h
  | BoolOp op vs pos =>
    cases vs with
    | nil => exact pe_none fun σ H Q ⟨ρ, G, er, h⟩ => by cases op <;> exact h
    | cons a vs =>
      cases vs with
      | nil => cases op <;> exact PE.imp (pe_one (A.r G₀ H₀ a)) fun σ H Q h => h
      | cons b l =>
        cases op with
        | And => exact and_ok A a b l pos
        | Or => exact or_ok A a b l pos
  | Compare a ops bs pos =>
    cases ops with
    | nil => exact pe_none fun σ H Q ⟨ρ, G, er, h⟩ => h
    | cons op ops =>
      cases ops with
      | nil =>
        cases bs with
        | nil => exact pe_none fun σ H Q ⟨ρ, G, er, h⟩ => h
        | cons b bs =>
          cases bs with
          | nil => exact cmpv_ok gd A a b op pos
          | cons c bs => exact pe_none fun σ H Q ⟨ρ, G, er, h⟩ => h
      | cons op' ops => exact pe_none fun σ H Q ⟨ρ, G, er, h⟩ => h
  | IfExp c a b pos => exact ifx_ok A c a b pos
  | Subscript a b pos => exact sub_ok gd A a b pos
  | List es pos => exact lst_ok A es pos
  | Tuple es j pos => exact tup_ok A es j pos
  | Call fn es kws q =>
    cases fn with
    | Name f p =>
      cases kws with
      | nil => exact call_ok gd A f es p q
      | cons kw kws => exact pe_none fun σ H Q ⟨ρ, G, er, h⟩ => h
    | _ => exact pe_none fun σ H Q ⟨ρ, G, er, h⟩ => h
  | ListComp elt gens sc pos =>
    cases gens with
    | nil => exact pe_none fun σ H Q ⟨ρ, G, er, h⟩ => h
    | cons g gens =>
      obtain ⟨tg, it, ifs, as⟩ := g
      cases gens with
      | nil =>
        by_cases ha : as = 0
        · subst ha
          exact comp_ok gd A ih elt tg it ifs sc pos
        · exact pe_none fun σ H Q ⟨ρ, G, er, h⟩ => ha (Wk.iff (show Wk (if as = 0 then _ else R.no) _ from h)).1
      | cons g' gens => exact pe_none fun σ H Q ⟨ρ, G, er, h⟩ => h
  | _ => exact pe_none fun σ H Q ⟨ρ, G, er, h⟩ => h
theorem all : ∀ (m : Nat) (X : Cx) (Γ : Ct), Gd κ K k X Γ → All κ K k X Γ m
  | 0, _, _, _ => all0
  | m + 1, X, Γ, gd =>
    have A := all m X Γ gd
    ⟨fun G₀ H₀ e => r_ok gd A (all m) e, fun G₀ H₀ e => e_ok gd A e, fun G₀ H₀ e => t_ok gd A e, fun G₀ H₀ es => es_ok A es, fun G₀ H₀ es => as_ok A es, fun G₀ H₀ o => o_ok A o, fun G₀ H₀ es => f_ok A es, fun G₀ H₀ e => l_ok gd A e, fun G₀ H₀ tg e => i_ok gd A tg e⟩
end
end DE
set_option maxHeartbeats 4000000
namespace DE
open PySem PySem.Spec PyProof.Rows L2
inductive Fl where
  | next (ρ : Env) | ret (r : Rv)
def notComp : Expr → Bool
  | .ListComp .. => false
  | .SetComp .. => false
  | .DictComp .. => false
  | _ => true
def notTup : Expr → Bool
  | .Tuple .. => false
  | _ => true
def notSlice : Expr → Bool
  | .Slice .. => false
  | _ => true
def nameX (Γ : Ct) (x : Str) (ρ : Env) : R Rv := if nameOk x then (match ixOf Γ.N x with
  | some i => if visB Γ.sc x then (match ρ[i]? with
    | some (.val d) => .ok (.val d)
    | some (.own l) => .ok (.tmp l)
    | _ => .no) else .no
  | none => if glB Γ.sc x then (match Γ.gl x with | some d => .ok (.val d) | none => .no) else .no) else .no
def evX (m : Nat) (Γ : Ct) (e : Expr) (ρ : Env) : R Rv := match e with
  | .Name x _ => nameX Γ x ρ
  | e => (evR m Γ e ρ).th fun x => match x.1 with
    | .val d => .ok (.val d)
    | .tmp l => .ok (.tmp l)
    | _ => .no
def evA (m : Nat) (Γ : Ct) (e : Expr) (ρ : Env) : R (Sl × Env) := match e with
  | .Name x _ => (nameE Γ x ρ).th fun r => .ok (.val r.1, r.2)
  | e => (evR m Γ e ρ).th fun x => match x.1 with
    | .val d => .ok (.val d, x.2)
    | .tmp l => .ok (.own l, x.2)
    | _ => .no
def ownAt (Γ : Ct) (x : Str) (ρ : Env) : Option (Nat × List D) := if nameOk x && visB Γ.sc x then (match ixOf Γ.N x with
  | some i => (match ρ[i]? with
    | some (.own l) => some (i, l)
    | _ => none)
  | none => none) else none
def methD (m : Nat) (Γ : Ct) (x meth : Str) (a : Expr) (ρ : Env) : R Env := match ownAt Γ x ρ with
  | none => .no
  | some _ => if starB a then .no else
    if meth = "append" then (evE m Γ a ρ).th fun y => (match ownAt Γ x y.2 with
      | some (i, l) => if l.length < sizeLine then .ok (y.2.set i (.own (l ++ [y.1]))) else .no
      | none => .no)
    else if meth = "extend" then (evR m Γ a ρ).th fun y => (match ownAt Γ x y.2, y.1.plain? with
      | some (i, l), some n => if l.length + n.length ≤ sizeLine then .ok (y.2.set i (.own (l ++ n))) else .no
      | _, _ => .no)
    else .no
def setD (m : Nat) (Γ : Ct) (x : Str) (i : Expr) (d : D) (ρ : Env) : R Env := match ownAt Γ x ρ with
  | none => .no
  | some _ => (evR m Γ i ρ).th fun y => (match ownAt Γ x y.2, y.1.int? with
    | some (j, l), some n => (match ixN l.length n with
      | some k => .ok (y.2.set j (.own (l.set k d)))
      | none => .no)
    | _, _ => .no)
def forL (step : D → Env → R Fl) : List D → Env → R Fl
  | [], ρ => .ok (.next ρ)
  | d :: ds, ρ => (step d ρ).th fun f => match f with
    | .next ρ1 => forL step ds ρ1
    | .ret r => .ok (.ret r)
def whL (test : Env → R (Bool × Env)) (body : Env → R Fl) : Nat → Env → R Fl
  | 0, _ => .no
  | n + 1, ρ => (test ρ).th fun b => if b.1 then (body b.2).th fun f => (match f with
    | .next ρ1 => whL test body n ρ1
    | .ret r => .ok (.ret r)) else .ok (.next b.2)
mutual
def evS : Nat → Nat → Ct → Stmt → Env → R Fl
  | 0, _, _, _, _ => .no
  | m + 1, w, Γ, st, ρ => match st with
    | .Pass _ => .ok (.next ρ)
    | .Expr e _ => (match e with
      | .Call (.Attribute (.Name x _) meth ap) [a] [] cp => if (ap.endLine == cp.line) = true then (methD m Γ x meth a ρ).th fun ρ1 => .ok (.next ρ1) else .no
      | .Call (.Attribute (.Name x _) meth ap) [] [] cp => if (ap.endLine == cp.line) = true ∧ meth = "clear" then (match ownAt Γ x ρ with
        | some (i, _) => .ok (.next (ρ.set i (.own [])))
        | none => .no) else .no
      | e => if notComp e = true then (evR m Γ e ρ).th fun x => .ok (.next x.2) else .no)
    | .Return (some e) _ => (evX m Γ e ρ).th fun r => .ok (.ret r)
    | .Return none _ => .ok (.ret (.val .non))
    | .Assign [tg] e _ => (match tg with
      | .Name x _ => (evA m Γ e ρ).th fun s => (R.of (ixOf Γ.N x)).th fun i => if (locB Γ.sc x && nameOk x) = true then .ok (.next (s.2.set i s.1)) else .no
      | .Tuple es j p => if notComp e = true ∧ notTup e = true then (evE m Γ e ρ).th fun x => (asgD Γ (.Tuple es j p) x.1 x.2).th fun ρ1 => .ok (.next ρ1) else .no
      | .Subscript (.Name x _) i _ => if notComp e = true ∧ notSlice i = true then (evE m Γ e ρ).th fun y => (setD m Γ x i y.1 y.2).th fun ρ1 => .ok (.next ρ1) else .no
      | _ => .no)
    | .If c a b _ => (evT m Γ c ρ).th fun t => if t.1 then evSs m w Γ a t.2 else evSs m w Γ b t.2
    | .For tg it body [] _ => if foldOk it = true then (evI m Γ (tupB tg) it ρ).th fun x => forL (fun d ρ1 => (asgD Γ tg d ρ1).th fun ρ2 => evSs m w Γ body ρ2) x.1 x.2 else .no
    | .While c body [] _ => whL (fun ρ1 => evT m Γ c ρ1) (fun ρ1 => evSs m w Γ body ρ1) w ρ
    | _ => .no
def evSs : Nat → Nat → Ct → List Stmt → Env → R Fl
  | 0, _, _, _, _ => .no
  | m + 1, w, Γ, l, ρ => match l with
    | [] => .ok (.next ρ)
    | st :: l => (evS m w Γ st ρ).th fun f => match f with
      | .next ρ1 => evSs m w Γ l ρ1
      | .ret r => .ok (.ret r)
end
section
variable (κ : KC) (K : PySem.W.Frag) (G₀ H₀ : Hp)
def FlP (G : Hp) (D : Ends) : Fl → Prop
  | .next ρ' => ∀ σ' G' H', ER κ K G₀ H₀ G' H' ρ' σ' → Same G G' → D.nx σ' H'
  | .ret r => ∀ v G' H', Same H₀ H' → Same G₀ G' → Same G' H' → (∀ a o, G' a = some o → (∃ o', G₀ a = some o') ∨ H₀ a = none) → ReR κ G' H' H₀ r v → D.rt v H'
def tS (Γ : Ct) (m w : Nat) (st : Stmt) : TS := fun D σ H => ∃ ρ G, ER κ K G₀ H₀ G H ρ σ ∧ Wk (evS m w Γ st ρ) (FlP κ K G₀ H₀ G D)
def tSs (Γ : Ct) (m w : Nat) (l : List Stmt) : TS := fun D σ H => ∃ ρ G, ER κ K G₀ H₀ G H ρ σ ∧ Wk (evSs m w Γ l ρ) (FlP κ K G₀ H₀ G D)
end
structure Gs (κ : KC) (K : PySem.W.Frag) (k : Nat) (X : Cx) (Γ : Ct) : Prop extends Gd κ K k X Γ where
  own : PassesOwn (model X.prog X.w) X.A X.env X.xe
  sceq : X.env.scope = Γ.sc
  fnk : Γ.sc.kind = .function
theorem PS.imp {X : Cx} {st : Stmt} {t t' : TS} (h : PS X st t') (i : ∀ D σ H, t D σ H → t' D σ H) : PS X st t := fun pins s σ H D I hw => h pins s σ H D I (i D σ H hw)
theorem PSs.imp {X : Cx} {st : List Stmt} {t t' : TS} (h : PSs X st t') (i : ∀ D σ H, t D σ H → t' D σ H) : PSs X st t := fun pins s σ H D I hw => h pins s σ H D I (i D σ H hw)
theorem ps_none {X : Cx} {st : Stmt} {t : TS} (h : ∀ D σ H, ¬ t D σ H) : PS X st t := fun pins s σ H D I hw => absurd hw (h D σ H)
theorem pss_none {X : Cx} {st : List Stmt} {t : TS} (h : ∀ D σ H, ¬ t D σ H) : PSs X st t := fun pins s σ H D I hw => absurd hw (h D σ H)
theorem noSwap {e : Expr} (h : notComp e = true) (t : Option Expr) (l : Nat) (env : PySem.Env) : swapsWith e t l env = pure false := by
  cases e <;> first | rfl | (simp [notComp] at h)
section
variable {κ : KC} {K : PySem.W.Frag} {G₀ H₀ : Hp} {k m w : Nat} {X : Cx} {Γ : Ct}
theorem ownAt_is {x : Str} {ρ : Env} {i : Nat} {l : List D} (h : ownAt Γ x ρ = some (i, l)) : nameOk x = true ∧ visB Γ.sc x = true ∧ ixOf Γ.N x = some i ∧ ρ[i]? = some (.own l) := by
  unfold ownAt at h
  by_cases hc : (nameOk x && visB Γ.sc x) = true
  · rw [if_pos hc] at h
    rw [Bool.and_eq_true] at hc
    cases e1 : ixOf Γ.N x with
    | none => rw [e1] at h; cases h
    | some j =>
      rw [e1] at h
      dsimp only at h
      split at h
      · rename_i l' e2
        cases h
        exact ⟨hc.1, hc.2, rfl, e2⟩
      · cases h
  · rw [if_neg hc] at h; cases h
theorem own_ix {x : Str} {ρ ρ' : Env} {i j : Nat} {l n : List D} (h : ownAt Γ x ρ = some (i, l)) (h' : ownAt Γ x ρ' = some (j, n)) : i = j := by
  have := (ownAt_is h).2.2.1.symm.trans (ownAt_is h').2.2.1
  cases this
  rfl
def slotOk (Γ : Ct) (x : Str) : Option Nat := if nameOk x && visB Γ.sc x then ixOf Γ.N x else none
theorem ownAt_slot {x : Str} {ρ : Env} {i : Nat} {l : List D} (h : ownAt Γ x ρ = some (i, l)) : slotOk Γ x = some i := by
  obtain ⟨h1, h2, h3, h4⟩ := ownAt_is h
  unfold slotOk
  rw [if_pos (by rw [h1, h2]; rfl), h3]
theorem slot_pe (gd : Gd κ K k X Γ) {x : Str} {i : Nat} (h : slotOk Γ x = some i) (pos : Pos) : PE X (.Name x pos) (tVar i) := by
  unfold slotOk at h
  by_cases hc : (nameOk x && visB Γ.sc x) = true
  · rw [if_pos hc] at h
    rw [Bool.and_eq_true] at hc
    obtain ⟨n1, n2, n3⟩ := nameOk_is hc.1
    exact pe_var (i := i) (by rw [gd.hN]; exact ixOf_at h) (gd.vis x hc.2) n1 n2
  · rw [if_neg hc] at h; cases h
theorem ER.ownSlot {G H : Hp} {ρ : Env} {σ : L2.St} {i : Nat} {l : List D} (er : ER κ K G₀ H₀ G H ρ σ) (e : ρ[i]? = some (.own l)) : ∃ a xs, σ[i]? = some (some (.ref a)) ∧ H a = some (.lst xs) ∧ Reps κ G l xs := by
  obtain ⟨a, xs, z, h1, h2, h3, h4⟩ := er.sl i _ e
  exact ⟨a, xs, z, h1, h4⟩
theorem append_ok (gd : Gd κ K k X Γ) (A : All κ K k X Γ m) (x : Str) (a : Expr) (xp ap cp p : Pos) (hl : (ap.endLine == cp.line) = true)
    (he : ∀ ρ, evS (m + 1) w Γ (.Expr (.Call (.Attribute (.Name x xp) "append" ap) [a] [] cp) p) ρ = (methD m Γ x "append" a ρ).th fun ρ1 => .ok (.next ρ1)) :
    PS X (.Expr (.Call (.Attribute (.Name x xp) "append" ap) [a] [] cp) p) (tS κ K G₀ H₀ Γ (m + 1) w (.Expr (.Call (.Attribute (.Name x xp) "append" ap) [a] [] cp) p)) := by
  cases hsl : slotOk Γ x with
  | none =>
    refine ps_none fun D σ H ⟨ρ, G, er, h⟩ => ?_
    rw [he] at h
    have h := Wk.th h
    unfold methD at h
    cases e1 : ownAt Γ x ρ with
    | none => rw [e1] at h; exact h
    | some q => have := ownAt_slot (i := q.1) (l := q.2) e1; rw [hsl] at this; cases this
  | some i =>
    by_cases hs : starB a = true
    · refine ps_none fun D σ H ⟨ρ, G, er, h⟩ => ?_
      rw [he] at h
      have h := Wk.th h
      unfold methD at h
      cases e1 : ownAt Γ x ρ with
      | none => rw [e1] at h; exact h
      | some q => rw [e1] at h; exact (Wk.nif (c := starB a = true) h).1 hs
    have s1 := Bool.eq_false_iff.mpr hs
    have few : ((backTo cp (starEach [a] X.env)).all (fun x => !x.1) && (backToKw cp (keywordEach [] X.env)).all (fun x => x.1.isSome) && decide (([a] : List Expr).length + ([] : List Keyword).length + (if ([] : List Keyword).isEmpty then 0 else 1) < 30)) = true := by
      rw [star_one s1]
      rfl
    refine PS.imp (ps_expr (pe_bm PySem.F.plainAttrs_list PySem.F.slot_list_append PySem.F.type_list_append mt_append (slot_pe gd hsl xp) (pa_cons (A.e G₀ H₀ a) pa_nil (star_one s1)) rfl few hl (star_one s1) rfl) rfl) fun D σ H ⟨ρ, G, er, h⟩ => ?_
    rw [he] at h
    have h := Wk.th h
    unfold methD at h
    cases e1 : ownAt Γ x ρ with
    | none => rw [e1] at h; exact False.elim h
    | some q =>
      obtain ⟨i', l0⟩ := q
      have ei : i' = i := by have := ownAt_slot e1; rw [hsl] at this; cases this; rfl
      subst ei
      rw [e1] at h
      have h := (Wk.nif (c := starB a = true) h).2
      rw [if_pos rfl] at h
      obtain ⟨b, xs, z, h1, h2⟩ := er.ownSlot (ownAt_is e1).2.2.2
      refine ⟨_, z, .inl ⟨rfl, xs, SqL.of h1⟩, ρ, G, er, Wk.mono (Wk.th h) fun y h v G1 H1 p1 r1 => ?_⟩
      cases e2 : ownAt Γ x y.2 with
      | none => rw [e2] at h; exact False.elim h
      | some q =>
        obtain ⟨i2, l⟩ := q
        rw [e2] at h
        have ei := own_ix e1 e2
        subst ei
        obtain ⟨hz, h⟩ := Wk.iff h
        obtain ⟨b', ys, z', h3, h4⟩ := p1.er.ownSlot (ownAt_is e2).2.2.2
        rw [z] at z'
        cases z'
        refine ⟨b, ys, v, rfl, rfl, h3, by rw [← h4.len]; exact hz, ?_⟩
        exact h σ G1 _ (p1.er.write (ownAt_is e2).2.2.2 z (h4.snoc r1)) p1.gs
theorem extend_ok (gd : Gd κ K k X Γ) (A : All κ K k X Γ m) (x : Str) (a : Expr) (xp ap cp p : Pos) (hl : (ap.endLine == cp.line) = true)
    (he : ∀ ρ, evS (m + 1) w Γ (.Expr (.Call (.Attribute (.Name x xp) "extend" ap) [a] [] cp) p) ρ = (methD m Γ x "extend" a ρ).th fun ρ1 => .ok (.next ρ1)) :
    PS X (.Expr (.Call (.Attribute (.Name x xp) "extend" ap) [a] [] cp) p) (tS κ K G₀ H₀ Γ (m + 1) w (.Expr (.Call (.Attribute (.Name x xp) "extend" ap) [a] [] cp) p)) := by
  cases hsl : slotOk Γ x with
  | none =>
    refine ps_none fun D σ H ⟨ρ, G, er, h⟩ => ?_
    rw [he] at h
    have h := Wk.th h
    unfold methD at h
    cases e1 : ownAt Γ x ρ with
    | none => rw [e1] at h; exact h
    | some q => have := ownAt_slot (i := q.1) (l := q.2) e1; rw [hsl] at this; cases this
  | some i =>
    by_cases hs : starB a = true
    · refine ps_none fun D σ H ⟨ρ, G, er, h⟩ => ?_
      rw [he] at h
      have h := Wk.th h
      unfold methD at h
      cases e1 : ownAt Γ x ρ with
      | none => rw [e1] at h; exact h
      | some q => rw [e1] at h; exact (Wk.nif (c := starB a = true) h).1 hs
    have s1 := Bool.eq_false_iff.mpr hs
    have few : ((backTo cp (starEach [a] X.env)).all (fun x => !x.1) && (backToKw cp (keywordEach [] X.env)).all (fun x => x.1.isSome) && decide (([a] : List Expr).length + ([] : List Keyword).length + (if ([] : List Keyword).isEmpty then 0 else 1) < 30)) = true := by
      rw [star_one s1]
      rfl
    refine PS.imp (ps_expr (pe_bm PySem.F.plainAttrs_list PySem.F.slot_list_extend PySem.F.type_list_extend mt_extend (slot_pe gd hsl xp) (pa_cons (A.r G₀ H₀ a) pa_nil (star_one s1)) rfl few hl (star_one s1) rfl) rfl) fun D σ H ⟨ρ, G, er, h⟩ => ?_
    rw [he] at h
    have h := Wk.th h
    unfold methD at h
    cases e1 : ownAt Γ x ρ with
    | none => rw [e1] at h; exact False.elim h
    | some q =>
      obtain ⟨i', l0⟩ := q
      have ei : i' = i := by have := ownAt_slot e1; rw [hsl] at this; cases this; rfl
      subst ei
      rw [e1] at h
      have h := (Wk.nif (c := starB a = true) h).2
      rw [if_neg (by decide), if_pos rfl] at h
      obtain ⟨b, xs, z, h1, h2⟩ := er.ownSlot (ownAt_is e1).2.2.2
      refine ⟨_, z, .inl ⟨rfl, xs, SqL.of h1⟩, ρ, G, er, Wk.mono (Wk.th h) fun y h v G1 H1 p1 r1 => ?_⟩
      cases e2 : ownAt Γ x y.2 with
      | none => rw [e2] at h; exact False.elim h
      | some q =>
        obtain ⟨i2, l⟩ := q
        cases e3 : y.1.plain? with
        | none => rw [e2, e3] at h; exact False.elim h
        | some n =>
          rw [e2, e3] at h
          have ei := own_ix e1 e2
          subst ei
          obtain ⟨hz, h⟩ := Wk.iff h
          obtain ⟨b', ys, z', h3, h4⟩ := p1.er.ownSlot (ownAt_is e2).2.2.2
          obtain ⟨c, zs, rfl, h5, h6⟩ := r1.plain p1.er e3
          rw [z] at z'
          cases z'
          refine ⟨b, c, ys, zs, rfl, rfl, h3, h5, by rw [← h4.len, ← h6.len]; exact hz, ?_⟩
          exact h σ G1 _ (p1.er.write (ownAt_is e2).2.2.2 z (h4.app h6)) p1.gs
theorem clear_ok (gd : Gd κ K k X Γ) (x : Str) (xp ap cp p : Pos) (hl : (ap.endLine == cp.line) = true)
    (he : ∀ ρ, evS (m + 1) w Γ (.Expr (.Call (.Attribute (.Name x xp) "clear" ap) [] [] cp) p) ρ = match ownAt Γ x ρ with | some (i, _) => .ok (.next (ρ.set i (.own []))) | none => .no) :
    PS X (.Expr (.Call (.Attribute (.Name x xp) "clear" ap) [] [] cp) p) (tS κ K G₀ H₀ Γ (m + 1) w (.Expr (.Call (.Attribute (.Name x xp) "clear" ap) [] [] cp) p)) := by
  cases hsl : slotOk Γ x with
  | none =>
    refine ps_none fun D σ H ⟨ρ, G, er, h⟩ => ?_
    rw [he] at h
    cases e1 : ownAt Γ x ρ with
    | none => rw [e1] at h; exact h
    | some q => have := ownAt_slot (i := q.1) (l := q.2) e1; rw [hsl] at this; cases this
  | some i =>
    refine PS.imp (ps_expr (pe_bm0 PySem.F.plainAttrs_list PySem.F.slot_list_clear PySem.F.type_list_clear mt_clear (slot_pe gd hsl xp) rfl hl) rfl) fun D σ H ⟨ρ, G, er, h⟩ => ?_
    rw [he] at h
    cases e1 : ownAt Γ x ρ with
    | none => rw [e1] at h; exact False.elim h
    | some q =>
      obtain ⟨i', l0⟩ := q
      have ei : i' = i := by have := ownAt_slot e1; rw [hsl] at this; cases this; rfl
      subst ei
      rw [e1] at h
      obtain ⟨b, xs, z, h1, h2⟩ := er.ownSlot (ownAt_is e1).2.2.2
      exact ⟨_, z, .inl ⟨rfl, xs, SqL.of h1⟩, b, xs, rfl, rfl, h1, h σ G _ (er.write (ownAt_is e1).2.2.2 z .nil) fun _ _ e => e⟩
theorem ret_ok (gd : Gd κ K k X Γ) (A : All κ K k X Γ m) (e : Expr) (p : Pos) : PS X (.Return (some e) p) (tS κ K G₀ H₀ Γ (m + 1) w (.Return (some e) p)) := by
  have gen : (∀ ρ, evX m Γ e ρ = (evR m Γ e ρ).th fun x => match x.1 with
      | .val d => .ok (.val d)
      | .tmp l => .ok (.tmp l)
      | _ => .no) → PS X (.Return (some e) p) (tS κ K G₀ H₀ Γ (m + 1) w (.Return (some e) p)) := fun he => by
    refine PS.imp (ps_ret (A.r G₀ H₀ e)) fun D σ H ⟨ρ, G, er, h⟩ => ?_
    have h := Wk.th (x := evX m Γ e ρ) h
    rw [he] at h
    refine ⟨ρ, G, er, Wk.mono (Wk.th h) fun x h v G1 H1 p1 r1 => ?_⟩
    obtain ⟨rv, ρ1⟩ := x
    cases rv with
    | val d => exact h v G1 H1 p1.er.base p1.er.g0 p1.er.sub p1.er.fresh r1
    | tmp l =>
      obtain ⟨a, xs, rfl, h1, h2, h3, h4, h5, h6⟩ := r1
      exact h _ G1 H1 p1.er.base p1.er.g0 p1.er.sub p1.er.fresh ⟨a, xs, rfl, h1, h3, h4, h6⟩
    | cell l => exact False.elim h
    | scr l => exact False.elim h
  cases e with
  | Name x pos =>
    by_cases hok : nameOk x = true
    case neg =>
      refine ps_none fun D σ H ⟨ρ, G, er, h⟩ => ?_
      have h := Wk.th (x := nameX Γ x ρ) h
      unfold nameX at h
      exact hok (Wk.iff h).1
    obtain ⟨n1, n2, n3⟩ := nameOk_is hok
    cases hi : ixOf Γ.N x with
    | some i =>
      by_cases hv : visB Γ.sc x = true
      case neg =>
        refine ps_none fun D σ H ⟨ρ, G, er, h⟩ => ?_
        have h := Wk.th (x := nameX Γ x ρ) h
        unfold nameX at h
        rw [if_pos hok, hi] at h
        exact hv (Wk.iff h).1
      refine PS.imp (ps_ret (pe_var (i := i) (by rw [gd.hN]; exact ixOf_at hi) (gd.vis x hv) n1 n2)) fun D σ H ⟨ρ, G, er, h⟩ => ?_
      have h := Wk.th (x := nameX Γ x ρ) h
      unfold nameX at h
      rw [if_pos hok, hi] at h
      have h := (Wk.iff h).2
      cases q : ρ[i]? with
      | none => rw [q] at h; exact False.elim h
      | some s =>
        rw [q] at h
        have w := er.sl i s q
        cases s with
        | val d => obtain ⟨v, z, r⟩ := w; exact ⟨v, z, h v G H er.base er.g0 er.sub er.fresh r⟩
        | own l => obtain ⟨a, xs, z, r1, r2, r3, r4⟩ := w; exact ⟨_, z, h _ G H er.base er.g0 er.sub er.fresh ⟨a, xs, rfl, r1, r2, r3, r4⟩⟩
        | _ => exact False.elim h
    | none =>
      by_cases hg : glB Γ.sc x = true
      case neg =>
        refine ps_none fun D σ H ⟨ρ, G, er, h⟩ => ?_
        have h := Wk.th (x := nameX Γ x ρ) h
        unfold nameX at h
        rw [if_pos hok, hi] at h
        exact hg (Wk.iff h).1
      cases hd : Γ.gl x with
      | none =>
        refine ps_none fun D σ H ⟨ρ, G, er, h⟩ => ?_
        have h := Wk.th (x := nameX Γ x ρ) h
        unfold nameX at h
        rw [if_pos hok, hi] at h
        have h := (Wk.iff h).2
        rw [hd] at h
        exact h
      | some d =>
        obtain ⟨v, u, e1, e2, e3⟩ := gd.gl x d hd
        refine PS.imp (ps_ret (pe_glob (gd.glo x hg) e1 e2 n1)) fun D σ H ⟨ρ, G, er, h⟩ => ?_
        have h := Wk.th (x := nameX Γ x ρ) h
        unfold nameX at h
        rw [if_pos hok, hi] at h
        have h := (Wk.iff h).2
        rw [hd] at h
        exact h v G H er.base er.g0 er.sub er.fresh (e3 G)
  | _ => exact gen fun _ => rfl
def AsR (κ : KC) (K : PySem.W.Frag) (H₀ G H : Hp) (ρ : Env) (σ : L2.St) : Sl → V → Prop
  | .val d, v => Rep κ G d v
  | .own l, v => ∃ a xs, v = .ref a ∧ H a = some (.lst xs) ∧ H₀ a = none ∧ G a = none ∧ ¬ OwnAt ρ σ a ∧ Reps κ G l xs
  | _, _ => False
def tA (κ : KC) (K : PySem.W.Frag) (G₀ H₀ : Hp) (Γ : Ct) (m : Nat) (e : Expr) : TE := fun σ H Q => ∃ ρ G, ER κ K G₀ H₀ G H ρ σ ∧ Wk (evA m Γ e ρ) fun s => ∀ v G' H', Po κ K G₀ H₀ σ G H ρ G' H' s.2 → AsR κ K H₀ G' H' s.2 σ s.1 v → Q v H'
theorem asr_set {G H : Hp} {ρ : Env} {σ : L2.St} {s : Sl} {v : V} {i : Nat} (er : ER κ K G₀ H₀ G H ρ σ) (h : AsR κ K H₀ G H ρ σ s v) : ER κ K G₀ H₀ G H (ρ.set i s) (σ.set i (some v)) := by
  cases s with
  | val d => exact er.setVal h
  | own l => obtain ⟨a, xs, rfl, h1, h2, h3, h4, h5⟩ := h; exact er.setOwn h1 h2 h3 h4 h5
  | _ => exact False.elim h
theorem rv_a {G H : Hp} {ρ : Env} {σ : L2.St} {F : Sl × Env → Prop} {Q : VK} {e : Expr} {m : Nat} (er : ER κ K G₀ H₀ G H ρ σ)
    (h : Wk ((evR m Γ e ρ).th fun x => match x.1 with
      | .val d => R.ok (Sl.val d, x.2)
      | .tmp l => R.ok (Sl.own l, x.2)
      | _ => .no) fun s => ∀ v G' H', Po κ K G₀ H₀ σ G H ρ G' H' s.2 → AsR κ K H₀ G' H' s.2 σ s.1 v → Q v H') : tR κ K G₀ H₀ Γ m e σ H Q := by
  refine ⟨ρ, G, er, Wk.mono (Wk.th h) fun x h v G1 H1 p1 r1 => ?_⟩
  obtain ⟨rv, ρ1⟩ := x
  cases rv with
  | val d => exact h v G1 H1 p1 r1
  | tmp l =>
    obtain ⟨a, xs, rfl, h1, h2, h3, h4, h5, h6⟩ := r1
    exact h _ G1 H1 p1 ⟨a, xs, rfl, h1, h3, h4, h5, h6⟩
  | cell l => exact False.elim h
  | scr l => exact False.elim h
theorem a_ok (gd : Gd κ K k X Γ) (A : All κ K k X Γ m) (A1 : All κ K k X Γ (m + 1)) (e : Expr) : PE X e (tA κ K G₀ H₀ Γ m e) := by
  have gen : (∀ ρ, evA m Γ e ρ = (evR m Γ e ρ).th fun x => match x.1 with
      | .val d => .ok (.val d, x.2)
      | .tmp l => .ok (.own l, x.2)
      | _ => .no) → PE X e (tA κ K G₀ H₀ Γ m e) := fun he => by
    refine PE.imp (A.r G₀ H₀ e) fun σ H Q ⟨ρ, G, er, h⟩ => ?_
    rw [he] at h
    exact rv_a (F := fun _ => True) er h
  cases e with
  | Name x pos =>
    refine PE.imp (A1.e G₀ H₀ (.Name x pos)) fun σ H Q ⟨ρ, G, er, h⟩ => ?_
    refine ⟨ρ, G, er, Wk.mono (Wk.th (x := nameE Γ x ρ) h) fun y h v G1 H1 p1 r1 => h v G1 H1 p1 r1⟩
  | _ => exact gen fun _ => rfl
theorem set_ok (gs : Gs κ K k X Γ) (A : All κ K k X Γ m) (A1 : All κ K k X Γ (m + 1)) (x : Str) (e : Expr) (xp p : Pos) : PS X (.Assign [.Name x xp] e p) (tS κ K G₀ H₀ Γ (m + 1) w (.Assign [.Name x xp] e p)) := by
  have gd := gs.toGd
  have fail : ∀ (D : Ends) (σ : L2.St) (H : Hp), (ixOf Γ.N x = none ∨ ¬ (locB Γ.sc x && nameOk x) = true) → ¬ tS κ K G₀ H₀ Γ (m + 1) w (.Assign [.Name x xp] e p) D σ H := fun D σ H hf ⟨ρ, G, er, h⟩ => by
    have h := Wk.th (x := evA m Γ e ρ) h
    cases e1 : evA m Γ e ρ with
    | ok s =>
      rw [e1] at h
      obtain ⟨i, e2, h⟩ := Wk.of (Wk.th (x := R.of (ixOf Γ.N x)) h)
      rcases hf with z | z
      · rw [e2] at z; cases z
      · exact z (Wk.iff h).1
    | exc c l => rw [e1] at h; exact h
    | no => rw [e1] at h; exact h
  cases hi : ixOf Γ.N x with
  | none => exact ps_none fun D σ H => fail D σ H (.inl hi)
  | some i =>
    by_cases hc : (locB Γ.sc x && nameOk x) = true
    case neg => exact ps_none fun D σ H => fail D σ H (.inr hc)
    have hc' := hc
    rw [Bool.and_eq_true] at hc'
    obtain ⟨l1, l2⟩ := gd.loc x hc'.1
    have hN : X.N.Nodup := by rw [gd.hN]; exact gd.nd
    have hxi : X.N[i]? = some x := by rw [gd.hN]; exact ixOf_at hi
    have fin : ∀ (D : Ends) (σ : L2.St) (H : Hp), tS κ K G₀ H₀ Γ (m + 1) w (.Assign [.Name x xp] e p) D σ H → tA κ K G₀ H₀ Γ m e σ H (fun y H1 => gName i y σ H1 D.nx) := fun D σ H ⟨ρ, G, er, h⟩ => by
      refine ⟨ρ, G, er, Wk.mono (Wk.th (x := evA m Γ e ρ) h) fun s h v G1 H1 p1 r1 => ?_⟩
      obtain ⟨j, e2, h⟩ := Wk.of (Wk.th (x := R.of (ixOf Γ.N x)) h)
      rw [hi] at e2
      cases e2
      exact (Wk.iff h).2 _ G1 H1 (asr_set p1.er r1) p1.gs
    by_cases hn : notComp e = true
    · exact PS.imp (ps_set (i := i) hN hxi l1 (a_ok gd A A1 e) (noSwap hn _ _ _) l2) fin
    cases e with
    | ListComp elt gens sc cp =>
      have hsw : ∀ b : Bool, (X.env.blockKind == .function && X.env.kindOf x == some .local && xp.line == cp.line && !(sc.names.any fun (n, k) => n == x && (k == .local || k == .cell))) = b → swapsWith (.ListComp elt gens sc cp) (some (.Name x xp)) p.line X.env = pure b := fun b hb => by
        rw [← hb]
        rfl
      cases hb : (X.env.blockKind == .function && X.env.kindOf x == some .local && xp.line == cp.line && !(sc.names.any fun (n, k) => n == x && (k == .local || k == .cell))) with
      | false => exact PS.imp (ps_set (i := i) hN hxi l1 (a_ok gd A A1 _) (hsw false hb) l2) fin
      | true =>
        have hloc : X.env.scope.names.lookup x = some .local := by
          simp only [Bool.and_eq_true] at hb
          have := hb.1.1.2
          unfold PySem.Env.kindOf at this
          simpa using this
        cases m with
        | zero => exact ps_none fun D σ H h => by obtain ⟨ρ, G, er, h⟩ := fin D σ H h; exact h
        | succ m =>
          have no : (∀ σ H Q, ¬ tR κ K G₀ H₀ Γ (m + 1) (.ListComp elt gens sc cp) σ H Q) → PS X (.Assign [.Name x xp] (.ListComp elt gens sc cp) p) (tS κ K G₀ H₀ Γ (m + 1 + 1) w (.Assign [.Name x xp] (.ListComp elt gens sc cp) p)) := fun hno => ps_none fun D σ H h => by
            obtain ⟨ρ, G, er, h⟩ := fin D σ H h
            exact hno σ H _ (rv_a (F := fun _ => True) er h)
          cases gens with
          | nil => exact no fun σ H Q ⟨ρ, G, er, h⟩ => h
          | cons g gens =>
            obtain ⟨tg, it, ifs, as⟩ := g
            cases gens with
            | cons g' gens => exact no fun σ H Q ⟨ρ, G, er, h⟩ => h
            | nil =>
              by_cases ha : as = 0
              case neg => exact no fun σ H Q ⟨ρ, G, er, h⟩ => ha (Wk.iff (show Wk (if as = 0 then _ else R.no) _ from h)).1
              subst ha
              rcases comp_or (κ := κ) (K := K) (G₀ := G₀) (H₀ := H₀) (m := m) (Γ := Γ) elt tg it ifs sc cp with ⟨own, S⟩ | hno
              · have B : BlkScope X own (frOf Γ.N sc) sc := blk_scope gd S.chk
                have A' := all m X Γ gd
                refine PS.imp (ps_setC (i := i) own (frOf Γ.N sc) hN hxi hloc gd.calm B (A'.i G₀ H₀ tg it) (fun cl C fp s2 H2 => gT_ok (blk_gd gd B S.nd cl C fp s2 H2) tg) (fun cl C fp s2 H2 => pif_ex (all m _ _ (blk_gd gd B S.nd cl C fp s2 H2)) ifs)
                  (fun cl C fp s2 H2 => pe_ex (all m _ _ (blk_gd gd B S.nd cl C fp s2 H2)) elt) (hsw true hb) (fold_is S.fold X.env)) fun D σ H h => ?_
                obtain ⟨ρ, G, er, h⟩ := fin D σ H h
                exact comp_imp elt tg it ifs sc cp S σ H _ (rv_a (F := fun _ => True) er h)
              · exact no hno
    | SetComp => exact ps_none fun D σ H h => by obtain ⟨ρ, G, er, h⟩ := fin D σ H h; cases m <;> exact h
    | DictComp => exact ps_none fun D σ H h => by obtain ⟨ρ, G, er, h⟩ := fin D σ H h; cases m <;> exact h
    | _ => exact absurd rfl hn
end
end DE
set_option maxHeartbeats 4000000
namespace DE
open PySem PySem.Spec PyProof.Rows L2
structure AllS (κ : KC) (K : PySem.W.Frag) (X : Cx) (Γ : Ct) (m w : Nat) : Prop where
  s : ∀ G₀ H₀ st, PS X st (tS κ K G₀ H₀ Γ m w st)
  ss : ∀ G₀ H₀ l, PSs X l (tSs κ K G₀ H₀ Γ m w l)
section
variable {κ : KC} {K : PySem.W.Frag} {G₀ H₀ : Hp} {k m w : Nat} {X : Cx} {Γ : Ct}
theorem FlP.back {G G1 : Hp} {D : Ends} {f : Fl} (h : FlP κ K G₀ H₀ G D f) (g : Same G G1) : FlP κ K G₀ H₀ G1 D f := by
  cases f with
  | next ρ => exact fun σ' G' H' er g' => h σ' G' H' er fun b o e => g' b o (g b o e)
  | ret r => exact h
theorem noStores {e : Expr} (h : notTup e = true) (es : List Expr) (j : Nat) (p : Pos) (env : PySem.Env) : swappedStores [.Tuple es j p] e env = pure none := by
  cases e <;> first | rfl | (simp [notTup] at h)
theorem tupset_ok (gd : Gd κ K k X Γ) (A : All κ K k X Γ m) (es : List Expr) (j : Nat) (tp : Pos) (e : Expr) (p : Pos) : PS X (.Assign [.Tuple es j tp] e p) (tS κ K G₀ H₀ Γ (m + 1) w (.Assign [.Tuple es j tp] e p)) := by
  by_cases hc : notComp e = true ∧ notTup e = true
  case neg => exact ps_none fun D σ H ⟨ρ, G, er, h⟩ => hc (Wk.iff (show Wk (if notComp e = true ∧ notTup e = true then _ else R.no) _ from h)).1
  refine PS.imp (ps_asg (A.e G₀ H₀ e) (gT_ok gd (.Tuple es j tp)) (show swapsWithSole [.Tuple es j tp] e p.line X.env = pure false from noSwap hc.1 (some (.Tuple es j tp)) p.line X.env) (noStores hc.2 es j tp _) rfl) fun D σ H ⟨ρ, G, er, h⟩ => ?_
  have h := (Wk.iff (show Wk (if notComp e = true ∧ notTup e = true then _ else R.no) _ from h)).2
  refine ⟨ρ, G, er, Wk.mono (Wk.th (x := evE m Γ e ρ) h) fun x h v G1 H1 p1 r1 => ?_⟩
  exact ⟨G₀, H₀, x.2, G1, x.1, p1.er, r1, Wk.mono (Wk.th h) fun ρ1 h σ1 er1 => h σ1 G1 H1 er1 p1.gs⟩
def gS (κ : KC) (K : PySem.W.Frag) (G₀ H₀ : Hp) (Γ : Ct) (m : Nat) (x : Str) (i : Expr) : TG := fun v σ H Q => ∃ (ρ : Env) (G : Hp) (d : D), ER κ K G₀ H₀ G H ρ σ ∧ Rep κ G d v ∧ Wk (setD m Γ x i d ρ) fun ρ' => ∀ G' H', ER κ K G₀ H₀ G' H' ρ' σ → Same G G' → Q σ H'
theorem gS_ok (gd : Gd κ K k X Γ) (A : All κ K k X Γ m) (x : Str) (i : Expr) (xp p : Pos) (hs : notSlice i = true) : PG X (.Subscript (.Name x xp) i p) (gS κ K G₀ H₀ Γ m x i) := by
  have none1 : ∀ {v : V} {σ : L2.St} {H : Hp} {Q : L2.St → Hp → Prop}, slotOk Γ x = none → ¬ gS κ K G₀ H₀ Γ m x i v σ H Q := fun {v σ H Q} hsl ⟨ρ, G, d, er, r, h⟩ => by
    unfold setD at h
    cases e1 : ownAt Γ x ρ with
    | none => rw [e1] at h; exact h
    | some q => have := ownAt_slot (i := q.1) (l := q.2) e1; rw [hsl] at this; cases this
  cases hsl : slotOk Γ x with
  | none => exact pg_none fun v σ H Q => none1 hsl
  | some j =>
    refine PG.imp (pg_sub (slot_pe gd hsl xp) (A.r G₀ H₀ i) set_list (fun v => by cases i <;> first | rfl | (simp [notSlice] at hs))) fun v σ H Q ⟨ρ, G, d, er, r, h⟩ => ?_
    unfold setD at h
    cases e1 : ownAt Γ x ρ with
    | none => rw [e1] at h; exact False.elim h
    | some q =>
      obtain ⟨j', l0⟩ := q
      have ei : j' = j := by have := ownAt_slot e1; rw [hsl] at this; cases this; rfl
      subst ei
      rw [e1] at h
      obtain ⟨b, xs, z, h1, h2⟩ := er.ownSlot (ownAt_is e1).2.2.2
      refine ⟨_, z, ρ, G, er, Wk.mono (Wk.th (x := evR m Γ i ρ) h) fun y h u G1 H1 p1 r1 => ?_⟩
      cases e2 : ownAt Γ x y.2 with
      | none => rw [e2] at h; exact False.elim h
      | some q =>
        obtain ⟨j2, l⟩ := q
        cases e3 : y.1.int? with
        | none => rw [e2, e3] at h; exact False.elim h
        | some n =>
          rw [e2, e3] at h
          dsimp only at h
          have ei := own_ix e1 e2
          subst ei
          cases e4 : ixN l.length n with
          | none => rw [e4] at h; exact False.elim h
          | some c =>
            rw [e4] at h
            obtain ⟨b', ys, z', h3, h4⟩ := p1.er.ownSlot (ownAt_is e2).2.2.2
            rw [z] at z'
            cases z'
            refine ⟨b, ys, n, c, rfl, r1.int e3, h3, by rw [← h4.len]; exact e4, ?_⟩
            exact h G1 _ (p1.er.write (ownAt_is e2).2.2.2 z (h4.set c (r.same p1.gs))) p1.gs
theorem subset_ok (gd : Gd κ K k X Γ) (A : All κ K k X Γ m) (x : Str) (i e : Expr) (xp sp p : Pos) : PS X (.Assign [.Subscript (.Name x xp) i sp] e p) (tS κ K G₀ H₀ Γ (m + 1) w (.Assign [.Subscript (.Name x xp) i sp] e p)) := by
  by_cases hc : notComp e = true ∧ notSlice i = true
  case neg => exact ps_none fun D σ H ⟨ρ, G, er, h⟩ => hc (Wk.iff (show Wk (if notComp e = true ∧ notSlice i = true then _ else R.no) _ from h)).1
  refine PS.imp (ps_asg (A.e G₀ H₀ e) (gS_ok (G₀ := G₀) (H₀ := H₀) gd A x i xp sp hc.2) (show swapsWithSole [.Subscript (.Name x xp) i sp] e p.line X.env = pure false from noSwap hc.1 (some (.Subscript (.Name x xp) i sp)) p.line X.env) rfl rfl) fun D σ H ⟨ρ, G, er, h⟩ => ?_
  have h := (Wk.iff (show Wk (if notComp e = true ∧ notSlice i = true then _ else R.no) _ from h)).2
  refine ⟨ρ, G, er, Wk.mono (Wk.th (x := evE m Γ e ρ) h) fun y h v G1 H1 p1 r1 => ?_⟩
  exact ⟨y.2, G1, y.1, p1.er, r1, Wk.mono (Wk.th h) fun ρ1 h G2 H2 er1 g2 => h σ G2 H2 er1 fun b o e => g2 b o (p1.gs b o e)⟩
theorem if_ok (A : All κ K k X Γ m) (S : AllS κ K X Γ m w) (c : Expr) (a b : List Stmt) (p : Pos) : PS X (.If c a b p) (tS κ K G₀ H₀ Γ (m + 1) w (.If c a b p)) := by
  refine PS.imp (ps_if (A.t G₀ H₀ c) (S.ss G₀ H₀ a) (S.ss G₀ H₀ b)) fun D σ H ⟨ρ, G, er, h⟩ => ?_
  refine ⟨ρ, G, er, Wk.mono (Wk.th (x := evT m Γ c ρ) h) fun t h G1 H1 p1 => ?_⟩
  obtain ⟨d, ρ1⟩ := t
  cases d with
  | true => rw [if_pos rfl]; exact ⟨ρ1, G1, p1.er, Wk.mono h fun f hf => hf.back p1.gs⟩
  | false => rw [if_neg (fun z => by cases z)]; exact ⟨ρ1, G1, p1.er, Wk.mono h fun f hf => hf.back p1.gs⟩
theorem for_ok (gs : Gs κ K k X Γ) (A : All κ K k X Γ m) (S : AllS κ K X Γ m w) (tg it : Expr) (body : List Stmt) (p : Pos) : PS X (.For tg it body [] p) (tS κ K G₀ H₀ Γ (m + 1) w (.For tg it body [] p)) := by
  by_cases hf : foldOk it = true
  case neg => exact ps_none fun D σ H ⟨ρ, G, er, h⟩ => hf (Wk.iff (show Wk (if foldOk it = true then _ else R.no) _ from h)).1
  refine PS.imp (ps_for gs.own gs.calm (A.i G₀ H₀ tg it) (gT_ok gs.toGd tg) (S.ss G₀ H₀ body) (fold_is hf X.env)) fun D σ H ⟨ρ, G, er, h⟩ => ?_
  have h := (Wk.iff (show Wk (if foldOk it = true then _ else R.no) _ from h)).2
  refine ⟨ρ, G, er, Wk.mono (Wk.th (x := evI m Γ (tupB tg) it ρ) h) fun x h J G1 H1 p1 it1 => ?_⟩
  refine ⟨fun i mm σ' H' => mm = x.1.length - i ∧ i ≤ x.1.length ∧ ∃ ρb Gb, ER κ K G₀ H₀ Gb H' ρb σ' ∧ Same G1 Gb ∧ Wk (forL (fun d ρ1 => (asgD Γ tg d ρ1).th fun ρ2 => evSs m w Γ body ρ2) (x.1.drop i) ρb) (FlP κ K G₀ H₀ G D),
    ⟨x.1.length, by simp, Nat.zero_le _, x.2, G1, p1.er, fun _ _ e => e, by rw [List.drop_zero]; exact h⟩, ?_⟩
  rintro i mm σ' H' ⟨rfl, hi, ρb, Gb, erb, g1, hw⟩
  have it2 := it1 i Gb H' g1 erb.base erb.sub
  by_cases hlt : i < x.1.length
  · obtain ⟨go, yl⟩ := it2.1 x.1[i] (List.getElem?_eq_getElem hlt)
    refine .inr ⟨go, _, fun σ2 H2 w => ⟨x.1.length - (i + 1), by omega, w⟩, fun v H2 hy => ?_⟩
    obtain ⟨G', hs, gss, sub, new, rep⟩ := yl v H2 hy
    have p2 := Po.more erb hs gss sub new
    rw [List.drop_eq_getElem_cons hlt] at hw
    refine ⟨G₀, H₀, ρb, G', x.1[i], p2.er, rep, Wk.mono (Wk.th (Wk.th hw)) fun ρ2 hw σ2 er2 => ⟨ρ2, G', er2, Wk.mono hw fun f hf => ?_⟩⟩
    cases f with
    | next ρ3 => exact fun σ3 G3 H3 er3 g3 => ⟨rfl, hlt, ρ3, G3, er3, fun b o e => g3 b o (gss b o (g1 b o e)), hf⟩
    | ret r => exact hf
  · have e : i = x.1.length := by omega
    subst e
    rw [List.drop_length] at hw
    exact .inl ⟨it2.2 rfl, hw σ' Gb H' erb fun b o e => g1 b o (p1.gs b o e)⟩
theorem while_ok (gs : Gs κ K k X Γ) (A : All κ K k X Γ m) (S : AllS κ K X Γ m w) (c : Expr) (body : List Stmt) (p : Pos) : PS X (.While c body [] p) (tS κ K G₀ H₀ Γ (m + 1) w (.While c body [] p)) := by
  refine PS.imp (ps_while gs.own (A.t G₀ H₀ c) (S.ss G₀ H₀ body)) fun D σ H ⟨ρ, G, er, h⟩ => ?_
  refine ⟨fun n σ' H' => ∃ ρb Gb, ER κ K G₀ H₀ Gb H' ρb σ' ∧ Same G Gb ∧ Wk (whL (fun ρ1 => evT m Γ c ρ1) (fun ρ1 => evSs m w Γ body ρ1) n ρb) (FlP κ K G₀ H₀ G D), ⟨w, ρ, G, er, fun _ _ e => e, h⟩, ?_⟩
  rintro n σ' H' ⟨ρb, Gb, erb, g1, hw⟩
  cases n with
  | zero => exact False.elim hw
  | succ n =>
    refine ⟨ρb, Gb, erb, Wk.mono (Wk.th (x := evT m Γ c ρb) hw) fun b hw G2 H2 p2 => ?_⟩
    obtain ⟨d, ρ2⟩ := b
    cases d with
    | false =>
      rw [if_neg (fun z => by cases z)]
      exact hw σ' G2 H2 p2.er fun b o e => p2.gs b o (g1 b o e)
    | true =>
      rw [if_pos rfl]
      refine ⟨_, fun σ3 H3 w => ⟨n, Nat.lt_succ_self n, w⟩, ρ2, G2, p2.er, Wk.mono (Wk.th hw) fun f hf => ?_⟩
      cases f with
      | next ρ3 => exact fun σ3 G3 H3 er3 g3 => ⟨ρ3, G3, er3, fun b o e => g3 b o (p2.gs b o (g1 b o e)), hf⟩
      | ret r => exact hf
theorem expr_ok (gd : Gd κ K k X Γ) (A : All κ K k X Γ m) (e : Expr) (p : Pos) : PS X (.Expr e p) (tS κ K G₀ H₀ Γ (m + 1) w (.Expr e p)) := by
  have gen : (∀ ρ, evS (m + 1) w Γ (.Expr e p) ρ = if notComp e = true then (evR m Γ e ρ).th fun x => .ok (.next x.2) else .no) → PS X (.Expr e p) (tS κ K G₀ H₀ Γ (m + 1) w (.Expr e p)) := fun he => by
    by_cases hn : notComp e = true
    case neg =>
      refine ps_none fun D σ H ⟨ρ, G, er, h⟩ => ?_
      rw [he, if_neg hn] at h
      exact h
    refine PS.imp (ps_expr (A.r G₀ H₀ e) (noSwap hn _ _ _)) fun D σ H ⟨ρ, G, er, h⟩ => ?_
    rw [he, if_pos hn] at h
    exact ⟨ρ, G, er, Wk.mono (Wk.th h) fun x h v G1 H1 p1 r1 => h σ G1 H1 p1.er p1.gs⟩
  cases e with
  | Call fn es kws cp =>
    cases fn with
    | Attribute o meth ap =>
      cases o with
      | Name x xp =>
        cases kws with
        | cons kw kws => exact gen fun _ => by match es with | [] => rfl | [_] => rfl | _ :: _ :: _ => rfl
        | nil =>
          match es with
          | [a] =>
            by_cases hl : (ap.endLine == cp.line) = true
            case neg => exact ps_none fun D σ H ⟨ρ, G, er, h⟩ => hl (Wk.iff (show Wk (if (ap.endLine == cp.line) = true then _ else R.no) _ from h)).1
            have he : ∀ ρ, evS (m + 1) w Γ (.Expr (.Call (.Attribute (.Name x xp) meth ap) [a] [] cp) p) ρ = (methD m Γ x meth a ρ).th fun ρ1 => .ok (.next ρ1) := fun ρ => by
              show (if (ap.endLine == cp.line) = true then _ else R.no) = _
              rw [if_pos hl]
            by_cases h1 : meth = "append"
            · subst h1; exact append_ok gd A x a xp ap cp p hl he
            by_cases h2 : meth = "extend"
            · subst h2; exact extend_ok gd A x a xp ap cp p hl he
            refine ps_none fun D σ H ⟨ρ, G, er, h⟩ => ?_
            rw [he] at h
            have h := Wk.th h
            unfold methD at h
            cases e1 : ownAt Γ x ρ with
            | none => rw [e1] at h; exact h
            | some q =>
              rw [e1] at h
              have h := (Wk.nif (c := starB a = true) h).2
              rw [if_neg h1, if_neg h2] at h
              exact h
          | [] =>
            by_cases hl : (ap.endLine == cp.line) = true ∧ meth = "clear"
            case neg => exact ps_none fun D σ H ⟨ρ, G, er, h⟩ => hl (Wk.iff (show Wk (if (ap.endLine == cp.line) = true ∧ meth = "clear" then _ else R.no) _ from h)).1
            obtain ⟨hl, rfl⟩ := hl
            refine clear_ok gd x xp ap cp p hl fun ρ => ?_
            show (if (ap.endLine == cp.line) = true ∧ ("clear" : Str) = "clear" then _ else R.no) = _
            rw [if_pos ⟨hl, rfl⟩]
          | _ :: _ :: _ => exact gen fun _ => rfl
      | _ => exact gen fun _ => rfl
    | _ => exact gen fun _ => rfl
  | _ => exact gen fun _ => rfl
theorem s_ok (gs : Gs κ K k X Γ) (A : All κ K k X Γ m) (A1 : All κ K k X Γ (m + 1)) (S : AllS κ K X Γ m w) (st : Stmt) : PS X st (tS κ K G₀ H₀ Γ (m + 1) w st) := by
  cases st with
  | Pass p => exact PS.imp ps_pass fun D σ H ⟨ρ, G, er, h⟩ => h σ G H er fun _ _ e => e
  | Expr e p => exact expr_ok gs.toGd A e p
  | Return o p =>
    cases o with
    | some e => exact ret_ok gs.toGd A e p
    | none => exact PS.imp ps_retN fun D σ H ⟨ρ, G, er, h⟩ => h .non G H er.base er.g0 er.sub er.fresh (by simp only [ReR, Rep])
  | Assign tgs e p =>
    cases tgs with
    | nil => exact ps_none fun D σ H ⟨ρ, G, er, h⟩ => h
    | cons tg tgs =>
      cases tgs with
      | cons t2 tgs => exact ps_none fun D σ H ⟨ρ, G, er, h⟩ => h
      | nil =>
        cases tg with
        | Name x xp => exact set_ok gs A A1 x e xp p
        | Tuple es j tp => exact tupset_ok gs.toGd A es j tp e p
        | Subscript o i sp =>
          cases o with
          | Name x xp => exact subset_ok gs.toGd A x i e xp sp p
          | _ => exact ps_none fun D σ H ⟨ρ, G, er, h⟩ => h
        | _ => exact ps_none fun D σ H ⟨ρ, G, er, h⟩ => h
  | If c a b p => exact if_ok A S c a b p
  | For tg it body orelse p =>
    cases orelse with
    | nil => exact for_ok gs A S tg it body p
    | cons s l => exact ps_none fun D σ H ⟨ρ, G, er, h⟩ => h
  | While c body orelse p =>
    cases orelse with
    | nil => exact while_ok gs A S c body p
    | cons s l => exact ps_none fun D σ H ⟨ρ, G, er, h⟩ => h
  | _ => exact ps_none fun D σ H ⟨ρ, G, er, h⟩ => h
theorem ss_ok (S : AllS κ K X Γ m w) : ∀ l, PSs X l (tSs κ K G₀ H₀ Γ (m + 1) w l)
  | [] => PSs.imp pss_nil fun D σ H ⟨ρ, G, er, h⟩ => h σ G H er fun _ _ e => e
  | st :: l => by
    refine PSs.imp (pss_cons (S.s G₀ H₀ st) (S.ss G₀ H₀ l)) fun D σ H ⟨ρ, G, er, h⟩ => ?_
    refine ⟨ρ, G, er, Wk.mono (Wk.th (x := evS m w Γ st ρ) h) fun f hf => ?_⟩
    cases f with
    | next ρ1 => exact fun σ1 G1 H1 er1 g1 => ⟨ρ1, G1, er1, Wk.mono hf fun f hf => hf.back g1⟩
    | ret r => exact hf
theorem allS (gs : Gs κ K k X Γ) : ∀ m, AllS κ K X Γ m w
  | 0 => ⟨fun _ _ st => ps_none fun D σ H ⟨ρ, G, er, h⟩ => h, fun _ _ l => pss_none fun D σ H ⟨ρ, G, er, h⟩ => h⟩
  | m + 1 =>
    have S := allS gs m
    ⟨fun G₀ H₀ st => s_ok gs (all m X Γ gs.toGd) (all (m + 1) X Γ gs.toGd) S st, fun G₀ H₀ l => ss_ok S l⟩
end
end DE
set_option maxHeartbeats 4000000
namespace DE
open PySem PySem.Spec PyProof.Rows L2
def parN (st : Stmt) : List Str := (defArgs st).args.map (·.arg)
def fnN (st : Stmt) : List Str := parN st ++ (defScope st).names.filterMap fun x => if ((x.2 == .local || x.2 == .cell) && !(parN st).contains x.1) = true then some x.1 else none
def fnCheck (st : Stmt) : Bool := (defScope st).kind == .function && !(defScope st).isCoroutine && !(defScope st).isGenerator && decide (fnN st).Nodup && (parN st).all (locB (defScope st)) && (defScope st).names.all fun y => y.2 != .free
def toSl : Ar → Sl
  | .val d => .val d
  | .bor l => .bor l
  | .scr l => .scr l
def slotsOf (N : List Str) (args : List Ar) : Env := args.map toSl ++ List.replicate (N.length - args.length) .no
structure Pg where
  defs : List (Str × Stmt)
  gl : Str → Option D
  m : Nat
  w : Nat
def Pg.ct (pg : Pg) (cl : Str → List Ar → R Rv) (st : Stmt) : Ct := ⟨fnN st, defScope st, pg.defs.map (·.1), pg.gl, cl⟩
def flR : Fl → R Rv
  | .next _ => .ok (.val .non)
  | .ret r => .ok r
def evF (pg : Pg) (cl : Str → List Ar → R Rv) (st : Stmt) (args : List Ar) : R Rv :=
  if (fnCheck st && args.length == (parN st).length) = true then (evSs pg.m pg.w (pg.ct cl st) (defBody st) (slotsOf (fnN st) args)).th flR else .no
def clK (pg : Pg) : Nat → Str → List Ar → R Rv
  | 0, _, _ => .no
  | k + 1, f, args => match pg.defs.lookup f with
    | some st => evF pg (clK pg k) st args
    | none => .no
def FnF (K : PySem.W.Frag) (mg : Str → Option Value) (f : Str) (st : Stmt) : Prop := ∃ fa fd, Fun K f f st fa fd ∧ mg f = some (.ref fa) ∧ Binds K fd (parN st) []
inductive AllF (K : PySem.W.Frag) (mg : Str → Option Value) : List (Str × Stmt) → Prop where
  | nil : AllF K mg []
  | cons {f : Str} {st : Stmt} {l : List (Str × Stmt)} (h : FnF K mg f st) (t : AllF K mg l) : AllF K mg ((f, st) :: l)
theorem AllF.mem {K : PySem.W.Frag} {mg : Str → Option Value} : ∀ {l : List (Str × Stmt)} {f : Str} {st : Stmt}, AllF K mg l → (f, st) ∈ l → FnF K mg f st
  | _, _, _, .nil, h => by cases h
  | _, _, _, .cons h t, m => by
    cases m with
    | head => exact h
    | tail _ m => exact t.mem m
structure PgOk (κ : KC) (K : PySem.W.Frag) (mg : Str → Option Value) (pg : Pg) : Prop where
  fn : AllF K mg pg.defs
  blt : ∀ f ∈ bNames, mg f = none
  gl : ∀ x d, pg.gl x = some d → ∃ v u, mg x = some u ∧ RelV v u ∧ ∀ G, Rep κ G d v
section
variable {P : Program} {wd : World} {κ : KC} {K : PySem.W.Frag} {mg : Str → Option Value} {base : Heap} {pg : Pg}
theorem ArRs.len {G H : Hp} : ∀ {args : List Ar} {vs : List V}, ArRs κ K G H args vs → args.length = vs.length
  | [], vs, h => by simp only [ArRs] at h; subst h; rfl
  | a :: l, vs, h => by
    simp only [ArRs] at h
    obtain ⟨v, r, rfl, _, h2⟩ := h
    simp [ArRs.len h2]
theorem ArRs.at {G H : Hp} : ∀ {args : List Ar} {vs : List V} {i : Nat} {a : Ar}, ArRs κ K G H args vs → args[i]? = some a → ∃ v, vs[i]? = some v ∧ ArR κ K G H a v
  | [], vs, i, a, h, e => by simp at e
  | b :: l, vs, 0, a, h, e => by
    simp only [ArRs] at h
    obtain ⟨v, r, rfl, h1, h2⟩ := h
    simp at e
    subst e
    exact ⟨v, rfl, h1⟩
  | b :: l, vs, i + 1, a, h, e => by
    simp only [ArRs] at h
    obtain ⟨v, r, rfl, h1, h2⟩ := h
    obtain ⟨v', e1, e2⟩ := ArRs.at (i := i) h2 (by simpa using e)
    exact ⟨v', by simpa using e1, e2⟩
theorem start_er {G H : Hp} {args : List Ar} {vs : List V} {N : List Str} (sub : Same G H) (h : ArRs κ K G H args vs) : ER κ K G H G H (slotsOf N args) (L2.start N vs) := by
  have hl := h.len
  refine ⟨by simp [slotsOf, L2.start, hl], sub, fun _ _ e => e, fun _ _ e => e, fun a o e => .inl ⟨o, e⟩, fun i s e => ?_, fun i j a l n e1 => ?_⟩
  · unfold slotsOf at e
    unfold L2.start
    by_cases hi : i < args.length
    · rw [List.getElem?_append_left (by simpa using hi), List.getElem?_map] at e
      obtain ⟨b, e1, rfl⟩ := Option.map_eq_some_iff.mp e
      obtain ⟨v, e2, e3⟩ := h.at e1
      rw [List.getElem?_append_left (by rw [List.length_map, ← hl]; exact hi), List.getElem?_map, e2]
      cases b with
      | val d => exact ⟨v, rfl, e3⟩
      | bor l => obtain ⟨a, xs, rfl, h1, h2⟩ := e3; exact ⟨a, xs, rfl, h1, h2⟩
      | scr l => obtain ⟨a, xs, rfl, h1, h2⟩ := e3; exact ⟨a, xs, rfl, h1, h2⟩
    · rw [List.getElem?_append_right (by simpa using hi)] at e
      have : s = .no := by
        have := List.mem_of_getElem? e
        exact List.eq_of_mem_replicate this
      subst this
      trivial
  · exfalso
    unfold slotsOf at e1
    by_cases hi : i < args.length
    · rw [List.getElem?_append_left (by simpa using hi), List.getElem?_map] at e1
      obtain ⟨b, _, z⟩ := Option.map_eq_some_iff.mp e1
      cases b <;> cases z
    · rw [List.getElem?_append_right (by simpa using hi)] at e1
      have := List.eq_of_mem_replicate (List.mem_of_getElem? e1)
      cases this
theorem fnScope_of {st : Stmt} (h : fnCheck st = true) : FnScope (fnN st) (parN st) (defScope st) := by
  unfold fnCheck at h
  simp only [Bool.and_eq_true, Bool.not_eq_true', List.all_eq_true] at h
  obtain ⟨⟨⟨⟨⟨h1, h2⟩, h3⟩, h4⟩, h5⟩, h6⟩ := h
  refine ⟨by simpa using h1, h2, h3, of_decide_eq_true h4, by simp [fnN], fun x hx => loc_is (h5 x hx), fun y hy => by simpa using h6 y hy⟩
theorem clK_succ {k : Nat} {f : Str} {st : Stmt} {args : List Ar} (h : pg.defs.lookup f = some st) : clK pg (k + 1) f args = evF pg (clK pg k) st args := by
  show (match pg.defs.lookup f with | some st => evF pg (clK pg k) st args | none => .no) = _
  rw [h]
theorem lookup_of {f : Str} : ∀ {l : List (Str × Stmt)}, (l.map (·.1)).contains f = true → ∃ st, l.lookup f = some st
  | [], h => by simp at h
  | (g, st) :: l, h => by
    by_cases e : f = g
    · subst e; exact ⟨st, by simp [List.lookup_cons]⟩
    · have hb : (f == g) = false := by simpa using e
      obtain ⟨s, hs⟩ := lookup_of (l := l) (f := f) (by
        simp only [List.map_cons, List.contains_cons, hb, Bool.false_or] at h
        exact h)
      exact ⟨s, by rw [List.lookup_cons, hb]; exact hs⟩
def FnAt (P : Program) (wd : World) (κ : KC) (K : PySem.W.Frag) (mg : Str → Option Value) (base : Heap) (pg : Pg) (k : Nat) : Prop := ∀ (f : Str) (st : Stmt), pg.defs.lookup f = some st → ∃ fa fd, FnOk P wd K mg base CX0 k fa fd (parN st) (spF κ K (clK pg k) f) ∧ mg f = some (.ref fa) ∧ PySem.W.keepIn K (.ref fa) = true ∧ Binds K fd (parN st) []
theorem fn_succ (ok : PgOk κ K mg pg) {k : Nat} (ih : FnAt P wd κ K mg base pg k) {f : Str} {st : Stmt} {fa : Addr} {fd : FuncData} (F : Fun K f f st fa fd) (h : pg.defs.lookup f = some st) : FnOk P wd K mg base CX0 (k + 1) fa fd (parN st) (spF κ K (clK pg (k + 1)) f) := by
    by_cases hc : fnCheck st = true
    case neg =>
      have no : ∀ {vs : List V} {H : Hp} {Q : VK} {E : XK}, spF κ K (clK pg (k + 1)) f vs H Q E → False := fun {vs H Q E} ⟨G, args, _, _, z⟩ => by
        rw [clK_succ h] at z
        have := (Wk.iff (show Wk (if (fnCheck st && args.length == (parN st).length) = true then _ else R.no) _ from z)).1
        rw [Bool.and_eq_true] at this
        exact hc this.1
      exact ⟨fun vs H Q E z => (no z).elim, fun A outer s H args us vs Q E _ _ _ _ z => (no z).elim⟩
    refine F.ok (fnScope_of hc) (fun vs H Q E z => ?_) (fun cdv A outer s H vs Q E hr z => ?_)
    · obtain ⟨G, args, _, ha, z⟩ := z
      rw [clK_succ h] at z
      have := (Wk.iff (show Wk (if (fnCheck st && args.length == (parN st).length) = true then _ else R.no) _ from z)).1
      rw [Bool.and_eq_true] at this
      rw [← ha.len]
      simpa using this.2
    · obtain ⟨G, args, sub, ha, z⟩ := z
      rw [clK_succ h] at z
      have z := (Wk.iff (show Wk (if (fnCheck st && args.length == (parN st).length) = true then _ else R.no) _ from z)).2
      have S := fnScope_of hc
      have gs : Gs κ K k (cxOf CX0 P wd K mg base (fnN st) f (defScope st) fa cdv A outer s H E).nox (pg.ct (clK pg k) st) :=
        { hN := rfl
          vis := fun x h => vis_is h
          loc := fun x h => ⟨loc_is h, .inl rfl⟩
          glo := fun x h => by
            have h : ((defScope st).names.lookup x == some NameKind.globalImplicit) = true := h
            exact (by simpa using h : (defScope st).names.lookup x = some .globalImplicit)
          cf := fun x h => h
          nd := S.nd
          calm := rfl
          hK := rfl
          room := hr
          fns := fun g hg => by
            obtain ⟨st', hl⟩ := lookup_of (l := pg.defs) hg
            obtain ⟨ga, gd, G1, G2, G3, G4⟩ := ih g st' hl
            exact ⟨ga, gd, parN st', G1, G2, G3, G4⟩
          blt := ok.blt
          gl := ok.gl
          own := PassesOwn.never
          sceq := rfl
          fnk := S.kind }
      refine ⟨_, (allS gs (w := pg.w) pg.m).ss G H (defBody st), slotsOf (fnN st) args, G, start_er sub ha, Wk.mono (Wk.th z) fun fl hf => ?_⟩
      cases fl with
      | next ρ => exact fun σ' G' H' er g' => hf .non G' H' er.base er.g0 er.sub er.fresh (by simp only [ReR, Rep])
      | ret r => exact hf
theorem fn_all (ok : PgOk κ K mg pg) : ∀ k : Nat, FnAt P wd κ K mg base pg k
  | 0, f, st, h => by
    obtain ⟨fa, fd, F, hm, hb⟩ := ok.fn.mem (PySem.mem_of_lookup h)
    exact ⟨fa, fd, ⟨fun vs H Q E ⟨G, args, _, _, z⟩ => False.elim z, fun A outer s H args us vs Q E _ _ _ _ ⟨G, args', _, _, z⟩ => False.elim z⟩, hm, F.kp, hb⟩
  | k + 1, f, st, h => by
    obtain ⟨fa, fd, F, hm, hb⟩ := ok.fn.mem (PySem.mem_of_lookup h)
    exact ⟨fa, fd, fn_succ ok (fn_all ok k) F h, hm, F.kp, hb⟩
theorem ints_reps (G : Hp) : ∀ ns : List Int, Reps κ G (ns.map D.int) (ns.map V.int)
  | [] => .nil
  | n :: ns => .cons (by simp only [Rep]) (ints_reps G ns)
theorem law_of {st : Stmt} {k : Nat} {fa : Addr} {fd : FuncData} (ok : PgOk κ K mg pg) (F : Fun K "law" "law" st fa fd) (hl : pg.defs.lookup ("law" : Str) = some st) (hp : parN st = (["_law_script"] : List Str)) :
    FnOk P wd K mg base CX0 (k + 1) fa fd (["_law_script"] : List Str) (spF κ K (clK pg (k + 1)) "law") := by
  have := fn_succ (P := P) (wd := wd) (base := base) ok (fn_all ok k) F hl
  rw [hp] at this
  exact this
theorem law_sp {k : Nat} {H : Hp} {a : Addr} {ns : List Int} (hq : SqL K H a (ns.map V.int)) (h : clK pg k "law" [.scr (ns.map D.int)] = .ok (.val (.bl true))) : spF κ K (clK pg k) "law" [.ref a] H (fun v _ => v = .bl true) fun _ _ _ => False := by
  refine ⟨fun _ => none, [.scr (ns.map D.int)], fun _ _ e => (by cases e), ⟨_, _, rfl, ⟨a, _, rfl, hq, ints_reps _ ns⟩, rfl⟩, ?_⟩
  rw [h]
  intro v G' H' _ _ _ _ r
  simpa only [ReR, Rep] using r
end
end DE
set_option maxHeartbeats 4000000
namespace DE
open PySem L2
inductive B1 where
  | len | list | int
inductive B2 where
  | max | min
inductive Ty where
  | int | bool | str | list | tuple
inductive Tg where
  | one (i : Nat) | many (l : List Nat)
mutual
inductive E where
  | var (i : Nat) | con (d : D) | bin (op : Operator) (a b : E) | neg (a : E) | not (a : E) | one (a : E) | and (a b : E) | or (a b : E) | cmp (op : CmpOp) (a b : E) | ite (c : T) (a b : E)
  | idx (a i : E) | sli (a : E) (lo hi : O) | lst (l : Es) | tup (l : Es) | call (f : Str) (l : Es) | b1 (f : B1) (a : E) | b2 (f : B2) (a b : E) | isi (t : Ty) (a : E) | comp (x : E) (src : I) (tg : Tg) (c : F) (n : Nat) (fr : List Nat)
inductive Es where
  | nil | cons (a : E) (l : Es)
inductive T where
  | not (a : T) | one (a : T) | and (a b : T) | or (a b : T) | cmp (op : CmpOp) (a b : E) | val (a : E)
inductive O where
  | none | some (a : E)
inductive F where
  | yes | test (c : T)
inductive I where
  | seq (a : E) | rng (a : E) | rng2 (a b : E) | enum (a : E) | zip (a b : E)
end
def slR (ρ : Env) (i : Nat) : R Rv := match ρ[i]? with
  | some (.val d) => .ok (.val d)
  | some (.own l) => .ok (.cell l)
  | some (.bor l) => .ok (.cell l)
  | some (.scr l) => .ok (.scr l)
  | _ => .no
def slE (ρ : Env) (i : Nat) : R (D × Env) := match ρ[i]? with
  | some (.val d) => .ok (d, ρ)
  | some (.own l) => .ok (.lst l, ρ.set i (.val (.lst l)))
  | _ => .no
def slL (ρ : Env) (i : Nat) : R ((Sk × List D) × Env) := match ρ[i]? with
  | some (.val (.lst l)) => .ok ((.lst, l), ρ)
  | some (.val (.tup l)) => .ok ((.tup, l), ρ)
  | some (.val (.str z)) => .ok ((.str, sigD z), ρ)
  | some (.own l) => .ok ((.lst, l), ρ.set i (.val (.lst l)))
  | some (.bor l) => .ok ((.lst, l), ρ)
  | some (.scr l) => .ok ((.lst, l), ρ)
  | _ => .no
def slX (ρ : Env) (i : Nat) : R Rv := match ρ[i]? with
  | some (.val d) => .ok (.val d)
  | some (.own l) => .ok (.tmp l)
  | _ => .no
def B1.go : B1 → Rv → R Rv
  | .len => lenD
  | .list => listD
  | .int => intD
def B2.go : B2 → Rv → Rv → R Rv
  | .max => maxD
  | .min => minD
def Ty.of : Ty → D → Option Bool
  | _, .ins .. => none
  | .int, .int _ => some true
  | .int, .bl _ => some true
  | .bool, .bl _ => some true
  | .str, .str _ => some true
  | .list, .lst _ => some true
  | .tuple, .tup _ => some true
  | _, _ => some false
def Ty.go (t : Ty) : Rv → Option Bool
  | .scr _ => none
  | r => t.of r.data
def setIs : List Nat → List D → Env → R Env
  | [], [], ρ => .ok ρ
  | i :: l, d :: ds, ρ => setIs l ds (ρ.set i (.val d))
  | _, _, _ => .no
def Tg.go : Tg → D → Env → R Env
  | .one i, d, ρ => .ok (ρ.set i (.val d))
  | .many l, .tup ds, ρ => setIs l ds ρ
  | _, _, _ => .no
def toAr : Rv → Ar
  | .val d => .val d
  | .tmp l => .val (.lst l)
  | .cell l => .bor l
  | .scr l => .scr l
def iBlk (n : Nat) (fr : List Nat) (ρ : Env) : Env := List.replicate n Sl.no ++ fr.map fun i => lend (ρ.getD i .no)
def valE (x : Rv × Env) : R (D × Env) := match x.1 with
  | .val d => .ok (d, x.2)
  | .tmp l => .ok (.lst l, x.2)
  | _ => .no
def valL (x : Rv × Env) : R ((Sk × List D) × Env) := match x.1 with
  | .val (.lst l) => .ok ((.lst, l), x.2)
  | .val (.tup l) => .ok ((.tup, l), x.2)
  | .val (.str z) => .ok ((.str, sigD z), x.2)
  | .tmp l => .ok ((.lst, l), x.2)
  | _ => .no
def escE (e : E) (r : Env → R (Rv × Env)) (ρ : Env) : R (D × Env) := match e with
  | .var i => slE ρ i
  | .con d => .ok (d, ρ)
  | _ => (r ρ).th valE
def escL (e : E) (r : Env → R (Rv × Env)) (ρ : Env) : R ((Sk × List D) × Env) := match e with
  | .var i => slL ρ i
  | _ => (r ρ).th valL
mutual
def iR (cl : Str → List Ar → R Rv) : E → Env → R (Rv × Env)
  | .var i, ρ => (slR ρ i).th fun r => .ok (r, ρ)
  | .con d, ρ => .ok (.val d, ρ)
  | .bin op a b, ρ => (iR cl a ρ).th fun x => (iR cl b x.2).th fun y => (binD op x.1 y.1).th fun r => .ok (r, y.2)
  | .neg a, ρ => (iR cl a ρ).th fun x => match x.1 with
    | .val (.int i) => .ok (.val (.int (-i)), x.2)
    | _ => .no
  | .not a, ρ => (iR cl a ρ).th fun x => match x.1 with
    | .val (.bl b) => .ok (.val (.bl (!b)), x.2)
    | _ => .no
  | .one a, ρ => iR cl a ρ
  | .and a b, ρ => (iR cl a ρ).th fun x => match x.1 with
    | .val (.bl true) => iR cl b x.2
    | .val (.bl false) => .ok (.val (.bl false), x.2)
    | _ => .no
  | .or a b, ρ => (iR cl a ρ).th fun x => match x.1 with
    | .val (.bl false) => iR cl b x.2
    | .val (.bl true) => .ok (.val (.bl true), x.2)
    | _ => .no
  | .cmp op a b, ρ => (iR cl a ρ).th fun x => (iR cl b x.2).th fun y => (R.of (cmpD op x.1 y.1)).th fun r => .ok (.val (.bl r), y.2)
  | .ite c a b, ρ => (iT cl c ρ).th fun t => if t.1 then iR cl a t.2 else iR cl b t.2
  | .idx a i, ρ => (iR cl a ρ).th fun x => (iR cl i x.2).th fun y => (idxD x.1 y.1).th fun r => .ok (r, y.2)
  | .sli a lo hi, ρ => (iR cl a ρ).th fun x => (iO cl lo x.2).th fun l => (iO cl hi l.2).th fun h => (sliceD x.1 l.1 h.1).th fun r => .ok (r, h.2)
  | .lst l, ρ => (iEs cl l ρ).th fun x => if x.1.length ≤ sizeLine then .ok (.tmp x.1, x.2) else .no
  | .tup l, ρ => (iEs cl l ρ).th fun x => if x.1.length ≤ sizeLine then .ok (.val (.tup x.1), x.2) else .no
  | .call f l, ρ => (iAs cl l ρ).th fun x => (cl f x.1).th fun r => .ok (r, x.2)
  | .b1 f a, ρ => (iR cl a ρ).th fun x => (f.go x.1).th fun r => .ok (r, x.2)
  | .b2 f a b, ρ => (iR cl a ρ).th fun x => (iR cl b x.2).th fun y => (f.go x.1 y.1).th fun r => .ok (r, y.2)
  | .isi t a, ρ => (iR cl a ρ).th fun x => (R.of (t.go x.1)).th fun b => .ok (.val (.bl b), x.2)
  | .comp e src tg c n fr, ρ => (iI cl src ρ).th fun x => if x.1.length ≤ sizeLine then (compL tg.go (fun ρ1 => iF cl c ρ1) (escE e (iR cl e)) x.1 (iBlk n fr x.2) []).th fun l => .ok (.tmp l, x.2) else .no
def iT (cl : Str → List Ar → R Rv) : T → Env → R (Bool × Env)
  | .not a, ρ => (iT cl a ρ).th fun t => .ok (!t.1, t.2)
  | .one a, ρ => iT cl a ρ
  | .and a b, ρ => (iT cl a ρ).th fun t => if t.1 then iT cl b t.2 else .ok (false, t.2)
  | .or a b, ρ => (iT cl a ρ).th fun t => if t.1 then .ok (true, t.2) else iT cl b t.2
  | .cmp op a b, ρ => (iR cl a ρ).th fun x => (iR cl b x.2).th fun y => (R.of (cmpD op x.1 y.1)).th fun r => .ok (r, y.2)
  | .val a, ρ => (iR cl a ρ).th fun x => (R.of (truthD x.1)).th fun b => .ok (b, x.2)
def iEs (cl : Str → List Ar → R Rv) : Es → Env → R (List D × Env)
  | .nil, ρ => .ok ([], ρ)
  | .cons e l, ρ => (escE e (iR cl e) ρ).th fun x => (iEs cl l x.2).th fun y => .ok (x.1 :: y.1, y.2)
def iAs (cl : Str → List Ar → R Rv) : Es → Env → R (List Ar × Env)
  | .nil, ρ => .ok ([], ρ)
  | .cons e l, ρ => (iR cl e ρ).th fun x => (iAs cl l x.2).th fun y => .ok (toAr x.1 :: y.1, y.2)
def iO (cl : Str → List Ar → R Rv) : O → Env → R (Option Int × Env)
  | .none, ρ => .ok (none, ρ)
  | .some e, ρ => (iR cl e ρ).th fun x => match x.1 with
    | .val (.int i) => .ok (some i, x.2)
    | _ => .no
def iF (cl : Str → List Ar → R Rv) : F → Env → R (Bool × Env)
  | .yes, ρ => .ok (true, ρ)
  | .test c, ρ => iT cl c ρ
def iI (cl : Str → List Ar → R Rv) : I → Env → R (List D × Env)
  | .seq a, ρ => (escL a (iR cl a) ρ).th fun x => .ok (x.1.2, x.2)
  | .rng a, ρ => (iR cl a ρ).th fun x => (match x.1.int? with
    | some n => if smallI n = true then .ok (rangeD 0 n, x.2) else .no
    | none => .no)
  | .rng2 a b, ρ => (iR cl a ρ).th fun x => (iR cl b x.2).th fun y => (match x.1.int?, y.1.int? with
    | some i, some j => if smallI i = true ∧ smallI j = true then .ok (rangeD i j, y.2) else .no
    | _, _ => .no)
  | .enum a, ρ => (escL a (iR cl a) ρ).th fun x => match x.1.1 with | .lst => .ok (enumD x.1.2, x.2) | _ => .no
  | .zip a b, ρ => (escL a (iR cl a) ρ).th fun x => (escL b (iR cl b) x.2).th fun y => match x.1.1, y.1.1 with | .lst, .lst => .ok (zipD x.1.2 y.1.2, y.2) | _, _ => .no
end
end DE
set_option maxHeartbeats 4000000
namespace DE
open PySem L2
def o2 {α β γ : Type} (a : Option α) (b : Option β) (f : α → β → γ) : Option γ := match a, b with
  | some x, some y => some (f x y)
  | _, _ => none
theorem o2_some {α β γ : Type} {a : Option α} {b : Option β} {f : α → β → γ} {z : γ} (h : o2 a b f = some z) : ∃ x y, a = some x ∧ b = some y ∧ f x y = z := by
  cases a with
  | none => cases h
  | some x =>
    cases b with
    | none => cases h
    | some y => exact ⟨x, y, rfl, rfl, Option.some.inj h⟩
def oif {α : Type} (c : Bool) (a : Option α) : Option α := match c with
  | true => a
  | false => none
theorem oif_some {α : Type} {c : Bool} {a : Option α} {z : α} (h : oif c a = some z) : c = true ∧ a = some z := by
  cases c with
  | true => exact ⟨rfl, h⟩
  | false => cases h
def cName (Γ : Ct) (x : Str) : Option E := oif (nameOk x) (match ixOf Γ.N x with
  | some i => oif (visB Γ.sc x) (some (.var i))
  | none => oif (glB Γ.sc x) ((Γ.gl x).map .con))
def cConst : Const → Option E
  | .none => some (.con .non)
  | .bool b => some (.con (.bl b))
  | .int i => some (.con (.int i))
  | .str s => some (.con (.str s))
  | _ => none
def tyOf (t : Str) : Option Ty := if t = "int" then some .int else if t = "bool" then some .bool else if t = "str" then some .str else if t = "list" then some .list else if t = "tuple" then some .tuple else none
def b1Of (f : Str) : Option B1 := if f = "len" then some .len else if f = "list" then some .list else if f = "int" then some .int else none
def b2Of (f : Str) : Option B2 := if f = "max" then some .max else if f = "min" then some .min else none
def cSet (Γ : Ct) (x : Str) : Option Nat := oif (locB Γ.sc x && nameOk x) (ixOf Γ.N x)
def cSets (Γ : Ct) : List Str → Option (List Nat)
  | [] => some []
  | x :: l => o2 (cSet Γ x) (cSets Γ l) (· :: ·)
def cTg (Γ : Ct) (tg : Expr) : Option Tg := match tg with
  | .Name x _ => (cSet Γ x).map .one
  | .Tuple es j p => oif (!es.any starB) (match tgNames (.Tuple es j p) with
    | some xs => (cSets Γ xs).map .many
    | none => none)
  | _ => none
def noVar : E → Option E
  | .var _ => none
  | e => some e
mutual
def cE : Nat → Ct → Expr → Option E
  | 0, _, _ => none
  | m + 1, Γ, e => match e with
    | .Name x _ => cName Γ x
    | .Constant c _ _ => cConst c
    | .BinOp a op b _ => o2 (cE m Γ a) (cE m Γ b) (E.bin op)
    | .UnaryOp .USub a _ => (cE m Γ a).map .neg
    | .UnaryOp .Not a _ => (cE m Γ a).map .not
    | .BoolOp _ [a] _ => (cE m Γ a).map .one
    | .BoolOp .And (a :: b :: l) p => o2 (cE m Γ a) (cE m Γ (.BoolOp .And (b :: l) p)) .and
    | .BoolOp .Or (a :: b :: l) p => o2 (cE m Γ a) (cE m Γ (.BoolOp .Or (b :: l) p)) .or
    | .Compare a [op] [b] _ => oif (!behindInMarks op b) (o2 (cE m Γ a) (cE m Γ b) (E.cmp op))
    | .IfExp c a b _ => o2 (cT m Γ c) (o2 (cE m Γ a) (cE m Γ b) Prod.mk) fun c p => .ite c p.1 p.2
    | .Subscript a (.Slice lo hi none _) _ => o2 (cE m Γ a) (o2 (cO m Γ lo) (cO m Γ hi) Prod.mk) fun a p => .sli a p.1 p.2
    | .Subscript a (.Slice _ _ (some _) _) _ => none
    | .Subscript a i _ => o2 (cE m Γ a) (cE m Γ i) .idx
    | .List es _ => (cEs m Γ es).map .lst
    | .Tuple es _ _ => (cEs m Γ es).map .tup
    | .Call (.Name f p) es [] _ => oif (nameOk f && glB Γ.sc f && (ixOf Γ.N f).isNone) (
        if f = "isinstance" then (match es with
          | [a, b] => (match b with
            | .Name t _ => oif (nameOk t && glB Γ.sc t && (ixOf Γ.N t).isNone && !starB a) (o2 (tyOf t) (cE m Γ a) .isi)
            | _ => none)
          | _ => none)
        else if Γ.tab.contains f = true then (cAs m Γ es).map (.call f)
        else match es with
          | [a] => oif (!starB a) (o2 (b1Of f) (cE m Γ a) .b1)
          | [a, b] => oif (!(starB a || starB b)) (o2 (b2Of f) (o2 (cE m Γ a) (cE m Γ b) Prod.mk) fun f p => .b2 f p.1 p.2)
          | _ => none)
    | .ListComp elt [g] sc _ => oif (decide (g.is_async = 0)) (match tgNames g.target with
      | some own => oif (blkCheck Γ.sc Γ.N (frOf Γ.N sc) sc && decide (own ++ (frOf Γ.N sc).map fun i => Γ.N.getD i "").Nodup && foldOk g.iter)
          (o2 (o2 (cI m Γ (tupB g.target) g.iter) (cTg { Γ with N := own ++ (frOf Γ.N sc).map fun i => Γ.N.getD i "", sc := sc } g.target) Prod.mk)
            (o2 (cF m { Γ with N := own ++ (frOf Γ.N sc).map fun i => Γ.N.getD i "", sc := sc } g.ifs) (cX m { Γ with N := own ++ (frOf Γ.N sc).map fun i => Γ.N.getD i "", sc := sc } elt) Prod.mk)
            fun p q => .comp q.2 p.1 p.2 q.1 own.length (frOf Γ.N sc))
      | none => none)
    | _ => none
def cX : Nat → Ct → Expr → Option E
  | 0, _, _ => none
  | m + 1, Γ, e => match e with
    | .Name x _ => cName Γ x
    | e => (cE m Γ e).bind noVar
def cT : Nat → Ct → Expr → Option T
  | 0, _, _ => none
  | m + 1, Γ, e => match e with
    | .UnaryOp .Not a _ => (cT m Γ a).map .not
    | .BoolOp _ [a] _ => (cT m Γ a).map .one
    | .BoolOp .And (a :: b :: l) p => o2 (cT m Γ a) (cT m Γ (.BoolOp .And (b :: l) p)) .and
    | .BoolOp .Or (a :: b :: l) p => o2 (cT m Γ a) (cT m Γ (.BoolOp .Or (b :: l) p)) .or
    | .BoolOp _ [] _ => none
    | .IfExp .. => none
    | .Compare a [op] [b] _ => oif (!behindInMarks op b) (o2 (cE m Γ a) (cE m Γ b) (T.cmp op))
    | .Compare .. => none
    | e => (cE m Γ e).map .val
def cEs : Nat → Ct → List Expr → Option Es
  | 0, _, _ => none
  | m + 1, Γ, es => match es with
    | [] => some .nil
    | e :: l => oif (!starB e) (o2 (cX m Γ e) (cEs m Γ l) .cons)
def cAs : Nat → Ct → List Expr → Option Es
  | 0, _, _ => none
  | m + 1, Γ, es => match es with
    | [] => some .nil
    | e :: l => oif (!starB e) (o2 (cE m Γ e) (cAs m Γ l) .cons)
def cO : Nat → Ct → Option Expr → Option O
  | 0, _, _ => none
  | m + 1, Γ, o => match o with
    | none => some .none
    | some e => (cE m Γ e).map .some
def cF : Nat → Ct → List Expr → Option F
  | 0, _, _ => none
  | m + 1, Γ, es => match es with
    | [] => some .yes
    | [c] => (cT m Γ c).map .test
    | _ => none
def cL : Nat → Ct → Expr → Option E
  | 0, _, _ => none
  | m + 1, Γ, e => match e with
    | .Name x _ => oif (nameOk x && visB Γ.sc x) ((ixOf Γ.N x).map .var)
    | e => (cE m Γ e).bind noVar
def cI : Nat → Ct → Bool → Expr → Option I
  | 0, _, _, _ => none
  | m + 1, Γ, tb, e => match e with
    | .Call (.Name f p) es [] q => if f = "range" || f = "enumerate" || f = "zip" then oif (nameOk f && glB Γ.sc f && (ixOf Γ.N f).isNone) (match es with
        | [a] => oif (!starB a) (if f = "range" then (cE m Γ a).map .rng else if f = "enumerate" then oif tb ((cL m Γ a).map .enum) else none)
        | [a, b] => oif (!(starB a || starB b)) (if f = "range" then o2 (cE m Γ a) (cE m Γ b) .rng2 else if f = "zip" then oif tb (o2 (cL m Γ a) (cL m Γ b) .zip) else none)
        | _ => none)
      else (cL m Γ (.Call (.Name f p) es [] q)).map .seq
    | e => (cL m Γ e).map .seq
end
structure Same2 (m : Nat) : Prop where
  r : ∀ Γ e x, cE m Γ e = some x → ∀ ρ, evR m Γ e ρ = iR Γ.cl x ρ
  e : ∀ Γ e x, cX m Γ e = some x → ∀ ρ, evE m Γ e ρ = escE x (iR Γ.cl x) ρ
  t : ∀ Γ e x, cT m Γ e = some x → ∀ ρ, evT m Γ e ρ = iT Γ.cl x ρ
  es : ∀ Γ e x, cEs m Γ e = some x → ∀ ρ, evEs m Γ e ρ = iEs Γ.cl x ρ
  as : ∀ Γ e x, cAs m Γ e = some x → ∀ ρ, evAs m Γ e ρ = iAs Γ.cl x ρ
  o : ∀ Γ e x, cO m Γ e = some x → ∀ ρ, evO m Γ e ρ = iO Γ.cl x ρ
  f : ∀ Γ e x, cF m Γ e = some x → ∀ ρ, evIf m Γ e ρ = iF Γ.cl x ρ
  l : ∀ Γ e x, cL m Γ e = some x → ∀ ρ, evL m Γ e ρ = escL x (iR Γ.cl x) ρ
  i : ∀ Γ tb e x, cI m Γ tb e = some x → ∀ ρ, evI m Γ tb e ρ = iI Γ.cl x ρ
theorem map_some {α β : Type} {o : Option α} {f : α → β} {z : β} (h : o.map f = some z) : ∃ x, o = some x ∧ f x = z := Option.map_eq_some_iff.mp h
section
variable {m : Nat} {Γ : Ct}
theorem name_same {x : Str} {z : E} (h : cName Γ x = some z) (ρ : Env) : ((nameR Γ x ρ).th fun r => R.ok (r, ρ)) = iR Γ.cl z ρ ∧ nameE Γ x ρ = escE z (iR Γ.cl z) ρ := by
  unfold cName at h
  obtain ⟨h1, h⟩ := oif_some h
  unfold nameR nameE
  rw [if_pos h1, if_pos h1]
  cases hi : ixOf Γ.N x with
  | some i =>
    rw [hi] at h
    obtain ⟨h2, h⟩ := oif_some h
    cases h
    dsimp only
    rw [if_pos h2, if_pos h2]
    exact ⟨rfl, rfl⟩
  | none =>
    rw [hi] at h
    obtain ⟨h2, h⟩ := oif_some h
    obtain ⟨d, h3, rfl⟩ := map_some h
    dsimp only
    rw [if_pos h2, if_pos h2, h3]
    exact ⟨rfl, rfl⟩
theorem ty_same {t : Str} {y : Ty} (h : tyOf t = some y) (r : Rv) : isiR r t = y.go r := by
  unfold tyOf at h
  have main : ∀ d : D, isiD d t = y.of d := fun d => by
    split at h
    · rename_i e; cases h; subst e; cases d <;> rfl
    split at h
    · rename_i e; cases h; subst e; cases d <;> rfl
    split at h
    · rename_i e; cases h; subst e; cases d <;> rfl
    split at h
    · rename_i e; cases h; subst e; cases d <;> rfl
    split at h
    · rename_i e; cases h; subst e; cases d <;> rfl
    cases h
  cases r with
  | val d => exact main d
  | tmp l => exact main (.lst l)
  | cell l => exact main (.lst l)
  | scr l => rfl
theorem b1_same {f : Str} {b : B1} (h : b1Of f = some b) (r : Rv) : call1 f r = b.go r := by
  unfold b1Of at h
  split at h
  · rename_i e; cases h; subst e; rfl
  split at h
  · rename_i e; cases h; subst e; rfl
  split at h
  · rename_i e; cases h; subst e; rfl
  cases h
theorem b2_same {f : Str} {b : B2} (h : b2Of f = some b) (r s : Rv) : call2 f r s = b.go r s := by
  unfold b2Of at h
  split at h
  · rename_i e; cases h; subst e; rfl
  split at h
  · rename_i e; cases h; subst e; rfl
  cases h
theorem set_same {x : Str} {i : Nat} (h : cSet Γ x = some i) (d : D) (ρ : Env) : setN Γ x d ρ = .ok (ρ.set i (.val d)) := by
  unfold cSet at h
  obtain ⟨h1, h2⟩ := oif_some h
  unfold setN
  rw [h2]
  show (if (locB Γ.sc x && nameOk x) = true then R.ok (ρ.set i (.val d)) else .no) = _
  rw [if_pos h1]
theorem sets_same : ∀ {xs : List Str} {l : List Nat}, cSets Γ xs = some l → ∀ (ds : List D) (ρ : Env), setNs Γ xs ds ρ = setIs l ds ρ
  | [], l, h, ds, ρ => by cases h; cases ds <;> rfl
  | x :: xs, l, h, ds, ρ => by
    obtain ⟨i, l', h1, h2, rfl⟩ := o2_some h
    cases ds with
    | nil => rfl
    | cons d ds =>
      show (setN Γ x d ρ).th (fun ρ1 => setNs Γ xs ds ρ1) = setIs l' ds (ρ.set i (.val d))
      rw [set_same h1]
      exact sets_same h2 ds _
theorem tg_same {tg : Expr} {t : Tg} (h : cTg Γ tg = some t) (d : D) (ρ : Env) : asgD Γ tg d ρ = t.go d ρ := by
  cases tg with
  | Name x p =>
    obtain ⟨i, h1, rfl⟩ := map_some h
    exact set_same h1 d ρ
  | Tuple es j p =>
    obtain ⟨h1, h⟩ := oif_some h
    cases hx : tgNames (.Tuple es j p) with
    | none => rw [hx] at h; cases h
    | some xs =>
      rw [hx] at h
      obtain ⟨l, h2, rfl⟩ := map_some h
      show (R.of (tgNames (.Tuple es j p))).th _ = _
      rw [hx]
      cases d with
      | tup ds =>
        show (if es.any starB = true then R.no else setNs Γ xs ds ρ) = setIs l ds ρ
        rw [if_neg (by simpa using h1)]
        exact sets_same h2 ds ρ
      | _ => rfl
  | _ => cases h
theorem noVar_some {e z : E} (h : noVar e = some z) : e = z ∧ ∀ i, z ≠ .var i := by
  cases e <;> cases h <;> exact ⟨rfl, fun i z => by cases z⟩
theorem escE_of {z : E} (h : ∀ i, z ≠ .var i) (cl : Str → List Ar → R Rv) (ρ : Env) : escE z (iR cl z) ρ = (iR cl z ρ).th valE := by
  cases z <;> first | rfl | exact absurd rfl (h _)
theorem escL_of {z : E} (h : ∀ i, z ≠ .var i) (cl : Str → List Ar → R Rv) (ρ : Env) : escL z (iR cl z) ρ = (iR cl z ρ).th valL := by
  cases z <;> first | rfl | exact absurd rfl (h _)
theorem compL_same {a a' : D → Env → R Env} {t t' : Env → R (Bool × Env)} {e e' : Env → R (D × Env)} (ha : ∀ d ρ, a d ρ = a' d ρ) (ht : ∀ ρ, t ρ = t' ρ) (he : ∀ ρ, e ρ = e' ρ) (l : List D) (ρ : Env) (acc : List D) : compL a t e l ρ acc = compL a' t' e' l ρ acc := by
  have h1 : a = a' := funext fun d => funext fun ρ => ha d ρ
  have h2 : t = t' := funext ht
  have h3 : e = e' := funext he
  rw [h1, h2, h3]
end
end DE
set_option maxHeartbeats 4000000
namespace DE
open PySem L2
theorem th_congr {α β : Type} {x y : R α} {f g : α → R β} (h : x = y) (i : ∀ a, f a = g a) : x.th f = y.th g := by
  subst h
  cases x with
  | ok a => exact i a
  | _ => rfl
section
variable {m : Nat}
theorem r_same (S : Same2 m) (Γ : Ct) (e : Expr) (x : E) (h : cE (m + 1) Γ e = some x) (ρ : Env) : evR (m + 1) Γ e ρ = iR Γ.cl x ρ := by
  cases e with
  | Name y p => exact (name_same h ρ).1
  | Constant c j p => cases c <;> cases h <;> rfl
  | BinOp a op b p =>
    obtain ⟨a', b', h1, h2, rfl⟩ := o2_some h
    exact th_congr (S.r Γ a a' h1 ρ) fun x => th_congr (S.r Γ b b' h2 x.2) fun y => rfl
  | UnaryOp op a p =>
    cases op with
    | USub => obtain ⟨a', h1, rfl⟩ := map_some h; exact th_congr (S.r Γ a a' h1 ρ) fun x => rfl
    | Not => obtain ⟨a', h1, rfl⟩ := map_some h; exact th_congr (S.r Γ a a' h1 ρ) fun x => rfl
    | _ => cases h
  | BoolOp op vs p =>
    cases vs with
    | nil => cases op <;> cases h
    | cons a vs =>
      cases vs with
      | nil =>
        cases op with
        | And => obtain ⟨a', h1, rfl⟩ := map_some h; exact S.r Γ a a' h1 ρ
        | Or => obtain ⟨a', h1, rfl⟩ := map_some h; exact S.r Γ a a' h1 ρ
      | cons b l =>
        cases op with
        | And =>
          obtain ⟨a', b', h1, h2, rfl⟩ := o2_some h
          refine th_congr (S.r Γ a a' h1 ρ) fun x => ?_
          obtain ⟨rv, ρ1⟩ := x
          cases rv with
          | val d =>
            cases d with
            | bl c => cases c with
              | true => exact S.r Γ _ b' h2 ρ1
              | false => rfl
            | _ => rfl
          | _ => rfl
        | Or =>
          obtain ⟨a', b', h1, h2, rfl⟩ := o2_some h
          refine th_congr (S.r Γ a a' h1 ρ) fun x => ?_
          obtain ⟨rv, ρ1⟩ := x
          cases rv with
          | val d =>
            cases d with
            | bl c => cases c with
              | false => exact S.r Γ _ b' h2 ρ1
              | true => rfl
            | _ => rfl
          | _ => rfl
  | Compare a ops bs p =>
    cases ops with
    | nil => cases h
    | cons op ops =>
      cases ops with
      | cons _ _ => cases h
      | nil =>
        cases bs with
        | nil => cases h
        | cons b bs =>
          cases bs with
          | cons _ _ => cases h
          | nil =>
            obtain ⟨hm, h⟩ := oif_some h
            obtain ⟨a', b', h1, h2, rfl⟩ := o2_some h
            have hm : ¬ behindInMarks op b = true := by simpa using hm
            refine th_congr (S.r Γ a a' h1 ρ) fun x => th_congr (S.r Γ b b' h2 x.2) fun y => ?_
            rw [if_neg hm]
  | IfExp c a b p =>
    obtain ⟨c', q, h1, h2, rfl⟩ := o2_some h
    obtain ⟨a', b', h3, h4, rfl⟩ := o2_some h2
    refine th_congr (S.t Γ c c' h1 ρ) fun t => ?_
    obtain ⟨d, ρ1⟩ := t
    cases d with
    | true => exact S.r Γ a a' h3 ρ1
    | false => exact S.r Γ b b' h4 ρ1
  | Subscript a i p =>
    cases i with
    | Slice lo hi st q =>
      cases st with
      | some st => cases h
      | none =>
        obtain ⟨a', q, h1, h2, rfl⟩ := o2_some h
        obtain ⟨l', u', h3, h4, rfl⟩ := o2_some h2
        exact th_congr (S.r Γ a a' h1 ρ) fun x => th_congr (S.o Γ lo l' h3 x.2) fun y => th_congr (S.o Γ hi u' h4 y.2) fun z => rfl
    | _ =>
      obtain ⟨a', b', h1, h2, rfl⟩ := o2_some h
      exact th_congr (S.r Γ a a' h1 ρ) fun x => th_congr (S.r Γ _ b' h2 x.2) fun y => rfl
  | List es p => obtain ⟨l, h1, rfl⟩ := map_some h; exact th_congr (S.es Γ es l h1 ρ) fun x => rfl
  | Tuple es j p => obtain ⟨l, h1, rfl⟩ := map_some h; exact th_congr (S.es Γ es l h1 ρ) fun x => rfl
  | Call fn es kws q =>
    cases fn with
    | Name f p =>
      cases kws with
      | cons _ _ => cases h
      | nil =>
        obtain ⟨hn, h⟩ := oif_some h
        show (if (nameOk f && glB Γ.sc f && (ixOf Γ.N f).isNone) = true then _ else R.no) = _
        rw [if_pos hn]
        by_cases hi : f = "isinstance"
        · rw [if_pos hi] at h ⊢
          match es, h with
          | [a, b], h =>
            cases b with
            | Name t tp =>
              obtain ⟨hc, h⟩ := oif_some h
              obtain ⟨y, a', h1, h2, rfl⟩ := o2_some h
              show (if (nameOk t && glB Γ.sc t && (ixOf Γ.N t).isNone && !starB a) = true then _ else R.no) = _
              rw [if_pos hc]
              refine th_congr (S.r Γ a a' h2 ρ) fun x => ?_
              rw [ty_same h1]
            | _ => cases h
          | [], h => cases h
          | [_], h => cases h
          | _ :: _ :: _ :: _, h => cases h
        rw [if_neg hi] at h ⊢
        by_cases ht : Γ.tab.contains f = true
        · rw [if_pos ht] at h ⊢
          obtain ⟨l, h1, rfl⟩ := map_some h
          exact th_congr (S.as Γ es l h1 ρ) fun x => rfl
        rw [if_neg ht] at h ⊢
        match es, h with
        | [a], h =>
          obtain ⟨hs, h⟩ := oif_some h
          obtain ⟨y, a', h1, h2, rfl⟩ := o2_some h
          show (if starB a = true then R.no else _) = _
          rw [if_neg (by simpa using hs)]
          refine th_congr (S.r Γ a a' h2 ρ) fun x => ?_
          rw [b1_same h1]
        | [a, b], h =>
          obtain ⟨hs, h⟩ := oif_some h
          obtain ⟨y, q, h1, h2, rfl⟩ := o2_some h
          obtain ⟨a', b', h3, h4, rfl⟩ := o2_some h2
          show (if (starB a || starB b) = true then R.no else _) = _
          rw [if_neg (by simpa using hs)]
          refine th_congr (S.r Γ a a' h3 ρ) fun x => th_congr (S.r Γ b b' h4 x.2) fun z => ?_
          rw [b2_same h1]
        | [], h => cases h
        | _ :: _ :: _ :: _, h => cases h
    | _ => cases h
  | ListComp elt gens sc p =>
    cases gens with
    | nil => cases h
    | cons g gens =>
      cases gens with
      | cons _ _ => cases h
      | nil =>
        obtain ⟨ha, h⟩ := oif_some h
        have ha := of_decide_eq_true ha
        show (if g.is_async = 0 then _ else R.no) = _
        rw [if_pos ha]
        cases hx : tgNames g.target with
        | none => rw [hx] at h; cases h
        | some own =>
          rw [hx] at h
          obtain ⟨hc, h⟩ := oif_some h
          obtain ⟨p1, p2, h1, h2, rfl⟩ := o2_some h
          obtain ⟨src, tg, h3, h4, rfl⟩ := o2_some h1
          obtain ⟨c, el, h5, h6, rfl⟩ := o2_some h2
          refine th_congr (S.i Γ _ g.iter src h3 ρ) fun y => ?_
          show (if (blkCheck Γ.sc Γ.N (frOf Γ.N sc) sc && decide (own ++ (frOf Γ.N sc).map fun i => Γ.N.getD i "").Nodup && decide (y.1.length ≤ sizeLine) && foldOk g.iter) = true then _ else R.no) = _
          simp only [Bool.and_eq_true] at hc
          have ei : iBlk own.length (frOf Γ.N sc) y.2 = blkEnv own (frOf Γ.N sc) y.2 := by
            unfold iBlk blkEnv
            rw [List.map_const']
          by_cases hz : y.1.length ≤ sizeLine
          · rw [if_pos (by simp only [Bool.and_eq_true]; exact ⟨⟨⟨hc.1.1, hc.1.2⟩, decide_eq_true hz⟩, hc.2⟩), if_pos hz]
            rw [ei]
            exact th_congr (compL_same (tg_same h4) (S.f _ _ c h5) (S.e _ _ el h6) _ _ _) fun l => rfl
          · rw [if_neg (by simp only [Bool.and_eq_true]; intro z; exact hz (of_decide_eq_true z.1.2)), if_neg hz]
  | _ => cases h
theorem e_same (S : Same2 m) (Γ : Ct) (e : Expr) (x : E) (h : cX (m + 1) Γ e = some x) (ρ : Env) : evE (m + 1) Γ e ρ = escE x (iR Γ.cl x) ρ := by
  have gen : (cE m Γ e).bind noVar = some x → (evR m Γ e ρ).th (fun x => match x.1 with
      | .val d => .ok (d, x.2)
      | .tmp l => .ok (.lst l, x.2)
      | _ => .no) = escE x (iR Γ.cl x) ρ := fun h => by
    obtain ⟨y, h1, h2⟩ := Option.bind_eq_some_iff.mp h
    obtain ⟨rfl, hv⟩ := noVar_some h2
    rw [escE_of hv]
    exact th_congr (S.r Γ e y h1 ρ) fun x => rfl
  cases e with
  | Name y p => exact (name_same h ρ).2
  | _ => exact gen h
theorem t_same (S : Same2 m) (Γ : Ct) (e : Expr) (x : T) (h : cT (m + 1) Γ e = some x) (ρ : Env) : evT (m + 1) Γ e ρ = iT Γ.cl x ρ := by
  have gen : (cE m Γ e).map .val = some x → (evR m Γ e ρ).th (fun x => (R.of (truthD x.1)).th fun b => .ok (b, x.2)) = iT Γ.cl x ρ := fun h => by
    obtain ⟨y, h1, rfl⟩ := map_some h
    exact th_congr (S.r Γ e y h1 ρ) fun x => rfl
  cases e with
  | UnaryOp op a p =>
    cases op with
    | Not => obtain ⟨a', h1, rfl⟩ := map_some h; exact th_congr (S.t Γ a a' h1 ρ) fun x => rfl
    | _ => exact gen h
  | BoolOp op vs p =>
    cases vs with
    | nil => cases op <;> cases h
    | cons a vs =>
      cases vs with
      | nil =>
        cases op with
        | And => obtain ⟨a', h1, rfl⟩ := map_some h; exact S.t Γ a a' h1 ρ
        | Or => obtain ⟨a', h1, rfl⟩ := map_some h; exact S.t Γ a a' h1 ρ
      | cons b l =>
        cases op with
        | And =>
          obtain ⟨a', b', h1, h2, rfl⟩ := o2_some h
          refine th_congr (S.t Γ a a' h1 ρ) fun t => ?_
          obtain ⟨d, ρ1⟩ := t
          cases d with
          | true => exact S.t Γ _ b' h2 ρ1
          | false => rfl
        | Or =>
          obtain ⟨a', b', h1, h2, rfl⟩ := o2_some h
          refine th_congr (S.t Γ a a' h1 ρ) fun t => ?_
          obtain ⟨d, ρ1⟩ := t
          cases d with
          | true => rfl
          | false => exact S.t Γ _ b' h2 ρ1
  | IfExp c a b p => cases h
  | Compare a ops bs p =>
    cases ops with
    | nil => cases h
    | cons op ops =>
      cases ops with
      | cons _ _ => cases h
      | nil =>
        cases bs with
        | nil => cases h
        | cons b bs =>
          cases bs with
          | cons _ _ => cases h
          | nil =>
            obtain ⟨hm, h⟩ := oif_some h
            obtain ⟨a', b', h1, h2, rfl⟩ := o2_some h
            have hm : ¬ behindInMarks op b = true := by simpa using hm
            refine th_congr (S.r Γ a a' h1 ρ) fun x => th_congr (S.r Γ b b' h2 x.2) fun y => ?_
            rw [if_neg hm]
  | _ => exact gen h
theorem es_same (S : Same2 m) (Γ : Ct) (es : List Expr) (x : Es) (h : cEs (m + 1) Γ es = some x) (ρ : Env) : evEs (m + 1) Γ es ρ = iEs Γ.cl x ρ := by
  cases es with
  | nil => cases h; rfl
  | cons e l =>
    obtain ⟨hs, h⟩ := oif_some h
    obtain ⟨a, b, h1, h2, rfl⟩ := o2_some h
    show (if starB e = true then R.no else _) = _
    rw [if_neg (by simpa using hs)]
    exact th_congr (S.e Γ e a h1 ρ) fun x => th_congr (S.es Γ l b h2 x.2) fun y => rfl
theorem as_same (S : Same2 m) (Γ : Ct) (es : List Expr) (x : Es) (h : cAs (m + 1) Γ es = some x) (ρ : Env) : evAs (m + 1) Γ es ρ = iAs Γ.cl x ρ := by
  cases es with
  | nil => cases h; rfl
  | cons e l =>
    obtain ⟨hs, h⟩ := oif_some h
    obtain ⟨a, b, h1, h2, rfl⟩ := o2_some h
    show (if starB e = true then R.no else _) = _
    rw [if_neg (by simpa using hs)]
    refine th_congr (S.r Γ e a h1 ρ) fun x => th_congr (S.as Γ l b h2 x.2) fun y => ?_
    obtain ⟨rv, ρ1⟩ := x
    cases rv <;> rfl
theorem o_same (S : Same2 m) (Γ : Ct) (o : Option Expr) (x : O) (h : cO (m + 1) Γ o = some x) (ρ : Env) : evO (m + 1) Γ o ρ = iO Γ.cl x ρ := by
  cases o with
  | none => cases h; rfl
  | some e => obtain ⟨a, h1, rfl⟩ := map_some h; exact th_congr (S.r Γ e a h1 ρ) fun x => rfl
theorem f_same (S : Same2 m) (Γ : Ct) (es : List Expr) (x : F) (h : cF (m + 1) Γ es = some x) (ρ : Env) : evIf (m + 1) Γ es ρ = iF Γ.cl x ρ := by
  match es, h with
  | [], h => cases h; rfl
  | [c], h => obtain ⟨a, h1, rfl⟩ := map_some h; exact S.t Γ c a h1 ρ
  | _ :: _ :: _, h => cases h
theorem l_same (S : Same2 m) (Γ : Ct) (e : Expr) (x : E) (h : cL (m + 1) Γ e = some x) (ρ : Env) : evL (m + 1) Γ e ρ = escL x (iR Γ.cl x) ρ := by
  have gen : (cE m Γ e).bind noVar = some x → (evR m Γ e ρ).th (fun x => match x.1 with
      | .val (.lst l) => .ok ((.lst, l), x.2)
      | .val (.tup l) => .ok ((.tup, l), x.2)
      | .val (.str z) => .ok ((.str, sigD z), x.2)
      | .tmp l => .ok ((.lst, l), x.2)
      | _ => .no) = escL x (iR Γ.cl x) ρ := fun h => by
    obtain ⟨y, h1, h2⟩ := Option.bind_eq_some_iff.mp h
    obtain ⟨rfl, hv⟩ := noVar_some h2
    rw [escL_of hv]
    exact th_congr (S.r Γ e y h1 ρ) fun x => rfl
  cases e with
  | Name y p =>
    obtain ⟨hn, h⟩ := oif_some h
    obtain ⟨i, h1, rfl⟩ := map_some h
    rw [Bool.and_eq_true] at hn
    show nameL Γ y ρ = _
    unfold nameL
    rw [if_pos hn.1, h1]
    dsimp only
    rw [if_pos hn.2]
    rfl
  | _ => exact gen h
theorem i_same (S : Same2 m) (Γ : Ct) (tb : Bool) (e : Expr) (x : I) (h : cI (m + 1) Γ tb e = some x) (ρ : Env) : evI (m + 1) Γ tb e ρ = iI Γ.cl x ρ := by
  have gen : (cL m Γ e).map .seq = some x → (evL m Γ e ρ).th (fun x => .ok (x.1.2, x.2)) = iI Γ.cl x ρ := fun h => by
    obtain ⟨y, h1, rfl⟩ := map_some h
    exact th_congr (S.l Γ e y h1 ρ) fun x => rfl
  cases e with
  | Call fn es kws q =>
    cases fn with
    | Name f p =>
      cases kws with
      | cons _ _ => exact gen h
      | nil =>
        have h : (if (decide (f = "range") || decide (f = "enumerate") || decide (f = "zip")) = true then _ else _) = some x := h
        show (if (decide (f = "range") || decide (f = "enumerate") || decide (f = "zip")) = true then _ else _) = _
        by_cases hf : (decide (f = "range") || decide (f = "enumerate") || decide (f = "zip")) = true
        · rw [if_pos hf] at h ⊢
          obtain ⟨hn, h⟩ := oif_some h
          rw [if_pos hn]
          match es, h with
          | [a], h =>
            obtain ⟨hs, h⟩ := oif_some h
            show (if starB a = true then R.no else _) = _
            rw [if_neg (by simpa using hs)]
            by_cases h1 : f = "range"
            · rw [if_pos h1] at h ⊢
              obtain ⟨y, h2, rfl⟩ := map_some h
              exact th_congr (S.r Γ a y h2 ρ) fun x => rfl
            rw [if_neg h1] at h ⊢
            by_cases h2 : f = "enumerate"
            · rw [if_pos h2] at h ⊢
              obtain ⟨ht, h⟩ := oif_some h
              obtain ⟨y, h3, rfl⟩ := map_some h
              rw [if_pos ht]
              exact th_congr (S.l Γ a y h3 ρ) fun x => rfl
            rw [if_neg h2] at h
            cases h
          | [a, b], h =>
            obtain ⟨hs, h⟩ := oif_some h
            show (if (starB a || starB b) = true then R.no else _) = _
            rw [if_neg (by simpa using hs)]
            by_cases h1 : f = "range"
            · rw [if_pos h1] at h ⊢
              obtain ⟨y, z, h2, h3, rfl⟩ := o2_some h
              exact th_congr (S.r Γ a y h2 ρ) fun x => th_congr (S.r Γ b z h3 x.2) fun x' => rfl
            rw [if_neg h1] at h ⊢
            by_cases h2 : f = "zip"
            · rw [if_pos h2] at h ⊢
              obtain ⟨ht, h⟩ := oif_some h
              obtain ⟨y, z, h3, h4, rfl⟩ := o2_some h
              rw [if_pos ht]
              exact th_congr (S.l Γ a y h3 ρ) fun x => th_congr (S.l Γ b z h4 x.2) fun x' => rfl
            rw [if_neg h2] at h
            cases h
          | [], h => cases h
          | _ :: _ :: _ :: _, h => cases h
        · rw [if_neg hf] at h ⊢
          exact gen h
    | _ => exact gen h
  | _ => exact gen h
theorem same2 : ∀ m, Same2 m
  | 0 => { r := (fun _ _ _ h => nomatch h), e := (fun _ _ _ h => nomatch h), t := (fun _ _ _ h => nomatch h), es := (fun _ _ _ h => nomatch h), as := (fun _ _ _ h => nomatch h), o := (fun _ _ _ h => nomatch h), f := (fun _ _ _ h => nomatch h), l := (fun _ _ _ h => nomatch h), i := (fun _ _ _ _ h => nomatch h) }
  | m + 1 => have S := same2 m; ⟨r_same S, e_same S, t_same S, es_same S, as_same S, o_same S, f_same S, l_same S, i_same S⟩
end
end DE
set_option maxHeartbeats 4000000
namespace DE
open PySem L2
mutual
inductive S where
  | pass | expr (e : E) | app (i : Nat) (e : E) | ext (i : Nat) (e : E) | clr (i : Nat) | ret (e : E) | retN | set (i : Nat) (e : E) | setT (tg : Tg) (e : E) | setI (i : Nat) (x e : E) | ite (c : T) (a b : Ss) | for_ (tg : Tg) (src : I) (b : Ss) | whl (c : T) (b : Ss) | stuck
inductive Ss where
  | nil | cons (s : S) (l : Ss)
end
def ownI (ρ : Env) (i : Nat) : Option (List D) := match ρ[i]? with
  | some (.own l) => some l
  | _ => none
def escX (e : E) (r : Env → R (Rv × Env)) (ρ : Env) : R Rv := match e with
  | .var i => slX ρ i
  | .con d => .ok (.val d)
  | _ => (r ρ).th fun x => match x.1 with
    | .val d => .ok (.val d)
    | .tmp l => .ok (.tmp l)
    | _ => .no
def escA (e : E) (r : Env → R (Rv × Env)) (ρ : Env) : R (Sl × Env) := match e with
  | .var i => (slE ρ i).th fun r => .ok (.val r.1, r.2)
  | .con d => .ok (.val d, ρ)
  | _ => (r ρ).th fun x => match x.1 with
    | .val d => .ok (.val d, x.2)
    | .tmp l => .ok (.own l, x.2)
    | _ => .no
mutual
def iS (cl : Str → List Ar → R Rv) (w : Nat) : S → Env → R Fl
  | .pass, ρ => .ok (.next ρ)
  | .expr e, ρ => (iR cl e ρ).th fun x => .ok (.next x.2)
  | .app i e, ρ => (match ownI ρ i with
    | none => .no
    | some _ => (escE e (iR cl e) ρ).th fun y => (match ownI y.2 i with
      | some l => if l.length < sizeLine then .ok (.next (y.2.set i (.own (l ++ [y.1])))) else .no
      | none => .no))
  | .ext i e, ρ => (match ownI ρ i with
    | none => .no
    | some _ => (iR cl e ρ).th fun y => (match ownI y.2 i, y.1.plain? with
      | some l, some n => if l.length + n.length ≤ sizeLine then .ok (.next (y.2.set i (.own (l ++ n)))) else .no
      | _, _ => .no))
  | .clr i, ρ => (match ownI ρ i with
    | some _ => .ok (.next (ρ.set i (.own [])))
    | none => .no)
  | .ret e, ρ => (escX e (iR cl e) ρ).th fun r => .ok (.ret r)
  | .retN, ρ => .ok (.ret (.val .non))
  | .set i e, ρ => (escA e (iR cl e) ρ).th fun s => .ok (.next (s.2.set i s.1))
  | .setT tg e, ρ => (escE e (iR cl e) ρ).th fun x => (tg.go x.1 x.2).th fun ρ1 => .ok (.next ρ1)
  | .setI i x e, ρ => (escE e (iR cl e) ρ).th fun y => (match ownI y.2 i with
    | none => .no
    | some _ => (iR cl x y.2).th fun z => (match ownI z.2 i, z.1.int? with
      | some l, some n => (match ixN l.length n with
        | some k => .ok (.next (z.2.set i (.own (l.set k y.1))))
        | none => .no)
      | _, _ => .no))
  | .ite c a b, ρ => (iT cl c ρ).th fun t => if t.1 then iSs cl w a t.2 else iSs cl w b t.2
  | .for_ tg src b, ρ => (iI cl src ρ).th fun x => forL (fun d ρ1 => (tg.go d ρ1).th fun ρ2 => iSs cl w b ρ2) x.1 x.2
  | .whl c b, ρ => whL (fun ρ1 => iT cl c ρ1) (fun ρ1 => iSs cl w b ρ1) w ρ
  | .stuck, _ => .no
def iSs (cl : Str → List Ar → R Rv) (w : Nat) : Ss → Env → R Fl
  | .nil, ρ => .ok (.next ρ)
  | .cons s l, ρ => (iS cl w s ρ).th fun f => match f with
    | .next ρ1 => iSs cl w l ρ1
    | .ret r => .ok (.ret r)
end
def cOwn (Γ : Ct) (x : Str) : Option Nat := oif (nameOk x && visB Γ.sc x) (ixOf Γ.N x)
def cV (m : Nat) (Γ : Ct) (e : Expr) : Option E := match e with
  | .Name x _ => cName Γ x
  | e => (cE m Γ e).bind noVar
mutual
def cS : Nat → Ct → Stmt → Option S
  | 0, _, _ => none
  | m + 1, Γ, st => match st with
    | .Pass _ => some .pass
    | .Expr e _ => (match e with
      | .Call (.Attribute (.Name x _) meth ap) [a] [] cp => oif (ap.endLine == cp.line && !starB a) (
          if meth = "append" then o2 (cOwn Γ x) (cX m Γ a) .app
          else if meth = "extend" then o2 (cOwn Γ x) (cE m Γ a) .ext
          else none)
      | .Call (.Attribute (.Name x _) meth ap) [] [] cp => oif (ap.endLine == cp.line && decide (meth = "clear")) ((cOwn Γ x).map .clr)
      | e => oif (notComp e) ((cE m Γ e).map .expr))
    | .Return (some e) _ => (cV m Γ e).map .ret
    | .Return none _ => some .retN
    | .Assign [tg] e _ => (match tg with
      | .Name x _ => o2 (cSet Γ x) (cV m Γ e) .set
      | .Tuple es j p => oif (notComp e && notTup e) (o2 (cTg Γ (.Tuple es j p)) (cX m Γ e) .setT)
      | .Subscript (.Name x _) i _ => oif (notComp e && notSlice i) (o2 (cOwn Γ x) (o2 (cE m Γ i) (cX m Γ e) Prod.mk) fun x p => .setI x p.1 p.2)
      | _ => none)
    | .If c a b _ => o2 (cT m Γ c) (o2 (cSs m Γ a) (cSs m Γ b) Prod.mk) fun c p => .ite c p.1 p.2
    | .For tg it body [] _ => oif (foldOk it) (o2 (o2 (cTg Γ tg) (cI m Γ (tupB tg) it) Prod.mk) (cSs m Γ body) fun p b => .for_ p.1 p.2 b)
    | .While c body [] _ => o2 (cT m Γ c) (cSs m Γ body) .whl
    | .Raise .. => some .stuck
    | _ => none
def cSs : Nat → Ct → List Stmt → Option Ss
  | 0, _, _ => none
  | m + 1, Γ, l => match l with
    | [] => some .nil
    | st :: l => o2 (cS m Γ st) (cSs m Γ l) .cons
end
section
variable {m w : Nat} {Γ : Ct}
theorem own_same {x : Str} {i : Nat} (h : cOwn Γ x = some i) (ρ : Env) : ownAt Γ x ρ = (ownI ρ i).map fun l => (i, l) := by
  unfold cOwn at h
  obtain ⟨h1, h2⟩ := oif_some h
  unfold ownAt ownI
  rw [if_pos h1, h2]
  dsimp only
  cases ρ[i]? with
  | none => rfl
  | some s => cases s <;> rfl
theorem v_same {e : Expr} {z : E} (h : cV m Γ e = some z) (ρ : Env) : evX m Γ e ρ = escX z (iR Γ.cl z) ρ ∧ evA m Γ e ρ = escA z (iR Γ.cl z) ρ := by
  have S := same2 m
  have gen : (cE m Γ e).bind noVar = some z → ((evR m Γ e ρ).th (fun x => match x.1 with
      | .val d => R.ok (Rv.val d)
      | .tmp l => R.ok (Rv.tmp l)
      | _ => .no) = escX z (iR Γ.cl z) ρ) ∧ ((evR m Γ e ρ).th (fun x => match x.1 with
      | .val d => R.ok (Sl.val d, x.2)
      | .tmp l => R.ok (Sl.own l, x.2)
      | _ => .no) = escA z (iR Γ.cl z) ρ) := fun h => by
    obtain ⟨y, h1, h2⟩ := Option.bind_eq_some_iff.mp h
    obtain ⟨rfl, hv⟩ := noVar_some h2
    rw [S.r Γ e y h1 ρ]
    cases y <;> first | exact ⟨rfl, rfl⟩ | exact absurd rfl (hv _)
  cases e with
  | Name y p =>
    have h : cName Γ y = some z := h
    refine ⟨?_, ?_⟩
    · unfold cName at h
      obtain ⟨h1, h⟩ := oif_some h
      show nameX Γ y ρ = _
      unfold nameX
      rw [if_pos h1]
      cases hi : ixOf Γ.N y with
      | some i =>
        rw [hi] at h
        obtain ⟨h2, h⟩ := oif_some h
        cases h
        dsimp only
        rw [if_pos h2]
        rfl
      | none =>
        rw [hi] at h
        obtain ⟨h2, h⟩ := oif_some h
        obtain ⟨d, h3, rfl⟩ := map_some h
        dsimp only
        rw [if_pos h2, h3]
        rfl
    · show (nameE Γ y ρ).th _ = _
      rw [(name_same h ρ).2]
      unfold cName at h
      obtain ⟨h1, h⟩ := oif_some h
      cases hi : ixOf Γ.N y with
      | some i =>
        rw [hi] at h
        obtain ⟨h2, h⟩ := oif_some h
        cases h
        rfl
      | none =>
        rw [hi] at h
        obtain ⟨h2, h⟩ := oif_some h
        obtain ⟨d, h3, rfl⟩ := map_some h
        rfl
  | _ => exact gen h
structure Same3 (m w : Nat) : Prop where
  s : ∀ Γ st x, cS m Γ st = some x → ∀ ρ, evS m w Γ st ρ = iS Γ.cl w x ρ
  ss : ∀ Γ l x, cSs m Γ l = some x → ∀ ρ, evSs m w Γ l ρ = iSs Γ.cl w x ρ
theorem forL_same {f g : D → Env → R Fl} (h : ∀ d ρ, f d ρ = g d ρ) (l : List D) (ρ : Env) : forL f l ρ = forL g l ρ := by
  rw [show f = g from funext fun d => funext fun ρ => h d ρ]
theorem whL_same {t t' : Env → R (Bool × Env)} {f g : Env → R Fl} (ht : ∀ ρ, t ρ = t' ρ) (h : ∀ ρ, f ρ = g ρ) (n : Nat) (ρ : Env) : whL t f n ρ = whL t' g n ρ := by
  rw [show t = t' from funext ht, show f = g from funext h]
theorem s_same (S3 : Same3 m w) (Γ : Ct) (st : Stmt) (x : S) (h : cS (m + 1) Γ st = some x) (ρ : Env) : evS (m + 1) w Γ st ρ = iS Γ.cl w x ρ := by
  have S := same2 m
  cases st with
  | Pass p => cases h; rfl
  | Raise a b c => cases h; rfl
  | Expr e p =>
    have gen : oif (notComp e) ((cE m Γ e).map .expr) = some x → (if notComp e = true then (evR m Γ e ρ).th fun x => R.ok (Fl.next x.2) else .no) = iS Γ.cl w x ρ := fun h => by
      obtain ⟨h1, h⟩ := oif_some h
      obtain ⟨y, h2, rfl⟩ := map_some h
      rw [if_pos h1]
      exact th_congr (S.r Γ e y h2 ρ) fun _ => rfl
    cases e with
    | Call fn es kws cp =>
      cases fn with
      | Attribute o meth ap =>
        cases o with
        | Name y yp =>
          cases kws with
          | cons kw kws => exact match es, h with | [], h => gen h | [_], h => gen h | _ :: _ :: _, h => gen h
          | nil =>
            match es, h with
            | [a], h =>
              obtain ⟨hc, h⟩ := oif_some h
              rw [Bool.and_eq_true] at hc
              show (if (ap.endLine == cp.line) = true then _ else R.no) = _
              rw [if_pos hc.1]
              have hs : ¬ starB a = true := by simpa using hc.2
              by_cases h1 : meth = "append"
              · rw [if_pos h1] at h
                obtain ⟨i, a', h2, h3, rfl⟩ := o2_some h
                show (methD m Γ y meth a ρ).th _ = _
                unfold methD
                rw [own_same h2, if_neg hs, if_pos h1]
                show _ = (match ownI ρ i with | none => R.no | some _ => _)
                cases ownI ρ i with
                | none => rfl
                | some l0 =>
                  dsimp only [Option.map_some]
                  rw [S.e Γ a a' h3 ρ]
                  cases escE a' (iR Γ.cl a') ρ with
                  | ok z =>
                    show R.th (match ownAt Γ y z.2 with | some (i, l) => _ | none => _) _ = (match ownI z.2 i with | some l => if l.length < sizeLine then _ else _ | none => R.no)
                    rw [own_same h2]
                    cases ownI z.2 i with
                    | none => rfl
                    | some l =>
                      show R.th (if l.length < sizeLine then _ else _) _ = (if l.length < sizeLine then _ else _)
                      by_cases hz : l.length < sizeLine
                      · rw [if_pos hz, if_pos hz]; rfl
                      · rw [if_neg hz, if_neg hz]; rfl
                  | exc c l => rfl
                  | no => rfl
              rw [if_neg h1] at h
              by_cases h2' : meth = "extend"
              · rw [if_pos h2'] at h
                obtain ⟨i, a', h2, h3, rfl⟩ := o2_some h
                show (methD m Γ y meth a ρ).th _ = _
                unfold methD
                rw [own_same h2, if_neg hs, if_neg h1, if_pos h2']
                show _ = (match ownI ρ i with | none => R.no | some _ => _)
                cases ownI ρ i with
                | none => rfl
                | some l0 =>
                  dsimp only [Option.map_some]
                  rw [S.r Γ a a' h3 ρ]
                  cases iR Γ.cl a' ρ with
                  | ok z =>
                    show R.th (match ownAt Γ y z.2, z.1.plain? with | some (i, l), some n => _ | _, _ => _) _ = _
                    rw [own_same h2]
                    show _ = (match ownI z.2 i, z.1.plain? with | some l, some n => _ | _, _ => _)
                    cases ownI z.2 i with
                    | none => rfl
                    | some l =>
                      cases z.1.plain? with
                      | none => rfl
                      | some n =>
                        show R.th (if l.length + n.length ≤ sizeLine then _ else _) _ = (if l.length + n.length ≤ sizeLine then _ else _)
                        by_cases hz : l.length + n.length ≤ sizeLine
                        · rw [if_pos hz, if_pos hz]; rfl
                        · rw [if_neg hz, if_neg hz]; rfl
                  | exc c l => rfl
                  | no => rfl
              rw [if_neg h2'] at h
              cases h
            | [], h =>
              obtain ⟨hc, h⟩ := oif_some h
              rw [Bool.and_eq_true] at hc
              obtain ⟨i, h2, rfl⟩ := map_some h
              show (if (ap.endLine == cp.line) = true ∧ meth = "clear" then _ else R.no) = _
              rw [if_pos ⟨hc.1, of_decide_eq_true hc.2⟩]
              rw [own_same h2]
              show _ = (match ownI ρ i with | some _ => _ | none => _)
              cases ownI ρ i <;> rfl
            | _ :: _ :: _, h => exact gen h
        | _ => exact gen h
      | _ => exact gen h
    | _ => exact gen h
  | Return o p =>
    cases o with
    | none => cases h; rfl
    | some e =>
      obtain ⟨y, h1, rfl⟩ := map_some h
      exact th_congr (v_same h1 ρ).1 fun _ => rfl
  | Assign tgs e p =>
    match tgs, h with
    | [], h => cases h
    | _ :: _ :: _, h => cases h
    | [tg], h =>
      cases tg with
      | Name y yp =>
        obtain ⟨i, a, h1, h2, rfl⟩ := o2_some h
        refine th_congr (v_same h2 ρ).2 fun s => ?_
        unfold cSet at h1
        obtain ⟨h3, h4⟩ := oif_some h1
        rw [h4]
        show (if (locB Γ.sc y && nameOk y) = true then _ else R.no) = _
        rw [if_pos h3]
      | Tuple es j tp =>
        obtain ⟨hc, h⟩ := oif_some h
        obtain ⟨t, a, h1, h2, rfl⟩ := o2_some h
        rw [Bool.and_eq_true] at hc
        show (if notComp e = true ∧ notTup e = true then _ else R.no) = _
        rw [if_pos hc]
        exact th_congr (S.e Γ e a h2 ρ) fun s => th_congr (tg_same h1 _ _) fun _ => rfl
      | Subscript o i sp =>
        cases o with
        | Name y yp =>
          obtain ⟨hc, h⟩ := oif_some h
          obtain ⟨j, q, h1, h2, rfl⟩ := o2_some h
          obtain ⟨i', a, h3, h4, rfl⟩ := o2_some h2
          rw [Bool.and_eq_true] at hc
          show (if notComp e = true ∧ notSlice i = true then _ else R.no) = _
          rw [if_pos hc]
          refine th_congr (S.e Γ e a h4 ρ) fun z => ?_
          show (setD m Γ y i z.1 z.2).th _ = _
          unfold setD
          rw [own_same h1]
          show _ = (match ownI z.2 j with | none => R.no | some _ => _)
          cases ownI z.2 j with
          | none => rfl
          | some l0 =>
            dsimp only [Option.map_some]
            rw [S.r Γ i i' h3 z.2]
            cases iR Γ.cl i' z.2 with
            | ok u =>
              show R.th (match ownAt Γ y u.2, u.1.int? with | some (j, l), some n => _ | _, _ => _) _ = _
              rw [own_same h1]
              show _ = (match ownI u.2 j, u.1.int? with | some l, some n => _ | _, _ => _)
              cases ownI u.2 j with
              | none => rfl
              | some l =>
                cases u.1.int? with
                | none => rfl
                | some n =>
                  show R.th (match ixN l.length n with | some k => _ | none => _) _ = (match ixN l.length n with | some k => _ | none => _)
                  cases ixN l.length n <;> rfl
            | exc c l => rfl
            | no => rfl
        | _ => cases h
      | _ => cases h
  | If c a b p =>
    obtain ⟨c', q, h1, h2, rfl⟩ := o2_some h
    obtain ⟨a', b', h3, h4, rfl⟩ := o2_some h2
    refine th_congr (S.t Γ c c' h1 ρ) fun t => ?_
    obtain ⟨d, ρ1⟩ := t
    cases d with
    | true => exact S3.ss Γ a a' h3 ρ1
    | false => exact S3.ss Γ b b' h4 ρ1
  | For tg it body orelse p =>
    cases orelse with
    | cons _ _ => cases h
    | nil =>
      obtain ⟨hf, h⟩ := oif_some h
      obtain ⟨q, b', h1, h2, rfl⟩ := o2_some h
      obtain ⟨t, src, h3, h4, rfl⟩ := o2_some h1
      show (if foldOk it = true then _ else R.no) = _
      rw [if_pos hf]
      exact th_congr (S.i Γ _ it src h4 ρ) fun x => forL_same (fun d ρ1 => th_congr (tg_same h3 d ρ1) fun ρ2 => S3.ss Γ body b' h2 ρ2) _ _
  | While c body orelse p =>
    cases orelse with
    | cons _ _ => cases h
    | nil =>
      obtain ⟨c', b', h1, h2, rfl⟩ := o2_some h
      exact whL_same (S.t Γ c c' h1) (S3.ss Γ body b' h2) _ _
  | _ => cases h
theorem ss_same (S3 : Same3 m w) (Γ : Ct) (l : List Stmt) (x : Ss) (h : cSs (m + 1) Γ l = some x) (ρ : Env) : evSs (m + 1) w Γ l ρ = iSs Γ.cl w x ρ := by
  cases l with
  | nil => cases h; rfl
  | cons st l =>
    obtain ⟨a, b, h1, h2, rfl⟩ := o2_some h
    refine th_congr (S3.s Γ st a h1 ρ) fun f => ?_
    cases f with
    | next ρ1 => exact S3.ss Γ l b h2 ρ1
    | ret r => rfl
theorem same3 : ∀ m, Same3 m w
  | 0 => ⟨(fun _ _ _ h => nomatch h), (fun _ _ _ h => nomatch h)⟩
  | m + 1 => have S3 := same3 m; ⟨s_same S3, ss_same S3⟩
end
def cDef (pg : Pg) (cl : Str → List Ar → R Rv) (st : Stmt) : Option (Nat × Nat × Ss) := oif (fnCheck st) ((cSs pg.m (pg.ct cl st) (defBody st)).map fun b => ((parN st).length, (fnN st).length, b))
def slN (n : Nat) (args : List Ar) : Env := args.map toSl ++ List.replicate (n - args.length) .no
def runD (cl : Str → List Ar → R Rv) (w : Nat) (c : Nat × Nat × Ss) (args : List Ar) : R Rv := if args.length = c.1 then (iSs cl w c.2.2 (slN c.2.1 args)).th flR else .no
theorem run_of {pg : Pg} {f : Str} {st : Stmt} {c : Nat × Nat × Ss} (hl : pg.defs.lookup f = some st) (hc : ∀ cl, cDef pg cl st = some c) (k : Nat) (args : List Ar) : clK pg (k + 1) f args = runD (clK pg k) pg.w c args := by
  obtain ⟨h1, h2⟩ := oif_some (hc (clK pg k))
  obtain ⟨b, h3, rfl⟩ := map_some h2
  rw [clK_succ hl]
  unfold evF runD
  by_cases hn : args.length = (parN st).length
  · rw [if_pos (by rw [h1, hn]; simp), if_pos hn]
    exact th_congr ((same3 pg.m).ss _ _ _ h3 _) fun _ => rfl
  · rw [if_neg (by simp [hn]), if_neg hn]
end DE
set_option maxHeartbeats 4000000
namespace DE
open PySem L2
variable {cl : Str → List Ar → R Rv} {w : Nat}
theorem th_ok {α β : Type} (a : α) (f : α → R β) : (R.ok a).th f = f a := (rfl)
theorem th_no {α β : Type} (f : α → R β) : (R.no).th f = .no := (rfl)
theorem of_some {α : Type} (a : α) : R.of (some a) = .ok a := (rfl)
def forD (cl : Str → List Ar → R Rv) (w : Nat) (tg : Tg) (b : Ss) (l : List D) (ρ : Env) : R Fl := forL (fun d ρ1 => (tg.go d ρ1).th fun ρ2 => iSs cl w b ρ2) l ρ
def whD (cl : Str → List Ar → R Rv) (w : Nat) (c : T) (b : Ss) (n : Nat) (ρ : Env) : R Fl := whL (fun ρ1 => iT cl c ρ1) (fun ρ1 => iSs cl w b ρ1) n ρ
def compD (cl : Str → List Ar → R Rv) (e : E) (tg : Tg) (c : F) (l : List D) (ρ : Env) (acc : List D) : R (List D) := compL tg.go (fun ρ1 => iF cl c ρ1) (escE e (iR cl e)) l ρ acc
def nextR (f : Fl) (g : Env → R Fl) : R Fl := match f with
  | .next ρ1 => g ρ1
  | .ret r => .ok (.ret r)
section
variable (cl : Str → List Ar → R Rv) (w : Nat) (ρ : Env)
theorem forD_nil (tg : Tg) (b : Ss) : forD cl w tg b [] ρ = .ok (.next ρ) := (rfl)
theorem forD_cons (tg : Tg) (b : Ss) (d : D) (l : List D) : forD cl w tg b (d :: l) ρ = ((tg.go d ρ).th fun ρ2 => iSs cl w b ρ2).th fun f => nextR f fun ρ1 => forD cl w tg b l ρ1 := (rfl)
theorem whD_succ (c : T) (b : Ss) (n : Nat) : whD cl w c b (n + 1) ρ = (iT cl c ρ).th fun t => if t.1 = true then (iSs cl w b t.2).th fun f => nextR f fun ρ1 => whD cl w c b n ρ1 else .ok (.next t.2) := (rfl)
theorem compD_cons (e : E) (tg : Tg) (c : F) (d : D) (l acc : List D) : compD cl e tg c (d :: l) ρ acc = (tg.go d ρ).th fun ρ1 => (iF cl c ρ1).th fun bt => if bt.1 = true then (escE e (iR cl e) bt.2).th fun x => if acc.length < sizeLine then compD cl e tg c l x.2 (acc ++ [x.1]) else .no else compD cl e tg c l bt.2 acc := (rfl)
theorem iS_expr (e : E) : iS cl w (.expr e) ρ = (iR cl e ρ).th fun x => .ok (.next x.2) := (rfl)
theorem iS_app (i : Nat) (e : E) : iS cl w (.app i e) ρ = (match ownI ρ i with
    | none => .no
    | some _ => (escE e (iR cl e) ρ).th fun y => (match ownI y.2 i with
      | some l => if l.length < sizeLine then .ok (.next (y.2.set i (.own (l ++ [y.1])))) else .no
      | none => .no)) := (rfl)
theorem iS_ext (i : Nat) (e : E) : iS cl w (.ext i e) ρ = (match ownI ρ i with
    | none => .no
    | some _ => (iR cl e ρ).th fun y => (match ownI y.2 i, y.1.plain? with
      | some l, some n => if l.length + n.length ≤ sizeLine then .ok (.next (y.2.set i (.own (l ++ n)))) else .no
      | _, _ => .no)) := (rfl)
theorem iS_clr (i : Nat) : iS cl w (.clr i) ρ = (match ownI ρ i with
    | some _ => .ok (.next (ρ.set i (.own [])))
    | none => .no) := (rfl)
theorem iS_ret (e : E) : iS cl w (.ret e) ρ = (escX e (iR cl e) ρ).th fun r => .ok (.ret r) := (rfl)
theorem iS_set (i : Nat) (e : E) : iS cl w (.set i e) ρ = (escA e (iR cl e) ρ).th fun s => .ok (.next (s.2.set i s.1)) := (rfl)
theorem iS_setT (tg : Tg) (e : E) : iS cl w (.setT tg e) ρ = (escE e (iR cl e) ρ).th fun x => (tg.go x.1 x.2).th fun ρ1 => .ok (.next ρ1) := (rfl)
theorem iS_setI (i : Nat) (x e : E) : iS cl w (.setI i x e) ρ = (escE e (iR cl e) ρ).th fun y => (match ownI y.2 i with
    | none => .no
    | some _ => (iR cl x y.2).th fun z => (match ownI z.2 i, z.1.int? with
      | some l, some n => (match ixN l.length n with
        | some k => .ok (.next (z.2.set i (.own (l.set k y.1))))
        | none => .no)
      | _, _ => .no)) := (rfl)
theorem iS_ite (c : T) (a b : Ss) : iS cl w (.ite c a b) ρ = (iT cl c ρ).th fun t => if t.1 = true then iSs cl w a t.2 else iSs cl w b t.2 := (rfl)
theorem iS_for (tg : Tg) (src : I) (b : Ss) : iS cl w (.for_ tg src b) ρ = (iI cl src ρ).th fun x => forD cl w tg b x.1 x.2 := (rfl)
theorem iSs_cons (s : S) (l : Ss) : iSs cl w (.cons s l) ρ = (iS cl w s ρ).th fun f => nextR f fun ρ1 => iSs cl w l ρ1 := (rfl)
theorem iR_bin (op : Operator) (a b : E) : iR cl (.bin op a b) ρ = (iR cl a ρ).th fun x => (iR cl b x.2).th fun y => (binD op x.1 y.1).th fun r => .ok (r, y.2) := (rfl)
theorem iR_neg (a : E) : iR cl (.neg a) ρ = (iR cl a ρ).th fun x => match x.1 with
    | .val (.int i) => .ok (.val (.int (-i)), x.2)
    | _ => .no := (rfl)
theorem iR_not (a : E) : iR cl (.not a) ρ = (iR cl a ρ).th fun x => match x.1 with
    | .val (.bl b) => .ok (.val (.bl (!b)), x.2)
    | _ => .no := (rfl)
theorem iR_and (a b : E) : iR cl (.and a b) ρ = (iR cl a ρ).th fun x => match x.1 with
    | .val (.bl true) => iR cl b x.2
    | .val (.bl false) => .ok (.val (.bl false), x.2)
    | _ => .no := (rfl)
theorem iR_or (a b : E) : iR cl (.or a b) ρ = (iR cl a ρ).th fun x => match x.1 with
    | .val (.bl false) => iR cl b x.2
    | .val (.bl true) => .ok (.val (.bl true), x.2)
    | _ => .no := (rfl)
theorem iR_cmp (op : CmpOp) (a b : E) : iR cl (.cmp op a b) ρ = (iR cl a ρ).th fun x => (iR cl b x.2).th fun y => (R.of (cmpD op x.1 y.1)).th fun r => .ok (.val (.bl r), y.2) := (rfl)
theorem iR_ite (c : T) (a b : E) : iR cl (.ite c a b) ρ = (iT cl c ρ).th fun t => if t.1 = true then iR cl a t.2 else iR cl b t.2 := (rfl)
theorem iR_idx (a i : E) : iR cl (.idx a i) ρ = (iR cl a ρ).th fun x => (iR cl i x.2).th fun y => (idxD x.1 y.1).th fun r => .ok (r, y.2) := (rfl)
theorem iR_sli (a : E) (lo hi : O) : iR cl (.sli a lo hi) ρ = (iR cl a ρ).th fun x => (iO cl lo x.2).th fun l => (iO cl hi l.2).th fun h => (sliceD x.1 l.1 h.1).th fun r => .ok (r, h.2) := (rfl)
theorem iR_lst (l : Es) : iR cl (.lst l) ρ = (iEs cl l ρ).th fun x => if x.1.length ≤ sizeLine then .ok (.tmp x.1, x.2) else .no := (rfl)
theorem iR_tup (l : Es) : iR cl (.tup l) ρ = (iEs cl l ρ).th fun x => if x.1.length ≤ sizeLine then .ok (.val (.tup x.1), x.2) else .no := (rfl)
theorem iR_call (f : Str) (l : Es) : iR cl (.call f l) ρ = (iAs cl l ρ).th fun x => (cl f x.1).th fun r => .ok (r, x.2) := (rfl)
theorem iR_b1 (f : B1) (a : E) : iR cl (.b1 f a) ρ = (iR cl a ρ).th fun x => (f.go x.1).th fun r => .ok (r, x.2) := (rfl)
theorem iR_b2 (f : B2) (a b : E) : iR cl (.b2 f a b) ρ = (iR cl a ρ).th fun x => (iR cl b x.2).th fun y => (f.go x.1 y.1).th fun r => .ok (r, y.2) := (rfl)
theorem iR_isi (t : Ty) (a : E) : iR cl (.isi t a) ρ = (iR cl a ρ).th fun x => (R.of (t.go x.1)).th fun b => .ok (.val (.bl b), x.2) := (rfl)
theorem iR_comp (e : E) (src : I) (tg : Tg) (c : F) (n : Nat) (fr : List Nat) : iR cl (.comp e src tg c n fr) ρ = (iI cl src ρ).th fun x => if x.1.length ≤ sizeLine then (compD cl e tg c x.1 (iBlk n fr x.2) []).th fun l => .ok (.tmp l, x.2) else .no := (rfl)
theorem iT_not (a : T) : iT cl (.not a) ρ = (iT cl a ρ).th fun t => .ok (!t.1, t.2) := (rfl)
theorem iT_and (a b : T) : iT cl (.and a b) ρ = (iT cl a ρ).th fun t => if t.1 = true then iT cl b t.2 else .ok (false, t.2) := (rfl)
theorem iT_or (a b : T) : iT cl (.or a b) ρ = (iT cl a ρ).th fun t => if t.1 = true then .ok (true, t.2) else iT cl b t.2 := (rfl)
theorem iT_cmp (op : CmpOp) (a b : E) : iT cl (.cmp op a b) ρ = (iR cl a ρ).th fun x => (iR cl b x.2).th fun y => (R.of (cmpD op x.1 y.1)).th fun r => .ok (r, y.2) := (rfl)
theorem iT_val (a : E) : iT cl (.val a) ρ = (iR cl a ρ).th fun x => (R.of (truthD x.1)).th fun b => .ok (b, x.2) := (rfl)
theorem iEs_cons (e : E) (l : Es) : iEs cl (.cons e l) ρ = (escE e (iR cl e) ρ).th fun x => (iEs cl l x.2).th fun y => .ok (x.1 :: y.1, y.2) := (rfl)
theorem iAs_cons (e : E) (l : Es) : iAs cl (.cons e l) ρ = (iR cl e ρ).th fun x => (iAs cl l x.2).th fun y => .ok (toAr x.1 :: y.1, y.2) := (rfl)
theorem iO_some (e : E) : iO cl (.some e) ρ = (iR cl e ρ).th fun x => match x.1 with
    | .val (.int i) => .ok (some i, x.2)
    | _ => .no := (rfl)
theorem iI_seq (a : E) : iI cl (.seq a) ρ = (escL a (iR cl a) ρ).th fun x => .ok (x.1.2, x.2) := (rfl)
theorem iI_rng (a : E) : iI cl (.rng a) ρ = (iR cl a ρ).th fun x => (match x.1.int? with
    | some n => if smallI n = true then .ok (rangeD 0 n, x.2) else .no
    | none => .no) := (rfl)
theorem iI_rng2 (a b : E) : iI cl (.rng2 a b) ρ = (iR cl a ρ).th fun x => (iR cl b x.2).th fun y => (match x.1.int?, y.1.int? with
    | some i, some j => if smallI i = true ∧ smallI j = true then .ok (rangeD i j, y.2) else .no
    | _, _ => .no) := (rfl)
theorem iI_enum (a : E) : iI cl (.enum a) ρ = (escL a (iR cl a) ρ).th fun x => match x.1.1 with | .lst => .ok (enumD x.1.2, x.2) | _ => .no := (rfl)
theorem iI_zip (a b : E) : iI cl (.zip a b) ρ = (escL a (iR cl a) ρ).th fun x => (escL b (iR cl b) x.2).th fun y => match x.1.1, y.1.1 with | .lst, .lst => .ok (zipD x.1.2 y.1.2, y.2) | _, _ => .no := (rfl)
variable (s : Sl) (i : Nat) (d : D) (l : List D)
theorem slR_s : slR (s :: ρ) (i + 1) = slR ρ i := (rfl)
theorem slR_v : slR (.val d :: ρ) 0 = .ok (.val d) := (rfl)
theorem slR_o : slR (.own l :: ρ) 0 = .ok (.cell l) := (rfl)
theorem slR_b : slR (.bor l :: ρ) 0 = .ok (.cell l) := (rfl)
theorem slR_c : slR (.scr l :: ρ) 0 = .ok (.scr l) := (rfl)
theorem slX_s : slX (s :: ρ) (i + 1) = slX ρ i := (rfl)
theorem slX_v : slX (.val d :: ρ) 0 = .ok (.val d) := (rfl)
theorem slX_o : slX (.own l :: ρ) 0 = .ok (.tmp l) := (rfl)
theorem slE_s : slE (s :: ρ) (i + 1) = (slE ρ i).th fun x => .ok (x.1, s :: x.2) := by
  show (match ρ[i]? with | some (.val d) => _ | some (.own l) => _ | _ => _) = R.th (match ρ[i]? with | some (.val d) => _ | some (.own l) => _ | _ => _) _
  cases ρ[i]? with
  | none => rfl
  | some z => cases z <;> rfl
theorem slL_s : slL (s :: ρ) (i + 1) = (slL ρ i).th fun x => .ok (x.1, s :: x.2) := by
  show (match ρ[i]? with | some (.val (.lst l)) => _ | some (.val (.tup l)) => _ | some (.val (.str z)) => _ | some (.own l) => _ | some (.bor l) => _ | some (.scr l) => _ | _ => _) = R.th (match ρ[i]? with | some (.val (.lst l)) => _ | some (.val (.tup l)) => _ | some (.val (.str z)) => _ | some (.own l) => _ | some (.bor l) => _ | some (.scr l) => _ | _ => _) _
  cases ρ[i]? with
  | none => rfl
  | some z =>
    cases z with
    | val d => cases d <;> rfl
    | _ => rfl
theorem ownI_s : ownI (s :: ρ) (i + 1) = ownI ρ i := (rfl)
theorem ownI_o : ownI (.own l :: ρ) 0 = some l := (rfl)
end
mutual
def okD : D → Bool
  | .str s => PyData.strOk s
  | .lst l => okDs l
  | .tup l => okDs l
  | .ins .. => false
  | .non => true
  | .bl _ => true
  | .int _ => true
def okDs : List D → Bool
  | [] => true
  | d :: l => okD d && okDs l
end
mutual
def dpD : D → Nat
  | .lst l => dpDs l + 1
  | .tup l => dpDs l + 1
  | .str _ => 0
  | .ins .. => 0
  | .non => 0
  | .bl _ => 0
  | .int _ => 0
def dpDs : List D → Nat
  | [] => 0
  | d :: l => max (dpD d) (dpDs l)
end
mutual
theorem toP_ok : ∀ d : D, okD d = true → ∃ p, toP d = some p ∧ p.canLay0 = true ∧ p.depth = dpD d ∧ PyData.eqv p p = true
  | .non, _ => ⟨_, by rw [toP], by rw [PyData.canLay0], by rw [PyData.depth, dpD], by rw [PyData.eqv]⟩
  | .bl b, _ => ⟨_, by rw [toP], by rw [PyData.canLay0], by rw [PyData.depth, dpD], by rw [PyData.eqv]; simp⟩
  | .int n, _ => ⟨_, by rw [toP], by rw [PyData.canLay0], by rw [PyData.depth, dpD], by rw [PyData.eqv]; simp⟩
  | .str s, h => ⟨_, by rw [toP], by rw [PyData.canLay0]; rw [okD] at h; exact h, by rw [PyData.depth, dpD], by rw [PyData.eqv]; simp⟩
  | .lst l, h => by
    rw [okD] at h
    obtain ⟨p, h1, h2, h3, h4⟩ := toPs_ok l h
    exact ⟨.list p, by rw [toP, h1]; rfl, by rw [PyData.canLay0]; exact h2, by rw [PyData.depth, dpD, h3], by rw [PyData.eqv]; exact h4⟩
  | .tup l, h => by
    rw [okD] at h
    obtain ⟨p, h1, h2, h3, h4⟩ := toPs_ok l h
    exact ⟨.tuple p, by rw [toP, h1]; rfl, by rw [PyData.canLay0]; exact h2, by rw [PyData.depth, dpD, h3], by rw [PyData.eqv]; exact h4⟩
  | .ins .., h => by rw [okD] at h; cases h
theorem toPs_ok : ∀ l : List D, okDs l = true → ∃ p, toPs l = some p ∧ PyData.canLayAll0 p = true ∧ PyData.depthAll p = dpDs l ∧ PyData.eqvAll p p = true
  | [], _ => ⟨[], by rw [toPs], by rw [PyData.canLayAll0], by rw [PyData.depthAll, dpDs], by rw [PyData.eqvAll]⟩
  | d :: l, h => by
    rw [okDs, Bool.and_eq_true] at h
    obtain ⟨p, h1, h2, h3, h4⟩ := toP_ok d h.1
    obtain ⟨q, h5, h6, h7, h8⟩ := toPs_ok l h.2
    exact ⟨p :: q, by rw [toPs, h1, h5]; rfl, by rw [PyData.canLayAll0, h2, h6]; rfl, by rw [PyData.depthAll, dpDs, h3, h7], by rw [PyData.eqvAll, h4, h8]; rfl⟩
end
theorem toP_sh {d : D} (h : okD d = true) (hd : dpD d ≤ 64) : ∃ p, toP d = some p ∧ SeqAt.shaped p = true ∧ PyData.eqv p p = true := by
  obtain ⟨p, h1, h2, h3, h4⟩ := toP_ok d h
  exact ⟨p, h1, by unfold SeqAt.shaped; rw [h2, h3]; simpa using hd, h4⟩
theorem eqD_self {d : D} (h : okD d = true) (hd : dpD d ≤ 64) : eqD d d = some true := by
  obtain ⟨p, h1, h2, h3⟩ := toP_sh h hd
  unfold eqD
  rw [h1]
  dsimp only
  rw [h2, h3]
  rfl
theorem eqD_str {a b : Str} (ha : PyData.strOk a = true) (hb : PyData.strOk b = true) : eqD (.str a) (.str b) = some (a == b) := by
  unfold eqD
  simp only [toP]
  rw [show SeqAt.shaped (.str a) = true by unfold SeqAt.shaped; simp [PyData.canLay0, PyData.depth, ha], show SeqAt.shaped (.str b) = true by unfold SeqAt.shaped; simp [PyData.canLay0, PyData.depth, hb]]
  simp [PyData.eqv]
theorem sh_non : SeqAt.shaped .none = true := by unfold SeqAt.shaped; simp [PyData.canLay0, PyData.depth]
theorem sh_int (n : Int) : SeqAt.shaped (.int n) = true := by unfold SeqAt.shaped; simp [PyData.canLay0, PyData.depth]
theorem sh_str {a : Str} (ha : PyData.strOk a = true) : SeqAt.shaped (.str a) = true := by unfold SeqAt.shaped; simp [PyData.canLay0, PyData.depth, ha]
theorem eqD_int (a b : Int) : eqD (.int a) (.int b) = some (a == b) := by
  unfold eqD
  simp only [toP, sh_int, Bool.and_self, if_true, PyData.eqv]
theorem eqD_nn : eqD .non .non = some true := by
  unfold eqD
  simp only [toP, sh_non, Bool.and_self, if_true, PyData.eqv]
theorem eqD_ns {a : Str} (ha : PyData.strOk a = true) : eqD .non (.str a) = some false := by
  unfold eqD
  simp only [toP, sh_non, sh_str ha, Bool.and_self, if_true, PyData.eqv]
theorem eqD_sn {a : Str} (ha : PyData.strOk a = true) : eqD (.str a) .non = some false := by
  unfold eqD
  simp only [toP, sh_non, sh_str ha, Bool.and_self, if_true, PyData.eqv]
theorem eqD_nil {l : List D} (h : okDs l = true) (hd : dpDs l ≤ 63) : eqD (.lst l) (.lst []) = some l.isEmpty := by
  obtain ⟨p, h1, h2, h3⟩ := toP_sh (d := .lst l) (by rw [okD]; exact h) (by rw [dpD]; omega)
  unfold eqD
  have e : toP (.lst []) = some (.list []) := by simp [toP, toPs]
  rw [h1, e]
  dsimp only
  rw [h2, show SeqAt.shaped (.list []) = true by unfold SeqAt.shaped; simp [PyData.canLay0, PyData.canLayAll0, PyData.depth, PyData.depthAll]]
  rw [toP] at h1
  obtain ⟨q, h4, rfl⟩ := Option.map_eq_some_iff.mp h1
  cases l with
  | nil => rw [toPs] at h4; cases h4; simp [PyData.eqv, PyData.eqvAll]
  | cons d l =>
    rw [toPs] at h4
    obtain ⟨x, h5, h6⟩ := Option.bind_eq_some_iff.mp h4
    obtain ⟨y, h7, rfl⟩ := Option.map_eq_some_iff.mp h6
    simp [PyData.eqv, PyData.eqvAll]
theorem okDs_of {l : List D} (h : ∀ d ∈ l, okD d = true) : okDs l = true := by
  induction l with
  | nil => rw [okDs]
  | cons d l ih => rw [okDs, h d (by simp), ih fun x hx => h x (by simp [hx])]; rfl
theorem dpDs_of {l : List D} {n : Nat} (h : ∀ d ∈ l, dpD d ≤ n) : dpDs l ≤ n := by
  induction l with
  | nil => rw [dpDs]; omega
  | cons d l ih =>
    have := h d (by simp)
    have := ih fun x hx => h x (by simp [hx])
    rw [dpDs]
    omega
theorem atI_nat {α : Type} {l : List α} {i : Int} {j : Nat} (h : i = (j : Int)) (hj : j < l.length) : atI l i = some l[j] := by
  subst h
  unfold atI ixN
  rw [if_pos (by omega), if_pos (by omega)]
  simp [hj]
theorem ixN_last {n : Nat} : ixN (n + 1) (-1) = some n := by
  unfold ixN
  rw [if_neg (by omega), if_pos (by omega), show ((-1 : Int) + ((n + 1 : Nat) : Int)).toNat = n by omega]
end DE
set_option maxHeartbeats 4000000
namespace DE
open PySem L2
theorem at_0 {α : Type} (a : α) (l : List α) : atI (a :: l) 0 = some a := by
  exact atI_nat (i := 0) (j := 0) rfl (by simp)
theorem at_1 {α : Type} (a b : α) (l : List α) : atI (a :: b :: l) 1 = some b := by
  exact atI_nat (i := 1) (j := 1) rfl (by simp)
theorem at_2 {α : Type} (a b c : α) (l : List α) : atI (a :: b :: c :: l) 2 = some c := by
  exact atI_nat (i := 2) (j := 2) rfl (by simp)
theorem at_n {α : Type} {l : List α} {j : Nat} {x : α} (h : l[j]? = some x) : atI l (j : Int) = some x := by
  obtain ⟨h1, h2⟩ := List.getElem?_eq_some_iff.mp h
  rw [atI_nat rfl h1, h2]
def enF (i : Nat) : List D → List D
  | [] => []
  | d :: l => .tup [.int i, d] :: enF (i + 1) l
theorem enF_eq : ∀ (l : List D) (i : Nat), (List.range' i l.length).zipWith (fun (i : Nat) d => D.tup [.int i, d]) l = enF i l
  | [], i => rfl
  | d :: l, i => by
    rw [List.length_cons, List.range'_succ, List.zipWith_cons_cons, enF_eq l (i + 1)]
    rfl
theorem enumD_eq (l : List D) : enumD l = enF 0 l := by
  unfold enumD
  rw [List.range_eq_range', enF_eq]
def rgF (i : Int) : Nat → List D
  | 0 => []
  | n + 1 => .int i :: rgF (i + 1) n
theorem rgF_eq : ∀ (n : Nat) (lo : Int) (s : Nat), (List.range' s n).map (fun i : Nat => D.int (lo + i)) = rgF (lo + s) n
  | 0, _, _ => rfl
  | n + 1, lo, s => by
    rw [List.range'_succ, List.map_cons, rgF_eq n lo (s + 1)]
    show _ = D.int (lo + s) :: rgF (lo + s + 1) n
    rw [show lo + ((s + 1 : Nat) : Int) = lo + s + 1 by omega]
theorem rangeD_eq (lo hi : Int) : rangeD lo hi = rgF lo (hi - lo).toNat := by
  unfold rangeD
  rw [List.range_eq_range', rgF_eq]
  congr 1
  omega
theorem ixN_app {α : Type} (l : List α) (x : α) : ixN (l ++ [x]).length (-1) = some l.length := by
  rw [List.length_append]
  exact ixN_last
theorem set_app {α : Type} (l : List α) (x y : α) : (l ++ [x]).set l.length y = l ++ [y] := by
  simp
theorem emp_app {α : Type} (l : List α) (x : α) : (l ++ [x]).isEmpty = false := by cases l <;> rfl
end DE
set_option maxHeartbeats 4000000
namespace DE
open PySem L2
theorem th_assoc {α β γ : Type} (x : R α) (f : α → R β) (g : β → R γ) : (x.th f).th g = x.th fun a => (f a).th g := by cases x <;> rfl
theorem th_ret {α : Type} (x : R α) : x.th R.ok = x := by cases x <;> rfl
section
variable {β : Type} (cl : Str → List Ar → R Rv) (w : Nat)
def kRet (ρ : Env) (K : Rv × Env → R β) (r : Rv) : R β := K (r, ρ)
def kBl (ρ : Env) (K : Rv × Env → R β) (b : Bool) : R β := K (.val (.bl b), ρ)
def kBo (ρ : Env) (K : Bool × Env → R β) (b : Bool) : R β := K (b, ρ)
def kTmp (ρ : Env) (K : Rv × Env → R β) (l : List D) : R β := K (.tmp l, ρ)
def kB2 (op : Operator) (u : Rv) (K : Rv × Env → R β) (y : Rv × Env) : R β := (binD op u y.1).th (kRet y.2 K)
def kB1 (op : Operator) (b : E) (K : Rv × Env → R β) (x : Rv × Env) : R β := (iR cl b x.2).th (kB2 op x.1 K)
def kNeg (K : Rv × Env → R β) (x : Rv × Env) : R β := R.th (match x.1 with
    | .val (.int i) => .ok (.val (.int (-i)), x.2)
    | _ => .no) K
def kNot (K : Rv × Env → R β) (x : Rv × Env) : R β := R.th (match x.1 with
    | .val (.bl b) => .ok (.val (.bl (!b)), x.2)
    | _ => .no) K
def kAnd (b : E) (K : Rv × Env → R β) (x : Rv × Env) : R β := R.th (match x.1 with
    | .val (.bl true) => iR cl b x.2
    | .val (.bl false) => .ok (.val (.bl false), x.2)
    | _ => .no) K
def kOr (b : E) (K : Rv × Env → R β) (x : Rv × Env) : R β := R.th (match x.1 with
    | .val (.bl false) => iR cl b x.2
    | .val (.bl true) => .ok (.val (.bl true), x.2)
    | _ => .no) K
def kC2 (op : CmpOp) (u : Rv) (K : Rv × Env → R β) (y : Rv × Env) : R β := (R.of (cmpD op u y.1)).th (kBl y.2 K)
def kC1 (op : CmpOp) (b : E) (K : Rv × Env → R β) (x : Rv × Env) : R β := (iR cl b x.2).th (kC2 op x.1 K)
def kIf (a b : E) (K : Rv × Env → R β) (t : Bool × Env) : R β := if t.1 = true then (iR cl a t.2).th K else (iR cl b t.2).th K
def kI2 (u : Rv) (K : Rv × Env → R β) (y : Rv × Env) : R β := (idxD u y.1).th (kRet y.2 K)
def kI1 (b : E) (K : Rv × Env → R β) (x : Rv × Env) : R β := (iR cl b x.2).th (kI2 x.1 K)
def kS3 (v : Rv) (l : Option Int) (K : Rv × Env → R β) (h : Option Int × Env) : R β := (sliceD v l h.1).th (kRet h.2 K)
def kS2 (v : Rv) (hi : O) (K : Rv × Env → R β) (l : Option Int × Env) : R β := (iO cl hi l.2).th (kS3 v l.1 K)
def kS1 (lo hi : O) (K : Rv × Env → R β) (x : Rv × Env) : R β := (iO cl lo x.2).th (kS2 cl x.1 hi K)
def kLst (K : Rv × Env → R β) (x : List D × Env) : R β := if x.1.length ≤ sizeLine then K (.tmp x.1, x.2) else .no
def kTup (K : Rv × Env → R β) (x : List D × Env) : R β := if x.1.length ≤ sizeLine then K (.val (.tup x.1), x.2) else .no
def kCall (f : Str) (K : Rv × Env → R β) (x : List Ar × Env) : R β := (cl f x.1).th (kRet x.2 K)
def kF1 (f : B1) (K : Rv × Env → R β) (x : Rv × Env) : R β := (f.go x.1).th (kRet x.2 K)
def kG2 (f : B2) (u : Rv) (K : Rv × Env → R β) (y : Rv × Env) : R β := (f.go u y.1).th (kRet y.2 K)
def kG1 (f : B2) (b : E) (K : Rv × Env → R β) (x : Rv × Env) : R β := (iR cl b x.2).th (kG2 f x.1 K)
def kIsi (t : Ty) (K : Rv × Env → R β) (x : Rv × Env) : R β := (R.of (t.go x.1)).th (kBl x.2 K)
def kComp (e : E) (tg : Tg) (c : F) (n : Nat) (fr : List Nat) (K : Rv × Env → R β) (x : List D × Env) : R β := if x.1.length ≤ sizeLine then (compD cl e tg c x.1 (iBlk n fr x.2) []).th (kTmp x.2 K) else .no
def kTn (K : Bool × Env → R β) (t : Bool × Env) : R β := K (!t.1, t.2)
def kTa (b : T) (K : Bool × Env → R β) (t : Bool × Env) : R β := if t.1 = true then (iT cl b t.2).th K else K (false, t.2)
def kTo (b : T) (K : Bool × Env → R β) (t : Bool × Env) : R β := if t.1 = true then K (true, t.2) else (iT cl b t.2).th K
def kD2 (op : CmpOp) (u : Rv) (K : Bool × Env → R β) (y : Rv × Env) : R β := (R.of (cmpD op u y.1)).th (kBo y.2 K)
def kD1 (op : CmpOp) (b : E) (K : Bool × Env → R β) (x : Rv × Env) : R β := (iR cl b x.2).th (kD2 op x.1 K)
def kTv (K : Bool × Env → R β) (x : Rv × Env) : R β := (R.of (truthD x.1)).th (kBo x.2 K)
def kE2 (d : D) (K : List D × Env → R β) (y : List D × Env) : R β := K (d :: y.1, y.2)
def kE1 (l : Es) (K : List D × Env → R β) (x : D × Env) : R β := (iEs cl l x.2).th (kE2 x.1 K)
def kA2 (v : Rv) (K : List Ar × Env → R β) (y : List Ar × Env) : R β := K (toAr v :: y.1, y.2)
def kA1 (l : Es) (K : List Ar × Env → R β) (x : Rv × Env) : R β := (iAs cl l x.2).th (kA2 x.1 K)
def kO (K : Option Int × Env → R β) (x : Rv × Env) : R β := R.th (match x.1 with
    | .val (.int i) => .ok (some i, x.2)
    | _ => .no) K
def kSeq (K : List D × Env → R β) (x : (Sk × List D) × Env) : R β := K (x.1.2, x.2)
def kRng (K : List D × Env → R β) (x : Rv × Env) : R β := R.th (match x.1.int? with
    | some n => if smallI n = true then .ok (rangeD 0 n, x.2) else .no
    | none => .no) K
def kR2 (u : Rv) (K : List D × Env → R β) (y : Rv × Env) : R β := R.th (match u.int?, y.1.int? with
    | some i, some j => if smallI i = true ∧ smallI j = true then .ok (rangeD i j, y.2) else .no
    | _, _ => .no) K
def kR1 (b : E) (K : List D × Env → R β) (x : Rv × Env) : R β := (iR cl b x.2).th (kR2 x.1 K)
def kEnum (K : List D × Env → R β) (x : (Sk × List D) × Env) : R β := R.th (match x.1.1 with | .lst => .ok (enumD x.1.2, x.2) | _ => .no) K
def kZ2 (x : Sk × List D) (K : List D × Env → R β) (y : (Sk × List D) × Env) : R β := R.th (match x.1, y.1.1 with | .lst, .lst => .ok (zipD x.2 y.1.2, y.2) | _, _ => .no) K
def kZ1 (b : E) (K : List D × Env → R β) (x : (Sk × List D) × Env) : R β := (escL b (iR cl b) x.2).th (kZ2 x.1 K)
def kVal (K : D × Env → R β) (x : Rv × Env) : R β := (valE x).th K
def kValL (K : (Sk × List D) × Env → R β) (x : Rv × Env) : R β := (valL x).th K
def kX (K : Rv → R β) (x : Rv × Env) : R β := R.th (match x.1 with
    | .val d => .ok (.val d)
    | .tmp l => .ok (.tmp l)
    | _ => .no) K
def kAv (K : Sl × Env → R β) (x : D × Env) : R β := K (.val x.1, x.2)
def kAx (K : Sl × Env → R β) (x : Rv × Env) : R β := R.th (match x.1 with
    | .val d => .ok (.val d, x.2)
    | .tmp l => .ok (.own l, x.2)
    | _ => .no) K
def kCons {α : Type} (s : Sl) (K : α × Env → R β) (x : α × Env) : R β := K (x.1, s :: x.2)
def kExpr (K : Fl → R β) (x : Rv × Env) : R β := K (.next x.2)
def oGo (o : Option (List D)) (x : R β) : R β := match o with
  | none => .no
  | some _ => x
def kApp2 (i : Nat) (d : D) (ρ : Env) (K : Fl → R β) (o : Option (List D)) : R β := R.th (match o with
      | some l => if l.length < sizeLine then .ok (.next (ρ.set i (.own (l ++ [d])))) else .no
      | none => .no) K
def kApp (i : Nat) (K : Fl → R β) (y : D × Env) : R β := kApp2 i y.1 y.2 K (ownI y.2 i)
def kExt2 (i : Nat) (ρ : Env) (K : Fl → R β) (o p : Option (List D)) : R β := R.th (match o, p with
      | some l, some n => if l.length + n.length ≤ sizeLine then .ok (.next (ρ.set i (.own (l ++ n)))) else .no
      | _, _ => .no) K
def kExt (i : Nat) (K : Fl → R β) (y : Rv × Env) : R β := kExt2 i y.2 K (ownI y.2 i) y.1.plain?
def kRt (K : Fl → R β) (r : Rv) : R β := K (.ret r)
def kSet (i : Nat) (K : Fl → R β) (s : Sl × Env) : R β := K (.next (s.2.set i s.1))
def kNx (K : Fl → R β) (ρ : Env) : R β := K (.next ρ)
def kST (tg : Tg) (K : Fl → R β) (x : D × Env) : R β := (tg.go x.1 x.2).th (kNx K)
def kSI4 (i : Nat) (d : D) (ρ : Env) (K : Fl → R β) (l : List D) (o : Option Nat) : R β := R.th (match o with
        | some k => .ok (.next (ρ.set i (.own (l.set k d))))
        | none => .no) K
def kSI3 (i : Nat) (d : D) (ρ : Env) (K : Fl → R β) (o : Option (List D)) (v : Option Int) : R β := match o, v with
  | some l, some n => kSI4 i d ρ K l (ixN l.length n)
  | _, _ => .no
def kSI2 (i : Nat) (d : D) (K : Fl → R β) (z : Rv × Env) : R β := kSI3 i d z.2 K (ownI z.2 i) z.1.int?
def kSI (i : Nat) (x : E) (K : Fl → R β) (y : D × Env) : R β := oGo (ownI y.2 i) ((iR cl x y.2).th (kSI2 i y.1 K))
def kIte (a b : Ss) (K : Fl → R β) (t : Bool × Env) : R β := if t.1 = true then (iSs cl w a t.2).th K else (iSs cl w b t.2).th K
def kFor (tg : Tg) (b : Ss) (K : Fl → R β) (x : List D × Env) : R β := (forD cl w tg b x.1 x.2).th K
def kNext (l : Ss) (K : Fl → R β) (f : Fl) : R β := (nextR f fun ρ1 => iSs cl w l ρ1).th K
def kFo2 (tg : Tg) (b : Ss) (l : List D) (K : Fl → R β) (f : Fl) : R β := (nextR f fun ρ1 => forD cl w tg b l ρ1).th K
def kFo1 (tg : Tg) (b : Ss) (l : List D) (K : Fl → R β) (ρ : Env) : R β := (iSs cl w b ρ).th (kFo2 cl w tg b l K)
def kWh2 (c : T) (b : Ss) (n : Nat) (K : Fl → R β) (f : Fl) : R β := (nextR f fun ρ1 => whD cl w c b n ρ1).th K
def kWh1 (c : T) (b : Ss) (n : Nat) (K : Fl → R β) (t : Bool × Env) : R β := if t.1 = true then (iSs cl w b t.2).th (kWh2 cl w c b n K) else K (.next t.2)
def kP3 (e : E) (tg : Tg) (c : F) (l acc : List D) (K : List D → R β) (x : D × Env) : R β := if acc.length < sizeLine then (compD cl e tg c l x.2 (acc ++ [x.1])).th K else .no
def kP2 (e : E) (tg : Tg) (c : F) (l acc : List D) (K : List D → R β) (t : Bool × Env) : R β := if t.1 = true then (escE e (iR cl e) t.2).th (kP3 cl e tg c l acc K) else (compD cl e tg c l t.2 acc).th K
def kP1 (e : E) (tg : Tg) (c : F) (l acc : List D) (K : List D → R β) (ρ : Env) : R β := (iF cl c ρ).th (kP2 cl e tg c l acc K)
theorem ite_th {α : Type} {c : Prop} [Decidable c] (x y : R α) (K : α → R β) : (if c then x else y).th K = if c then x.th K else y.th K := by split <;> rfl
theorem th_eq {α : Type} (x : R α) {f g : α → R β} (h : ∀ a, f a = g a) : x.th f = x.th g := by cases x <;> first | rfl | exact h _
section
variable (ρ : Env) (K : Rv × Env → R β)
theorem xR_var (i : Nat) : (iR cl (.var i) ρ).th K = (slR ρ i).th (kRet ρ K) := (th_assoc (slR ρ i) _ _)
theorem xR_con (d : D) : (iR cl (.con d) ρ).th K = K (.val d, ρ) := (rfl)
theorem xR_bin (op : Operator) (a b : E) : (iR cl (.bin op a b) ρ).th K = (iR cl a ρ).th (kB1 cl op b K) := by
  rw [iR_bin, th_assoc]
  refine th_eq _ fun x => ?_
  rw [th_assoc]
  refine th_eq _ fun y => ?_
  rw [th_assoc]
  rfl
theorem xR_neg (a : E) : (iR cl (.neg a) ρ).th K = (iR cl a ρ).th (kNeg K) := by rw [iR_neg, th_assoc]; rfl
theorem xR_not (a : E) : (iR cl (.not a) ρ).th K = (iR cl a ρ).th (kNot K) := by rw [iR_not, th_assoc]; rfl
theorem xR_one (a : E) : (iR cl (.one a) ρ).th K = (iR cl a ρ).th K := (rfl)
theorem xR_and (a b : E) : (iR cl (.and a b) ρ).th K = (iR cl a ρ).th (kAnd cl b K) := by rw [iR_and, th_assoc]; rfl
theorem xR_or (a b : E) : (iR cl (.or a b) ρ).th K = (iR cl a ρ).th (kOr cl b K) := by rw [iR_or, th_assoc]; rfl
theorem xR_cmp (op : CmpOp) (a b : E) : (iR cl (.cmp op a b) ρ).th K = (iR cl a ρ).th (kC1 cl op b K) := by
  rw [iR_cmp, th_assoc]
  refine th_eq _ fun x => ?_
  rw [th_assoc]
  refine th_eq _ fun y => ?_
  rw [th_assoc]
  rfl
theorem xR_ite (c : T) (a b : E) : (iR cl (.ite c a b) ρ).th K = (iT cl c ρ).th (kIf cl a b K) := by
  rw [iR_ite, th_assoc]
  refine th_eq _ fun t => ?_
  rw [ite_th]
  rfl
theorem xR_idx (a b : E) : (iR cl (.idx a b) ρ).th K = (iR cl a ρ).th (kI1 cl b K) := by
  rw [iR_idx, th_assoc]
  refine th_eq _ fun x => ?_
  rw [th_assoc]
  refine th_eq _ fun y => ?_
  rw [th_assoc]
  rfl
theorem xR_sli (a : E) (lo hi : O) : (iR cl (.sli a lo hi) ρ).th K = (iR cl a ρ).th (kS1 cl lo hi K) := by
  rw [iR_sli, th_assoc]
  refine th_eq _ fun x => ?_
  rw [th_assoc]
  refine th_eq _ fun y => ?_
  rw [th_assoc]
  refine th_eq _ fun z => ?_
  rw [th_assoc]
  rfl
theorem xR_lst (l : Es) : (iR cl (.lst l) ρ).th K = (iEs cl l ρ).th (kLst K) := by
  rw [iR_lst, th_assoc]
  refine th_eq _ fun x => ?_
  rw [ite_th]
  rfl
theorem xR_tup (l : Es) : (iR cl (.tup l) ρ).th K = (iEs cl l ρ).th (kTup K) := by
  rw [iR_tup, th_assoc]
  refine th_eq _ fun x => ?_
  rw [ite_th]
  rfl
theorem xR_call (f : Str) (l : Es) : (iR cl (.call f l) ρ).th K = (iAs cl l ρ).th (kCall cl f K) := by
  rw [iR_call, th_assoc]
  refine th_eq _ fun x => ?_
  rw [th_assoc]
  rfl
theorem xR_b1 (f : B1) (a : E) : (iR cl (.b1 f a) ρ).th K = (iR cl a ρ).th (kF1 f K) := by
  rw [iR_b1, th_assoc]
  refine th_eq _ fun x => ?_
  rw [th_assoc]
  rfl
theorem xR_b2 (f : B2) (a b : E) : (iR cl (.b2 f a b) ρ).th K = (iR cl a ρ).th (kG1 cl f b K) := by
  rw [iR_b2, th_assoc]
  refine th_eq _ fun x => ?_
  rw [th_assoc]
  refine th_eq _ fun y => ?_
  rw [th_assoc]
  rfl
theorem xR_isi (t : Ty) (a : E) : (iR cl (.isi t a) ρ).th K = (iR cl a ρ).th (kIsi t K) := by
  rw [iR_isi, th_assoc]
  refine th_eq _ fun x => ?_
  rw [th_assoc]
  rfl
theorem xR_comp (e : E) (src : I) (tg : Tg) (c : F) (n : Nat) (fr : List Nat) : (iR cl (.comp e src tg c n fr) ρ).th K = (iI cl src ρ).th (kComp cl e tg c n fr K) := by
  rw [iR_comp, th_assoc]
  refine th_eq _ fun x => ?_
  rw [ite_th, th_assoc]
  rfl
end
section
variable (ρ : Env) (K : Rv × Env → R β) (v u : Rv)
theorem yRet : kRet ρ K v = K (v, ρ) := (rfl)
theorem yBl (b : Bool) : kBl ρ K b = K (.val (.bl b), ρ) := (rfl)
theorem yTmp (l : List D) : kTmp ρ K l = K (.tmp l, ρ) := (rfl)
theorem yB1 (op : Operator) (b : E) : kB1 cl op b K (v, ρ) = (iR cl b ρ).th (kB2 op v K) := (rfl)
theorem yB2 (op : Operator) : kB2 op u K (v, ρ) = (binD op u v).th (kRet ρ K) := (rfl)
theorem yNeg (i : Int) : kNeg K (.val (.int i), ρ) = K (.val (.int (-i)), ρ) := (rfl)
theorem yNot (b : Bool) : kNot K (.val (.bl b), ρ) = K (.val (.bl (!b)), ρ) := (rfl)
theorem yAnd (b : E) (t : Bool) : kAnd cl b K (.val (.bl t), ρ) = if t = true then (iR cl b ρ).th K else K (.val (.bl false), ρ) := by cases t <;> rfl
theorem yOr (b : E) (t : Bool) : kOr cl b K (.val (.bl t), ρ) = if t = true then K (.val (.bl true), ρ) else (iR cl b ρ).th K := by cases t <;> rfl
theorem yC1 (op : CmpOp) (b : E) : kC1 cl op b K (v, ρ) = (iR cl b ρ).th (kC2 op v K) := (rfl)
theorem yC2 (op : CmpOp) : kC2 op u K (v, ρ) = (R.of (cmpD op u v)).th (kBl ρ K) := (rfl)
theorem yIf (a b : E) (t : Bool) : kIf cl a b K (t, ρ) = if t = true then (iR cl a ρ).th K else (iR cl b ρ).th K := (rfl)
theorem yI1 (b : E) : kI1 cl b K (v, ρ) = (iR cl b ρ).th (kI2 v K) := (rfl)
theorem yI2 : kI2 u K (v, ρ) = (idxD u v).th (kRet ρ K) := (rfl)
theorem yS1 (lo hi : O) : kS1 cl lo hi K (v, ρ) = (iO cl lo ρ).th (kS2 cl v hi K) := (rfl)
theorem yS2 (hi : O) (l : Option Int) : kS2 cl v hi K (l, ρ) = (iO cl hi ρ).th (kS3 v l K) := (rfl)
theorem yS3 (l h : Option Int) : kS3 v l K (h, ρ) = (sliceD v l h).th (kRet ρ K) := (rfl)
theorem yLst (l : List D) : kLst K (l, ρ) = if l.length ≤ sizeLine then K (.tmp l, ρ) else .no := (rfl)
theorem yTup (l : List D) : kTup K (l, ρ) = if l.length ≤ sizeLine then K (.val (.tup l), ρ) else .no := (rfl)
theorem yCall (f : Str) (l : List Ar) : kCall cl f K (l, ρ) = (cl f l).th (kRet ρ K) := (rfl)
theorem yF1 (f : B1) : kF1 f K (v, ρ) = (f.go v).th (kRet ρ K) := (rfl)
theorem yG1 (f : B2) (b : E) : kG1 cl f b K (v, ρ) = (iR cl b ρ).th (kG2 f v K) := (rfl)
theorem yG2 (f : B2) : kG2 f u K (v, ρ) = (f.go u v).th (kRet ρ K) := (rfl)
theorem yIsi (t : Ty) : kIsi t K (v, ρ) = (R.of (t.go v)).th (kBl ρ K) := (rfl)
theorem yComp (e : E) (tg : Tg) (c : F) (n : Nat) (fr : List Nat) (l : List D) : kComp cl e tg c n fr K (l, ρ) = if l.length ≤ sizeLine then (compD cl e tg c l (iBlk n fr ρ) []).th (kTmp ρ K) else .no := (rfl)
end
section
variable (ρ : Env) (K : Bool × Env → R β) (v u : Rv) (t : Bool)
theorem xT_not (a : T) : (iT cl (.not a) ρ).th K = (iT cl a ρ).th (kTn K) := by rw [iT_not, th_assoc]; rfl
theorem xT_one (a : T) : (iT cl (.one a) ρ).th K = (iT cl a ρ).th K := (rfl)
theorem xT_and (a b : T) : (iT cl (.and a b) ρ).th K = (iT cl a ρ).th (kTa cl b K) := by
  rw [iT_and, th_assoc]
  refine th_eq _ fun t => ?_
  rw [ite_th]
  rfl
theorem xT_or (a b : T) : (iT cl (.or a b) ρ).th K = (iT cl a ρ).th (kTo cl b K) := by
  rw [iT_or, th_assoc]
  refine th_eq _ fun t => ?_
  rw [ite_th]
  rfl
theorem xT_cmp (op : CmpOp) (a b : E) : (iT cl (.cmp op a b) ρ).th K = (iR cl a ρ).th (kD1 cl op b K) := by
  rw [iT_cmp, th_assoc]
  refine th_eq _ fun x => ?_
  rw [th_assoc]
  refine th_eq _ fun y => ?_
  rw [th_assoc]
  rfl
theorem xT_val (a : E) : (iT cl (.val a) ρ).th K = (iR cl a ρ).th (kTv K) := by
  rw [iT_val, th_assoc]
  refine th_eq _ fun x => ?_
  rw [th_assoc]
  rfl
theorem yBo : kBo ρ K t = K (t, ρ) := (rfl)
theorem yTn : kTn K (t, ρ) = K (!t, ρ) := (rfl)
theorem yTa (b : T) : kTa cl b K (t, ρ) = if t = true then (iT cl b ρ).th K else K (false, ρ) := (rfl)
theorem yTo (b : T) : kTo cl b K (t, ρ) = if t = true then K (true, ρ) else (iT cl b ρ).th K := (rfl)
theorem yD1 (op : CmpOp) (b : E) : kD1 cl op b K (v, ρ) = (iR cl b ρ).th (kD2 op v K) := (rfl)
theorem yD2 (op : CmpOp) : kD2 op u K (v, ρ) = (R.of (cmpD op u v)).th (kBo ρ K) := (rfl)
theorem yTv : kTv K (v, ρ) = (R.of (truthD v)).th (kBo ρ K) := (rfl)
theorem xF_yes : (iF cl .yes ρ).th K = K (true, ρ) := (rfl)
theorem xF_test (c : T) : (iF cl (.test c) ρ).th K = (iT cl c ρ).th K := (rfl)
end
section
variable (ρ : Env)
theorem xEs_nil (K : List D × Env → R β) : (iEs cl .nil ρ).th K = K ([], ρ) := (rfl)
theorem xEs_cons (K : List D × Env → R β) (e : E) (l : Es) : (iEs cl (.cons e l) ρ).th K = (escE e (iR cl e) ρ).th (kE1 cl l K) := by
  rw [iEs_cons, th_assoc]
  refine th_eq _ fun x => ?_
  rw [th_assoc]
  rfl
theorem yE1 (K : List D × Env → R β) (l : Es) (d : D) : kE1 cl l K (d, ρ) = (iEs cl l ρ).th (kE2 d K) := (rfl)
theorem yE2 (K : List D × Env → R β) (d : D) (ds : List D) : kE2 d K (ds, ρ) = K (d :: ds, ρ) := (rfl)
theorem xAs_nil (K : List Ar × Env → R β) : (iAs cl .nil ρ).th K = K ([], ρ) := (rfl)
theorem xAs_cons (K : List Ar × Env → R β) (e : E) (l : Es) : (iAs cl (.cons e l) ρ).th K = (iR cl e ρ).th (kA1 cl l K) := by
  rw [iAs_cons, th_assoc]
  refine th_eq _ fun x => ?_
  rw [th_assoc]
  rfl
theorem yA1 (K : List Ar × Env → R β) (l : Es) (v : Rv) : kA1 cl l K (v, ρ) = (iAs cl l ρ).th (kA2 v K) := (rfl)
theorem yA2 (K : List Ar × Env → R β) (v : Rv) (l : List Ar) : kA2 v K (l, ρ) = K (toAr v :: l, ρ) := (rfl)
theorem xO_none (K : Option Int × Env → R β) : (iO cl .none ρ).th K = K (none, ρ) := (rfl)
theorem xO_some (K : Option Int × Env → R β) (e : E) : (iO cl (.some e) ρ).th K = (iR cl e ρ).th (kO K) := by rw [iO_some, th_assoc]; rfl
theorem yO (K : Option Int × Env → R β) (i : Int) : kO K (.val (.int i), ρ) = K (some i, ρ) := (rfl)
variable (K : List D × Env → R β)
theorem xI_seq (a : E) : (iI cl (.seq a) ρ).th K = (escL a (iR cl a) ρ).th (kSeq K) := by rw [iI_seq, th_assoc]; rfl
theorem xI_rng (a : E) : (iI cl (.rng a) ρ).th K = (iR cl a ρ).th (kRng K) := by rw [iI_rng, th_assoc]; rfl
theorem xI_rng2 (a b : E) : (iI cl (.rng2 a b) ρ).th K = (iR cl a ρ).th (kR1 cl b K) := by
  rw [iI_rng2, th_assoc]
  refine th_eq _ fun x => ?_
  rw [th_assoc]
  rfl
theorem xI_enum (a : E) : (iI cl (.enum a) ρ).th K = (escL a (iR cl a) ρ).th (kEnum K) := by rw [iI_enum, th_assoc]; rfl
theorem xI_zip (a b : E) : (iI cl (.zip a b) ρ).th K = (escL a (iR cl a) ρ).th (kZ1 cl b K) := by
  rw [iI_zip, th_assoc]
  refine th_eq _ fun x => ?_
  rw [th_assoc]
  rfl
theorem ySeq (s : Sk) (l : List D) : kSeq K ((s, l), ρ) = K (l, ρ) := (rfl)
theorem yRng (n : Int) : kRng K (.val (.int n), ρ) = if smallI n = true then K (rangeD 0 n, ρ) else .no := by
  show R.th (if smallI n = true then _ else _) K = _
  rw [ite_th]
  rfl
theorem yR1 (b : E) (v : Rv) : kR1 cl b K (v, ρ) = (iR cl b ρ).th (kR2 v K) := (rfl)
theorem yR2 (i j : Int) : kR2 (.val (.int i)) K (.val (.int j), ρ) = if smallI i = true ∧ smallI j = true then K (rangeD i j, ρ) else .no := by
  show R.th (if smallI i = true ∧ smallI j = true then _ else _) K = _
  rw [ite_th]
  rfl
theorem yEnum (l : List D) : kEnum K ((.lst, l), ρ) = K (enumD l, ρ) := (rfl)
theorem yZ1 (b : E) (x : Sk × List D) : kZ1 cl b K (x, ρ) = (escL b (iR cl b) ρ).th (kZ2 x K) := (rfl)
theorem yZ2 (l n : List D) : kZ2 (.lst, l) K ((.lst, n), ρ) = K (zipD l n, ρ) := (rfl)
end
section
variable (ρ : Env) (s : Sl) (i : Nat) (d : D) (l : List D)
theorem yVal (K : D × Env → R β) : kVal K (.val d, ρ) = K (d, ρ) := (rfl)
theorem yValt (K : D × Env → R β) : kVal K (.tmp l, ρ) = K (.lst l, ρ) := (rfl)
theorem yValL (K : (Sk × List D) × Env → R β) : kValL K (.val (.lst l), ρ) = K ((.lst, l), ρ) := (rfl)
theorem yValLt (K : (Sk × List D) × Env → R β) : kValL K (.val (.tup l), ρ) = K ((.tup, l), ρ) := (rfl)
theorem yValLs (K : (Sk × List D) × Env → R β) (z : Str) : kValL K (.val (.str z), ρ) = K ((.str, sigD z), ρ) := (rfl)
theorem yValLm (K : (Sk × List D) × Env → R β) : kValL K (.tmp l, ρ) = K ((.lst, l), ρ) := (rfl)
theorem yX (K : Rv → R β) : kX K (.val d, ρ) = K (.val d) := (rfl)
theorem yXt (K : Rv → R β) : kX K (.tmp l, ρ) = K (.tmp l) := (rfl)
theorem yAv (K : Sl × Env → R β) : kAv K (d, ρ) = K (.val d, ρ) := (rfl)
theorem yAx (K : Sl × Env → R β) : kAx K (.val d, ρ) = K (.val d, ρ) := (rfl)
theorem yAxt (K : Sl × Env → R β) : kAx K (.tmp l, ρ) = K (.own l, ρ) := (rfl)
theorem yCons {α : Type} (K : α × Env → R β) (x : α) : kCons s K (x, ρ) = K (x, s :: ρ) := (rfl)
theorem xE_s (K : D × Env → R β) : (slE (s :: ρ) (i + 1)).th K = (slE ρ i).th (kCons s K) := by rw [slE_s, th_assoc]; rfl
theorem xE_v (K : D × Env → R β) : (slE (.val d :: ρ) 0).th K = K (d, .val d :: ρ) := (rfl)
theorem xE_o (K : D × Env → R β) : (slE (.own l :: ρ) 0).th K = K (.lst l, .val (.lst l) :: ρ) := (rfl)
variable (K : (Sk × List D) × Env → R β)
theorem xL_s : (slL (s :: ρ) (i + 1)).th K = (slL ρ i).th (kCons s K) := by rw [slL_s, th_assoc]; rfl
theorem xL_l : (slL (.val (.lst l) :: ρ) 0).th K = K ((.lst, l), .val (.lst l) :: ρ) := (rfl)
theorem xL_t : (slL (.val (.tup l) :: ρ) 0).th K = K ((.tup, l), .val (.tup l) :: ρ) := (rfl)
theorem xL_z (z : Str) : (slL (.val (.str z) :: ρ) 0).th K = K ((.str, sigD z), .val (.str z) :: ρ) := (rfl)
theorem xL_o : (slL (.own l :: ρ) 0).th K = K ((.lst, l), .val (.lst l) :: ρ) := (rfl)
theorem xL_b : (slL (.bor l :: ρ) 0).th K = K ((.lst, l), .bor l :: ρ) := (rfl)
theorem xL_c : (slL (.scr l :: ρ) 0).th K = K ((.lst, l), .scr l :: ρ) := (rfl)
end
section
variable (ρ : Env) (K : Fl → R β) (i : Nat)
theorem xS_pass : (iS cl w .pass ρ).th K = K (.next ρ) := (rfl)
theorem xS_stuck : (iS cl w .stuck ρ).th K = .no := (rfl)
theorem xS_expr (e : E) : (iS cl w (.expr e) ρ).th K = (iR cl e ρ).th (kExpr K) := by rw [iS_expr, th_assoc]; rfl
theorem yExpr (v : Rv) : kExpr K (v, ρ) = K (.next ρ) := (rfl)
theorem oGo_some (l : List D) (x : R β) : oGo (some l) x = x := (rfl)
theorem xS_app (e : E) : (iS cl w (.app i e) ρ).th K = oGo (ownI ρ i) ((escE e (iR cl e) ρ).th (kApp i K)) := by
  rw [iS_app]
  cases ownI ρ i with
  | none => rfl
  | some l =>
    show R.th (R.th (escE e (iR cl e) ρ) _) K = _
    rw [th_assoc]
    rfl
theorem yApp (d : D) : kApp i K (d, ρ) = kApp2 i d ρ K (ownI ρ i) := (rfl)
theorem yApp2 (d : D) (l : List D) : kApp2 i d ρ K (some l) = if l.length < sizeLine then K (.next (ρ.set i (.own (l ++ [d])))) else .no := by
  show R.th (if l.length < sizeLine then _ else _) K = _
  rw [ite_th]
  rfl
theorem xS_ext (e : E) : (iS cl w (.ext i e) ρ).th K = oGo (ownI ρ i) ((iR cl e ρ).th (kExt i K)) := by
  rw [iS_ext]
  cases ownI ρ i with
  | none => rfl
  | some l =>
    show R.th (R.th (iR cl e ρ) _) K = _
    rw [th_assoc]
    rfl
theorem yExt (v : Rv) : kExt i K (v, ρ) = kExt2 i ρ K (ownI ρ i) v.plain? := (rfl)
theorem yExt2 (l n : List D) : kExt2 i ρ K (some l) (some n) = if l.length + n.length ≤ sizeLine then K (.next (ρ.set i (.own (l ++ n)))) else .no := by
  show R.th (if l.length + n.length ≤ sizeLine then _ else _) K = _
  rw [ite_th]
  rfl
theorem xS_clr : (iS cl w (.clr i) ρ).th K = oGo (ownI ρ i) (K (.next (ρ.set i (.own [])))) := by
  rw [iS_clr]
  cases ownI ρ i <;> rfl
theorem xS_ret (e : E) : (iS cl w (.ret e) ρ).th K = (escX e (iR cl e) ρ).th (kRt K) := by rw [iS_ret, th_assoc]; rfl
theorem yRt (r : Rv) : kRt K r = K (.ret r) := (rfl)
theorem xS_retN : (iS cl w .retN ρ).th K = K (.ret (.val .non)) := (rfl)
theorem xS_set (e : E) : (iS cl w (.set i e) ρ).th K = (escA e (iR cl e) ρ).th (kSet i K) := by rw [iS_set, th_assoc]; rfl
theorem ySet (s : Sl) : kSet i K (s, ρ) = K (.next (ρ.set i s)) := (rfl)
theorem xS_setT (tg : Tg) (e : E) : (iS cl w (.setT tg e) ρ).th K = (escE e (iR cl e) ρ).th (kST tg K) := by
  rw [iS_setT, th_assoc]
  refine th_eq _ fun x => ?_
  rw [th_assoc]
  rfl
theorem yST (tg : Tg) (d : D) : kST tg K (d, ρ) = (tg.go d ρ).th (kNx K) := (rfl)
theorem yNx : kNx K ρ = K (.next ρ) := (rfl)
theorem xS_setI (x e : E) : (iS cl w (.setI i x e) ρ).th K = (escE e (iR cl e) ρ).th (kSI cl i x K) := by
  rw [iS_setI, th_assoc]
  refine th_eq _ fun y => ?_
  show R.th (match ownI y.2 i with | none => _ | some _ => _) K = oGo (ownI y.2 i) _
  cases ownI y.2 i with
  | none => rfl
  | some l =>
    show R.th (R.th (iR cl x y.2) _) K = R.th _ _
    rw [th_assoc]
    refine th_eq _ fun z => ?_
    show R.th (match ownI z.2 i, z.1.int? with | some l, some n => _ | _, _ => _) K = kSI3 i y.1 z.2 K (ownI z.2 i) z.1.int?
    cases ownI z.2 i with
    | none => rfl
    | some l => cases z.1.int? <;> rfl
theorem ySI (x : E) (d : D) : kSI cl i x K (d, ρ) = oGo (ownI ρ i) ((iR cl x ρ).th (kSI2 i d K)) := (rfl)
theorem ySI2 (d : D) (v : Rv) : kSI2 i d K (v, ρ) = kSI3 i d ρ K (ownI ρ i) v.int? := (rfl)
theorem ySI3 (d : D) (l : List D) (n : Int) : kSI3 i d ρ K (some l) (some n) = kSI4 i d ρ K l (ixN l.length n) := (rfl)
theorem ySI4 (d : D) (l : List D) (k : Nat) : kSI4 i d ρ K l (some k) = K (.next (ρ.set i (.own (l.set k d)))) := (rfl)
theorem xS_ite (c : T) (a b : Ss) : (iS cl w (.ite c a b) ρ).th K = (iT cl c ρ).th (kIte cl w a b K) := by
  rw [iS_ite, th_assoc]
  refine th_eq _ fun t => ?_
  rw [ite_th]
  rfl
theorem yIte (a b : Ss) (t : Bool) : kIte cl w a b K (t, ρ) = if t = true then (iSs cl w a ρ).th K else (iSs cl w b ρ).th K := (rfl)
theorem xS_for (tg : Tg) (src : I) (b : Ss) : (iS cl w (.for_ tg src b) ρ).th K = (iI cl src ρ).th (kFor cl w tg b K) := by rw [iS_for, th_assoc]; rfl
theorem yFor (tg : Tg) (b : Ss) (l : List D) : kFor cl w tg b K (l, ρ) = (forD cl w tg b l ρ).th K := (rfl)
theorem xS_whl (c : T) (b : Ss) : (iS cl w (.whl c b) ρ).th K = (whD cl w c b w ρ).th K := (rfl)
theorem xSs_nil : (iSs cl w .nil ρ).th K = K (.next ρ) := (rfl)
theorem xSs_cons (s : S) (l : Ss) : (iSs cl w (.cons s l) ρ).th K = (iS cl w s ρ).th (kNext cl w l K) := by rw [iSs_cons, th_assoc]; rfl
theorem yNext (l : Ss) : kNext cl w l K (.next ρ) = (iSs cl w l ρ).th K := (rfl)
theorem yNextr (l : Ss) (r : Rv) : kNext cl w l K (.ret r) = K (.ret r) := (rfl)
theorem xFo_nil (tg : Tg) (b : Ss) : (forD cl w tg b [] ρ).th K = K (.next ρ) := (rfl)
theorem xFo_cons (tg : Tg) (b : Ss) (d : D) (l : List D) : (forD cl w tg b (d :: l) ρ).th K = (tg.go d ρ).th (kFo1 cl w tg b l K) := by
  rw [forD_cons, th_assoc, th_assoc]
  refine th_eq _ fun ρ2 => ?_
  rfl
theorem yFo1 (tg : Tg) (b : Ss) (l : List D) : kFo1 cl w tg b l K ρ = (iSs cl w b ρ).th (kFo2 cl w tg b l K) := (rfl)
theorem yFo2 (tg : Tg) (b : Ss) (l : List D) : kFo2 cl w tg b l K (.next ρ) = (forD cl w tg b l ρ).th K := (rfl)
theorem yFo2r (tg : Tg) (b : Ss) (l : List D) (r : Rv) : kFo2 cl w tg b l K (.ret r) = K (.ret r) := (rfl)
theorem xWh (c : T) (b : Ss) (n : Nat) : (whD cl w c b (n + 1) ρ).th K = (iT cl c ρ).th (kWh1 cl w c b n K) := by
  rw [whD_succ, th_assoc]
  refine th_eq _ fun t => ?_
  rw [ite_th, th_assoc]
  rfl
theorem yWh1 (c : T) (b : Ss) (n : Nat) (t : Bool) : kWh1 cl w c b n K (t, ρ) = if t = true then (iSs cl w b ρ).th (kWh2 cl w c b n K) else K (.next ρ) := (rfl)
theorem yWh2 (c : T) (b : Ss) (n : Nat) : kWh2 cl w c b n K (.next ρ) = (whD cl w c b n ρ).th K := (rfl)
theorem yWh2r (c : T) (b : Ss) (n : Nat) (r : Rv) : kWh2 cl w c b n K (.ret r) = K (.ret r) := (rfl)
end
section
variable (ρ : Env) (K : List D → R β) (e : E) (tg : Tg) (c : F) (l acc : List D) (d : D)
theorem xP_nil : (compD cl e tg c [] ρ acc).th K = K acc := (rfl)
theorem xP_cons : (compD cl e tg c (d :: l) ρ acc).th K = (tg.go d ρ).th (kP1 cl e tg c l acc K) := by
  rw [compD_cons, th_assoc]
  refine th_eq _ fun ρ1 => ?_
  rw [th_assoc]
  refine th_eq _ fun bt => ?_
  rw [ite_th, th_assoc]
  show (if bt.1 = true then _ else _) = (if bt.1 = true then _ else _)
  by_cases h : bt.1 = true
  · rw [if_pos h, if_pos h]
    refine th_eq _ fun x => ?_
    rw [ite_th]
    rfl
  · rw [if_neg h, if_neg h]
theorem yP1 : kP1 cl e tg c l acc K ρ = (iF cl c ρ).th (kP2 cl e tg c l acc K) := (rfl)
theorem yP2 (t : Bool) : kP2 cl e tg c l acc K (t, ρ) = if t = true then (escE e (iR cl e) ρ).th (kP3 cl e tg c l acc K) else (compD cl e tg c l ρ acc).th K := (rfl)
theorem yP3 : kP3 cl e tg c l acc K (d, ρ) = if acc.length < sizeLine then (compD cl e tg c l ρ (acc ++ [d])).th K else .no := (rfl)
end
end
section
variable {β : Type} (r : Env → R (Rv × Env)) (ρ : Env)
theorem eE_bin (K : D × Env → R β) (op : Operator) (a b : E) : (escE (.bin op a b) r ρ).th K = (r ρ).th (kVal K) := by rw [show escE (.bin op a b) r ρ = (r ρ).th valE from rfl, th_assoc]; rfl
theorem eL_bin (K : (Sk × List D) × Env → R β) (op : Operator) (a b : E) : (escL (.bin op a b) r ρ).th K = (r ρ).th (kValL K) := by rw [show escL (.bin op a b) r ρ = (r ρ).th valL from rfl, th_assoc]; rfl
theorem eX_bin (K : Rv → R β) (op : Operator) (a b : E) : (escX (.bin op a b) r ρ).th K = (r ρ).th (kX K) := th_assoc (r ρ) _ _
theorem eA_bin (K : Sl × Env → R β) (op : Operator) (a b : E) : (escA (.bin op a b) r ρ).th K = (r ρ).th (kAx K) := th_assoc (r ρ) _ _
theorem eE_neg (K : D × Env → R β) (a : E) : (escE (.neg a) r ρ).th K = (r ρ).th (kVal K) := by rw [show escE (.neg a) r ρ = (r ρ).th valE from rfl, th_assoc]; rfl
theorem eL_neg (K : (Sk × List D) × Env → R β) (a : E) : (escL (.neg a) r ρ).th K = (r ρ).th (kValL K) := by rw [show escL (.neg a) r ρ = (r ρ).th valL from rfl, th_assoc]; rfl
theorem eX_neg (K : Rv → R β) (a : E) : (escX (.neg a) r ρ).th K = (r ρ).th (kX K) := th_assoc (r ρ) _ _
theorem eA_neg (K : Sl × Env → R β) (a : E) : (escA (.neg a) r ρ).th K = (r ρ).th (kAx K) := th_assoc (r ρ) _ _
theorem eE_not (K : D × Env → R β) (a : E) : (escE (.not a) r ρ).th K = (r ρ).th (kVal K) := by rw [show escE (.not a) r ρ = (r ρ).th valE from rfl, th_assoc]; rfl
theorem eL_not (K : (Sk × List D) × Env → R β) (a : E) : (escL (.not a) r ρ).th K = (r ρ).th (kValL K) := by rw [show escL (.not a) r ρ = (r ρ).th valL from rfl, th_assoc]; rfl
theorem eX_not (K : Rv → R β) (a : E) : (escX (.not a) r ρ).th K = (r ρ).th (kX K) := th_assoc (r ρ) _ _
theorem eA_not (K : Sl × Env → R β) (a : E) : (escA (.not a) r ρ).th K = (r ρ).th (kAx K) := th_assoc (r ρ) _ _
theorem eE_one (K : D × Env → R β) (a : E) : (escE (.one a) r ρ).th K = (r ρ).th (kVal K) := by rw [show escE (.one a) r ρ = (r ρ).th valE from rfl, th_assoc]; rfl
theorem eL_one (K : (Sk × List D) × Env → R β) (a : E) : (escL (.one a) r ρ).th K = (r ρ).th (kValL K) := by rw [show escL (.one a) r ρ = (r ρ).th valL from rfl, th_assoc]; rfl
theorem eX_one (K : Rv → R β) (a : E) : (escX (.one a) r ρ).th K = (r ρ).th (kX K) := th_assoc (r ρ) _ _
theorem eA_one (K : Sl × Env → R β) (a : E) : (escA (.one a) r ρ).th K = (r ρ).th (kAx K) := th_assoc (r ρ) _ _
theorem eE_and (K : D × Env → R β) (a b : E) : (escE (.and a b) r ρ).th K = (r ρ).th (kVal K) := by rw [show escE (.and a b) r ρ = (r ρ).th valE from rfl, th_assoc]; rfl
theorem eL_and (K : (Sk × List D) × Env → R β) (a b : E) : (escL (.and a b) r ρ).th K = (r ρ).th (kValL K) := by rw [show escL (.and a b) r ρ = (r ρ).th valL from rfl, th_assoc]; rfl
theorem eX_and (K : Rv → R β) (a b : E) : (escX (.and a b) r ρ).th K = (r ρ).th (kX K) := th_assoc (r ρ) _ _
theorem eA_and (K : Sl × Env → R β) (a b : E) : (escA (.and a b) r ρ).th K = (r ρ).th (kAx K) := th_assoc (r ρ) _ _
theorem eE_or (K : D × Env → R β) (a b : E) : (escE (.or a b) r ρ).th K = (r ρ).th (kVal K) := by rw [show escE (.or a b) r ρ = (r ρ).th valE from rfl, th_assoc]; rfl
theorem eL_or (K : (Sk × List D) × Env → R β) (a b : E) : (escL (.or a b) r ρ).th K = (r ρ).th (kValL K) := by rw [show escL (.or a b) r ρ = (r ρ).th valL from rfl, th_assoc]; rfl
theorem eX_or (K : Rv → R β) (a b : E) : (escX (.or a b) r ρ).th K = (r ρ).th (kX K) := th_assoc (r ρ) _ _
theorem eA_or (K : Sl × Env → R β) (a b : E) : (escA (.or a b) r ρ).th K = (r ρ).th (kAx K) := th_assoc (r ρ) _ _
theorem eE_cmp (K : D × Env → R β) (op : CmpOp) (a b : E) : (escE (.cmp op a b) r ρ).th K = (r ρ).th (kVal K) := by rw [show escE (.cmp op a b) r ρ = (r ρ).th valE from rfl, th_assoc]; rfl
theorem eL_cmp (K : (Sk × List D) × Env → R β) (op : CmpOp) (a b : E) : (escL (.cmp op a b) r ρ).th K = (r ρ).th (kValL K) := by rw [show escL (.cmp op a b) r ρ = (r ρ).th valL from rfl, th_assoc]; rfl
theorem eX_cmp (K : Rv → R β) (op : CmpOp) (a b : E) : (escX (.cmp op a b) r ρ).th K = (r ρ).th (kX K) := th_assoc (r ρ) _ _
theorem eA_cmp (K : Sl × Env → R β) (op : CmpOp) (a b : E) : (escA (.cmp op a b) r ρ).th K = (r ρ).th (kAx K) := th_assoc (r ρ) _ _
theorem eE_ite (K : D × Env → R β) (c : T) (a b : E) : (escE (.ite c a b) r ρ).th K = (r ρ).th (kVal K) := by rw [show escE (.ite c a b) r ρ = (r ρ).th valE from rfl, th_assoc]; rfl
theorem eL_ite (K : (Sk × List D) × Env → R β) (c : T) (a b : E) : (escL (.ite c a b) r ρ).th K = (r ρ).th (kValL K) := by rw [show escL (.ite c a b) r ρ = (r ρ).th valL from rfl, th_assoc]; rfl
theorem eX_ite (K : Rv → R β) (c : T) (a b : E) : (escX (.ite c a b) r ρ).th K = (r ρ).th (kX K) := th_assoc (r ρ) _ _
theorem eA_ite (K : Sl × Env → R β) (c : T) (a b : E) : (escA (.ite c a b) r ρ).th K = (r ρ).th (kAx K) := th_assoc (r ρ) _ _
theorem eE_idx (K : D × Env → R β) (a b : E) : (escE (.idx a b) r ρ).th K = (r ρ).th (kVal K) := by rw [show escE (.idx a b) r ρ = (r ρ).th valE from rfl, th_assoc]; rfl
theorem eL_idx (K : (Sk × List D) × Env → R β) (a b : E) : (escL (.idx a b) r ρ).th K = (r ρ).th (kValL K) := by rw [show escL (.idx a b) r ρ = (r ρ).th valL from rfl, th_assoc]; rfl
theorem eX_idx (K : Rv → R β) (a b : E) : (escX (.idx a b) r ρ).th K = (r ρ).th (kX K) := th_assoc (r ρ) _ _
theorem eA_idx (K : Sl × Env → R β) (a b : E) : (escA (.idx a b) r ρ).th K = (r ρ).th (kAx K) := th_assoc (r ρ) _ _
theorem eE_sli (K : D × Env → R β) (a : E) (lo hi : O) : (escE (.sli a lo hi) r ρ).th K = (r ρ).th (kVal K) := by rw [show escE (.sli a lo hi) r ρ = (r ρ).th valE from rfl, th_assoc]; rfl
theorem eL_sli (K : (Sk × List D) × Env → R β) (a : E) (lo hi : O) : (escL (.sli a lo hi) r ρ).th K = (r ρ).th (kValL K) := by rw [show escL (.sli a lo hi) r ρ = (r ρ).th valL from rfl, th_assoc]; rfl
theorem eX_sli (K : Rv → R β) (a : E) (lo hi : O) : (escX (.sli a lo hi) r ρ).th K = (r ρ).th (kX K) := th_assoc (r ρ) _ _
theorem eA_sli (K : Sl × Env → R β) (a : E) (lo hi : O) : (escA (.sli a lo hi) r ρ).th K = (r ρ).th (kAx K) := th_assoc (r ρ) _ _
theorem eE_lst (K : D × Env → R β) (l : Es) : (escE (.lst l) r ρ).th K = (r ρ).th (kVal K) := by rw [show escE (.lst l) r ρ = (r ρ).th valE from rfl, th_assoc]; rfl
theorem eL_lst (K : (Sk × List D) × Env → R β) (l : Es) : (escL (.lst l) r ρ).th K = (r ρ).th (kValL K) := by rw [show escL (.lst l) r ρ = (r ρ).th valL from rfl, th_assoc]; rfl
theorem eX_lst (K : Rv → R β) (l : Es) : (escX (.lst l) r ρ).th K = (r ρ).th (kX K) := th_assoc (r ρ) _ _
theorem eA_lst (K : Sl × Env → R β) (l : Es) : (escA (.lst l) r ρ).th K = (r ρ).th (kAx K) := th_assoc (r ρ) _ _
theorem eE_tup (K : D × Env → R β) (l : Es) : (escE (.tup l) r ρ).th K = (r ρ).th (kVal K) := by rw [show escE (.tup l) r ρ = (r ρ).th valE from rfl, th_assoc]; rfl
theorem eL_tup (K : (Sk × List D) × Env → R β) (l : Es) : (escL (.tup l) r ρ).th K = (r ρ).th (kValL K) := by rw [show escL (.tup l) r ρ = (r ρ).th valL from rfl, th_assoc]; rfl
theorem eX_tup (K : Rv → R β) (l : Es) : (escX (.tup l) r ρ).th K = (r ρ).th (kX K) := th_assoc (r ρ) _ _
theorem eA_tup (K : Sl × Env → R β) (l : Es) : (escA (.tup l) r ρ).th K = (r ρ).th (kAx K) := th_assoc (r ρ) _ _
theorem eE_call (K : D × Env → R β) (f : Str) (l : Es) : (escE (.call f l) r ρ).th K = (r ρ).th (kVal K) := by rw [show escE (.call f l) r ρ = (r ρ).th valE from rfl, th_assoc]; rfl
theorem eL_call (K : (Sk × List D) × Env → R β) (f : Str) (l : Es) : (escL (.call f l) r ρ).th K = (r ρ).th (kValL K) := by rw [show escL (.call f l) r ρ = (r ρ).th valL from rfl, th_assoc]; rfl
theorem eX_call (K : Rv → R β) (f : Str) (l : Es) : (escX (.call f l) r ρ).th K = (r ρ).th (kX K) := th_assoc (r ρ) _ _
theorem eA_call (K : Sl × Env → R β) (f : Str) (l : Es) : (escA (.call f l) r ρ).th K = (r ρ).th (kAx K) := th_assoc (r ρ) _ _
theorem eE_b1 (K : D × Env → R β) (f : B1) (a : E) : (escE (.b1 f a) r ρ).th K = (r ρ).th (kVal K) := by rw [show escE (.b1 f a) r ρ = (r ρ).th valE from rfl, th_assoc]; rfl
theorem eL_b1 (K : (Sk × List D) × Env → R β) (f : B1) (a : E) : (escL (.b1 f a) r ρ).th K = (r ρ).th (kValL K) := by rw [show escL (.b1 f a) r ρ = (r ρ).th valL from rfl, th_assoc]; rfl
theorem eX_b1 (K : Rv → R β) (f : B1) (a : E) : (escX (.b1 f a) r ρ).th K = (r ρ).th (kX K) := th_assoc (r ρ) _ _
theorem eA_b1 (K : Sl × Env → R β) (f : B1) (a : E) : (escA (.b1 f a) r ρ).th K = (r ρ).th (kAx K) := th_assoc (r ρ) _ _
theorem eE_b2 (K : D × Env → R β) (f : B2) (a b : E) : (escE (.b2 f a b) r ρ).th K = (r ρ).th (kVal K) := by rw [show escE (.b2 f a b) r ρ = (r ρ).th valE from rfl, th_assoc]; rfl
theorem eL_b2 (K : (Sk × List D) × Env → R β) (f : B2) (a b : E) : (escL (.b2 f a b) r ρ).th K = (r ρ).th (kValL K) := by rw [show escL (.b2 f a b) r ρ = (r ρ).th valL from rfl, th_assoc]; rfl
theorem eX_b2 (K : Rv → R β) (f : B2) (a b : E) : (escX (.b2 f a b) r ρ).th K = (r ρ).th (kX K) := th_assoc (r ρ) _ _
theorem eA_b2 (K : Sl × Env → R β) (f : B2) (a b : E) : (escA (.b2 f a b) r ρ).th K = (r ρ).th (kAx K) := th_assoc (r ρ) _ _
theorem eE_isi (K : D × Env → R β) (t : Ty) (a : E) : (escE (.isi t a) r ρ).th K = (r ρ).th (kVal K) := by rw [show escE (.isi t a) r ρ = (r ρ).th valE from rfl, th_assoc]; rfl
theorem eL_isi (K : (Sk × List D) × Env → R β) (t : Ty) (a : E) : (escL (.isi t a) r ρ).th K = (r ρ).th (kValL K) := by rw [show escL (.isi t a) r ρ = (r ρ).th valL from rfl, th_assoc]; rfl
theorem eX_isi (K : Rv → R β) (t : Ty) (a : E) : (escX (.isi t a) r ρ).th K = (r ρ).th (kX K) := th_assoc (r ρ) _ _
theorem eA_isi (K : Sl × Env → R β) (t : Ty) (a : E) : (escA (.isi t a) r ρ).th K = (r ρ).th (kAx K) := th_assoc (r ρ) _ _
theorem eE_comp (K : D × Env → R β) (e : E) (src : I) (tg : Tg) (c : F) (n : Nat) (fr : List Nat) : (escE (.comp e src tg c n fr) r ρ).th K = (r ρ).th (kVal K) := by rw [show escE (.comp e src tg c n fr) r ρ = (r ρ).th valE from rfl, th_assoc]; rfl
theorem eL_comp (K : (Sk × List D) × Env → R β) (e : E) (src : I) (tg : Tg) (c : F) (n : Nat) (fr : List Nat) : (escL (.comp e src tg c n fr) r ρ).th K = (r ρ).th (kValL K) := by rw [show escL (.comp e src tg c n fr) r ρ = (r ρ).th valL from rfl, th_assoc]; rfl
theorem eX_comp (K : Rv → R β) (e : E) (src : I) (tg : Tg) (c : F) (n : Nat) (fr : List Nat) : (escX (.comp e src tg c n fr) r ρ).th K = (r ρ).th (kX K) := th_assoc (r ρ) _ _
theorem eA_comp (K : Sl × Env → R β) (e : E) (src : I) (tg : Tg) (c : F) (n : Nat) (fr : List Nat) : (escA (.comp e src tg c n fr) r ρ).th K = (r ρ).th (kAx K) := th_assoc (r ρ) _ _
theorem eE_var (K : D × Env → R β) (i : Nat) : (escE (.var i) r ρ).th K = (slE ρ i).th K := (rfl)
theorem eE_con (K : D × Env → R β) (d : D) : (escE (.con d) r ρ).th K = K (d, ρ) := (rfl)
theorem eL_var (K : (Sk × List D) × Env → R β) (i : Nat) : (escL (.var i) r ρ).th K = (slL ρ i).th K := (rfl)
theorem eL_con (K : (Sk × List D) × Env → R β) (d : D) : (escL (.con d) r ρ).th K = (r ρ).th (kValL K) := by rw [show escL (.con d) r ρ = (r ρ).th valL from rfl, th_assoc]; rfl
theorem eX_var (K : Rv → R β) (i : Nat) : (escX (.var i) r ρ).th K = (slX ρ i).th K := (rfl)
theorem eX_con (K : Rv → R β) (d : D) : (escX (.con d) r ρ).th K = K (.val d) := (rfl)
theorem eA_var (K : Sl × Env → R β) (i : Nat) : (escA (.var i) r ρ).th K = (slE ρ i).th (kAv K) := th_assoc (slE ρ i) _ _
theorem eA_con (K : Sl × Env → R β) (d : D) : (escA (.con d) r ρ).th K = K (.val d, ρ) := (rfl)
end
theorem bAdd (a b : Int) : binD .Add (.val (.int a)) (.val (.int b)) = .ok (.val (.int (a + b))) := (rfl)
theorem bAdds (a b : Str) : binD .Add (.val (.str a)) (.val (.str b)) = if a.length + b.length ≤ sizeLine then .ok (.val (.str (a ++ b))) else .no := (rfl)
theorem bAddtt (a b : List D) : binD .Add (.tmp a) (.tmp b) = if a.length + b.length ≤ sizeLine then .ok (.tmp (a ++ b)) else .no := (rfl)
theorem bAddtc (a b : List D) : binD .Add (.tmp a) (.cell b) = if a.length + b.length ≤ sizeLine then .ok (.tmp (a ++ b)) else .no := (rfl)
theorem bAddtv (a b : List D) : binD .Add (.tmp a) (.val (.lst b)) = if a.length + b.length ≤ sizeLine then .ok (.tmp (a ++ b)) else .no := (rfl)
theorem bAddct (a b : List D) : binD .Add (.cell a) (.tmp b) = if a.length + b.length ≤ sizeLine then .ok (.tmp (a ++ b)) else .no := (rfl)
theorem bAddcc (a b : List D) : binD .Add (.cell a) (.cell b) = if a.length + b.length ≤ sizeLine then .ok (.tmp (a ++ b)) else .no := (rfl)
theorem bAddcv (a b : List D) : binD .Add (.cell a) (.val (.lst b)) = if a.length + b.length ≤ sizeLine then .ok (.tmp (a ++ b)) else .no := (rfl)
theorem bAddvt (a b : List D) : binD .Add (.val (.lst a)) (.tmp b) = if a.length + b.length ≤ sizeLine then .ok (.tmp (a ++ b)) else .no := (rfl)
theorem bAddvc (a b : List D) : binD .Add (.val (.lst a)) (.cell b) = if a.length + b.length ≤ sizeLine then .ok (.tmp (a ++ b)) else .no := (rfl)
theorem bAddvv (a b : List D) : binD .Add (.val (.lst a)) (.val (.lst b)) = if a.length + b.length ≤ sizeLine then .ok (.tmp (a ++ b)) else .no := (rfl)
theorem bSub (a b : Int) : binD .Sub (.val (.int a)) (.val (.int b)) = .ok (.val (.int (a - b))) := (rfl)
theorem bMult (a b : Int) : binD .Mult (.val (.int a)) (.val (.int b)) = if mulB a b = true then .ok (.val (.int (a * b))) else .no := (rfl)
theorem bDiv (a b : Int) : binD .FloorDiv (.val (.int a)) (.val (.int b)) = if 0 < b ∧ b < 1073741824 then .ok (.val (.int (a / b))) else .no := (rfl)
theorem bMod (a b : Int) : binD .Mod (.val (.int a)) (.val (.int b)) = if 0 < b then .ok (.val (.int (a % b))) else .no := (rfl)
theorem bPow (a b : Int) : binD .Pow (.val (.int a)) (.val (.int b)) = if 0 ≤ b ∧ b ≤ 1000000 ∧ a.natAbs < 2 ^ 64 then .ok (.val (.int (a ^ b.toNat))) else .no := (rfl)
theorem cEq (x y : Rv) : cmpD .Eq x y = eqD x.data y.data := (rfl)
theorem cNe (x y : Rv) : cmpD .NotEq x y = (eqD x.data y.data).map (!·) := (rfl)
theorem cLt (a b : Int) : cmpD .Lt (.val (.int a)) (.val (.int b)) = some (decide (a < b)) := (rfl)
theorem cLe (a b : Int) : cmpD .LtE (.val (.int a)) (.val (.int b)) = some (decide (a ≤ b)) := (rfl)
theorem cGt (a b : Int) : cmpD .Gt (.val (.int a)) (.val (.int b)) = some (decide (b < a)) := (rfl)
theorem cGe (a b : Int) : cmpD .GtE (.val (.int a)) (.val (.int b)) = some (decide (b ≤ a)) := (rfl)
theorem cIs (x : Rv) : cmpD .Is x (.val .non) = some x.non? := (rfl)
theorem cIsN (x : Rv) : cmpD .IsNot x (.val .non) = some (!x.non?) := (rfl)
theorem cIn (x y : Rv) : cmpD .In x y = memD x y := (rfl)
theorem cNi (x y : Rv) : cmpD .NotIn x y = (memD x y).map (!·) := (rfl)
theorem mIn (a b : Str) : memD (.val (.str a)) (.val (.str b)) = some (occB a b) := (rfl)
theorem rgoV (i : Nat) (d : D) (ρ : Env) : Tg.go (.one i) d ρ = .ok (ρ.set i (.val d)) := (rfl)
theorem rgoT (l : List Nat) (ds : List D) (ρ : Env) : Tg.go (.many l) (.tup ds) ρ = setIs l ds ρ := (rfl)
theorem setIs_nil (ρ : Env) : setIs [] [] ρ = .ok ρ := (rfl)
theorem setIs_cons (i : Nat) (l : List Nat) (d : D) (ds : List D) (ρ : Env) : setIs (i :: l) (d :: ds) ρ = setIs l ds (ρ.set i (.val d)) := (rfl)
def sgn : Option Nat → R Rv
  | some c => .ok (.val (.str ⟨#[c]⟩))
  | none => .no
theorem sgn_some (c : Nat) : sgn (some c) = .ok (.val (.str ⟨#[c]⟩)) := (rfl)
theorem ixS (z : Str) (i : Int) : idxD (.val (.str z)) (.val (.int i)) = if z.length ≤ sizeLine then sgn (atI z.cps.toList i) else .no := (rfl)
end DE
set_option maxHeartbeats 4000000
namespace K53
open PySem L2 DE
def top (i : Nat) : Stmt := PySem.Challenge.pw_daysgate_k53_stays_of_a_plan.main.body.getD i (.Pass ⟨0, 0, 0, 0⟩)
def pg : Pg := ⟨[("is_whole", top 4), ("is_between", top 5), ("are_days", top 6), ("is_made_of", top 7), ("is_name", top 8), ("is_stay", top 14), ("stays_of", top 15), ("stays_by", top 17), ("_law_cell_at", top 19), ("_law_lands", top 20), ("_law_lands_of", top 21), ("_law_runs", top 22), ("law", top 23)], fun x => if x = "GREATEST" then some (.int 1000000000) else if x = "LETTERS" then some (.str "abcdefghijklmnopqrstuvwxyz") else if x = "LONGEST_NAME" then some (.int 8) else if x = "MOST_STAYS" then some (.int 60) else none, 40, 1000⟩
def c_is_whole : Nat × Nat × Ss := (1, 1, (Ss.cons (S.ret (E.and (E.isi Ty.int (E.var 0)) (E.one (E.not (E.isi Ty.bool (E.var 0)))))) Ss.nil))
theorem r_is_whole (k : Nat) (args : List Ar) : clK pg (k + 1) "is_whole" args = runD (clK pg k) 1000 c_is_whole args := run_of (pg := pg) (st := top 4) (by kernel_rfl) (fun cl => by kernel_rfl) k args
def c_is_between : Nat × Nat × Ss := (3, 3, (Ss.cons (S.ret (E.and (E.call "is_whole" (Es.cons (E.var 0) Es.nil)) (E.and (E.cmp CmpOp.LtE (E.var 1) (E.var 0)) (E.one (E.cmp CmpOp.LtE (E.var 0) (E.var 2)))))) Ss.nil))
theorem r_is_between (k : Nat) (args : List Ar) : clK pg (k + 1) "is_between" args = runD (clK pg k) 1000 c_is_between args := run_of (pg := pg) (st := top 5) (by kernel_rfl) (fun cl => by kernel_rfl) k args
def c_are_days : Nat × Nat × Ss := (2, 2, (Ss.cons (S.ret (E.and (E.call "is_between" (Es.cons (E.var 0) (Es.cons (E.con (D.int 0)) (Es.cons (E.con (D.int 1000000000)) Es.nil)))) (E.and (E.call "is_between" (Es.cons (E.var 1) (Es.cons (E.con (D.int 0)) (Es.cons (E.con (D.int 1000000000)) Es.nil)))) (E.one (E.cmp CmpOp.LtE (E.var 0) (E.var 1)))))) Ss.nil))
theorem r_are_days (k : Nat) (args : List Ar) : clK pg (k + 1) "are_days" args = runD (clK pg k) 1000 c_are_days args := run_of (pg := pg) (st := top 6) (by kernel_rfl) (fun cl => by kernel_rfl) k args
def b_is_made_of_0 : Ss := (Ss.cons (S.ite (T.cmp CmpOp.NotIn (E.var 2) (E.var 1)) (Ss.cons (S.ret (E.con (D.bl false))) Ss.nil) Ss.nil) Ss.nil)
theorem u_b_is_made_of_0 {β : Type} (cl : Str → List Ar → R Rv) (w : Nat) (ρ : DE.Env) (K : Fl → R β) : (iSs cl w b_is_made_of_0 ρ).th K = (iSs cl w (Ss.cons (S.ite (T.cmp CmpOp.NotIn (E.var 2) (E.var 1)) (Ss.cons (S.ret (E.con (D.bl false))) Ss.nil) Ss.nil) Ss.nil) ρ).th K := (rfl)
def c_is_made_of : Nat × Nat × Ss := (2, 3, (Ss.cons (S.for_ (Tg.one 2) (I.seq (E.var 0)) b_is_made_of_0) (Ss.cons (S.ret (E.con (D.bl true))) Ss.nil)))
theorem r_is_made_of (k : Nat) (args : List Ar) : clK pg (k + 1) "is_made_of" args = runD (clK pg k) 1000 c_is_made_of args := run_of (pg := pg) (st := top 7) (by kernel_rfl) (fun cl => by kernel_rfl) k args
def c_is_name : Nat × Nat × Ss := (1, 1, (Ss.cons (S.ite (T.not (T.val (E.isi Ty.str (E.var 0)))) (Ss.cons (S.ret (E.con (D.bl false))) Ss.nil) Ss.nil) (Ss.cons (S.ret (E.and (E.cmp CmpOp.LtE (E.con (D.int 1)) (E.b1 B1.len (E.var 0))) (E.and (E.cmp CmpOp.LtE (E.b1 B1.len (E.var 0)) (E.con (D.int 8))) (E.one (E.call "is_made_of" (Es.cons (E.var 0) (Es.cons (E.con (D.str "abcdefghijklmnopqrstuvwxyz")) Es.nil))))))) Ss.nil)))
theorem r_is_name (k : Nat) (args : List Ar) : clK pg (k + 1) "is_name" args = runD (clK pg k) 1000 c_is_name args := run_of (pg := pg) (st := top 8) (by kernel_rfl) (fun cl => by kernel_rfl) k args
def c_is_stay : Nat × Nat × Ss := (1, 1, (Ss.cons (S.ite (T.or (T.not (T.val (E.isi Ty.tuple (E.var 0)))) (T.one (T.cmp CmpOp.NotEq (E.b1 B1.len (E.var 0)) (E.con (D.int 3))))) (Ss.cons (S.ret (E.con (D.bl false))) Ss.nil) Ss.nil) (Ss.cons (S.ret (E.and (E.call "is_name" (Es.cons (E.idx (E.var 0) (E.con (D.int 0))) Es.nil)) (E.one (E.call "are_days" (Es.cons (E.idx (E.var 0) (E.con (D.int 1))) (Es.cons (E.idx (E.var 0) (E.con (D.int 2))) Es.nil)))))) Ss.nil)))
theorem r_is_stay (k : Nat) (args : List Ar) : clK pg (k + 1) "is_stay" args = runD (clK pg k) 1000 c_is_stay args := run_of (pg := pg) (st := top 14) (by kernel_rfl) (fun cl => by kernel_rfl) k args
def b_stays_of_0 : Ss := (Ss.cons (S.ite (T.or (T.not (T.val (E.call "is_stay" (Es.cons (E.var 3) Es.nil)))) (T.one (T.cmp CmpOp.LtE (E.idx (E.var 3) (E.con (D.int 1))) (E.var 1)))) (Ss.cons S.stuck Ss.nil) Ss.nil) (Ss.cons (S.set 1 (E.idx (E.var 3) (E.con (D.int 2)))) Ss.nil))
theorem u_b_stays_of_0 {β : Type} (cl : Str → List Ar → R Rv) (w : Nat) (ρ : DE.Env) (K : Fl → R β) : (iSs cl w b_stays_of_0 ρ).th K = (iSs cl w (Ss.cons (S.ite (T.or (T.not (T.val (E.call "is_stay" (Es.cons (E.var 3) Es.nil)))) (T.one (T.cmp CmpOp.LtE (E.idx (E.var 3) (E.con (D.int 1))) (E.var 1)))) (Ss.cons S.stuck Ss.nil) Ss.nil) (Ss.cons (S.set 1 (E.idx (E.var 3) (E.con (D.int 2)))) Ss.nil)) ρ).th K := (rfl)
def c_stays_of : Nat × Nat × Ss := (1, 4, (Ss.cons (S.ite (T.not (T.val (E.isi Ty.list (E.var 0)))) (Ss.cons S.stuck Ss.nil) Ss.nil) (Ss.cons (S.set 1 (E.neg (E.con (D.int 1)))) (Ss.cons (S.for_ (Tg.many [2, 3]) (I.enum (E.var 0)) b_stays_of_0) (Ss.cons (S.ite (T.cmp CmpOp.Gt (E.b1 B1.len (E.var 0)) (E.con (D.int 60))) (Ss.cons S.stuck Ss.nil) Ss.nil) (Ss.cons (S.ret (E.b1 B1.list (E.var 0))) Ss.nil))))))
theorem r_stays_of (k : Nat) (args : List Ar) : clK pg (k + 1) "stays_of" args = runD (clK pg k) 1000 c_stays_of args := run_of (pg := pg) (st := top 15) (by kernel_rfl) (fun cl => by kernel_rfl) k args
def b_stays_by_0 : Ss := (Ss.cons (S.ite (T.and (T.val (E.var 2)) (T.and (T.cmp CmpOp.Eq (E.idx (E.idx (E.var 2) (E.neg (E.con (D.int 1)))) (E.con (D.int 0))) (E.var 4)) (T.one (T.cmp CmpOp.Eq (E.idx (E.idx (E.var 2) (E.neg (E.con (D.int 1)))) (E.con (D.int 2))) (E.bin Operator.Sub (E.var 3) (E.con (D.int 1))))))) (Ss.cons (S.setI 2 (E.neg (E.con (D.int 1))) (E.tup (Es.cons (E.var 4) (Es.cons (E.idx (E.idx (E.var 2) (E.neg (E.con (D.int 1)))) (E.con (D.int 1))) (Es.cons (E.var 3) Es.nil))))) Ss.nil) (Ss.cons (S.ite (T.cmp CmpOp.IsNot (E.var 4) (E.con D.non)) (Ss.cons (S.app 2 (E.tup (Es.cons (E.var 4) (Es.cons (E.var 3) (Es.cons (E.var 3) Es.nil))))) Ss.nil) Ss.nil) Ss.nil)) Ss.nil)
theorem u_b_stays_by_0 {β : Type} (cl : Str → List Ar → R Rv) (w : Nat) (ρ : DE.Env) (K : Fl → R β) : (iSs cl w b_stays_by_0 ρ).th K = (iSs cl w (Ss.cons (S.ite (T.and (T.val (E.var 2)) (T.and (T.cmp CmpOp.Eq (E.idx (E.idx (E.var 2) (E.neg (E.con (D.int 1)))) (E.con (D.int 0))) (E.var 4)) (T.one (T.cmp CmpOp.Eq (E.idx (E.idx (E.var 2) (E.neg (E.con (D.int 1)))) (E.con (D.int 2))) (E.bin Operator.Sub (E.var 3) (E.con (D.int 1))))))) (Ss.cons (S.setI 2 (E.neg (E.con (D.int 1))) (E.tup (Es.cons (E.var 4) (Es.cons (E.idx (E.idx (E.var 2) (E.neg (E.con (D.int 1)))) (E.con (D.int 1))) (Es.cons (E.var 3) Es.nil))))) Ss.nil) (Ss.cons (S.ite (T.cmp CmpOp.IsNot (E.var 4) (E.con D.non)) (Ss.cons (S.app 2 (E.tup (Es.cons (E.var 4) (Es.cons (E.var 3) (Es.cons (E.var 3) Es.nil))))) Ss.nil) Ss.nil) Ss.nil)) Ss.nil) ρ).th K := (rfl)
def c_stays_by : Nat × Nat × Ss := (2, 6, (Ss.cons (S.set 2 (E.lst Es.nil)) (Ss.cons (S.for_ (Tg.many [3, 4, 5]) (I.seq (E.var 1)) b_stays_by_0) (Ss.cons (S.ret (E.bin Operator.Add (E.call "stays_of" (Es.cons (E.var 0) Es.nil)) (E.var 2))) Ss.nil))))
theorem r_stays_by (k : Nat) (args : List Ar) : clK pg (k + 1) "stays_by" args = runD (clK pg k) 1000 c_stays_by args := run_of (pg := pg) (st := top 17) (by kernel_rfl) (fun cl => by kernel_rfl) k args
def c__law_cell_at : Nat × Nat × Ss := (2, 2, (Ss.cons (S.ite (T.cmp CmpOp.Lt (E.var 1) (E.b1 B1.len (E.var 0))) (Ss.cons (S.ret (E.idx (E.var 0) (E.var 1))) Ss.nil) Ss.nil) (Ss.cons (S.ret (E.con (D.int 0))) Ss.nil)))
theorem r__law_cell_at (k : Nat) (args : List Ar) : clK pg (k + 1) "_law_cell_at" args = runD (clK pg k) 1000 c__law_cell_at args := run_of (pg := pg) (st := top 19) (by kernel_rfl) (fun cl => by kernel_rfl) k args
def b__law_lands_0 : Ss := (Ss.cons (S.set 9 (E.bin Operator.Add (E.bin Operator.Add (E.bin Operator.FloorDiv (E.var 0) (E.con (D.int 64))) (E.bin Operator.Mult (E.bin Operator.Mult (E.con (D.int 5)) (E.var 8)) (E.var 8))) (E.bin Operator.Mult (E.bin Operator.Mult (E.con (D.int 3)) (E.var 6)) (E.b1 B1.int (E.cmp CmpOp.Eq (E.var 8) (E.var 4)))))) (Ss.cons (S.set 7 (E.bin Operator.Add (E.var 7) (E.idx (E.var 2) (E.bin Operator.Mod (E.var 9) (E.con (D.int 26)))))) Ss.nil))
theorem u_b__law_lands_0 {β : Type} (cl : Str → List Ar → R Rv) (w : Nat) (ρ : DE.Env) (K : Fl → R β) : (iSs cl w b__law_lands_0 ρ).th K = (iSs cl w (Ss.cons (S.set 9 (E.bin Operator.Add (E.bin Operator.Add (E.bin Operator.FloorDiv (E.var 0) (E.con (D.int 64))) (E.bin Operator.Mult (E.bin Operator.Mult (E.con (D.int 5)) (E.var 8)) (E.var 8))) (E.bin Operator.Mult (E.bin Operator.Mult (E.con (D.int 3)) (E.var 6)) (E.b1 B1.int (E.cmp CmpOp.Eq (E.var 8) (E.var 4)))))) (Ss.cons (S.set 7 (E.bin Operator.Add (E.var 7) (E.idx (E.var 2) (E.bin Operator.Mod (E.var 9) (E.con (D.int 26)))))) Ss.nil)) ρ).th K := (rfl)
def b__law_lands_1 : Ss := (Ss.cons (S.set 7 (E.con (D.str ""))) (Ss.cons (S.for_ (Tg.one 8) (I.rng (E.var 3)) b__law_lands_0) (Ss.cons (S.app 5 (E.var 7)) Ss.nil)))
theorem u_b__law_lands_1 {β : Type} (cl : Str → List Ar → R Rv) (w : Nat) (ρ : DE.Env) (K : Fl → R β) : (iSs cl w b__law_lands_1 ρ).th K = (iSs cl w (Ss.cons (S.set 7 (E.con (D.str ""))) (Ss.cons (S.for_ (Tg.one 8) (I.rng (E.var 3)) b__law_lands_0) (Ss.cons (S.app 5 (E.var 7)) Ss.nil))) ρ).th K := (rfl)
def c__law_lands : Nat × Nat × Ss := (2, 10, (Ss.cons (S.set 2 (E.con (D.str "abcdefghijklmnopqrstuvwxyz"))) (Ss.cons (S.set 3 (E.bin Operator.Add (E.con (D.int 1)) (E.bin Operator.Mod (E.var 0) (E.con (D.int 8))))) (Ss.cons (S.set 4 (E.bin Operator.Mod (E.bin Operator.FloorDiv (E.var 0) (E.con (D.int 8))) (E.var 3))) (Ss.cons (S.set 5 (E.lst Es.nil)) (Ss.cons (S.for_ (Tg.one 6) (I.rng (E.var 1)) b__law_lands_1) (Ss.cons (S.ret (E.var 5)) Ss.nil)))))))
theorem r__law_lands (k : Nat) (args : List Ar) : clK pg (k + 1) "_law_lands" args = runD (clK pg k) 1000 c__law_lands args := run_of (pg := pg) (st := top 20) (by kernel_rfl) (fun cl => by kernel_rfl) k args
def b__law_lands_of_0 : Ss := (Ss.cons (S.set 4 (E.bin Operator.Mod (E.bin Operator.Mult (E.var 3) (E.con (D.int 1099087573))) (E.con (D.int 10000000000037)))) (Ss.cons (S.ite (T.and (T.cmp CmpOp.Eq (E.bin Operator.Mod (E.var 4) (E.con (D.int 2))) (E.con (D.int 0))) (T.one (T.cmp CmpOp.NotEq (E.var 2) (E.lst Es.nil)))) (Ss.cons (S.app 2 (E.idx (E.var 2) (E.bin Operator.Sub (E.b1 B1.len (E.var 2)) (E.con (D.int 1))))) Ss.nil) (Ss.cons (S.app 2 (E.idx (E.bin Operator.Add (E.var 1) (E.lst (Es.cons (E.con D.non) Es.nil))) (E.bin Operator.Mod (E.bin Operator.FloorDiv (E.var 4) (E.con (D.int 2))) (E.bin Operator.Add (E.b1 B1.len (E.var 1)) (E.con (D.int 1)))))) Ss.nil)) Ss.nil))
theorem u_b__law_lands_of_0 {β : Type} (cl : Str → List Ar → R Rv) (w : Nat) (ρ : DE.Env) (K : Fl → R β) : (iSs cl w b__law_lands_of_0 ρ).th K = (iSs cl w (Ss.cons (S.set 4 (E.bin Operator.Mod (E.bin Operator.Mult (E.var 3) (E.con (D.int 1099087573))) (E.con (D.int 10000000000037)))) (Ss.cons (S.ite (T.and (T.cmp CmpOp.Eq (E.bin Operator.Mod (E.var 4) (E.con (D.int 2))) (E.con (D.int 0))) (T.one (T.cmp CmpOp.NotEq (E.var 2) (E.lst Es.nil)))) (Ss.cons (S.app 2 (E.idx (E.var 2) (E.bin Operator.Sub (E.b1 B1.len (E.var 2)) (E.con (D.int 1))))) Ss.nil) (Ss.cons (S.app 2 (E.idx (E.bin Operator.Add (E.var 1) (E.lst (Es.cons (E.con D.non) Es.nil))) (E.bin Operator.Mod (E.bin Operator.FloorDiv (E.var 4) (E.con (D.int 2))) (E.bin Operator.Add (E.b1 B1.len (E.var 1)) (E.con (D.int 1)))))) Ss.nil)) Ss.nil)) ρ).th K := (rfl)
def c__law_lands_of : Nat × Nat × Ss := (2, 5, (Ss.cons (S.set 2 (E.lst Es.nil)) (Ss.cons (S.for_ (Tg.one 3) (I.seq (E.var 0)) b__law_lands_of_0) (Ss.cons (S.ret (E.var 2)) Ss.nil))))
theorem r__law_lands_of (k : Nat) (args : List Ar) : clK pg (k + 1) "_law_lands_of" args = runD (clK pg k) 1000 c__law_lands_of args := run_of (pg := pg) (st := top 21) (by kernel_rfl) (fun cl => by kernel_rfl) k args
def t__law_runs_0 : T := (T.and (T.cmp CmpOp.Lt (E.var 4) (E.b1 B1.len (E.var 0))) (T.one (T.cmp CmpOp.Eq (E.idx (E.var 0) (E.var 4)) (E.idx (E.var 0) (E.var 3)))))
theorem u_t__law_runs_0 {β : Type} (cl : Str → List Ar → R Rv) (ρ : DE.Env) (K : Bool × DE.Env → R β) : (iT cl t__law_runs_0 ρ).th K = (iT cl (T.and (T.cmp CmpOp.Lt (E.var 4) (E.b1 B1.len (E.var 0))) (T.one (T.cmp CmpOp.Eq (E.idx (E.var 0) (E.var 4)) (E.idx (E.var 0) (E.var 3))))) ρ).th K := (rfl)
def b__law_runs_0 : Ss := (Ss.cons (S.set 4 (E.bin Operator.Add (E.var 4) (E.con (D.int 1)))) Ss.nil)
theorem u_b__law_runs_0 {β : Type} (cl : Str → List Ar → R Rv) (w : Nat) (ρ : DE.Env) (K : Fl → R β) : (iSs cl w b__law_runs_0 ρ).th K = (iSs cl w (Ss.cons (S.set 4 (E.bin Operator.Add (E.var 4) (E.con (D.int 1)))) Ss.nil) ρ).th K := (rfl)
def t__law_runs_1 : T := (T.cmp CmpOp.Lt (E.var 3) (E.b1 B1.len (E.var 0)))
theorem u_t__law_runs_1 {β : Type} (cl : Str → List Ar → R Rv) (ρ : DE.Env) (K : Bool × DE.Env → R β) : (iT cl t__law_runs_1 ρ).th K = (iT cl (T.cmp CmpOp.Lt (E.var 3) (E.b1 B1.len (E.var 0))) ρ).th K := (rfl)
def b__law_runs_1 : Ss := (Ss.cons (S.set 4 (E.var 3)) (Ss.cons (S.whl t__law_runs_0 b__law_runs_0) (Ss.cons (S.ite (T.cmp CmpOp.IsNot (E.idx (E.var 0) (E.var 3)) (E.con D.non)) (Ss.cons (S.app 2 (E.tup (Es.cons (E.idx (E.var 0) (E.var 3)) (Es.cons (E.bin Operator.Add (E.var 1) (E.var 3)) (Es.cons (E.bin Operator.Sub (E.bin Operator.Add (E.var 1) (E.var 4)) (E.con (D.int 1))) Es.nil))))) Ss.nil) Ss.nil) (Ss.cons (S.set 3 (E.var 4)) Ss.nil))))
theorem u_b__law_runs_1 {β : Type} (cl : Str → List Ar → R Rv) (w : Nat) (ρ : DE.Env) (K : Fl → R β) : (iSs cl w b__law_runs_1 ρ).th K = (iSs cl w (Ss.cons (S.set 4 (E.var 3)) (Ss.cons (S.whl t__law_runs_0 b__law_runs_0) (Ss.cons (S.ite (T.cmp CmpOp.IsNot (E.idx (E.var 0) (E.var 3)) (E.con D.non)) (Ss.cons (S.app 2 (E.tup (Es.cons (E.idx (E.var 0) (E.var 3)) (Es.cons (E.bin Operator.Add (E.var 1) (E.var 3)) (Es.cons (E.bin Operator.Sub (E.bin Operator.Add (E.var 1) (E.var 4)) (E.con (D.int 1))) Es.nil))))) Ss.nil) Ss.nil) (Ss.cons (S.set 3 (E.var 4)) Ss.nil)))) ρ).th K := (rfl)
def c__law_runs : Nat × Nat × Ss := (2, 5, (Ss.cons (S.set 2 (E.lst Es.nil)) (Ss.cons (S.set 3 (E.con (D.int 0))) (Ss.cons (S.whl t__law_runs_1 b__law_runs_1) (Ss.cons (S.ret (E.var 2)) Ss.nil)))))
theorem r__law_runs (k : Nat) (args : List Ar) : clK pg (k + 1) "_law_runs" args = runD (clK pg k) 1000 c__law_runs args := run_of (pg := pg) (st := top 22) (by kernel_rfl) (fun cl => by kernel_rfl) k args
def b_law_0 : Ss := (Ss.cons (S.set 5 (E.bin Operator.Mod (E.bin Operator.Mult (E.var 4) (E.con (D.int 1099087573))) (E.con (D.int 10000000000037)))) (Ss.cons (S.app 3 (E.tup (Es.cons (E.idx (E.var 1) (E.bin Operator.Mod (E.var 5) (E.con (D.int 3)))) (Es.cons (E.bin Operator.Add (E.var 2) (E.bin Operator.Mod (E.bin Operator.FloorDiv (E.var 5) (E.con (D.int 3))) (E.con (D.int 5)))) (Es.cons (E.bin Operator.Add (E.bin Operator.Add (E.var 2) (E.bin Operator.Mod (E.bin Operator.FloorDiv (E.var 5) (E.con (D.int 3))) (E.con (D.int 5)))) (E.bin Operator.Mod (E.bin Operator.FloorDiv (E.var 5) (E.con (D.int 15))) (E.con (D.int 9)))) Es.nil))))) (Ss.cons (S.set 2 (E.bin Operator.Add (E.idx (E.idx (E.var 3) (E.bin Operator.Sub (E.b1 B1.len (E.var 3)) (E.con (D.int 1)))) (E.con (D.int 2))) (E.con (D.int 1)))) Ss.nil)))
theorem u_b_law_0 {β : Type} (cl : Str → List Ar → R Rv) (w : Nat) (ρ : DE.Env) (K : Fl → R β) : (iSs cl w b_law_0 ρ).th K = (iSs cl w (Ss.cons (S.set 5 (E.bin Operator.Mod (E.bin Operator.Mult (E.var 4) (E.con (D.int 1099087573))) (E.con (D.int 10000000000037)))) (Ss.cons (S.app 3 (E.tup (Es.cons (E.idx (E.var 1) (E.bin Operator.Mod (E.var 5) (E.con (D.int 3)))) (Es.cons (E.bin Operator.Add (E.var 2) (E.bin Operator.Mod (E.bin Operator.FloorDiv (E.var 5) (E.con (D.int 3))) (E.con (D.int 5)))) (Es.cons (E.bin Operator.Add (E.bin Operator.Add (E.var 2) (E.bin Operator.Mod (E.bin Operator.FloorDiv (E.var 5) (E.con (D.int 3))) (E.con (D.int 5)))) (E.bin Operator.Mod (E.bin Operator.FloorDiv (E.var 5) (E.con (D.int 15))) (E.con (D.int 9)))) Es.nil))))) (Ss.cons (S.set 2 (E.bin Operator.Add (E.idx (E.idx (E.var 3) (E.bin Operator.Sub (E.b1 B1.len (E.var 3)) (E.con (D.int 1)))) (E.con (D.int 2))) (E.con (D.int 1)))) Ss.nil))) ρ).th K := (rfl)
def e_law_0 : E := (E.tup (Es.cons (E.bin Operator.Add (E.var 2) (E.var 0)) (Es.cons (E.var 1) (Es.cons (E.lst Es.nil) Es.nil))))
theorem u_e_law_0 {β : Type} (cl : Str → List Ar → R Rv) (ρ : DE.Env) (K : D × DE.Env → R β) : (escE e_law_0 (iR cl e_law_0) ρ).th K = (escE (E.tup (Es.cons (E.bin Operator.Add (E.var 2) (E.var 0)) (Es.cons (E.var 1) (Es.cons (E.lst Es.nil) Es.nil)))) (iR cl (E.tup (Es.cons (E.bin Operator.Add (E.var 2) (E.var 0)) (Es.cons (E.var 1) (Es.cons (E.lst Es.nil) Es.nil))))) ρ).th K := (rfl)
def c_law : Nat × Nat × Ss := (1, 12, (Ss.cons (S.set 1 (E.call "_law_lands" (Es.cons (E.call "_law_cell_at" (Es.cons (E.var 0) (Es.cons (E.con (D.int 0)) Es.nil))) (Es.cons (E.con (D.int 3)) Es.nil)))) (Ss.cons (S.set 2 (E.bin Operator.Mod (E.call "_law_cell_at" (Es.cons (E.var 0) (Es.cons (E.con (D.int 1)) Es.nil))) (E.bin Operator.Pow (E.con (D.int 10)) (E.con (D.int 8))))) (Ss.cons (S.set 3 (E.lst Es.nil)) (Ss.cons (S.for_ (Tg.one 4) (I.seq (E.sli (E.var 0) (O.some (E.con (D.int 2))) (O.some (E.con (D.int 12))))) b_law_0) (Ss.cons (S.set 6 (E.bin Operator.Add (E.var 2) (E.bin Operator.Mult (E.bin Operator.Mod (E.bin Operator.FloorDiv (E.call "_law_cell_at" (Es.cons (E.var 0) (Es.cons (E.con (D.int 1)) Es.nil))) (E.con (D.int 7))) (E.con (D.int 4))) (E.con (D.int 3))))) (Ss.cons (S.set 7 (E.call "_law_lands_of" (Es.cons (E.sli (E.var 0) (O.some (E.con (D.int 12))) (O.some (E.con (D.int 60)))) (Es.cons (E.var 1) Es.nil)))) (Ss.cons (S.set 8 (E.comp e_law_0 (I.enum (E.var 7)) (Tg.many [0, 1]) F.yes 2 [6])) (Ss.cons (S.set 9 (E.lst (Es.cons (E.b1 B1.list (E.var 3)) (Es.cons (E.b1 B1.list (E.var 8)) Es.nil)))) (Ss.cons (S.set 10 (E.call "stays_by" (Es.cons (E.idx (E.var 9) (E.con (D.int 0))) (Es.cons (E.idx (E.var 9) (E.con (D.int 1))) Es.nil)))) (Ss.cons (S.set 11 (E.bin Operator.Add (E.var 3) (E.call "_law_runs" (Es.cons (E.var 7) (Es.cons (E.var 6) Es.nil))))) (Ss.cons (S.ite (T.or (T.not (T.val (E.isi Ty.list (E.var 10)))) (T.or (T.cmp CmpOp.NotEq (E.var 10) (E.var 11)) (T.one (T.cmp CmpOp.NotEq (E.var 9) (E.lst (Es.cons (E.var 3) (Es.cons (E.var 8) Es.nil))))))) (Ss.cons (S.ret (E.con (D.bl false))) Ss.nil) Ss.nil) (Ss.cons (S.app 10 (E.con D.non)) (Ss.cons (S.ret (E.and (E.cmp CmpOp.Eq (E.call "stays_by" (Es.cons (E.var 3) (Es.cons (E.var 8) Es.nil))) (E.var 11)) (E.one (E.cmp CmpOp.Eq (E.call "stays_by" (Es.cons (E.var 3) (Es.cons (E.lst Es.nil) Es.nil))) (E.var 3))))) Ss.nil))))))))))))))
theorem r_law (k : Nat) (args : List Ar) : clK pg (k + 1) "law" args = runD (clK pg k) 1000 c_law args := run_of (pg := pg) (st := top 23) (by kernel_rfl) (fun cl => by kernel_rfl) k args
end K53
set_option maxHeartbeats 4000000
namespace K53
open PySem L2 DE
theorem whole_ok (k : Nat) (n : Int) : clK pg (k + 1) "is_whole" [.val (.int n)] = .ok (.val (.bl true)) := by
  rw [r_is_whole]
  simp only [c_is_whole, slR_s, slR_v, slR_o, slR_b, slR_c, slX_s, slX_v, slX_o, ownI_s, ownI_o, xR_var, xR_con, xR_bin, xR_neg, xR_not, xR_one, xR_and, xR_or, xR_cmp, xR_ite, xR_idx, xR_sli, xR_lst, xR_tup, xR_call, xR_b1, xR_b2, xR_isi, xR_comp, yRet, yBl, yTmp, yB1, yB2, yNeg, yNot, yAnd, yOr, yC1, yC2, yIf, yI1, yI2, yS1, yS2, yS3, yLst, yTup, yCall, yF1, yG1, yG2, yIsi, yComp, xT_not, xT_one, xT_and, xT_or, xT_cmp, xT_val, yBo, yTn, yTa, yTo, yD1, yD2, yTv, xF_yes, xF_test, xEs_nil, xEs_cons, yE1, yE2, xAs_nil, xAs_cons, yA1, yA2, xO_none, xO_some, yO, xI_seq, xI_rng, xI_rng2, xI_enum, xI_zip, ySeq, yRng, yR1, yR2, yEnum, yZ1, yZ2, yVal, yValt, yValL, yValLt, yValLs, yValLm, yX, yXt, yAv, yAx, yAxt, yCons, xE_s, xE_v, xE_o, xL_s, xL_l, xL_t, xL_z, xL_o, xL_b, xL_c, xS_pass, xS_stuck, xS_expr, yExpr, oGo_some, xS_app, yApp, yApp2, xS_ext, yExt, yExt2, xS_clr, xS_ret, yRt, xS_retN, xS_set, ySet, xS_setT, yST, yNx, xS_setI, ySI, ySI2, ySI3, ySI4, xS_ite, yIte, xS_for, yFor, xS_whl, xSs_nil, xSs_cons, yNext, yNextr, xFo_nil, xFo_cons, yFo1, yFo2, yFo2r, xWh, yWh1, yWh2, yWh2r, xP_nil, xP_cons, yP1, yP2, yP3, eE_bin, eL_bin, eX_bin, eA_bin, eE_neg, eL_neg, eX_neg, eA_neg, eE_not, eL_not, eX_not, eA_not, eE_one, eL_one, eX_one, eA_one, eE_and, eL_and, eX_and, eA_and, eE_or, eL_or, eX_or, eA_or, eE_cmp, eL_cmp, eX_cmp, eA_cmp, eE_ite, eL_ite, eX_ite, eA_ite, eE_idx, eL_idx, eX_idx, eA_idx, eE_sli, eL_sli, eX_sli, eA_sli, eE_lst, eL_lst, eX_lst, eA_lst, eE_tup, eL_tup, eX_tup, eA_tup, eE_call, eL_call, eX_call, eA_call, eE_b1, eL_b1, eX_b1, eA_b1, eE_b2, eL_b2, eX_b2, eA_b2, eE_isi, eL_isi, eX_isi, eA_isi, eE_comp, eL_comp, eX_comp, eA_comp, eE_var, eE_con, eL_var, eL_con, eX_var, eX_con, eA_var, eA_con, bAdd, bAdds, bAddtt, bAddtc, bAddtv, bAddct, bAddcc, bAddcv, bAddvt, bAddvc, bAddvv, bSub, bMult, bDiv, bMod, bPow, cEq, cNe, cLt, cLe, cGt, cGe, cIs, cIsN, cIn, cNi, mIn, rgoV, rgoT, setIs_nil, setIs_cons, sgn_some, ixS, th_ok, th_no, of_some, runD, slN, toSl, flR, List.map_cons, List.map_nil, List.length_cons, List.length_nil, List.replicate, List.cons_append, List.nil_append, List.set_cons_zero, List.set_cons_succ, at_0, at_1, at_2, L2.atI_last, ixN_app, set_app, emp_app, toAr, Rv.int?, Rv.str?, Rv.bl?, Rv.tup?, Rv.list?, Rv.plain?, Rv.data, Rv.non?, truthD, seqD, idxD, lenD, listD, intD, maxD, minD, int2, sliceD, B1.go, B2.go, Ty.go, Ty.of, Bool.not_true, Bool.not_false, reduceIte, Option.map_some, Option.bind_some, if_true, if_false, Bool.false_eq_true, and_self, true_and, decide_true, decide_false, Int.reduceLT, Int.reduceLE, Nat.reduceAdd, Nat.reduceSub]
theorem between_ok (k : Nat) (n a b : Int) (h1 : a ≤ n) (h2 : n ≤ b) : clK pg (k + 2) "is_between" [.val (.int n), .val (.int a), .val (.int b)] = .ok (.val (.bl true)) := by
  rw [r_is_between]
  simp only [c_is_between, slR_s, slR_v, slR_o, slR_b, slR_c, slX_s, slX_v, slX_o, ownI_s, ownI_o, xR_var, xR_con, xR_bin, xR_neg, xR_not, xR_one, xR_and, xR_or, xR_cmp, xR_ite, xR_idx, xR_sli, xR_lst, xR_tup, xR_call, xR_b1, xR_b2, xR_isi, xR_comp, yRet, yBl, yTmp, yB1, yB2, yNeg, yNot, yAnd, yOr, yC1, yC2, yIf, yI1, yI2, yS1, yS2, yS3, yLst, yTup, yCall, yF1, yG1, yG2, yIsi, yComp, xT_not, xT_one, xT_and, xT_or, xT_cmp, xT_val, yBo, yTn, yTa, yTo, yD1, yD2, yTv, xF_yes, xF_test, xEs_nil, xEs_cons, yE1, yE2, xAs_nil, xAs_cons, yA1, yA2, xO_none, xO_some, yO, xI_seq, xI_rng, xI_rng2, xI_enum, xI_zip, ySeq, yRng, yR1, yR2, yEnum, yZ1, yZ2, yVal, yValt, yValL, yValLt, yValLs, yValLm, yX, yXt, yAv, yAx, yAxt, yCons, xE_s, xE_v, xE_o, xL_s, xL_l, xL_t, xL_z, xL_o, xL_b, xL_c, xS_pass, xS_stuck, xS_expr, yExpr, oGo_some, xS_app, yApp, yApp2, xS_ext, yExt, yExt2, xS_clr, xS_ret, yRt, xS_retN, xS_set, ySet, xS_setT, yST, yNx, xS_setI, ySI, ySI2, ySI3, ySI4, xS_ite, yIte, xS_for, yFor, xS_whl, xSs_nil, xSs_cons, yNext, yNextr, xFo_nil, xFo_cons, yFo1, yFo2, yFo2r, xWh, yWh1, yWh2, yWh2r, xP_nil, xP_cons, yP1, yP2, yP3, eE_bin, eL_bin, eX_bin, eA_bin, eE_neg, eL_neg, eX_neg, eA_neg, eE_not, eL_not, eX_not, eA_not, eE_one, eL_one, eX_one, eA_one, eE_and, eL_and, eX_and, eA_and, eE_or, eL_or, eX_or, eA_or, eE_cmp, eL_cmp, eX_cmp, eA_cmp, eE_ite, eL_ite, eX_ite, eA_ite, eE_idx, eL_idx, eX_idx, eA_idx, eE_sli, eL_sli, eX_sli, eA_sli, eE_lst, eL_lst, eX_lst, eA_lst, eE_tup, eL_tup, eX_tup, eA_tup, eE_call, eL_call, eX_call, eA_call, eE_b1, eL_b1, eX_b1, eA_b1, eE_b2, eL_b2, eX_b2, eA_b2, eE_isi, eL_isi, eX_isi, eA_isi, eE_comp, eL_comp, eX_comp, eA_comp, eE_var, eE_con, eL_var, eL_con, eX_var, eX_con, eA_var, eA_con, bAdd, bAdds, bAddtt, bAddtc, bAddtv, bAddct, bAddcc, bAddcv, bAddvt, bAddvc, bAddvv, bSub, bMult, bDiv, bMod, bPow, cEq, cNe, cLt, cLe, cGt, cGe, cIs, cIsN, cIn, cNi, mIn, rgoV, rgoT, setIs_nil, setIs_cons, sgn_some, ixS, th_ok, th_no, of_some, runD, slN, toSl, flR, List.map_cons, List.map_nil, List.length_cons, List.length_nil, List.replicate, List.cons_append, List.nil_append, List.set_cons_zero, List.set_cons_succ, at_0, at_1, at_2, L2.atI_last, ixN_app, set_app, emp_app, toAr, Rv.int?, Rv.str?, Rv.bl?, Rv.tup?, Rv.list?, Rv.plain?, Rv.data, Rv.non?, truthD, seqD, idxD, lenD, listD, intD, maxD, minD, int2, sliceD, B1.go, B2.go, Ty.go, Ty.of, Bool.not_true, Bool.not_false, reduceIte, Option.map_some, Option.bind_some, if_true, if_false, Bool.false_eq_true, and_self, true_and, decide_true, decide_false, Int.reduceLT, Int.reduceLE, Nat.reduceAdd, Nat.reduceSub, whole_ok, h1, h2, decide_true]
theorem days_ok (k : Nat) (a b : Int) (h0 : 0 ≤ a) (h1 : a ≤ b) (h2 : b ≤ 1000000000) : clK pg (k + 3) "are_days" [.val (.int a), .val (.int b)] = .ok (.val (.bl true)) := by
  have h3 : a ≤ 1000000000 := by omega
  have h4 : 0 ≤ b := by omega
  rw [r_are_days]
  simp only [c_are_days, slR_s, slR_v, slR_o, slR_b, slR_c, slX_s, slX_v, slX_o, ownI_s, ownI_o, xR_var, xR_con, xR_bin, xR_neg, xR_not, xR_one, xR_and, xR_or, xR_cmp, xR_ite, xR_idx, xR_sli, xR_lst, xR_tup, xR_call, xR_b1, xR_b2, xR_isi, xR_comp, yRet, yBl, yTmp, yB1, yB2, yNeg, yNot, yAnd, yOr, yC1, yC2, yIf, yI1, yI2, yS1, yS2, yS3, yLst, yTup, yCall, yF1, yG1, yG2, yIsi, yComp, xT_not, xT_one, xT_and, xT_or, xT_cmp, xT_val, yBo, yTn, yTa, yTo, yD1, yD2, yTv, xF_yes, xF_test, xEs_nil, xEs_cons, yE1, yE2, xAs_nil, xAs_cons, yA1, yA2, xO_none, xO_some, yO, xI_seq, xI_rng, xI_rng2, xI_enum, xI_zip, ySeq, yRng, yR1, yR2, yEnum, yZ1, yZ2, yVal, yValt, yValL, yValLt, yValLs, yValLm, yX, yXt, yAv, yAx, yAxt, yCons, xE_s, xE_v, xE_o, xL_s, xL_l, xL_t, xL_z, xL_o, xL_b, xL_c, xS_pass, xS_stuck, xS_expr, yExpr, oGo_some, xS_app, yApp, yApp2, xS_ext, yExt, yExt2, xS_clr, xS_ret, yRt, xS_retN, xS_set, ySet, xS_setT, yST, yNx, xS_setI, ySI, ySI2, ySI3, ySI4, xS_ite, yIte, xS_for, yFor, xS_whl, xSs_nil, xSs_cons, yNext, yNextr, xFo_nil, xFo_cons, yFo1, yFo2, yFo2r, xWh, yWh1, yWh2, yWh2r, xP_nil, xP_cons, yP1, yP2, yP3, eE_bin, eL_bin, eX_bin, eA_bin, eE_neg, eL_neg, eX_neg, eA_neg, eE_not, eL_not, eX_not, eA_not, eE_one, eL_one, eX_one, eA_one, eE_and, eL_and, eX_and, eA_and, eE_or, eL_or, eX_or, eA_or, eE_cmp, eL_cmp, eX_cmp, eA_cmp, eE_ite, eL_ite, eX_ite, eA_ite, eE_idx, eL_idx, eX_idx, eA_idx, eE_sli, eL_sli, eX_sli, eA_sli, eE_lst, eL_lst, eX_lst, eA_lst, eE_tup, eL_tup, eX_tup, eA_tup, eE_call, eL_call, eX_call, eA_call, eE_b1, eL_b1, eX_b1, eA_b1, eE_b2, eL_b2, eX_b2, eA_b2, eE_isi, eL_isi, eX_isi, eA_isi, eE_comp, eL_comp, eX_comp, eA_comp, eE_var, eE_con, eL_var, eL_con, eX_var, eX_con, eA_var, eA_con, bAdd, bAdds, bAddtt, bAddtc, bAddtv, bAddct, bAddcc, bAddcv, bAddvt, bAddvc, bAddvv, bSub, bMult, bDiv, bMod, bPow, cEq, cNe, cLt, cLe, cGt, cGe, cIs, cIsN, cIn, cNi, mIn, rgoV, rgoT, setIs_nil, setIs_cons, sgn_some, ixS, th_ok, th_no, of_some, runD, slN, toSl, flR, List.map_cons, List.map_nil, List.length_cons, List.length_nil, List.replicate, List.cons_append, List.nil_append, List.set_cons_zero, List.set_cons_succ, at_0, at_1, at_2, L2.atI_last, ixN_app, set_app, emp_app, toAr, Rv.int?, Rv.str?, Rv.bl?, Rv.tup?, Rv.list?, Rv.plain?, Rv.data, Rv.non?, truthD, seqD, idxD, lenD, listD, intD, maxD, minD, int2, sliceD, B1.go, B2.go, Ty.go, Ty.of, Bool.not_true, Bool.not_false, reduceIte, Option.map_some, Option.bind_some, if_true, if_false, Bool.false_eq_true, and_self, true_and, decide_true, decide_false, Int.reduceLT, Int.reduceLE, Nat.reduceAdd, Nat.reduceSub, between_ok k a 0 1000000000 h0 h3, between_ok k b 0 1000000000 h4 h2, h1, decide_true]
def LETTERS : Str := "abcdefghijklmnopqrstuvwxyz"
def isLet (c : Nat) : Prop := 97 ≤ c ∧ c < 123
theorem occ_let (c : Nat) (h : isLet c) : occB ⟨#[c]⟩ "abcdefghijklmnopqrstuvwxyz" = true := by
  have key : ∀ j : Fin 26, occB ⟨#[97 + j.val]⟩ "abcdefghijklmnopqrstuvwxyz" = true := by decide +kernel
  have := key ⟨c - 97, by unfold isLet at h; omega⟩
  rw [show 97 + (c - 97) = c by unfold isLet at h; omega] at this
  exact this
theorem made_loop (k : Nat) (z : Str) : ∀ (l : List Nat) (s : Sl), (∀ c ∈ l, isLet c) → ∃ s', forD (clK pg k) 1000 (.one 2) b_is_made_of_0 (l.map fun c => D.str ⟨#[c]⟩) [.val (.str z), .val (.str "abcdefghijklmnopqrstuvwxyz"), s] = .ok (.next [.val (.str z), .val (.str "abcdefghijklmnopqrstuvwxyz"), s'])
  | [], s, _ => ⟨s, by rw [List.map_nil, forD_nil]⟩
  | c :: l, s, h => by
    obtain ⟨s', e⟩ := made_loop k z l (.val (.str ⟨#[c]⟩)) fun x hx => h x (by simp [hx])
    refine ⟨s', ?_⟩
    refine (th_ret _).symm.trans ?_
    rw [List.map_cons]
    simp only [u_b_is_made_of_0, slR_s, slR_v, slR_o, slR_b, slR_c, slX_s, slX_v, slX_o, ownI_s, ownI_o, xR_var, xR_con, xR_bin, xR_neg, xR_not, xR_one, xR_and, xR_or, xR_cmp, xR_ite, xR_idx, xR_sli, xR_lst, xR_tup, xR_call, xR_b1, xR_b2, xR_isi, xR_comp, yRet, yBl, yTmp, yB1, yB2, yNeg, yNot, yAnd, yOr, yC1, yC2, yIf, yI1, yI2, yS1, yS2, yS3, yLst, yTup, yCall, yF1, yG1, yG2, yIsi, yComp, xT_not, xT_one, xT_and, xT_or, xT_cmp, xT_val, yBo, yTn, yTa, yTo, yD1, yD2, yTv, xF_yes, xF_test, xEs_nil, xEs_cons, yE1, yE2, xAs_nil, xAs_cons, yA1, yA2, xO_none, xO_some, yO, xI_seq, xI_rng, xI_rng2, xI_enum, xI_zip, ySeq, yRng, yR1, yR2, yEnum, yZ1, yZ2, yVal, yValt, yValL, yValLt, yValLs, yValLm, yX, yXt, yAv, yAx, yAxt, yCons, xE_s, xE_v, xE_o, xL_s, xL_l, xL_t, xL_z, xL_o, xL_b, xL_c, xS_pass, xS_stuck, xS_expr, yExpr, oGo_some, xS_app, yApp, yApp2, xS_ext, yExt, yExt2, xS_clr, xS_ret, yRt, xS_retN, xS_set, ySet, xS_setT, yST, yNx, xS_setI, ySI, ySI2, ySI3, ySI4, xS_ite, yIte, xS_for, yFor, xS_whl, xSs_nil, xSs_cons, yNext, yNextr, xFo_nil, xFo_cons, yFo1, yFo2, yFo2r, xWh, yWh1, yWh2, yWh2r, xP_nil, xP_cons, yP1, yP2, yP3, eE_bin, eL_bin, eX_bin, eA_bin, eE_neg, eL_neg, eX_neg, eA_neg, eE_not, eL_not, eX_not, eA_not, eE_one, eL_one, eX_one, eA_one, eE_and, eL_and, eX_and, eA_and, eE_or, eL_or, eX_or, eA_or, eE_cmp, eL_cmp, eX_cmp, eA_cmp, eE_ite, eL_ite, eX_ite, eA_ite, eE_idx, eL_idx, eX_idx, eA_idx, eE_sli, eL_sli, eX_sli, eA_sli, eE_lst, eL_lst, eX_lst, eA_lst, eE_tup, eL_tup, eX_tup, eA_tup, eE_call, eL_call, eX_call, eA_call, eE_b1, eL_b1, eX_b1, eA_b1, eE_b2, eL_b2, eX_b2, eA_b2, eE_isi, eL_isi, eX_isi, eA_isi, eE_comp, eL_comp, eX_comp, eA_comp, eE_var, eE_con, eL_var, eL_con, eX_var, eX_con, eA_var, eA_con, bAdd, bAdds, bAddtt, bAddtc, bAddtv, bAddct, bAddcc, bAddcv, bAddvt, bAddvc, bAddvv, bSub, bMult, bDiv, bMod, bPow, cEq, cNe, cLt, cLe, cGt, cGe, cIs, cIsN, cIn, cNi, mIn, rgoV, rgoT, setIs_nil, setIs_cons, sgn_some, ixS, th_ok, th_no, of_some, runD, slN, toSl, flR, List.map_cons, List.map_nil, List.length_cons, List.length_nil, List.replicate, List.cons_append, List.nil_append, List.set_cons_zero, List.set_cons_succ, at_0, at_1, at_2, L2.atI_last, ixN_app, set_app, emp_app, toAr, Rv.int?, Rv.str?, Rv.bl?, Rv.tup?, Rv.list?, Rv.plain?, Rv.data, Rv.non?, truthD, seqD, idxD, lenD, listD, intD, maxD, minD, int2, sliceD, B1.go, B2.go, Ty.go, Ty.of, Bool.not_true, Bool.not_false, reduceIte, Option.map_some, Option.bind_some, if_true, if_false, Bool.false_eq_true, and_self, true_and, decide_true, decide_false, Int.reduceLT, Int.reduceLE, Nat.reduceAdd, Nat.reduceSub, occ_let c (h c (by simp)), e]
theorem made_ok (k : Nat) (z : Str) (h : ∀ c ∈ z.cps.toList, isLet c) : clK pg (k + 1) "is_made_of" [.val (.str z), .val (.str "abcdefghijklmnopqrstuvwxyz")] = .ok (.val (.bl true)) := by
  rw [r_is_made_of]
  obtain ⟨s', e⟩ := made_loop k z z.cps.toList .no h
  simp only [c_is_made_of, slR_s, slR_v, slR_o, slR_b, slR_c, slX_s, slX_v, slX_o, ownI_s, ownI_o, xR_var, xR_con, xR_bin, xR_neg, xR_not, xR_one, xR_and, xR_or, xR_cmp, xR_ite, xR_idx, xR_sli, xR_lst, xR_tup, xR_call, xR_b1, xR_b2, xR_isi, xR_comp, yRet, yBl, yTmp, yB1, yB2, yNeg, yNot, yAnd, yOr, yC1, yC2, yIf, yI1, yI2, yS1, yS2, yS3, yLst, yTup, yCall, yF1, yG1, yG2, yIsi, yComp, xT_not, xT_one, xT_and, xT_or, xT_cmp, xT_val, yBo, yTn, yTa, yTo, yD1, yD2, yTv, xF_yes, xF_test, xEs_nil, xEs_cons, yE1, yE2, xAs_nil, xAs_cons, yA1, yA2, xO_none, xO_some, yO, xI_seq, xI_rng, xI_rng2, xI_enum, xI_zip, ySeq, yRng, yR1, yR2, yEnum, yZ1, yZ2, yVal, yValt, yValL, yValLt, yValLs, yValLm, yX, yXt, yAv, yAx, yAxt, yCons, xE_s, xE_v, xE_o, xL_s, xL_l, xL_t, xL_z, xL_o, xL_b, xL_c, xS_pass, xS_stuck, xS_expr, yExpr, oGo_some, xS_app, yApp, yApp2, xS_ext, yExt, yExt2, xS_clr, xS_ret, yRt, xS_retN, xS_set, ySet, xS_setT, yST, yNx, xS_setI, ySI, ySI2, ySI3, ySI4, xS_ite, yIte, xS_for, yFor, xS_whl, xSs_nil, xSs_cons, yNext, yNextr, xFo_nil, xFo_cons, yFo1, yFo2, yFo2r, xWh, yWh1, yWh2, yWh2r, xP_nil, xP_cons, yP1, yP2, yP3, eE_bin, eL_bin, eX_bin, eA_bin, eE_neg, eL_neg, eX_neg, eA_neg, eE_not, eL_not, eX_not, eA_not, eE_one, eL_one, eX_one, eA_one, eE_and, eL_and, eX_and, eA_and, eE_or, eL_or, eX_or, eA_or, eE_cmp, eL_cmp, eX_cmp, eA_cmp, eE_ite, eL_ite, eX_ite, eA_ite, eE_idx, eL_idx, eX_idx, eA_idx, eE_sli, eL_sli, eX_sli, eA_sli, eE_lst, eL_lst, eX_lst, eA_lst, eE_tup, eL_tup, eX_tup, eA_tup, eE_call, eL_call, eX_call, eA_call, eE_b1, eL_b1, eX_b1, eA_b1, eE_b2, eL_b2, eX_b2, eA_b2, eE_isi, eL_isi, eX_isi, eA_isi, eE_comp, eL_comp, eX_comp, eA_comp, eE_var, eE_con, eL_var, eL_con, eX_var, eX_con, eA_var, eA_con, bAdd, bAdds, bAddtt, bAddtc, bAddtv, bAddct, bAddcc, bAddcv, bAddvt, bAddvc, bAddvv, bSub, bMult, bDiv, bMod, bPow, cEq, cNe, cLt, cLe, cGt, cGe, cIs, cIsN, cIn, cNi, mIn, rgoV, rgoT, setIs_nil, setIs_cons, sgn_some, ixS, th_ok, th_no, of_some, runD, slN, toSl, flR, List.map_cons, List.map_nil, List.length_cons, List.length_nil, List.replicate, List.cons_append, List.nil_append, List.set_cons_zero, List.set_cons_succ, at_0, at_1, at_2, L2.atI_last, ixN_app, set_app, emp_app, toAr, Rv.int?, Rv.str?, Rv.bl?, Rv.tup?, Rv.list?, Rv.plain?, Rv.data, Rv.non?, truthD, seqD, idxD, lenD, listD, intD, maxD, minD, int2, sliceD, B1.go, B2.go, Ty.go, Ty.of, Bool.not_true, Bool.not_false, reduceIte, Option.map_some, Option.bind_some, if_true, if_false, Bool.false_eq_true, and_self, true_and, decide_true, decide_false, Int.reduceLT, Int.reduceLE, Nat.reduceAdd, Nat.reduceSub, Nat.reduceAdd, Nat.reduceSub, sigD, e]
structure NameOk (z : Str) : Prop where
  one : 1 ≤ z.cps.size
  eight : z.cps.size ≤ 8
  lets : ∀ c ∈ z.cps.toList, isLet c
theorem name_ok (k : Nat) (z : Str) (h : NameOk z) : clK pg (k + 2) "is_name" [.val (.str z)] = .ok (.val (.bl true)) := by
  have hz : z.length ≤ sizeLine := by
    have := h.eight
    show z.cps.size ≤ 2 ^ 24
    omega
  have h1 : (1 : Int) ≤ (z.length : Int) := by
    have := h.one
    show (1 : Int) ≤ (z.cps.size : Int)
    omega
  have h8 : (z.length : Int) ≤ 8 := by
    have := h.eight
    show (z.cps.size : Int) ≤ 8
    omega
  rw [r_is_name]
  simp only [c_is_name, slR_s, slR_v, slR_o, slR_b, slR_c, slX_s, slX_v, slX_o, ownI_s, ownI_o, xR_var, xR_con, xR_bin, xR_neg, xR_not, xR_one, xR_and, xR_or, xR_cmp, xR_ite, xR_idx, xR_sli, xR_lst, xR_tup, xR_call, xR_b1, xR_b2, xR_isi, xR_comp, yRet, yBl, yTmp, yB1, yB2, yNeg, yNot, yAnd, yOr, yC1, yC2, yIf, yI1, yI2, yS1, yS2, yS3, yLst, yTup, yCall, yF1, yG1, yG2, yIsi, yComp, xT_not, xT_one, xT_and, xT_or, xT_cmp, xT_val, yBo, yTn, yTa, yTo, yD1, yD2, yTv, xF_yes, xF_test, xEs_nil, xEs_cons, yE1, yE2, xAs_nil, xAs_cons, yA1, yA2, xO_none, xO_some, yO, xI_seq, xI_rng, xI_rng2, xI_enum, xI_zip, ySeq, yRng, yR1, yR2, yEnum, yZ1, yZ2, yVal, yValt, yValL, yValLt, yValLs, yValLm, yX, yXt, yAv, yAx, yAxt, yCons, xE_s, xE_v, xE_o, xL_s, xL_l, xL_t, xL_z, xL_o, xL_b, xL_c, xS_pass, xS_stuck, xS_expr, yExpr, oGo_some, xS_app, yApp, yApp2, xS_ext, yExt, yExt2, xS_clr, xS_ret, yRt, xS_retN, xS_set, ySet, xS_setT, yST, yNx, xS_setI, ySI, ySI2, ySI3, ySI4, xS_ite, yIte, xS_for, yFor, xS_whl, xSs_nil, xSs_cons, yNext, yNextr, xFo_nil, xFo_cons, yFo1, yFo2, yFo2r, xWh, yWh1, yWh2, yWh2r, xP_nil, xP_cons, yP1, yP2, yP3, eE_bin, eL_bin, eX_bin, eA_bin, eE_neg, eL_neg, eX_neg, eA_neg, eE_not, eL_not, eX_not, eA_not, eE_one, eL_one, eX_one, eA_one, eE_and, eL_and, eX_and, eA_and, eE_or, eL_or, eX_or, eA_or, eE_cmp, eL_cmp, eX_cmp, eA_cmp, eE_ite, eL_ite, eX_ite, eA_ite, eE_idx, eL_idx, eX_idx, eA_idx, eE_sli, eL_sli, eX_sli, eA_sli, eE_lst, eL_lst, eX_lst, eA_lst, eE_tup, eL_tup, eX_tup, eA_tup, eE_call, eL_call, eX_call, eA_call, eE_b1, eL_b1, eX_b1, eA_b1, eE_b2, eL_b2, eX_b2, eA_b2, eE_isi, eL_isi, eX_isi, eA_isi, eE_comp, eL_comp, eX_comp, eA_comp, eE_var, eE_con, eL_var, eL_con, eX_var, eX_con, eA_var, eA_con, bAdd, bAdds, bAddtt, bAddtc, bAddtv, bAddct, bAddcc, bAddcv, bAddvt, bAddvc, bAddvv, bSub, bMult, bDiv, bMod, bPow, cEq, cNe, cLt, cLe, cGt, cGe, cIs, cIsN, cIn, cNi, mIn, rgoV, rgoT, setIs_nil, setIs_cons, sgn_some, ixS, th_ok, th_no, of_some, runD, slN, toSl, flR, List.map_cons, List.map_nil, List.length_cons, List.length_nil, List.replicate, List.cons_append, List.nil_append, List.set_cons_zero, List.set_cons_succ, at_0, at_1, at_2, L2.atI_last, ixN_app, set_app, emp_app, toAr, Rv.int?, Rv.str?, Rv.bl?, Rv.tup?, Rv.list?, Rv.plain?, Rv.data, Rv.non?, truthD, seqD, idxD, lenD, listD, intD, maxD, minD, int2, sliceD, B1.go, B2.go, Ty.go, Ty.of, Bool.not_true, Bool.not_false, reduceIte, Option.map_some, Option.bind_some, if_true, if_false, Bool.false_eq_true, and_self, true_and, decide_true, decide_false, Int.reduceLT, Int.reduceLE, Nat.reduceAdd, Nat.reduceSub, hz, h1, h8, decide_true, made_ok k z h.lets]
def stD (s : Str × Int × Int) : D := .tup [.str s.1, .int s.2.1, .int s.2.2]
theorem stD_eq (s : Str × Int × Int) : stD s = .tup [.str s.1, .int s.2.1, .int s.2.2] := rfl
structure StOk (e : Int) (s : Str × Int × Int) : Prop where
  nm : NameOk s.1
  lo : e < s.2.1
  ab : s.2.1 ≤ s.2.2
  hi : s.2.2 ≤ 1000000000
theorem stay_ok (k : Nat) (e : Int) (s : Str × Int × Int) (he : -1 ≤ e) (h : StOk e s) : clK pg (k + 4) "is_stay" [.val (stD s)] = .ok (.val (.bl true)) := by
  have hlo := h.lo
  have hab := h.ab
  rw [r_is_stay]
  have e0 : atI [D.str s.1, D.int s.2.1, D.int s.2.2] 0 = some (.str s.1) := by rfl
  have e1 : atI [D.str s.1, D.int s.2.1, D.int s.2.2] 1 = some (.int s.2.1) := by rfl
  have e2 : atI [D.str s.1, D.int s.2.1, D.int s.2.2] 2 = some (.int s.2.2) := by rfl
  simp only [c_is_stay, slR_s, slR_v, slR_o, slR_b, slR_c, slX_s, slX_v, slX_o, ownI_s, ownI_o, xR_var, xR_con, xR_bin, xR_neg, xR_not, xR_one, xR_and, xR_or, xR_cmp, xR_ite, xR_idx, xR_sli, xR_lst, xR_tup, xR_call, xR_b1, xR_b2, xR_isi, xR_comp, yRet, yBl, yTmp, yB1, yB2, yNeg, yNot, yAnd, yOr, yC1, yC2, yIf, yI1, yI2, yS1, yS2, yS3, yLst, yTup, yCall, yF1, yG1, yG2, yIsi, yComp, xT_not, xT_one, xT_and, xT_or, xT_cmp, xT_val, yBo, yTn, yTa, yTo, yD1, yD2, yTv, xF_yes, xF_test, xEs_nil, xEs_cons, yE1, yE2, xAs_nil, xAs_cons, yA1, yA2, xO_none, xO_some, yO, xI_seq, xI_rng, xI_rng2, xI_enum, xI_zip, ySeq, yRng, yR1, yR2, yEnum, yZ1, yZ2, yVal, yValt, yValL, yValLt, yValLs, yValLm, yX, yXt, yAv, yAx, yAxt, yCons, xE_s, xE_v, xE_o, xL_s, xL_l, xL_t, xL_z, xL_o, xL_b, xL_c, xS_pass, xS_stuck, xS_expr, yExpr, oGo_some, xS_app, yApp, yApp2, xS_ext, yExt, yExt2, xS_clr, xS_ret, yRt, xS_retN, xS_set, ySet, xS_setT, yST, yNx, xS_setI, ySI, ySI2, ySI3, ySI4, xS_ite, yIte, xS_for, yFor, xS_whl, xSs_nil, xSs_cons, yNext, yNextr, xFo_nil, xFo_cons, yFo1, yFo2, yFo2r, xWh, yWh1, yWh2, yWh2r, xP_nil, xP_cons, yP1, yP2, yP3, eE_bin, eL_bin, eX_bin, eA_bin, eE_neg, eL_neg, eX_neg, eA_neg, eE_not, eL_not, eX_not, eA_not, eE_one, eL_one, eX_one, eA_one, eE_and, eL_and, eX_and, eA_and, eE_or, eL_or, eX_or, eA_or, eE_cmp, eL_cmp, eX_cmp, eA_cmp, eE_ite, eL_ite, eX_ite, eA_ite, eE_idx, eL_idx, eX_idx, eA_idx, eE_sli, eL_sli, eX_sli, eA_sli, eE_lst, eL_lst, eX_lst, eA_lst, eE_tup, eL_tup, eX_tup, eA_tup, eE_call, eL_call, eX_call, eA_call, eE_b1, eL_b1, eX_b1, eA_b1, eE_b2, eL_b2, eX_b2, eA_b2, eE_isi, eL_isi, eX_isi, eA_isi, eE_comp, eL_comp, eX_comp, eA_comp, eE_var, eE_con, eL_var, eL_con, eX_var, eX_con, eA_var, eA_con, bAdd, bAdds, bAddtt, bAddtc, bAddtv, bAddct, bAddcc, bAddcv, bAddvt, bAddvc, bAddvv, bSub, bMult, bDiv, bMod, bPow, cEq, cNe, cLt, cLe, cGt, cGe, cIs, cIsN, cIn, cNi, mIn, rgoV, rgoT, setIs_nil, setIs_cons, sgn_some, ixS, th_ok, th_no, of_some, runD, slN, toSl, flR, List.map_cons, List.map_nil, List.length_cons, List.length_nil, List.replicate, List.cons_append, List.nil_append, List.set_cons_zero, List.set_cons_succ, at_0, at_1, at_2, L2.atI_last, ixN_app, set_app, emp_app, toAr, Rv.int?, Rv.str?, Rv.bl?, Rv.tup?, Rv.list?, Rv.plain?, Rv.data, Rv.non?, truthD, seqD, idxD, lenD, listD, intD, maxD, minD, int2, sliceD, B1.go, B2.go, Ty.go, Ty.of, Bool.not_true, Bool.not_false, reduceIte, Option.map_some, Option.bind_some, if_true, if_false, Bool.false_eq_true, and_self, true_and, decide_true, decide_false, Int.reduceLT, Int.reduceLE, Nat.reduceAdd, Nat.reduceSub, stD, e0, e1, e2, eqD_int, name_ok (k + 1) s.1 h.nm, days_ok k s.2.1 s.2.2 (by omega) h.ab h.hi, show ((((0 + 1 + 1 + 1 : Nat) : Int) == 3) = true) from rfl]
end K53
set_option maxHeartbeats 4000000
namespace K53
open PySem L2 DE
abbrev Run := Str × Int × Int
def addR (r : List Run) (x : Option Str) (f : Int) : List Run := match x with
  | none => r
  | some s => r ++ [(s, f, f)]
def stepR (r : List Run) (x : Option Str) (f : Int) : List Run := match r.getLast? with
  | none => addR r x f
  | some q => if some q.1 = x ∧ q.2.2 = f - 1 then r.dropLast ++ [(q.1, q.2.1, f)] else addR r x f
def foldR : List Run → List (Option Str) → Int → List Run
  | r, [], _ => r
  | r, x :: l, f => foldR (stepR r x f) l (f + 1)
def cnt (x : Option Str) : List (Option Str) → Nat
  | [] => 0
  | y :: l => if y = x then cnt x l + 1 else 0
def hd (x : Option Str) (f : Int) (n : Nat) : List Run := match x with
  | none => []
  | some s => [(s, f, f + n)]
def runsF : Nat → List (Option Str) → Int → List Run
  | 0, _, _ => []
  | _ + 1, [], _ => []
  | n + 1, x :: l, f => hd x f (cnt x l) ++ runsF n (l.drop (cnt x l)) (f + cnt x l + 1)
theorem stepR_nil (x : Option Str) (f : Int) : stepR [] x f = addR [] x f := rfl
theorem stepR_app (r : List Run) (q : Run) (x : Option Str) (f : Int) : stepR (r ++ [q]) x f = if some q.1 = x ∧ q.2.2 = f - 1 then r ++ [(q.1, q.2.1, f)] else addR (r ++ [q]) x f := by
  unfold stepR
  rw [List.getLast?_append, List.dropLast_concat]
  rfl
theorem step_none (r : List Run) (f : Int) : stepR r none f = r := by
  rcases List.eq_nil_or_concat r with rfl | ⟨r', q, rfl⟩
  · rfl
  · rw [List.concat_eq_append, stepR_app, if_neg (fun z => by cases z.1)]
    rfl
theorem foldR_some (s : Str) (r : List Run) (a : Int) : ∀ (l : List (Option Str)) (f : Int), foldR (r ++ [(s, a, f - 1)]) l f = foldR (r ++ [(s, a, f - 1 + cnt (some s) l)]) (l.drop (cnt (some s) l)) (f + cnt (some s) l)
  | [], f => by simp [cnt]
  | y :: l, f => by
    by_cases h : y = some s
    · have ih := foldR_some s r a l (f + 1)
      rw [show f + 1 - 1 = f by omega] at ih
      rw [show cnt (some s) (y :: l) = cnt (some s) l + 1 from if_pos h]
      show foldR (stepR (r ++ [(s, a, f - 1)]) y f) l (f + 1) = _
      rw [stepR_app, if_pos ⟨h.symm, rfl⟩, ih, List.drop_succ_cons]
      rw [show f - 1 + ((cnt (some s) l + 1 : Nat) : Int) = f + cnt (some s) l by omega, show f + ((cnt (some s) l + 1 : Nat) : Int) = f + 1 + cnt (some s) l by omega]
    · rw [show cnt (some s) (y :: l) = 0 from if_neg h]
      simp
theorem foldR_none (r : List Run) : ∀ (l : List (Option Str)) (f : Int), foldR r l f = foldR r (l.drop (cnt none l)) (f + cnt none l)
  | [], f => by simp [cnt]
  | y :: l, f => by
    by_cases h : y = none
    · have ih := foldR_none r l (f + 1)
      rw [show cnt none (y :: l) = cnt none l + 1 from if_pos h]
      show foldR (stepR r y f) l (f + 1) = _
      rw [h, step_none, ih, List.drop_succ_cons]
      rw [show f + ((cnt none l + 1 : Nat) : Int) = f + 1 + cnt none l by omega]
    · rw [show cnt none (y :: l) = 0 from if_neg h]
      simp
theorem drop_cnt (x : Option Str) : ∀ l : List (Option Str), (l.drop (cnt x l)).head? ≠ some x
  | [] => by simp
  | y :: l => by
    by_cases h : y = x
    · rw [show cnt x (y :: l) = cnt x l + 1 from if_pos h, List.drop_succ_cons]
      exact drop_cnt x l
    · rw [show cnt x (y :: l) = 0 from if_neg h]
      simpa using h
theorem cnt_le (x : Option Str) : ∀ l : List (Option Str), cnt x l ≤ l.length
  | [] => Nat.le_refl _
  | y :: l => by
    unfold cnt
    have := cnt_le x l
    split
    · simp; omega
    · simp
def Apart (r : List Run) (l : List (Option Str)) (f : Int) : Prop := ∀ r' q, r = r' ++ [q] → q.2.2 ≤ f - 1 ∧ (q.2.2 = f - 1 → l.head? ≠ some (some q.1))
theorem fold_runs : ∀ (n : Nat) (l : List (Option Str)) (r : List Run) (f : Int), l.length ≤ n → Apart r l f → foldR r l f = r ++ runsF n l f
  | 0, [], r, f, _, _ => by simp [foldR, runsF]
  | 0, _ :: _, _, _, h, _ => by simp at h
  | n + 1, [], r, f, _, _ => by simp [foldR, runsF]
  | n + 1, x :: l, r, f, h, ap => by
    have hl : (l.drop (cnt x l)).length ≤ n := by simp at h ⊢; omega
    cases x with
    | none =>
      show foldR (stepR r none f) l (f + 1) = r ++ ([] ++ runsF n (l.drop (cnt none l)) (f + cnt none l + 1))
      rw [step_none, foldR_none, List.nil_append]
      have := fold_runs n (l.drop (cnt none l)) r (f + 1 + cnt none l) hl fun r' q e => by
        have := (ap r' q e).1
        exact ⟨by omega, fun z => by omega⟩
      rw [this, show f + 1 + (cnt none l : Int) = f + cnt none l + 1 by omega]
    | some s =>
      have hs : stepR r (some s) f = r ++ [(s, f, f)] := by
        rcases List.eq_nil_or_concat r with rfl | ⟨r', q, rfl⟩
        · rfl
        · rw [List.concat_eq_append, stepR_app, if_neg]
          · rfl
          · intro z
            exact (ap r' q (List.concat_eq_append ..)).2 z.2 (by rw [z.1]; rfl)
      show foldR (stepR r (some s) f) l (f + 1) = r ++ ([(s, f, f + cnt (some s) l)] ++ runsF n (l.drop (cnt (some s) l)) (f + cnt (some s) l + 1))
      rw [hs]
      have e := foldR_some s r f l (f + 1)
      rw [show f + 1 - 1 = f by omega] at e
      rw [e]
      have := fold_runs n (l.drop (cnt (some s) l)) (r ++ [(s, f, f + cnt (some s) l)]) (f + 1 + cnt (some s) l) hl fun r' q e => by
        obtain ⟨e1, e2⟩ := List.append_inj' e rfl
        cases e2
        exact ⟨by show f + (cnt (some s) l : Int) ≤ _; omega, fun _ => drop_cnt (some s) l⟩
      rw [this, List.append_assoc, show f + 1 + (cnt (some s) l : Int) = f + cnt (some s) l + 1 by omega]
end K53
set_option maxHeartbeats 4000000
namespace K53
open PySem L2 DE
def Ch : Int → List Run → Prop
  | _, [] => True
  | e, s :: l => StOk e s ∧ Ch s.2.2 l
theorem stays_loop (k : Nat) (v : Sl) : ∀ (l : List Run) (i : Nat) (e : Int) (s2 s3 : Sl), -1 ≤ e → Ch e l → ∃ e' s2' s3', forD (clK pg (k + 4)) 1000 (.many [2, 3]) b_stays_of_0 (enF i (l.map stD)) [v, .val (.int e), s2, s3] = .ok (.next [v, .val (.int e'), s2', s3'])
  | [], i, e, s2, s3, _, _ => ⟨e, s2, s3, rfl⟩
  | s :: l, i, e, s2, s3, he, h => by
    have h1 := h.1.lo
    have h2 := h.1.ab
    obtain ⟨e', s2', s3', ih⟩ := stays_loop k v l (i + 1) s.2.2 (.val (.int i)) (.val (stD s)) (by omega) h.2
    refine ⟨e', s2', s3', ?_⟩
    have hn : ¬ s.2.1 ≤ e := by omega
    have st := stay_ok k e s he h.1
    simp only [stD_eq] at st ih
    refine (th_ret _).symm.trans ?_
    rw [List.map_cons, enF]
    simp only [u_b_stays_of_0, slR_s, slR_v, slR_o, slR_b, slR_c, slX_s, slX_v, slX_o, ownI_s, ownI_o, xR_var, xR_con, xR_bin, xR_neg, xR_not, xR_one, xR_and, xR_or, xR_cmp, xR_ite, xR_idx, xR_sli, xR_lst, xR_tup, xR_call, xR_b1, xR_b2, xR_isi, xR_comp, yRet, yBl, yTmp, yB1, yB2, yNeg, yNot, yAnd, yOr, yC1, yC2, yIf, yI1, yI2, yS1, yS2, yS3, yLst, yTup, yCall, yF1, yG1, yG2, yIsi, yComp, xT_not, xT_one, xT_and, xT_or, xT_cmp, xT_val, yBo, yTn, yTa, yTo, yD1, yD2, yTv, xF_yes, xF_test, xEs_nil, xEs_cons, yE1, yE2, xAs_nil, xAs_cons, yA1, yA2, xO_none, xO_some, yO, xI_seq, xI_rng, xI_rng2, xI_enum, xI_zip, ySeq, yRng, yR1, yR2, yEnum, yZ1, yZ2, yVal, yValt, yValL, yValLt, yValLs, yValLm, yX, yXt, yAv, yAx, yAxt, yCons, xE_s, xE_v, xE_o, xL_s, xL_l, xL_t, xL_z, xL_o, xL_b, xL_c, xS_pass, xS_stuck, xS_expr, yExpr, oGo_some, xS_app, yApp, yApp2, xS_ext, yExt, yExt2, xS_clr, xS_ret, yRt, xS_retN, xS_set, ySet, xS_setT, yST, yNx, xS_setI, ySI, ySI2, ySI3, ySI4, xS_ite, yIte, xS_for, yFor, xS_whl, xSs_nil, xSs_cons, yNext, yNextr, xFo_nil, xFo_cons, yFo1, yFo2, yFo2r, xWh, yWh1, yWh2, yWh2r, xP_nil, xP_cons, yP1, yP2, yP3, eE_bin, eL_bin, eX_bin, eA_bin, eE_neg, eL_neg, eX_neg, eA_neg, eE_not, eL_not, eX_not, eA_not, eE_one, eL_one, eX_one, eA_one, eE_and, eL_and, eX_and, eA_and, eE_or, eL_or, eX_or, eA_or, eE_cmp, eL_cmp, eX_cmp, eA_cmp, eE_ite, eL_ite, eX_ite, eA_ite, eE_idx, eL_idx, eX_idx, eA_idx, eE_sli, eL_sli, eX_sli, eA_sli, eE_lst, eL_lst, eX_lst, eA_lst, eE_tup, eL_tup, eX_tup, eA_tup, eE_call, eL_call, eX_call, eA_call, eE_b1, eL_b1, eX_b1, eA_b1, eE_b2, eL_b2, eX_b2, eA_b2, eE_isi, eL_isi, eX_isi, eA_isi, eE_comp, eL_comp, eX_comp, eA_comp, eE_var, eE_con, eL_var, eL_con, eX_var, eX_con, eA_var, eA_con, bAdd, bAdds, bAddtt, bAddtc, bAddtv, bAddct, bAddcc, bAddcv, bAddvt, bAddvc, bAddvv, bSub, bMult, bDiv, bMod, bPow, cEq, cNe, cLt, cLe, cGt, cGe, cIs, cIsN, cIn, cNi, mIn, rgoV, rgoT, setIs_nil, setIs_cons, sgn_some, ixS, th_ok, th_no, of_some, runD, slN, toSl, flR, List.map_cons, List.map_nil, List.length_cons, List.length_nil, List.replicate, List.cons_append, List.nil_append, List.set_cons_zero, List.set_cons_succ, at_0, at_1, at_2, L2.atI_last, ixN_app, set_app, emp_app, toAr, Rv.int?, Rv.str?, Rv.bl?, Rv.tup?, Rv.list?, Rv.plain?, Rv.data, Rv.non?, truthD, seqD, idxD, lenD, listD, intD, maxD, minD, int2, sliceD, B1.go, B2.go, Ty.go, Ty.of, Bool.not_true, Bool.not_false, reduceIte, Option.map_some, Option.bind_some, if_true, if_false, Bool.false_eq_true, and_self, true_and, decide_true, decide_false, Int.reduceLT, Int.reduceLE, Nat.reduceAdd, Nat.reduceSub, stD_eq, st, hn, ih]
theorem stays_ok (k : Nat) (l : List Run) (h : Ch (-1) l) (hl : l.length ≤ 60) : clK pg (k + 5) "stays_of" [.val (.lst (l.map stD))] = .ok (.tmp (l.map stD)) := by
  obtain ⟨e', s2', s3', ih⟩ := stays_loop k (.val (.lst (l.map stD))) l 0 (-1) .no .no (by omega) h
  have h6 : ¬ (60 : Int) < ((l.map stD).length : Int) := by rw [List.length_map]; omega
  rw [r_stays_of]
  simp only [c_stays_of, slR_s, slR_v, slR_o, slR_b, slR_c, slX_s, slX_v, slX_o, ownI_s, ownI_o, xR_var, xR_con, xR_bin, xR_neg, xR_not, xR_one, xR_and, xR_or, xR_cmp, xR_ite, xR_idx, xR_sli, xR_lst, xR_tup, xR_call, xR_b1, xR_b2, xR_isi, xR_comp, yRet, yBl, yTmp, yB1, yB2, yNeg, yNot, yAnd, yOr, yC1, yC2, yIf, yI1, yI2, yS1, yS2, yS3, yLst, yTup, yCall, yF1, yG1, yG2, yIsi, yComp, xT_not, xT_one, xT_and, xT_or, xT_cmp, xT_val, yBo, yTn, yTa, yTo, yD1, yD2, yTv, xF_yes, xF_test, xEs_nil, xEs_cons, yE1, yE2, xAs_nil, xAs_cons, yA1, yA2, xO_none, xO_some, yO, xI_seq, xI_rng, xI_rng2, xI_enum, xI_zip, ySeq, yRng, yR1, yR2, yEnum, yZ1, yZ2, yVal, yValt, yValL, yValLt, yValLs, yValLm, yX, yXt, yAv, yAx, yAxt, yCons, xE_s, xE_v, xE_o, xL_s, xL_l, xL_t, xL_z, xL_o, xL_b, xL_c, xS_pass, xS_stuck, xS_expr, yExpr, oGo_some, xS_app, yApp, yApp2, xS_ext, yExt, yExt2, xS_clr, xS_ret, yRt, xS_retN, xS_set, ySet, xS_setT, yST, yNx, xS_setI, ySI, ySI2, ySI3, ySI4, xS_ite, yIte, xS_for, yFor, xS_whl, xSs_nil, xSs_cons, yNext, yNextr, xFo_nil, xFo_cons, yFo1, yFo2, yFo2r, xWh, yWh1, yWh2, yWh2r, xP_nil, xP_cons, yP1, yP2, yP3, eE_bin, eL_bin, eX_bin, eA_bin, eE_neg, eL_neg, eX_neg, eA_neg, eE_not, eL_not, eX_not, eA_not, eE_one, eL_one, eX_one, eA_one, eE_and, eL_and, eX_and, eA_and, eE_or, eL_or, eX_or, eA_or, eE_cmp, eL_cmp, eX_cmp, eA_cmp, eE_ite, eL_ite, eX_ite, eA_ite, eE_idx, eL_idx, eX_idx, eA_idx, eE_sli, eL_sli, eX_sli, eA_sli, eE_lst, eL_lst, eX_lst, eA_lst, eE_tup, eL_tup, eX_tup, eA_tup, eE_call, eL_call, eX_call, eA_call, eE_b1, eL_b1, eX_b1, eA_b1, eE_b2, eL_b2, eX_b2, eA_b2, eE_isi, eL_isi, eX_isi, eA_isi, eE_comp, eL_comp, eX_comp, eA_comp, eE_var, eE_con, eL_var, eL_con, eX_var, eX_con, eA_var, eA_con, bAdd, bAdds, bAddtt, bAddtc, bAddtv, bAddct, bAddcc, bAddcv, bAddvt, bAddvc, bAddvv, bSub, bMult, bDiv, bMod, bPow, cEq, cNe, cLt, cLe, cGt, cGe, cIs, cIsN, cIn, cNi, mIn, rgoV, rgoT, setIs_nil, setIs_cons, sgn_some, ixS, th_ok, th_no, of_some, runD, slN, toSl, flR, List.map_cons, List.map_nil, List.length_cons, List.length_nil, List.replicate, List.cons_append, List.nil_append, List.set_cons_zero, List.set_cons_succ, at_0, at_1, at_2, L2.atI_last, ixN_app, set_app, emp_app, toAr, Rv.int?, Rv.str?, Rv.bl?, Rv.tup?, Rv.list?, Rv.plain?, Rv.data, Rv.non?, truthD, seqD, idxD, lenD, listD, intD, maxD, minD, int2, sliceD, B1.go, B2.go, Ty.go, Ty.of, Bool.not_true, Bool.not_false, reduceIte, Option.map_some, Option.bind_some, if_true, if_false, Bool.false_eq_true, and_self, true_and, decide_true, decide_false, Int.reduceLT, Int.reduceLE, Nat.reduceAdd, Nat.reduceSub, Nat.reduceAdd, Nat.reduceSub, enumD_eq, ih, h6, decide_false]
def lD : Option Str → D
  | none => .non
  | some s => .str s
def LandOk (x : Option Str) : Prop := ∀ s, x = some s → NameOk s
theorem strOk_of {s : Str} (h : NameOk s) : PyData.strOk s = true := by
  unfold PyData.strOk
  rw [Array.all_eq_true']
  intro x hx
  have := h.lets x (by simpa using hx)
  unfold isLet at this
  simp
  omega
theorem eqL {a b : Option Str} (ha : LandOk a) (hb : LandOk b) : eqD (lD a) (lD b) = some (decide (a = b)) := by
  cases a with
  | none =>
    cases b with
    | none => exact eqD_nn
    | some b => rw [lD, lD, eqD_ns (strOk_of (hb b rfl))]; simp
  | some a =>
    cases b with
    | none => rw [lD, lD, eqD_sn (strOk_of (ha a rfl))]; simp
    | some b =>
      rw [lD, lD, eqD_str (strOk_of (ha a rfl)) (strOk_of (hb b rfl))]
      congr 1
      by_cases h : a = b
      · simp [h]
      · simp [h]
def planF (f : Int) : List (Option Str) → List D
  | [] => []
  | x :: l => .tup [.int f, lD x, .lst []] :: planF (f + 1) l
def RunsOk (r : List Run) : Prop := ∀ q ∈ r, NameOk q.1
theorem step_ok {r : List Run} {x : Option Str} {f : Int} (h : RunsOk r) (hx : LandOk x) : RunsOk (stepR r x f) ∧ (stepR r x f).length ≤ r.length + 1 := by
  have ha : ∀ r, RunsOk r → RunsOk (addR r x f) ∧ (addR r x f).length ≤ r.length + 1 := fun r h => by
    cases x with
    | none => exact ⟨h, by show r.length ≤ _; omega⟩
    | some s =>
      refine ⟨fun q hq => ?_, by simp [addR]⟩
      rcases List.mem_append.mp hq with z | z
      · exact h q z
      · rw [List.mem_singleton.mp z]
        exact hx s rfl
  rcases List.eq_nil_or_concat r with rfl | ⟨r', q, rfl⟩
  · exact ha [] h
  · rw [List.concat_eq_append] at h ⊢
    rw [stepR_app]
    split
    · refine ⟨fun z hz => ?_, by simp⟩
      rcases List.mem_append.mp hz with z1 | z1
      · exact h z (by simp [z1])
      · rw [List.mem_singleton.mp z1]
        exact h q (by simp)
    · exact ha _ h
theorem by_step (cl : Str → List Ar → R Rv) (v0 v1 s3 s4 s5 : Sl) (r : List Run) (x : Option Str) (f : Int) (hr : RunsOk r) (hx : LandOk x) (hz : r.length < 1000) :
    iSs cl 1000 b_stays_by_0 [v0, v1, .own (r.map stD), .val (.int f), .val (lD x), .val (.lst [])] = .ok (.next [v0, v1, .own ((stepR r x f).map stD), .val (.int f), .val (lD x), .val (.lst [])]) := by
  have hsz : ∀ r : List Run, r.length < 1000 → (r.map stD).length < sizeLine := fun r h => by
    rw [List.length_map]
    show r.length < 2 ^ 24
    omega
  have three : 0 + 1 + 1 + 1 ≤ sizeLine := by decide +kernel
  refine (th_ret _).symm.trans ?_
  rcases List.eq_nil_or_concat r with rfl | ⟨r', q, rfl⟩
  · cases x with
    | none => simp only [u_b_stays_by_0, slR_s, slR_v, slR_o, slR_b, slR_c, slX_s, slX_v, slX_o, ownI_s, ownI_o, xR_var, xR_con, xR_bin, xR_neg, xR_not, xR_one, xR_and, xR_or, xR_cmp, xR_ite, xR_idx, xR_sli, xR_lst, xR_tup, xR_call, xR_b1, xR_b2, xR_isi, xR_comp, yRet, yBl, yTmp, yB1, yB2, yNeg, yNot, yAnd, yOr, yC1, yC2, yIf, yI1, yI2, yS1, yS2, yS3, yLst, yTup, yCall, yF1, yG1, yG2, yIsi, yComp, xT_not, xT_one, xT_and, xT_or, xT_cmp, xT_val, yBo, yTn, yTa, yTo, yD1, yD2, yTv, xF_yes, xF_test, xEs_nil, xEs_cons, yE1, yE2, xAs_nil, xAs_cons, yA1, yA2, xO_none, xO_some, yO, xI_seq, xI_rng, xI_rng2, xI_enum, xI_zip, ySeq, yRng, yR1, yR2, yEnum, yZ1, yZ2, yVal, yValt, yValL, yValLt, yValLs, yValLm, yX, yXt, yAv, yAx, yAxt, yCons, xE_s, xE_v, xE_o, xL_s, xL_l, xL_t, xL_z, xL_o, xL_b, xL_c, xS_pass, xS_stuck, xS_expr, yExpr, oGo_some, xS_app, yApp, yApp2, xS_ext, yExt, yExt2, xS_clr, xS_ret, yRt, xS_retN, xS_set, ySet, xS_setT, yST, yNx, xS_setI, ySI, ySI2, ySI3, ySI4, xS_ite, yIte, xS_for, yFor, xS_whl, xSs_nil, xSs_cons, yNext, yNextr, xFo_nil, xFo_cons, yFo1, yFo2, yFo2r, xWh, yWh1, yWh2, yWh2r, xP_nil, xP_cons, yP1, yP2, yP3, eE_bin, eL_bin, eX_bin, eA_bin, eE_neg, eL_neg, eX_neg, eA_neg, eE_not, eL_not, eX_not, eA_not, eE_one, eL_one, eX_one, eA_one, eE_and, eL_and, eX_and, eA_and, eE_or, eL_or, eX_or, eA_or, eE_cmp, eL_cmp, eX_cmp, eA_cmp, eE_ite, eL_ite, eX_ite, eA_ite, eE_idx, eL_idx, eX_idx, eA_idx, eE_sli, eL_sli, eX_sli, eA_sli, eE_lst, eL_lst, eX_lst, eA_lst, eE_tup, eL_tup, eX_tup, eA_tup, eE_call, eL_call, eX_call, eA_call, eE_b1, eL_b1, eX_b1, eA_b1, eE_b2, eL_b2, eX_b2, eA_b2, eE_isi, eL_isi, eX_isi, eA_isi, eE_comp, eL_comp, eX_comp, eA_comp, eE_var, eE_con, eL_var, eL_con, eX_var, eX_con, eA_var, eA_con, bAdd, bAdds, bAddtt, bAddtc, bAddtv, bAddct, bAddcc, bAddcv, bAddvt, bAddvc, bAddvv, bSub, bMult, bDiv, bMod, bPow, cEq, cNe, cLt, cLe, cGt, cGe, cIs, cIsN, cIn, cNi, mIn, rgoV, rgoT, setIs_nil, setIs_cons, sgn_some, ixS, th_ok, th_no, of_some, runD, slN, toSl, flR, List.map_cons, List.map_nil, List.length_cons, List.length_nil, List.replicate, List.cons_append, List.nil_append, List.set_cons_zero, List.set_cons_succ, at_0, at_1, at_2, L2.atI_last, ixN_app, set_app, emp_app, toAr, Rv.int?, Rv.str?, Rv.bl?, Rv.tup?, Rv.list?, Rv.plain?, Rv.data, Rv.non?, truthD, seqD, idxD, lenD, listD, intD, maxD, minD, int2, sliceD, B1.go, B2.go, Ty.go, Ty.of, Bool.not_true, Bool.not_false, reduceIte, Option.map_some, Option.bind_some, if_true, if_false, Bool.false_eq_true, and_self, true_and, decide_true, decide_false, Int.reduceLT, Int.reduceLE, Nat.reduceAdd, Nat.reduceSub, lD, List.isEmpty_nil, stepR_nil, addR]
    | some s => simp only [u_b_stays_by_0, slR_s, slR_v, slR_o, slR_b, slR_c, slX_s, slX_v, slX_o, ownI_s, ownI_o, xR_var, xR_con, xR_bin, xR_neg, xR_not, xR_one, xR_and, xR_or, xR_cmp, xR_ite, xR_idx, xR_sli, xR_lst, xR_tup, xR_call, xR_b1, xR_b2, xR_isi, xR_comp, yRet, yBl, yTmp, yB1, yB2, yNeg, yNot, yAnd, yOr, yC1, yC2, yIf, yI1, yI2, yS1, yS2, yS3, yLst, yTup, yCall, yF1, yG1, yG2, yIsi, yComp, xT_not, xT_one, xT_and, xT_or, xT_cmp, xT_val, yBo, yTn, yTa, yTo, yD1, yD2, yTv, xF_yes, xF_test, xEs_nil, xEs_cons, yE1, yE2, xAs_nil, xAs_cons, yA1, yA2, xO_none, xO_some, yO, xI_seq, xI_rng, xI_rng2, xI_enum, xI_zip, ySeq, yRng, yR1, yR2, yEnum, yZ1, yZ2, yVal, yValt, yValL, yValLt, yValLs, yValLm, yX, yXt, yAv, yAx, yAxt, yCons, xE_s, xE_v, xE_o, xL_s, xL_l, xL_t, xL_z, xL_o, xL_b, xL_c, xS_pass, xS_stuck, xS_expr, yExpr, oGo_some, xS_app, yApp, yApp2, xS_ext, yExt, yExt2, xS_clr, xS_ret, yRt, xS_retN, xS_set, ySet, xS_setT, yST, yNx, xS_setI, ySI, ySI2, ySI3, ySI4, xS_ite, yIte, xS_for, yFor, xS_whl, xSs_nil, xSs_cons, yNext, yNextr, xFo_nil, xFo_cons, yFo1, yFo2, yFo2r, xWh, yWh1, yWh2, yWh2r, xP_nil, xP_cons, yP1, yP2, yP3, eE_bin, eL_bin, eX_bin, eA_bin, eE_neg, eL_neg, eX_neg, eA_neg, eE_not, eL_not, eX_not, eA_not, eE_one, eL_one, eX_one, eA_one, eE_and, eL_and, eX_and, eA_and, eE_or, eL_or, eX_or, eA_or, eE_cmp, eL_cmp, eX_cmp, eA_cmp, eE_ite, eL_ite, eX_ite, eA_ite, eE_idx, eL_idx, eX_idx, eA_idx, eE_sli, eL_sli, eX_sli, eA_sli, eE_lst, eL_lst, eX_lst, eA_lst, eE_tup, eL_tup, eX_tup, eA_tup, eE_call, eL_call, eX_call, eA_call, eE_b1, eL_b1, eX_b1, eA_b1, eE_b2, eL_b2, eX_b2, eA_b2, eE_isi, eL_isi, eX_isi, eA_isi, eE_comp, eL_comp, eX_comp, eA_comp, eE_var, eE_con, eL_var, eL_con, eX_var, eX_con, eA_var, eA_con, bAdd, bAdds, bAddtt, bAddtc, bAddtv, bAddct, bAddcc, bAddcv, bAddvt, bAddvc, bAddvv, bSub, bMult, bDiv, bMod, bPow, cEq, cNe, cLt, cLe, cGt, cGe, cIs, cIsN, cIn, cNi, mIn, rgoV, rgoT, setIs_nil, setIs_cons, sgn_some, ixS, th_ok, th_no, of_some, runD, slN, toSl, flR, List.map_cons, List.map_nil, List.length_cons, List.length_nil, List.replicate, List.cons_append, List.nil_append, List.set_cons_zero, List.set_cons_succ, at_0, at_1, at_2, L2.atI_last, ixN_app, set_app, emp_app, toAr, Rv.int?, Rv.str?, Rv.bl?, Rv.tup?, Rv.list?, Rv.plain?, Rv.data, Rv.non?, truthD, seqD, idxD, lenD, listD, intD, maxD, minD, int2, sliceD, B1.go, B2.go, Ty.go, Ty.of, Bool.not_true, Bool.not_false, reduceIte, Option.map_some, Option.bind_some, if_true, if_false, Bool.false_eq_true, and_self, true_and, decide_true, decide_false, Int.reduceLT, Int.reduceLE, Nat.reduceAdd, Nat.reduceSub, lD, List.isEmpty_nil, stepR_nil, addR, three, show (0 : Nat) < sizeLine by decide +kernel, stD]
  · rw [List.concat_eq_append] at *
    have e1 : (r' ++ [q]).map stD = r'.map stD ++ [stD q] := by simp
    have eq := eqL (a := some q.1) (b := x) (fun s e => by cases e; exact hr q (by simp)) hx
    rw [stepR_app]
    by_cases h1 : some q.1 = x
    · by_cases h2 : q.2.2 = f - 1
      · subst h1
        rw [if_pos ⟨rfl, h2⟩]
        simp only [lD, decide_true] at eq
        simp only [u_b_stays_by_0, slR_s, slR_v, slR_o, slR_b, slR_c, slX_s, slX_v, slX_o, ownI_s, ownI_o, xR_var, xR_con, xR_bin, xR_neg, xR_not, xR_one, xR_and, xR_or, xR_cmp, xR_ite, xR_idx, xR_sli, xR_lst, xR_tup, xR_call, xR_b1, xR_b2, xR_isi, xR_comp, yRet, yBl, yTmp, yB1, yB2, yNeg, yNot, yAnd, yOr, yC1, yC2, yIf, yI1, yI2, yS1, yS2, yS3, yLst, yTup, yCall, yF1, yG1, yG2, yIsi, yComp, xT_not, xT_one, xT_and, xT_or, xT_cmp, xT_val, yBo, yTn, yTa, yTo, yD1, yD2, yTv, xF_yes, xF_test, xEs_nil, xEs_cons, yE1, yE2, xAs_nil, xAs_cons, yA1, yA2, xO_none, xO_some, yO, xI_seq, xI_rng, xI_rng2, xI_enum, xI_zip, ySeq, yRng, yR1, yR2, yEnum, yZ1, yZ2, yVal, yValt, yValL, yValLt, yValLs, yValLm, yX, yXt, yAv, yAx, yAxt, yCons, xE_s, xE_v, xE_o, xL_s, xL_l, xL_t, xL_z, xL_o, xL_b, xL_c, xS_pass, xS_stuck, xS_expr, yExpr, oGo_some, xS_app, yApp, yApp2, xS_ext, yExt, yExt2, xS_clr, xS_ret, yRt, xS_retN, xS_set, ySet, xS_setT, yST, yNx, xS_setI, ySI, ySI2, ySI3, ySI4, xS_ite, yIte, xS_for, yFor, xS_whl, xSs_nil, xSs_cons, yNext, yNextr, xFo_nil, xFo_cons, yFo1, yFo2, yFo2r, xWh, yWh1, yWh2, yWh2r, xP_nil, xP_cons, yP1, yP2, yP3, eE_bin, eL_bin, eX_bin, eA_bin, eE_neg, eL_neg, eX_neg, eA_neg, eE_not, eL_not, eX_not, eA_not, eE_one, eL_one, eX_one, eA_one, eE_and, eL_and, eX_and, eA_and, eE_or, eL_or, eX_or, eA_or, eE_cmp, eL_cmp, eX_cmp, eA_cmp, eE_ite, eL_ite, eX_ite, eA_ite, eE_idx, eL_idx, eX_idx, eA_idx, eE_sli, eL_sli, eX_sli, eA_sli, eE_lst, eL_lst, eX_lst, eA_lst, eE_tup, eL_tup, eX_tup, eA_tup, eE_call, eL_call, eX_call, eA_call, eE_b1, eL_b1, eX_b1, eA_b1, eE_b2, eL_b2, eX_b2, eA_b2, eE_isi, eL_isi, eX_isi, eA_isi, eE_comp, eL_comp, eX_comp, eA_comp, eE_var, eE_con, eL_var, eL_con, eX_var, eX_con, eA_var, eA_con, bAdd, bAdds, bAddtt, bAddtc, bAddtv, bAddct, bAddcc, bAddcv, bAddvt, bAddvc, bAddvv, bSub, bMult, bDiv, bMod, bPow, cEq, cNe, cLt, cLe, cGt, cGe, cIs, cIsN, cIn, cNi, mIn, rgoV, rgoT, setIs_nil, setIs_cons, sgn_some, ixS, th_ok, th_no, of_some, runD, slN, toSl, flR, List.map_cons, List.map_nil, List.length_cons, List.length_nil, List.replicate, List.cons_append, List.nil_append, List.set_cons_zero, List.set_cons_succ, at_0, at_1, at_2, L2.atI_last, ixN_app, set_app, emp_app, toAr, Rv.int?, Rv.str?, Rv.bl?, Rv.tup?, Rv.list?, Rv.plain?, Rv.data, Rv.non?, truthD, seqD, idxD, lenD, listD, intD, maxD, minD, int2, sliceD, B1.go, B2.go, Ty.go, Ty.of, Bool.not_true, Bool.not_false, reduceIte, Option.map_some, Option.bind_some, if_true, if_false, Bool.false_eq_true, and_self, true_and, decide_true, decide_false, Int.reduceLT, Int.reduceLE, Nat.reduceAdd, Nat.reduceSub, e1, lD, stD, eq, eqD_int, h2, three, beq_self_eq_true, List.map_append]
      · subst h1
        rw [if_neg (fun z => h2 z.2)]
        have hb : (q.2.2 == f - 1) = false := by simpa using h2
        have hs := hsz _ hz
        rw [e1] at hs
        simp only [lD, decide_true] at eq
        simp only [stD] at hs
        simp only [u_b_stays_by_0, slR_s, slR_v, slR_o, slR_b, slR_c, slX_s, slX_v, slX_o, ownI_s, ownI_o, xR_var, xR_con, xR_bin, xR_neg, xR_not, xR_one, xR_and, xR_or, xR_cmp, xR_ite, xR_idx, xR_sli, xR_lst, xR_tup, xR_call, xR_b1, xR_b2, xR_isi, xR_comp, yRet, yBl, yTmp, yB1, yB2, yNeg, yNot, yAnd, yOr, yC1, yC2, yIf, yI1, yI2, yS1, yS2, yS3, yLst, yTup, yCall, yF1, yG1, yG2, yIsi, yComp, xT_not, xT_one, xT_and, xT_or, xT_cmp, xT_val, yBo, yTn, yTa, yTo, yD1, yD2, yTv, xF_yes, xF_test, xEs_nil, xEs_cons, yE1, yE2, xAs_nil, xAs_cons, yA1, yA2, xO_none, xO_some, yO, xI_seq, xI_rng, xI_rng2, xI_enum, xI_zip, ySeq, yRng, yR1, yR2, yEnum, yZ1, yZ2, yVal, yValt, yValL, yValLt, yValLs, yValLm, yX, yXt, yAv, yAx, yAxt, yCons, xE_s, xE_v, xE_o, xL_s, xL_l, xL_t, xL_z, xL_o, xL_b, xL_c, xS_pass, xS_stuck, xS_expr, yExpr, oGo_some, xS_app, yApp, yApp2, xS_ext, yExt, yExt2, xS_clr, xS_ret, yRt, xS_retN, xS_set, ySet, xS_setT, yST, yNx, xS_setI, ySI, ySI2, ySI3, ySI4, xS_ite, yIte, xS_for, yFor, xS_whl, xSs_nil, xSs_cons, yNext, yNextr, xFo_nil, xFo_cons, yFo1, yFo2, yFo2r, xWh, yWh1, yWh2, yWh2r, xP_nil, xP_cons, yP1, yP2, yP3, eE_bin, eL_bin, eX_bin, eA_bin, eE_neg, eL_neg, eX_neg, eA_neg, eE_not, eL_not, eX_not, eA_not, eE_one, eL_one, eX_one, eA_one, eE_and, eL_and, eX_and, eA_and, eE_or, eL_or, eX_or, eA_or, eE_cmp, eL_cmp, eX_cmp, eA_cmp, eE_ite, eL_ite, eX_ite, eA_ite, eE_idx, eL_idx, eX_idx, eA_idx, eE_sli, eL_sli, eX_sli, eA_sli, eE_lst, eL_lst, eX_lst, eA_lst, eE_tup, eL_tup, eX_tup, eA_tup, eE_call, eL_call, eX_call, eA_call, eE_b1, eL_b1, eX_b1, eA_b1, eE_b2, eL_b2, eX_b2, eA_b2, eE_isi, eL_isi, eX_isi, eA_isi, eE_comp, eL_comp, eX_comp, eA_comp, eE_var, eE_con, eL_var, eL_con, eX_var, eX_con, eA_var, eA_con, bAdd, bAdds, bAddtt, bAddtc, bAddtv, bAddct, bAddcc, bAddcv, bAddvt, bAddvc, bAddvv, bSub, bMult, bDiv, bMod, bPow, cEq, cNe, cLt, cLe, cGt, cGe, cIs, cIsN, cIn, cNi, mIn, rgoV, rgoT, setIs_nil, setIs_cons, sgn_some, ixS, th_ok, th_no, of_some, runD, slN, toSl, flR, List.map_cons, List.map_nil, List.length_cons, List.length_nil, List.replicate, List.cons_append, List.nil_append, List.set_cons_zero, List.set_cons_succ, at_0, at_1, at_2, L2.atI_last, ixN_app, set_app, emp_app, toAr, Rv.int?, Rv.str?, Rv.bl?, Rv.tup?, Rv.list?, Rv.plain?, Rv.data, Rv.non?, truthD, seqD, idxD, lenD, listD, intD, maxD, minD, int2, sliceD, B1.go, B2.go, Ty.go, Ty.of, Bool.not_true, Bool.not_false, reduceIte, Option.map_some, Option.bind_some, if_true, if_false, Bool.false_eq_true, and_self, true_and, decide_true, decide_false, Int.reduceLT, Int.reduceLE, Nat.reduceAdd, Nat.reduceSub, e1, lD, stD, eq, eqD_int, hb, three, hs, addR, List.map_append]
    · rw [if_neg (fun z => h1 z.1)]
      have hs := hsz _ hz
      rw [e1] at hs
      cases x with
      | none =>
        simp only [lD, h1, decide_false] at eq
        simp only [u_b_stays_by_0, slR_s, slR_v, slR_o, slR_b, slR_c, slX_s, slX_v, slX_o, ownI_s, ownI_o, xR_var, xR_con, xR_bin, xR_neg, xR_not, xR_one, xR_and, xR_or, xR_cmp, xR_ite, xR_idx, xR_sli, xR_lst, xR_tup, xR_call, xR_b1, xR_b2, xR_isi, xR_comp, yRet, yBl, yTmp, yB1, yB2, yNeg, yNot, yAnd, yOr, yC1, yC2, yIf, yI1, yI2, yS1, yS2, yS3, yLst, yTup, yCall, yF1, yG1, yG2, yIsi, yComp, xT_not, xT_one, xT_and, xT_or, xT_cmp, xT_val, yBo, yTn, yTa, yTo, yD1, yD2, yTv, xF_yes, xF_test, xEs_nil, xEs_cons, yE1, yE2, xAs_nil, xAs_cons, yA1, yA2, xO_none, xO_some, yO, xI_seq, xI_rng, xI_rng2, xI_enum, xI_zip, ySeq, yRng, yR1, yR2, yEnum, yZ1, yZ2, yVal, yValt, yValL, yValLt, yValLs, yValLm, yX, yXt, yAv, yAx, yAxt, yCons, xE_s, xE_v, xE_o, xL_s, xL_l, xL_t, xL_z, xL_o, xL_b, xL_c, xS_pass, xS_stuck, xS_expr, yExpr, oGo_some, xS_app, yApp, yApp2, xS_ext, yExt, yExt2, xS_clr, xS_ret, yRt, xS_retN, xS_set, ySet, xS_setT, yST, yNx, xS_setI, ySI, ySI2, ySI3, ySI4, xS_ite, yIte, xS_for, yFor, xS_whl, xSs_nil, xSs_cons, yNext, yNextr, xFo_nil, xFo_cons, yFo1, yFo2, yFo2r, xWh, yWh1, yWh2, yWh2r, xP_nil, xP_cons, yP1, yP2, yP3, eE_bin, eL_bin, eX_bin, eA_bin, eE_neg, eL_neg, eX_neg, eA_neg, eE_not, eL_not, eX_not, eA_not, eE_one, eL_one, eX_one, eA_one, eE_and, eL_and, eX_and, eA_and, eE_or, eL_or, eX_or, eA_or, eE_cmp, eL_cmp, eX_cmp, eA_cmp, eE_ite, eL_ite, eX_ite, eA_ite, eE_idx, eL_idx, eX_idx, eA_idx, eE_sli, eL_sli, eX_sli, eA_sli, eE_lst, eL_lst, eX_lst, eA_lst, eE_tup, eL_tup, eX_tup, eA_tup, eE_call, eL_call, eX_call, eA_call, eE_b1, eL_b1, eX_b1, eA_b1, eE_b2, eL_b2, eX_b2, eA_b2, eE_isi, eL_isi, eX_isi, eA_isi, eE_comp, eL_comp, eX_comp, eA_comp, eE_var, eE_con, eL_var, eL_con, eX_var, eX_con, eA_var, eA_con, bAdd, bAdds, bAddtt, bAddtc, bAddtv, bAddct, bAddcc, bAddcv, bAddvt, bAddvc, bAddvv, bSub, bMult, bDiv, bMod, bPow, cEq, cNe, cLt, cLe, cGt, cGe, cIs, cIsN, cIn, cNi, mIn, rgoV, rgoT, setIs_nil, setIs_cons, sgn_some, ixS, th_ok, th_no, of_some, runD, slN, toSl, flR, List.map_cons, List.map_nil, List.length_cons, List.length_nil, List.replicate, List.cons_append, List.nil_append, List.set_cons_zero, List.set_cons_succ, at_0, at_1, at_2, L2.atI_last, ixN_app, set_app, emp_app, toAr, Rv.int?, Rv.str?, Rv.bl?, Rv.tup?, Rv.list?, Rv.plain?, Rv.data, Rv.non?, truthD, seqD, idxD, lenD, listD, intD, maxD, minD, int2, sliceD, B1.go, B2.go, Ty.go, Ty.of, Bool.not_true, Bool.not_false, reduceIte, Option.map_some, Option.bind_some, if_true, if_false, Bool.false_eq_true, and_self, true_and, decide_true, decide_false, Int.reduceLT, Int.reduceLE, Nat.reduceAdd, Nat.reduceSub, e1, lD, stD, eq, addR]
      | some s =>
        simp only [lD, h1, decide_false] at eq
        simp only [stD] at hs
        simp only [u_b_stays_by_0, slR_s, slR_v, slR_o, slR_b, slR_c, slX_s, slX_v, slX_o, ownI_s, ownI_o, xR_var, xR_con, xR_bin, xR_neg, xR_not, xR_one, xR_and, xR_or, xR_cmp, xR_ite, xR_idx, xR_sli, xR_lst, xR_tup, xR_call, xR_b1, xR_b2, xR_isi, xR_comp, yRet, yBl, yTmp, yB1, yB2, yNeg, yNot, yAnd, yOr, yC1, yC2, yIf, yI1, yI2, yS1, yS2, yS3, yLst, yTup, yCall, yF1, yG1, yG2, yIsi, yComp, xT_not, xT_one, xT_and, xT_or, xT_cmp, xT_val, yBo, yTn, yTa, yTo, yD1, yD2, yTv, xF_yes, xF_test, xEs_nil, xEs_cons, yE1, yE2, xAs_nil, xAs_cons, yA1, yA2, xO_none, xO_some, yO, xI_seq, xI_rng, xI_rng2, xI_enum, xI_zip, ySeq, yRng, yR1, yR2, yEnum, yZ1, yZ2, yVal, yValt, yValL, yValLt, yValLs, yValLm, yX, yXt, yAv, yAx, yAxt, yCons, xE_s, xE_v, xE_o, xL_s, xL_l, xL_t, xL_z, xL_o, xL_b, xL_c, xS_pass, xS_stuck, xS_expr, yExpr, oGo_some, xS_app, yApp, yApp2, xS_ext, yExt, yExt2, xS_clr, xS_ret, yRt, xS_retN, xS_set, ySet, xS_setT, yST, yNx, xS_setI, ySI, ySI2, ySI3, ySI4, xS_ite, yIte, xS_for, yFor, xS_whl, xSs_nil, xSs_cons, yNext, yNextr, xFo_nil, xFo_cons, yFo1, yFo2, yFo2r, xWh, yWh1, yWh2, yWh2r, xP_nil, xP_cons, yP1, yP2, yP3, eE_bin, eL_bin, eX_bin, eA_bin, eE_neg, eL_neg, eX_neg, eA_neg, eE_not, eL_not, eX_not, eA_not, eE_one, eL_one, eX_one, eA_one, eE_and, eL_and, eX_and, eA_and, eE_or, eL_or, eX_or, eA_or, eE_cmp, eL_cmp, eX_cmp, eA_cmp, eE_ite, eL_ite, eX_ite, eA_ite, eE_idx, eL_idx, eX_idx, eA_idx, eE_sli, eL_sli, eX_sli, eA_sli, eE_lst, eL_lst, eX_lst, eA_lst, eE_tup, eL_tup, eX_tup, eA_tup, eE_call, eL_call, eX_call, eA_call, eE_b1, eL_b1, eX_b1, eA_b1, eE_b2, eL_b2, eX_b2, eA_b2, eE_isi, eL_isi, eX_isi, eA_isi, eE_comp, eL_comp, eX_comp, eA_comp, eE_var, eE_con, eL_var, eL_con, eX_var, eX_con, eA_var, eA_con, bAdd, bAdds, bAddtt, bAddtc, bAddtv, bAddct, bAddcc, bAddcv, bAddvt, bAddvc, bAddvv, bSub, bMult, bDiv, bMod, bPow, cEq, cNe, cLt, cLe, cGt, cGe, cIs, cIsN, cIn, cNi, mIn, rgoV, rgoT, setIs_nil, setIs_cons, sgn_some, ixS, th_ok, th_no, of_some, runD, slN, toSl, flR, List.map_cons, List.map_nil, List.length_cons, List.length_nil, List.replicate, List.cons_append, List.nil_append, List.set_cons_zero, List.set_cons_succ, at_0, at_1, at_2, L2.atI_last, ixN_app, set_app, emp_app, toAr, Rv.int?, Rv.str?, Rv.bl?, Rv.tup?, Rv.list?, Rv.plain?, Rv.data, Rv.non?, truthD, seqD, idxD, lenD, listD, intD, maxD, minD, int2, sliceD, B1.go, B2.go, Ty.go, Ty.of, Bool.not_true, Bool.not_false, reduceIte, Option.map_some, Option.bind_some, if_true, if_false, Bool.false_eq_true, and_self, true_and, decide_true, decide_false, Int.reduceLT, Int.reduceLE, Nat.reduceAdd, Nat.reduceSub, e1, lD, stD, eq, three, hs, addR, List.map_append]
theorem by_loop (cl : Str → List Ar → R Rv) (v0 v1 : Sl) : ∀ (l : List (Option Str)) (r : List Run) (f : Int) (s3 s4 s5 : Sl), RunsOk r → (∀ x ∈ l, LandOk x) → r.length + l.length < 1000 →
    ∃ s3' s4' s5', forD cl 1000 (.many [3, 4, 5]) b_stays_by_0 (planF f l) [v0, v1, .own (r.map stD), s3, s4, s5] = .ok (.next [v0, v1, .own ((foldR r l f).map stD), s3', s4', s5'])
  | [], r, f, s3, s4, s5, _, _, _ => ⟨s3, s4, s5, rfl⟩
  | x :: l, r, f, s3, s4, s5, hr, hx, hl => by
    rw [List.length_cons] at hl
    obtain ⟨h1, h2⟩ := step_ok (f := f) hr (hx x (by simp))
    obtain ⟨s3', s4', s5', ih⟩ := by_loop cl v0 v1 l (stepR r x f) (f + 1) (.val (.int f)) (.val (lD x)) (.val (.lst [])) h1 (fun y hy => hx y (by simp [hy])) (by omega)
    refine ⟨s3', s4', s5', ?_⟩
    refine (th_ret _).symm.trans ?_
    rw [planF]
    simp only [slR_s, slR_v, slR_o, slR_b, slR_c, slX_s, slX_v, slX_o, ownI_s, ownI_o, xR_var, xR_con, xR_bin, xR_neg, xR_not, xR_one, xR_and, xR_or, xR_cmp, xR_ite, xR_idx, xR_sli, xR_lst, xR_tup, xR_call, xR_b1, xR_b2, xR_isi, xR_comp, yRet, yBl, yTmp, yB1, yB2, yNeg, yNot, yAnd, yOr, yC1, yC2, yIf, yI1, yI2, yS1, yS2, yS3, yLst, yTup, yCall, yF1, yG1, yG2, yIsi, yComp, xT_not, xT_one, xT_and, xT_or, xT_cmp, xT_val, yBo, yTn, yTa, yTo, yD1, yD2, yTv, xF_yes, xF_test, xEs_nil, xEs_cons, yE1, yE2, xAs_nil, xAs_cons, yA1, yA2, xO_none, xO_some, yO, xI_seq, xI_rng, xI_rng2, xI_enum, xI_zip, ySeq, yRng, yR1, yR2, yEnum, yZ1, yZ2, yVal, yValt, yValL, yValLt, yValLs, yValLm, yX, yXt, yAv, yAx, yAxt, yCons, xE_s, xE_v, xE_o, xL_s, xL_l, xL_t, xL_z, xL_o, xL_b, xL_c, xS_pass, xS_stuck, xS_expr, yExpr, oGo_some, xS_app, yApp, yApp2, xS_ext, yExt, yExt2, xS_clr, xS_ret, yRt, xS_retN, xS_set, ySet, xS_setT, yST, yNx, xS_setI, ySI, ySI2, ySI3, ySI4, xS_ite, yIte, xS_for, yFor, xS_whl, xSs_nil, xSs_cons, yNext, yNextr, xFo_nil, xFo_cons, yFo1, yFo2, yFo2r, xWh, yWh1, yWh2, yWh2r, xP_nil, xP_cons, yP1, yP2, yP3, eE_bin, eL_bin, eX_bin, eA_bin, eE_neg, eL_neg, eX_neg, eA_neg, eE_not, eL_not, eX_not, eA_not, eE_one, eL_one, eX_one, eA_one, eE_and, eL_and, eX_and, eA_and, eE_or, eL_or, eX_or, eA_or, eE_cmp, eL_cmp, eX_cmp, eA_cmp, eE_ite, eL_ite, eX_ite, eA_ite, eE_idx, eL_idx, eX_idx, eA_idx, eE_sli, eL_sli, eX_sli, eA_sli, eE_lst, eL_lst, eX_lst, eA_lst, eE_tup, eL_tup, eX_tup, eA_tup, eE_call, eL_call, eX_call, eA_call, eE_b1, eL_b1, eX_b1, eA_b1, eE_b2, eL_b2, eX_b2, eA_b2, eE_isi, eL_isi, eX_isi, eA_isi, eE_comp, eL_comp, eX_comp, eA_comp, eE_var, eE_con, eL_var, eL_con, eX_var, eX_con, eA_var, eA_con, bAdd, bAdds, bAddtt, bAddtc, bAddtv, bAddct, bAddcc, bAddcv, bAddvt, bAddvc, bAddvv, bSub, bMult, bDiv, bMod, bPow, cEq, cNe, cLt, cLe, cGt, cGe, cIs, cIsN, cIn, cNi, mIn, rgoV, rgoT, setIs_nil, setIs_cons, sgn_some, ixS, th_ok, th_no, of_some, runD, slN, toSl, flR, List.map_cons, List.map_nil, List.length_cons, List.length_nil, List.replicate, List.cons_append, List.nil_append, List.set_cons_zero, List.set_cons_succ, at_0, at_1, at_2, L2.atI_last, ixN_app, set_app, emp_app, toAr, Rv.int?, Rv.str?, Rv.bl?, Rv.tup?, Rv.list?, Rv.plain?, Rv.data, Rv.non?, truthD, seqD, idxD, lenD, listD, intD, maxD, minD, int2, sliceD, B1.go, B2.go, Ty.go, Ty.of, Bool.not_true, Bool.not_false, reduceIte, Option.map_some, Option.bind_some, if_true, if_false, Bool.false_eq_true, and_self, true_and, decide_true, decide_false, Int.reduceLT, Int.reduceLE, Nat.reduceAdd, Nat.reduceSub, by_step cl v0 v1 s3 s4 s5 r x f hr (hx x (by simp)) (by omega), ih, foldR]
theorem by_ok (k : Nat) (l : List Run) (p : List (Option Str)) (f : Int) (h : Ch (-1) l) (hl : l.length ≤ 60) (hx : ∀ x ∈ p, LandOk x) (hp : p.length < 1000) (hs : l.length + (foldR [] p f).length ≤ 5000) : clK pg (k + 6) "stays_by" [.val (.lst (l.map stD)), .val (.lst (planF f p))] = .ok (.tmp (l.map stD ++ (foldR [] p f).map stD)) := by
  obtain ⟨s3', s4', s5', ih⟩ := by_loop (clK pg (k + 5)) (.val (.lst (l.map stD))) (.val (.lst (planF f p))) p [] f .no .no .no (fun q hq => by cases hq) hx (by simpa using hp)
  rw [List.map_nil] at ih
  have hz : (l.map stD).length + ((foldR [] p f).map stD).length ≤ sizeLine := by
    rw [List.length_map, List.length_map]
    show _ ≤ 2 ^ 24
    omega
  rw [r_stays_by]
  simp only [c_stays_by, slR_s, slR_v, slR_o, slR_b, slR_c, slX_s, slX_v, slX_o, ownI_s, ownI_o, xR_var, xR_con, xR_bin, xR_neg, xR_not, xR_one, xR_and, xR_or, xR_cmp, xR_ite, xR_idx, xR_sli, xR_lst, xR_tup, xR_call, xR_b1, xR_b2, xR_isi, xR_comp, yRet, yBl, yTmp, yB1, yB2, yNeg, yNot, yAnd, yOr, yC1, yC2, yIf, yI1, yI2, yS1, yS2, yS3, yLst, yTup, yCall, yF1, yG1, yG2, yIsi, yComp, xT_not, xT_one, xT_and, xT_or, xT_cmp, xT_val, yBo, yTn, yTa, yTo, yD1, yD2, yTv, xF_yes, xF_test, xEs_nil, xEs_cons, yE1, yE2, xAs_nil, xAs_cons, yA1, yA2, xO_none, xO_some, yO, xI_seq, xI_rng, xI_rng2, xI_enum, xI_zip, ySeq, yRng, yR1, yR2, yEnum, yZ1, yZ2, yVal, yValt, yValL, yValLt, yValLs, yValLm, yX, yXt, yAv, yAx, yAxt, yCons, xE_s, xE_v, xE_o, xL_s, xL_l, xL_t, xL_z, xL_o, xL_b, xL_c, xS_pass, xS_stuck, xS_expr, yExpr, oGo_some, xS_app, yApp, yApp2, xS_ext, yExt, yExt2, xS_clr, xS_ret, yRt, xS_retN, xS_set, ySet, xS_setT, yST, yNx, xS_setI, ySI, ySI2, ySI3, ySI4, xS_ite, yIte, xS_for, yFor, xS_whl, xSs_nil, xSs_cons, yNext, yNextr, xFo_nil, xFo_cons, yFo1, yFo2, yFo2r, xWh, yWh1, yWh2, yWh2r, xP_nil, xP_cons, yP1, yP2, yP3, eE_bin, eL_bin, eX_bin, eA_bin, eE_neg, eL_neg, eX_neg, eA_neg, eE_not, eL_not, eX_not, eA_not, eE_one, eL_one, eX_one, eA_one, eE_and, eL_and, eX_and, eA_and, eE_or, eL_or, eX_or, eA_or, eE_cmp, eL_cmp, eX_cmp, eA_cmp, eE_ite, eL_ite, eX_ite, eA_ite, eE_idx, eL_idx, eX_idx, eA_idx, eE_sli, eL_sli, eX_sli, eA_sli, eE_lst, eL_lst, eX_lst, eA_lst, eE_tup, eL_tup, eX_tup, eA_tup, eE_call, eL_call, eX_call, eA_call, eE_b1, eL_b1, eX_b1, eA_b1, eE_b2, eL_b2, eX_b2, eA_b2, eE_isi, eL_isi, eX_isi, eA_isi, eE_comp, eL_comp, eX_comp, eA_comp, eE_var, eE_con, eL_var, eL_con, eX_var, eX_con, eA_var, eA_con, bAdd, bAdds, bAddtt, bAddtc, bAddtv, bAddct, bAddcc, bAddcv, bAddvt, bAddvc, bAddvv, bSub, bMult, bDiv, bMod, bPow, cEq, cNe, cLt, cLe, cGt, cGe, cIs, cIsN, cIn, cNi, mIn, rgoV, rgoT, setIs_nil, setIs_cons, sgn_some, ixS, th_ok, th_no, of_some, runD, slN, toSl, flR, List.map_cons, List.map_nil, List.length_cons, List.length_nil, List.replicate, List.cons_append, List.nil_append, List.set_cons_zero, List.set_cons_succ, at_0, at_1, at_2, L2.atI_last, ixN_app, set_app, emp_app, toAr, Rv.int?, Rv.str?, Rv.bl?, Rv.tup?, Rv.list?, Rv.plain?, Rv.data, Rv.non?, truthD, seqD, idxD, lenD, listD, intD, maxD, minD, int2, sliceD, B1.go, B2.go, Ty.go, Ty.of, Bool.not_true, Bool.not_false, reduceIte, Option.map_some, Option.bind_some, if_true, if_false, Bool.false_eq_true, and_self, true_and, decide_true, decide_false, Int.reduceLT, Int.reduceLE, Nat.reduceAdd, Nat.reduceSub, Nat.reduceAdd, Nat.reduceSub, ih, stays_ok k l h hl, hz, show (0 : Nat) ≤ sizeLine by decide +kernel]
end K53
set_option maxHeartbeats 4000000
namespace K53
open PySem L2 DE
theorem mulB_r {i j : Int} (h1 : -(2 ^ 64) < j) (h2 : j < 2 ^ 64) : mulB i j = true := by
  unfold mulB
  rw [decide_eq_true h1, decide_eq_true h2]
  simp
theorem mulB_l {i j : Int} (h1 : -(2 ^ 64) < i) (h2 : i < 2 ^ 64) : mulB i j = true := by
  unfold mulB
  rw [decide_eq_true h1, decide_eq_true h2]
  simp
def cellAt (ns : List Int) (i : Nat) : Int := ns.getD i 0
theorem cell_ok (k : Nat) (ns : List Int) (i : Nat) : clK pg (k + 1) "_law_cell_at" [.scr (ns.map D.int), .val (.int (i : Int))] = .ok (.val (.int (cellAt ns i))) := by
  rw [r__law_cell_at]
  by_cases h : i < ns.length
  · have h1 : (i : Int) < ((ns.map D.int).length : Int) := by rw [List.length_map]; omega
    have h2 : atI (ns.map D.int) (i : Int) = some (.int (cellAt ns i)) := at_n (by simp [h, cellAt])
    simp only [c__law_cell_at, slR_s, slR_v, slR_o, slR_b, slR_c, slX_s, slX_v, slX_o, ownI_s, ownI_o, xR_var, xR_con, xR_bin, xR_neg, xR_not, xR_one, xR_and, xR_or, xR_cmp, xR_ite, xR_idx, xR_sli, xR_lst, xR_tup, xR_call, xR_b1, xR_b2, xR_isi, xR_comp, yRet, yBl, yTmp, yB1, yB2, yNeg, yNot, yAnd, yOr, yC1, yC2, yIf, yI1, yI2, yS1, yS2, yS3, yLst, yTup, yCall, yF1, yG1, yG2, yIsi, yComp, xT_not, xT_one, xT_and, xT_or, xT_cmp, xT_val, yBo, yTn, yTa, yTo, yD1, yD2, yTv, xF_yes, xF_test, xEs_nil, xEs_cons, yE1, yE2, xAs_nil, xAs_cons, yA1, yA2, xO_none, xO_some, yO, xI_seq, xI_rng, xI_rng2, xI_enum, xI_zip, ySeq, yRng, yR1, yR2, yEnum, yZ1, yZ2, yVal, yValt, yValL, yValLt, yValLs, yValLm, yX, yXt, yAv, yAx, yAxt, yCons, xE_s, xE_v, xE_o, xL_s, xL_l, xL_t, xL_z, xL_o, xL_b, xL_c, xS_pass, xS_stuck, xS_expr, yExpr, oGo_some, xS_app, yApp, yApp2, xS_ext, yExt, yExt2, xS_clr, xS_ret, yRt, xS_retN, xS_set, ySet, xS_setT, yST, yNx, xS_setI, ySI, ySI2, ySI3, ySI4, xS_ite, yIte, xS_for, yFor, xS_whl, xSs_nil, xSs_cons, yNext, yNextr, xFo_nil, xFo_cons, yFo1, yFo2, yFo2r, xWh, yWh1, yWh2, yWh2r, xP_nil, xP_cons, yP1, yP2, yP3, eE_bin, eL_bin, eX_bin, eA_bin, eE_neg, eL_neg, eX_neg, eA_neg, eE_not, eL_not, eX_not, eA_not, eE_one, eL_one, eX_one, eA_one, eE_and, eL_and, eX_and, eA_and, eE_or, eL_or, eX_or, eA_or, eE_cmp, eL_cmp, eX_cmp, eA_cmp, eE_ite, eL_ite, eX_ite, eA_ite, eE_idx, eL_idx, eX_idx, eA_idx, eE_sli, eL_sli, eX_sli, eA_sli, eE_lst, eL_lst, eX_lst, eA_lst, eE_tup, eL_tup, eX_tup, eA_tup, eE_call, eL_call, eX_call, eA_call, eE_b1, eL_b1, eX_b1, eA_b1, eE_b2, eL_b2, eX_b2, eA_b2, eE_isi, eL_isi, eX_isi, eA_isi, eE_comp, eL_comp, eX_comp, eA_comp, eE_var, eE_con, eL_var, eL_con, eX_var, eX_con, eA_var, eA_con, bAdd, bAdds, bAddtt, bAddtc, bAddtv, bAddct, bAddcc, bAddcv, bAddvt, bAddvc, bAddvv, bSub, bMult, bDiv, bMod, bPow, cEq, cNe, cLt, cLe, cGt, cGe, cIs, cIsN, cIn, cNi, mIn, rgoV, rgoT, setIs_nil, setIs_cons, sgn_some, ixS, th_ok, th_no, of_some, runD, slN, toSl, flR, List.map_cons, List.map_nil, List.length_cons, List.length_nil, List.replicate, List.cons_append, List.nil_append, List.set_cons_zero, List.set_cons_succ, at_0, at_1, at_2, L2.atI_last, ixN_app, set_app, emp_app, toAr, Rv.int?, Rv.str?, Rv.bl?, Rv.tup?, Rv.list?, Rv.plain?, Rv.data, Rv.non?, truthD, seqD, idxD, lenD, listD, intD, maxD, minD, int2, sliceD, B1.go, B2.go, Ty.go, Ty.of, Bool.not_true, Bool.not_false, reduceIte, Option.map_some, Option.bind_some, if_true, if_false, Bool.false_eq_true, and_self, true_and, decide_true, decide_false, Int.reduceLT, Int.reduceLE, Nat.reduceAdd, Nat.reduceSub, Nat.reduceAdd, Nat.reduceSub, h1, h2, decide_true]
  · have h1 : ¬ (i : Int) < ((ns.map D.int).length : Int) := by rw [List.length_map]; omega
    have h2 : cellAt ns i = 0 := by simp [cellAt, h]
    simp only [c__law_cell_at, slR_s, slR_v, slR_o, slR_b, slR_c, slX_s, slX_v, slX_o, ownI_s, ownI_o, xR_var, xR_con, xR_bin, xR_neg, xR_not, xR_one, xR_and, xR_or, xR_cmp, xR_ite, xR_idx, xR_sli, xR_lst, xR_tup, xR_call, xR_b1, xR_b2, xR_isi, xR_comp, yRet, yBl, yTmp, yB1, yB2, yNeg, yNot, yAnd, yOr, yC1, yC2, yIf, yI1, yI2, yS1, yS2, yS3, yLst, yTup, yCall, yF1, yG1, yG2, yIsi, yComp, xT_not, xT_one, xT_and, xT_or, xT_cmp, xT_val, yBo, yTn, yTa, yTo, yD1, yD2, yTv, xF_yes, xF_test, xEs_nil, xEs_cons, yE1, yE2, xAs_nil, xAs_cons, yA1, yA2, xO_none, xO_some, yO, xI_seq, xI_rng, xI_rng2, xI_enum, xI_zip, ySeq, yRng, yR1, yR2, yEnum, yZ1, yZ2, yVal, yValt, yValL, yValLt, yValLs, yValLm, yX, yXt, yAv, yAx, yAxt, yCons, xE_s, xE_v, xE_o, xL_s, xL_l, xL_t, xL_z, xL_o, xL_b, xL_c, xS_pass, xS_stuck, xS_expr, yExpr, oGo_some, xS_app, yApp, yApp2, xS_ext, yExt, yExt2, xS_clr, xS_ret, yRt, xS_retN, xS_set, ySet, xS_setT, yST, yNx, xS_setI, ySI, ySI2, ySI3, ySI4, xS_ite, yIte, xS_for, yFor, xS_whl, xSs_nil, xSs_cons, yNext, yNextr, xFo_nil, xFo_cons, yFo1, yFo2, yFo2r, xWh, yWh1, yWh2, yWh2r, xP_nil, xP_cons, yP1, yP2, yP3, eE_bin, eL_bin, eX_bin, eA_bin, eE_neg, eL_neg, eX_neg, eA_neg, eE_not, eL_not, eX_not, eA_not, eE_one, eL_one, eX_one, eA_one, eE_and, eL_and, eX_and, eA_and, eE_or, eL_or, eX_or, eA_or, eE_cmp, eL_cmp, eX_cmp, eA_cmp, eE_ite, eL_ite, eX_ite, eA_ite, eE_idx, eL_idx, eX_idx, eA_idx, eE_sli, eL_sli, eX_sli, eA_sli, eE_lst, eL_lst, eX_lst, eA_lst, eE_tup, eL_tup, eX_tup, eA_tup, eE_call, eL_call, eX_call, eA_call, eE_b1, eL_b1, eX_b1, eA_b1, eE_b2, eL_b2, eX_b2, eA_b2, eE_isi, eL_isi, eX_isi, eA_isi, eE_comp, eL_comp, eX_comp, eA_comp, eE_var, eE_con, eL_var, eL_con, eX_var, eX_con, eA_var, eA_con, bAdd, bAdds, bAddtt, bAddtc, bAddtv, bAddct, bAddcc, bAddcv, bAddvt, bAddvc, bAddvv, bSub, bMult, bDiv, bMod, bPow, cEq, cNe, cLt, cLe, cGt, cGe, cIs, cIsN, cIn, cNi, mIn, rgoV, rgoT, setIs_nil, setIs_cons, sgn_some, ixS, th_ok, th_no, of_some, runD, slN, toSl, flR, List.map_cons, List.map_nil, List.length_cons, List.length_nil, List.replicate, List.cons_append, List.nil_append, List.set_cons_zero, List.set_cons_succ, at_0, at_1, at_2, L2.atI_last, ixN_app, set_app, emp_app, toAr, Rv.int?, Rv.str?, Rv.bl?, Rv.tup?, Rv.list?, Rv.plain?, Rv.data, Rv.non?, truthD, seqD, idxD, lenD, listD, intD, maxD, minD, int2, sliceD, B1.go, B2.go, Ty.go, Ty.of, Bool.not_true, Bool.not_false, reduceIte, Option.map_some, Option.bind_some, if_true, if_false, Bool.false_eq_true, and_self, true_and, decide_true, decide_false, Int.reduceLT, Int.reduceLE, Nat.reduceAdd, Nat.reduceSub, Nat.reduceAdd, Nat.reduceSub, h1, h2, decide_false]
theorem let_at (i : Int) (h0 : 0 ≤ i) (h1 : i < 26) : ∃ c, atI (Str.cps "abcdefghijklmnopqrstuvwxyz").toList i = some c ∧ isLet c := by
  have key : ∀ j : Fin 26, atI (Str.cps "abcdefghijklmnopqrstuvwxyz").toList (j.val : Int) = some (97 + j.val) := by decide +kernel
  obtain ⟨j, rfl⟩ := Int.eq_ofNat_of_zero_le h0
  exact ⟨_, key ⟨j, by omega⟩, by unfold isLet; simp; omega⟩
theorem app_size (z : Str) (c : Nat) : (z ++ (⟨#[c]⟩ : Str)).cps.size = z.cps.size + 1 := by
  show (z.cps ++ #[c]).size = _
  simp
theorem app_list (z : Str) (c : Nat) : (z ++ (⟨#[c]⟩ : Str)).cps.toList = z.cps.toList ++ [c] := by
  show (z.cps ++ #[c]).toList = _
  simp
theorem lands_step (cl : Str → List Ar → R Rv) (v1 v3 v5 s9 : Sl) (cell at' k : Int) (j : Nat) (z : Str) (hj : j < 8) (hz : z.cps.size < 8) :
    ∃ c s9', isLet c ∧ iSs cl 1000 b__law_lands_0 [.val (.int cell), v1, .val (.str "abcdefghijklmnopqrstuvwxyz"), v3, .val (.int at'), v5, .val (.int k), .val (.str z), .val (.int j), s9] = .ok (.next [.val (.int cell), v1, .val (.str "abcdefghijklmnopqrstuvwxyz"), v3, .val (.int at'), v5, .val (.int k), .val (.str (z ++ (⟨#[c]⟩ : Str))), .val (.int j), s9']) := by
  have m1 : mulB 5 (j : Int) = true := mulB_l (by decide) (by decide)
  have m2 : mulB (5 * (j : Int)) (j : Int) = true := mulB_r (by omega) (by omega)
  have m3 : mulB 3 k = true := mulB_l (by decide) (by decide)
  have m4 : mulB (3 * k) (if ((j : Int) == at') = true then 1 else 0) = true := mulB_r (by split <;> decide) (by split <;> decide)
  obtain ⟨c, h1, h2⟩ := let_at ((cell / 64 + 5 * j * j + 3 * k * (if ((j : Int) == at') = true then 1 else 0)) % 26) (Int.emod_nonneg _ (by decide)) (Int.emod_lt_of_pos _ (by decide))
  have hl : z.length + (⟨#[c]⟩ : Str).length ≤ sizeLine := by
    show z.cps.size + 1 ≤ 2 ^ 24
    omega
  have h26 : ("abcdefghijklmnopqrstuvwxyz" : Str).length ≤ sizeLine := by decide +kernel
  refine ⟨c, .val (.int (cell / 64 + 5 * j * j + 3 * k * (if ((j : Int) == at') = true then 1 else 0))), h2, ?_⟩
  refine (th_ret _).symm.trans ?_
  simp only [u_b__law_lands_0, slR_s, slR_v, slR_o, slR_b, slR_c, slX_s, slX_v, slX_o, ownI_s, ownI_o, xR_var, xR_con, xR_bin, xR_neg, xR_not, xR_one, xR_and, xR_or, xR_cmp, xR_ite, xR_idx, xR_sli, xR_lst, xR_tup, xR_call, xR_b1, xR_b2, xR_isi, xR_comp, yRet, yBl, yTmp, yB1, yB2, yNeg, yNot, yAnd, yOr, yC1, yC2, yIf, yI1, yI2, yS1, yS2, yS3, yLst, yTup, yCall, yF1, yG1, yG2, yIsi, yComp, xT_not, xT_one, xT_and, xT_or, xT_cmp, xT_val, yBo, yTn, yTa, yTo, yD1, yD2, yTv, xF_yes, xF_test, xEs_nil, xEs_cons, yE1, yE2, xAs_nil, xAs_cons, yA1, yA2, xO_none, xO_some, yO, xI_seq, xI_rng, xI_rng2, xI_enum, xI_zip, ySeq, yRng, yR1, yR2, yEnum, yZ1, yZ2, yVal, yValt, yValL, yValLt, yValLs, yValLm, yX, yXt, yAv, yAx, yAxt, yCons, xE_s, xE_v, xE_o, xL_s, xL_l, xL_t, xL_z, xL_o, xL_b, xL_c, xS_pass, xS_stuck, xS_expr, yExpr, oGo_some, xS_app, yApp, yApp2, xS_ext, yExt, yExt2, xS_clr, xS_ret, yRt, xS_retN, xS_set, ySet, xS_setT, yST, yNx, xS_setI, ySI, ySI2, ySI3, ySI4, xS_ite, yIte, xS_for, yFor, xS_whl, xSs_nil, xSs_cons, yNext, yNextr, xFo_nil, xFo_cons, yFo1, yFo2, yFo2r, xWh, yWh1, yWh2, yWh2r, xP_nil, xP_cons, yP1, yP2, yP3, eE_bin, eL_bin, eX_bin, eA_bin, eE_neg, eL_neg, eX_neg, eA_neg, eE_not, eL_not, eX_not, eA_not, eE_one, eL_one, eX_one, eA_one, eE_and, eL_and, eX_and, eA_and, eE_or, eL_or, eX_or, eA_or, eE_cmp, eL_cmp, eX_cmp, eA_cmp, eE_ite, eL_ite, eX_ite, eA_ite, eE_idx, eL_idx, eX_idx, eA_idx, eE_sli, eL_sli, eX_sli, eA_sli, eE_lst, eL_lst, eX_lst, eA_lst, eE_tup, eL_tup, eX_tup, eA_tup, eE_call, eL_call, eX_call, eA_call, eE_b1, eL_b1, eX_b1, eA_b1, eE_b2, eL_b2, eX_b2, eA_b2, eE_isi, eL_isi, eX_isi, eA_isi, eE_comp, eL_comp, eX_comp, eA_comp, eE_var, eE_con, eL_var, eL_con, eX_var, eX_con, eA_var, eA_con, bAdd, bAdds, bAddtt, bAddtc, bAddtv, bAddct, bAddcc, bAddcv, bAddvt, bAddvc, bAddvv, bSub, bMult, bDiv, bMod, bPow, cEq, cNe, cLt, cLe, cGt, cGe, cIs, cIsN, cIn, cNi, mIn, rgoV, rgoT, setIs_nil, setIs_cons, sgn_some, ixS, th_ok, th_no, of_some, runD, slN, toSl, flR, List.map_cons, List.map_nil, List.length_cons, List.length_nil, List.replicate, List.cons_append, List.nil_append, List.set_cons_zero, List.set_cons_succ, at_0, at_1, at_2, L2.atI_last, ixN_app, set_app, emp_app, toAr, Rv.int?, Rv.str?, Rv.bl?, Rv.tup?, Rv.list?, Rv.plain?, Rv.data, Rv.non?, truthD, seqD, idxD, lenD, listD, intD, maxD, minD, int2, sliceD, B1.go, B2.go, Ty.go, Ty.of, Bool.not_true, Bool.not_false, reduceIte, Option.map_some, Option.bind_some, if_true, if_false, Bool.false_eq_true, and_self, true_and, decide_true, decide_false, Int.reduceLT, Int.reduceLE, Nat.reduceAdd, Nat.reduceSub, m1, m2, m3, m4, eqD_int, h1, hl, h26]
theorem lands_in (cl : Str → List Ar → R Rv) (v1 v3 v5 : Sl) (cell at' k : Int) (n : Nat) : ∀ (j : Nat) (z : Str) (s8 s9 : Sl), j + n ≤ 8 → z.cps.size = j → (∀ c ∈ z.cps.toList, isLet c) →
    ∃ z' s8' s9', forD cl 1000 (.one 8) b__law_lands_0 (rgF (j : Int) n) [.val (.int cell), v1, .val (.str "abcdefghijklmnopqrstuvwxyz"), v3, .val (.int at'), v5, .val (.int k), .val (.str z), s8, s9] = .ok (.next [.val (.int cell), v1, .val (.str "abcdefghijklmnopqrstuvwxyz"), v3, .val (.int at'), v5, .val (.int k), .val (.str z'), s8', s9']) ∧ z'.cps.size = j + n ∧ ∀ c ∈ z'.cps.toList, isLet c := by
  induction n with
  | zero => exact fun j z s8 s9 _ hz hc => ⟨z, s8, s9, rfl, hz, hc⟩
  | succ n ih =>
    intro j z s8 s9 hn hz hc
    obtain ⟨c, t9, h2, st⟩ := lands_step cl v1 v3 v5 s9 cell at' k j z (by omega) (by omega)
    obtain ⟨z', s8', s9', ih, e1, e2⟩ := ih (j + 1) (z ++ (⟨#[c]⟩ : Str)) (.val (.int j)) t9 (by omega) (by rw [app_size, hz]) (fun x hx => by
      rw [app_list] at hx
      rcases List.mem_append.mp hx with q | q
      · exact hc x q
      · rw [List.mem_singleton.mp q]; exact h2)
    refine ⟨z', s8', s9', ?_, by omega, e2⟩
    rw [show ((j + 1 : Nat) : Int) = (j : Int) + 1 from by omega] at ih
    refine (th_ret _).symm.trans ?_
    rw [rgF]
    simp only [xFo_cons, rgoV, List.set_cons_succ, List.set_cons_zero, th_ok, yFo1, st, yFo2, ih]
theorem lands_out (cl : Str → List Ar → R Rv) (v1 : Sl) (cell at' : Int) (m : Nat) (hm : 1 ≤ m ∧ m ≤ 8) : ∀ (n : Nat) (k : Int) (zs : List Str) (s6 s7 s8 s9 : Sl), zs.length + n < 1000 → (∀ z ∈ zs, NameOk z) →
    ∃ (zs' : List Str) (s6' s7' s8' s9' : Sl), forD cl 1000 (.one 6) b__law_lands_1 (rgF k n) [.val (.int cell), v1, .val (.str "abcdefghijklmnopqrstuvwxyz"), .val (.int (m : Int)), .val (.int at'), .own (zs.map D.str), s6, s7, s8, s9] = .ok (.next [.val (.int cell), v1, .val (.str "abcdefghijklmnopqrstuvwxyz"), .val (.int (m : Int)), .val (.int at'), .own (zs'.map D.str), s6', s7', s8', s9']) ∧ zs'.length = zs.length + n ∧ ∀ z ∈ zs', NameOk z
  | 0, k, zs, s6, s7, s8, s9, _, hz => ⟨zs, s6, s7, s8, s9, rfl, rfl, hz⟩
  | n + 1, k, zs, s6, s7, s8, s9, hl, hz => by
    obtain ⟨z, s8', s9', e, h1, h2⟩ := lands_in cl v1 (.val (.int (m : Int))) (.own (zs.map D.str)) cell at' k m 0 "" s8 s9 (by omega) rfl (fun c hc => by cases hc)
    obtain ⟨zs', t6, t7, t8, t9, ih, h3, h4⟩ := lands_out cl v1 cell at' m hm n (k + 1) (zs ++ [z]) (.val (.int k)) (.val (.str z)) s8' s9' (by simp; omega) (fun x hx => by
      rcases List.mem_append.mp hx with q | q
      · exact hz x q
      · rw [List.mem_singleton.mp q]; exact ⟨by omega, by omega, h2⟩)
    refine ⟨zs', t6, t7, t8, t9, ?_, by rw [h3]; simp; omega, h4⟩
    have hs : smallI (m : Int) = true := by
      unfold smallI
      simp
      omega
    have hz' : (zs.map D.str).length < sizeLine := by
      rw [List.length_map]
      show _ < 2 ^ 24
      omega
    refine (th_ret _).symm.trans ?_
    rw [rgF]
    rw [show ((0 : Nat) : Int) = 0 from rfl] at e
    simp only [List.map_append, List.map_cons, List.map_nil] at ih
    simp only [u_b__law_lands_1, slR_s, slR_v, slR_o, slR_b, slR_c, slX_s, slX_v, slX_o, ownI_s, ownI_o, xR_var, xR_con, xR_bin, xR_neg, xR_not, xR_one, xR_and, xR_or, xR_cmp, xR_ite, xR_idx, xR_sli, xR_lst, xR_tup, xR_call, xR_b1, xR_b2, xR_isi, xR_comp, yRet, yBl, yTmp, yB1, yB2, yNeg, yNot, yAnd, yOr, yC1, yC2, yIf, yI1, yI2, yS1, yS2, yS3, yLst, yTup, yCall, yF1, yG1, yG2, yIsi, yComp, xT_not, xT_one, xT_and, xT_or, xT_cmp, xT_val, yBo, yTn, yTa, yTo, yD1, yD2, yTv, xF_yes, xF_test, xEs_nil, xEs_cons, yE1, yE2, xAs_nil, xAs_cons, yA1, yA2, xO_none, xO_some, yO, xI_seq, xI_rng, xI_rng2, xI_enum, xI_zip, ySeq, yRng, yR1, yR2, yEnum, yZ1, yZ2, yVal, yValt, yValL, yValLt, yValLs, yValLm, yX, yXt, yAv, yAx, yAxt, yCons, xE_s, xE_v, xE_o, xL_s, xL_l, xL_t, xL_z, xL_o, xL_b, xL_c, xS_pass, xS_stuck, xS_expr, yExpr, oGo_some, xS_app, yApp, yApp2, xS_ext, yExt, yExt2, xS_clr, xS_ret, yRt, xS_retN, xS_set, ySet, xS_setT, yST, yNx, xS_setI, ySI, ySI2, ySI3, ySI4, xS_ite, yIte, xS_for, yFor, xS_whl, xSs_nil, xSs_cons, yNext, yNextr, xFo_nil, xFo_cons, yFo1, yFo2, yFo2r, xWh, yWh1, yWh2, yWh2r, xP_nil, xP_cons, yP1, yP2, yP3, eE_bin, eL_bin, eX_bin, eA_bin, eE_neg, eL_neg, eX_neg, eA_neg, eE_not, eL_not, eX_not, eA_not, eE_one, eL_one, eX_one, eA_one, eE_and, eL_and, eX_and, eA_and, eE_or, eL_or, eX_or, eA_or, eE_cmp, eL_cmp, eX_cmp, eA_cmp, eE_ite, eL_ite, eX_ite, eA_ite, eE_idx, eL_idx, eX_idx, eA_idx, eE_sli, eL_sli, eX_sli, eA_sli, eE_lst, eL_lst, eX_lst, eA_lst, eE_tup, eL_tup, eX_tup, eA_tup, eE_call, eL_call, eX_call, eA_call, eE_b1, eL_b1, eX_b1, eA_b1, eE_b2, eL_b2, eX_b2, eA_b2, eE_isi, eL_isi, eX_isi, eA_isi, eE_comp, eL_comp, eX_comp, eA_comp, eE_var, eE_con, eL_var, eL_con, eX_var, eX_con, eA_var, eA_con, bAdd, bAdds, bAddtt, bAddtc, bAddtv, bAddct, bAddcc, bAddcv, bAddvt, bAddvc, bAddvv, bSub, bMult, bDiv, bMod, bPow, cEq, cNe, cLt, cLe, cGt, cGe, cIs, cIsN, cIn, cNi, mIn, rgoV, rgoT, setIs_nil, setIs_cons, sgn_some, ixS, th_ok, th_no, of_some, runD, slN, toSl, flR, List.map_cons, List.map_nil, List.length_cons, List.length_nil, List.replicate, List.cons_append, List.nil_append, List.set_cons_zero, List.set_cons_succ, at_0, at_1, at_2, L2.atI_last, ixN_app, set_app, emp_app, toAr, Rv.int?, Rv.str?, Rv.bl?, Rv.tup?, Rv.list?, Rv.plain?, Rv.data, Rv.non?, truthD, seqD, idxD, lenD, listD, intD, maxD, minD, int2, sliceD, B1.go, B2.go, Ty.go, Ty.of, Bool.not_true, Bool.not_false, reduceIte, Option.map_some, Option.bind_some, if_true, if_false, Bool.false_eq_true, and_self, true_and, decide_true, decide_false, Int.reduceLT, Int.reduceLE, Nat.reduceAdd, Nat.reduceSub, hs, rangeD_eq, Int.sub_zero, Int.toNat_natCast, e, hz', ih]
theorem lands_ok (k : Nat) (cell : Int) : ∃ zs : List Str, clK pg (k + 1) "_law_lands" [.val (.int cell), .val (.int 3)] = .ok (.tmp (zs.map D.str)) ∧ zs.length = 3 ∧ ∀ z ∈ zs, NameOk z := by
  have hm : ∃ m : Nat, (1 + cell % 8 : Int) = (m : Int) ∧ 1 ≤ m ∧ m ≤ 8 := ⟨(1 + cell % 8).toNat, by omega, by omega, by omega⟩
  obtain ⟨m, e, h1, h2⟩ := hm
  obtain ⟨zs, s6, s7, s8, s9, h, h3, h4⟩ := lands_out (clK pg k) (.val (.int 3)) cell (cell / 8 % (m : Int)) m ⟨h1, h2⟩ 3 0 [] .no .no .no .no (by decide) (fun z hz => by cases hz)
  refine ⟨zs, ?_, h3, h4⟩
  rw [List.map_nil] at h
  have hp : (0 : Int) < (m : Int) := by omega
  rw [r__law_lands]
  simp only [c__law_lands, slR_s, slR_v, slR_o, slR_b, slR_c, slX_s, slX_v, slX_o, ownI_s, ownI_o, xR_var, xR_con, xR_bin, xR_neg, xR_not, xR_one, xR_and, xR_or, xR_cmp, xR_ite, xR_idx, xR_sli, xR_lst, xR_tup, xR_call, xR_b1, xR_b2, xR_isi, xR_comp, yRet, yBl, yTmp, yB1, yB2, yNeg, yNot, yAnd, yOr, yC1, yC2, yIf, yI1, yI2, yS1, yS2, yS3, yLst, yTup, yCall, yF1, yG1, yG2, yIsi, yComp, xT_not, xT_one, xT_and, xT_or, xT_cmp, xT_val, yBo, yTn, yTa, yTo, yD1, yD2, yTv, xF_yes, xF_test, xEs_nil, xEs_cons, yE1, yE2, xAs_nil, xAs_cons, yA1, yA2, xO_none, xO_some, yO, xI_seq, xI_rng, xI_rng2, xI_enum, xI_zip, ySeq, yRng, yR1, yR2, yEnum, yZ1, yZ2, yVal, yValt, yValL, yValLt, yValLs, yValLm, yX, yXt, yAv, yAx, yAxt, yCons, xE_s, xE_v, xE_o, xL_s, xL_l, xL_t, xL_z, xL_o, xL_b, xL_c, xS_pass, xS_stuck, xS_expr, yExpr, oGo_some, xS_app, yApp, yApp2, xS_ext, yExt, yExt2, xS_clr, xS_ret, yRt, xS_retN, xS_set, ySet, xS_setT, yST, yNx, xS_setI, ySI, ySI2, ySI3, ySI4, xS_ite, yIte, xS_for, yFor, xS_whl, xSs_nil, xSs_cons, yNext, yNextr, xFo_nil, xFo_cons, yFo1, yFo2, yFo2r, xWh, yWh1, yWh2, yWh2r, xP_nil, xP_cons, yP1, yP2, yP3, eE_bin, eL_bin, eX_bin, eA_bin, eE_neg, eL_neg, eX_neg, eA_neg, eE_not, eL_not, eX_not, eA_not, eE_one, eL_one, eX_one, eA_one, eE_and, eL_and, eX_and, eA_and, eE_or, eL_or, eX_or, eA_or, eE_cmp, eL_cmp, eX_cmp, eA_cmp, eE_ite, eL_ite, eX_ite, eA_ite, eE_idx, eL_idx, eX_idx, eA_idx, eE_sli, eL_sli, eX_sli, eA_sli, eE_lst, eL_lst, eX_lst, eA_lst, eE_tup, eL_tup, eX_tup, eA_tup, eE_call, eL_call, eX_call, eA_call, eE_b1, eL_b1, eX_b1, eA_b1, eE_b2, eL_b2, eX_b2, eA_b2, eE_isi, eL_isi, eX_isi, eA_isi, eE_comp, eL_comp, eX_comp, eA_comp, eE_var, eE_con, eL_var, eL_con, eX_var, eX_con, eA_var, eA_con, bAdd, bAdds, bAddtt, bAddtc, bAddtv, bAddct, bAddcc, bAddcv, bAddvt, bAddvc, bAddvv, bSub, bMult, bDiv, bMod, bPow, cEq, cNe, cLt, cLe, cGt, cGe, cIs, cIsN, cIn, cNi, mIn, rgoV, rgoT, setIs_nil, setIs_cons, sgn_some, ixS, th_ok, th_no, of_some, runD, slN, toSl, flR, List.map_cons, List.map_nil, List.length_cons, List.length_nil, List.replicate, List.cons_append, List.nil_append, List.set_cons_zero, List.set_cons_succ, at_0, at_1, at_2, L2.atI_last, ixN_app, set_app, emp_app, toAr, Rv.int?, Rv.str?, Rv.bl?, Rv.tup?, Rv.list?, Rv.plain?, Rv.data, Rv.non?, truthD, seqD, idxD, lenD, listD, intD, maxD, minD, int2, sliceD, B1.go, B2.go, Ty.go, Ty.of, Bool.not_true, Bool.not_false, reduceIte, Option.map_some, Option.bind_some, if_true, if_false, Bool.false_eq_true, and_self, true_and, decide_true, decide_false, Int.reduceLT, Int.reduceLE, Nat.reduceAdd, Nat.reduceSub, Nat.reduceAdd, Nat.reduceSub, e, hp, show (0 : Nat) ≤ sizeLine by decide +kernel, show smallI 3 = true from by decide +kernel, rangeD_eq, show ((3 : Int) - 0).toNat = 3 from rfl, h]
end K53
set_option maxHeartbeats 4000000
namespace K53
open PySem L2 DE
theorem okD_lD {x : Option Str} (h : LandOk x) : okD (lD x) = true ∧ dpD (lD x) = 0 := by
  cases x with
  | none => exact ⟨by rw [lD, okD], by rw [lD, dpD]⟩
  | some s => exact ⟨by rw [lD, okD]; exact strOk_of (h s rfl), by rw [lD, dpD]⟩
theorem land_at {zs : List Str} (h : zs.length = 3) (hz : ∀ z ∈ zs, NameOk z) (i : Int) (h0 : 0 ≤ i) (h1 : i < 4) : ∃ y, atI (zs.map D.str ++ [.non]) i = some (lD y) ∧ LandOk y := by
  obtain ⟨j, rfl⟩ := Int.eq_ofNat_of_zero_le h0
  by_cases hj : j < 3
  · have hj' : j < zs.length := by omega
    refine ⟨some zs[j], at_n ?_, fun s e => by cases e; exact hz _ (List.getElem_mem hj')⟩
    rw [List.getElem?_append_left (by rw [List.length_map]; exact hj'), List.getElem?_map, List.getElem?_eq_getElem hj']
    rfl
  · have : j = 3 := by omega
    subst this
    refine ⟨none, at_n ?_, fun s e => by cases e⟩
    rw [List.getElem?_append_right (by rw [List.length_map, h]; omega), List.length_map, h]
    rfl
theorem name_at {zs : List Str} (h : zs.length = 3) (hz : ∀ z ∈ zs, NameOk z) (i : Int) (h0 : 0 ≤ i) (h1 : i < 3) : ∃ z, atI (zs.map D.str) i = some (.str z) ∧ NameOk z := by
  obtain ⟨j, rfl⟩ := Int.eq_ofNat_of_zero_le h0
  have hj' : j < zs.length := by omega
  refine ⟨zs[j], at_n ?_, hz _ (List.getElem_mem hj')⟩
  rw [List.getElem?_map, List.getElem?_eq_getElem hj']
  rfl
theorem of_step (cl : Str → List Ar → R Rv) (v0 s4 : Sl) (zs : List Str) (h3 : zs.length = 3) (hz : ∀ z ∈ zs, NameOk z) (f : List (Option Str)) (hf : ∀ x ∈ f, LandOk x) (hl : f.length < 1000) (c : Int) :
    ∃ y s4', LandOk y ∧ iSs cl 1000 b__law_lands_of_0 [v0, .bor (zs.map D.str), .own (f.map lD), .val (.int c), s4] = .ok (.next [v0, .bor (zs.map D.str), .own (f.map lD ++ [lD y]), .val (.int c), s4']) := by
  have m1 : mulB c 1099087573 = true := mulB_r (by decide) (by decide)
  have hs : (f.map lD).length < sizeLine := by
    rw [List.length_map]
    show _ < 2 ^ 24
    omega
  have h4 : ((zs.map D.str).length : Int) + 1 = 4 := by rw [List.length_map, h3]; rfl
  have hs2 : (zs.map D.str).length + (0 + 1) ≤ sizeLine := by
    rw [List.length_map, h3]
    decide +kernel
  obtain ⟨y, hy1, hy2⟩ := land_at h3 hz (c * 1099087573 % 10000000000037 / 2 % 4) (Int.emod_nonneg _ (by decide)) (Int.emod_lt_of_pos _ (by decide))
  have en := eqD_nil (l := f.map lD) (okDs_of fun d hd => by
    obtain ⟨x, hx, rfl⟩ := List.mem_map.mp hd
    exact (okD_lD (hf x hx)).1) (dpDs_of fun d hd => by
    obtain ⟨x, hx, rfl⟩ := List.mem_map.mp hd
    rw [(okD_lD (hf x hx)).2]
    omega)
  have s0 : (0 : Nat) ≤ sizeLine := by decide +kernel
  have s1 : (0 : Nat) + 1 ≤ sizeLine := by decide +kernel
  by_cases hb : (c * 1099087573 % 10000000000037 % 2 == 0) = true
  · rcases List.eq_nil_or_concat f with rfl | ⟨f', x, rfl⟩
    · refine ⟨y, .val (.int (c * 1099087573 % 10000000000037)), hy2, ?_⟩
      refine (th_ret _).symm.trans ?_
      rw [List.map_nil] at en hs ⊢
      simp only [u_b__law_lands_of_0, slR_s, slR_v, slR_o, slR_b, slR_c, slX_s, slX_v, slX_o, ownI_s, ownI_o, xR_var, xR_con, xR_bin, xR_neg, xR_not, xR_one, xR_and, xR_or, xR_cmp, xR_ite, xR_idx, xR_sli, xR_lst, xR_tup, xR_call, xR_b1, xR_b2, xR_isi, xR_comp, yRet, yBl, yTmp, yB1, yB2, yNeg, yNot, yAnd, yOr, yC1, yC2, yIf, yI1, yI2, yS1, yS2, yS3, yLst, yTup, yCall, yF1, yG1, yG2, yIsi, yComp, xT_not, xT_one, xT_and, xT_or, xT_cmp, xT_val, yBo, yTn, yTa, yTo, yD1, yD2, yTv, xF_yes, xF_test, xEs_nil, xEs_cons, yE1, yE2, xAs_nil, xAs_cons, yA1, yA2, xO_none, xO_some, yO, xI_seq, xI_rng, xI_rng2, xI_enum, xI_zip, ySeq, yRng, yR1, yR2, yEnum, yZ1, yZ2, yVal, yValt, yValL, yValLt, yValLs, yValLm, yX, yXt, yAv, yAx, yAxt, yCons, xE_s, xE_v, xE_o, xL_s, xL_l, xL_t, xL_z, xL_o, xL_b, xL_c, xS_pass, xS_stuck, xS_expr, yExpr, oGo_some, xS_app, yApp, yApp2, xS_ext, yExt, yExt2, xS_clr, xS_ret, yRt, xS_retN, xS_set, ySet, xS_setT, yST, yNx, xS_setI, ySI, ySI2, ySI3, ySI4, xS_ite, yIte, xS_for, yFor, xS_whl, xSs_nil, xSs_cons, yNext, yNextr, xFo_nil, xFo_cons, yFo1, yFo2, yFo2r, xWh, yWh1, yWh2, yWh2r, xP_nil, xP_cons, yP1, yP2, yP3, eE_bin, eL_bin, eX_bin, eA_bin, eE_neg, eL_neg, eX_neg, eA_neg, eE_not, eL_not, eX_not, eA_not, eE_one, eL_one, eX_one, eA_one, eE_and, eL_and, eX_and, eA_and, eE_or, eL_or, eX_or, eA_or, eE_cmp, eL_cmp, eX_cmp, eA_cmp, eE_ite, eL_ite, eX_ite, eA_ite, eE_idx, eL_idx, eX_idx, eA_idx, eE_sli, eL_sli, eX_sli, eA_sli, eE_lst, eL_lst, eX_lst, eA_lst, eE_tup, eL_tup, eX_tup, eA_tup, eE_call, eL_call, eX_call, eA_call, eE_b1, eL_b1, eX_b1, eA_b1, eE_b2, eL_b2, eX_b2, eA_b2, eE_isi, eL_isi, eX_isi, eA_isi, eE_comp, eL_comp, eX_comp, eA_comp, eE_var, eE_con, eL_var, eL_con, eX_var, eX_con, eA_var, eA_con, bAdd, bAdds, bAddtt, bAddtc, bAddtv, bAddct, bAddcc, bAddcv, bAddvt, bAddvc, bAddvv, bSub, bMult, bDiv, bMod, bPow, cEq, cNe, cLt, cLe, cGt, cGe, cIs, cIsN, cIn, cNi, mIn, rgoV, rgoT, setIs_nil, setIs_cons, sgn_some, ixS, th_ok, th_no, of_some, runD, slN, toSl, flR, List.map_cons, List.map_nil, List.length_cons, List.length_nil, List.replicate, List.cons_append, List.nil_append, List.set_cons_zero, List.set_cons_succ, at_0, at_1, at_2, L2.atI_last, ixN_app, set_app, emp_app, toAr, Rv.int?, Rv.str?, Rv.bl?, Rv.tup?, Rv.list?, Rv.plain?, Rv.data, Rv.non?, truthD, seqD, idxD, lenD, listD, intD, maxD, minD, int2, sliceD, B1.go, B2.go, Ty.go, Ty.of, Bool.not_true, Bool.not_false, reduceIte, Option.map_some, Option.bind_some, if_true, if_false, Bool.false_eq_true, and_self, true_and, decide_true, decide_false, Int.reduceLT, Int.reduceLE, Nat.reduceAdd, Nat.reduceSub, m1, eqD_int, hb, en, s0, s1, List.isEmpty_nil, h4, hs2, hy1, show (0 : Nat) < sizeLine by decide +kernel, show (0 : Int) < 4 from by decide]
    · refine ⟨x, .val (.int (c * 1099087573 % 10000000000037)), hf x (by simp), ?_⟩
      have e1 : (f'.concat x).map lD = f'.map lD ++ [lD x] := by simp
      have e2 : atI (f'.map lD ++ [lD x]) (((f'.map lD ++ [lD x]).length : Int) - 1) = some (lD x) := by
        rw [show (((f'.map lD ++ [lD x]).length : Int) - 1) = ((f'.map lD).length : Int) by simp only [List.length_append, List.length_cons, List.length_nil]; omega]
        exact at_n (by simp)
      rw [e1] at en hs ⊢
      refine (th_ret _).symm.trans ?_
      simp only [u_b__law_lands_of_0, slR_s, slR_v, slR_o, slR_b, slR_c, slX_s, slX_v, slX_o, ownI_s, ownI_o, xR_var, xR_con, xR_bin, xR_neg, xR_not, xR_one, xR_and, xR_or, xR_cmp, xR_ite, xR_idx, xR_sli, xR_lst, xR_tup, xR_call, xR_b1, xR_b2, xR_isi, xR_comp, yRet, yBl, yTmp, yB1, yB2, yNeg, yNot, yAnd, yOr, yC1, yC2, yIf, yI1, yI2, yS1, yS2, yS3, yLst, yTup, yCall, yF1, yG1, yG2, yIsi, yComp, xT_not, xT_one, xT_and, xT_or, xT_cmp, xT_val, yBo, yTn, yTa, yTo, yD1, yD2, yTv, xF_yes, xF_test, xEs_nil, xEs_cons, yE1, yE2, xAs_nil, xAs_cons, yA1, yA2, xO_none, xO_some, yO, xI_seq, xI_rng, xI_rng2, xI_enum, xI_zip, ySeq, yRng, yR1, yR2, yEnum, yZ1, yZ2, yVal, yValt, yValL, yValLt, yValLs, yValLm, yX, yXt, yAv, yAx, yAxt, yCons, xE_s, xE_v, xE_o, xL_s, xL_l, xL_t, xL_z, xL_o, xL_b, xL_c, xS_pass, xS_stuck, xS_expr, yExpr, oGo_some, xS_app, yApp, yApp2, xS_ext, yExt, yExt2, xS_clr, xS_ret, yRt, xS_retN, xS_set, ySet, xS_setT, yST, yNx, xS_setI, ySI, ySI2, ySI3, ySI4, xS_ite, yIte, xS_for, yFor, xS_whl, xSs_nil, xSs_cons, yNext, yNextr, xFo_nil, xFo_cons, yFo1, yFo2, yFo2r, xWh, yWh1, yWh2, yWh2r, xP_nil, xP_cons, yP1, yP2, yP3, eE_bin, eL_bin, eX_bin, eA_bin, eE_neg, eL_neg, eX_neg, eA_neg, eE_not, eL_not, eX_not, eA_not, eE_one, eL_one, eX_one, eA_one, eE_and, eL_and, eX_and, eA_and, eE_or, eL_or, eX_or, eA_or, eE_cmp, eL_cmp, eX_cmp, eA_cmp, eE_ite, eL_ite, eX_ite, eA_ite, eE_idx, eL_idx, eX_idx, eA_idx, eE_sli, eL_sli, eX_sli, eA_sli, eE_lst, eL_lst, eX_lst, eA_lst, eE_tup, eL_tup, eX_tup, eA_tup, eE_call, eL_call, eX_call, eA_call, eE_b1, eL_b1, eX_b1, eA_b1, eE_b2, eL_b2, eX_b2, eA_b2, eE_isi, eL_isi, eX_isi, eA_isi, eE_comp, eL_comp, eX_comp, eA_comp, eE_var, eE_con, eL_var, eL_con, eX_var, eX_con, eA_var, eA_con, bAdd, bAdds, bAddtt, bAddtc, bAddtv, bAddct, bAddcc, bAddcv, bAddvt, bAddvc, bAddvv, bSub, bMult, bDiv, bMod, bPow, cEq, cNe, cLt, cLe, cGt, cGe, cIs, cIsN, cIn, cNi, mIn, rgoV, rgoT, setIs_nil, setIs_cons, sgn_some, ixS, th_ok, th_no, of_some, runD, slN, toSl, flR, List.map_cons, List.map_nil, List.length_cons, List.length_nil, List.replicate, List.cons_append, List.nil_append, List.set_cons_zero, List.set_cons_succ, at_0, at_1, at_2, L2.atI_last, ixN_app, set_app, emp_app, toAr, Rv.int?, Rv.str?, Rv.bl?, Rv.tup?, Rv.list?, Rv.plain?, Rv.data, Rv.non?, truthD, seqD, idxD, lenD, listD, intD, maxD, minD, int2, sliceD, B1.go, B2.go, Ty.go, Ty.of, Bool.not_true, Bool.not_false, reduceIte, Option.map_some, Option.bind_some, if_true, if_false, Bool.false_eq_true, and_self, true_and, decide_true, decide_false, Int.reduceLT, Int.reduceLE, Nat.reduceAdd, Nat.reduceSub, m1, eqD_int, hb, en, s0, e2, hs]
  · refine ⟨y, .val (.int (c * 1099087573 % 10000000000037)), hy2, ?_⟩
    have hb := Bool.eq_false_iff.mpr hb
    refine (th_ret _).symm.trans ?_
    simp only [u_b__law_lands_of_0, slR_s, slR_v, slR_o, slR_b, slR_c, slX_s, slX_v, slX_o, ownI_s, ownI_o, xR_var, xR_con, xR_bin, xR_neg, xR_not, xR_one, xR_and, xR_or, xR_cmp, xR_ite, xR_idx, xR_sli, xR_lst, xR_tup, xR_call, xR_b1, xR_b2, xR_isi, xR_comp, yRet, yBl, yTmp, yB1, yB2, yNeg, yNot, yAnd, yOr, yC1, yC2, yIf, yI1, yI2, yS1, yS2, yS3, yLst, yTup, yCall, yF1, yG1, yG2, yIsi, yComp, xT_not, xT_one, xT_and, xT_or, xT_cmp, xT_val, yBo, yTn, yTa, yTo, yD1, yD2, yTv, xF_yes, xF_test, xEs_nil, xEs_cons, yE1, yE2, xAs_nil, xAs_cons, yA1, yA2, xO_none, xO_some, yO, xI_seq, xI_rng, xI_rng2, xI_enum, xI_zip, ySeq, yRng, yR1, yR2, yEnum, yZ1, yZ2, yVal, yValt, yValL, yValLt, yValLs, yValLm, yX, yXt, yAv, yAx, yAxt, yCons, xE_s, xE_v, xE_o, xL_s, xL_l, xL_t, xL_z, xL_o, xL_b, xL_c, xS_pass, xS_stuck, xS_expr, yExpr, oGo_some, xS_app, yApp, yApp2, xS_ext, yExt, yExt2, xS_clr, xS_ret, yRt, xS_retN, xS_set, ySet, xS_setT, yST, yNx, xS_setI, ySI, ySI2, ySI3, ySI4, xS_ite, yIte, xS_for, yFor, xS_whl, xSs_nil, xSs_cons, yNext, yNextr, xFo_nil, xFo_cons, yFo1, yFo2, yFo2r, xWh, yWh1, yWh2, yWh2r, xP_nil, xP_cons, yP1, yP2, yP3, eE_bin, eL_bin, eX_bin, eA_bin, eE_neg, eL_neg, eX_neg, eA_neg, eE_not, eL_not, eX_not, eA_not, eE_one, eL_one, eX_one, eA_one, eE_and, eL_and, eX_and, eA_and, eE_or, eL_or, eX_or, eA_or, eE_cmp, eL_cmp, eX_cmp, eA_cmp, eE_ite, eL_ite, eX_ite, eA_ite, eE_idx, eL_idx, eX_idx, eA_idx, eE_sli, eL_sli, eX_sli, eA_sli, eE_lst, eL_lst, eX_lst, eA_lst, eE_tup, eL_tup, eX_tup, eA_tup, eE_call, eL_call, eX_call, eA_call, eE_b1, eL_b1, eX_b1, eA_b1, eE_b2, eL_b2, eX_b2, eA_b2, eE_isi, eL_isi, eX_isi, eA_isi, eE_comp, eL_comp, eX_comp, eA_comp, eE_var, eE_con, eL_var, eL_con, eX_var, eX_con, eA_var, eA_con, bAdd, bAdds, bAddtt, bAddtc, bAddtv, bAddct, bAddcc, bAddcv, bAddvt, bAddvc, bAddvv, bSub, bMult, bDiv, bMod, bPow, cEq, cNe, cLt, cLe, cGt, cGe, cIs, cIsN, cIn, cNi, mIn, rgoV, rgoT, setIs_nil, setIs_cons, sgn_some, ixS, th_ok, th_no, of_some, runD, slN, toSl, flR, List.map_cons, List.map_nil, List.length_cons, List.length_nil, List.replicate, List.cons_append, List.nil_append, List.set_cons_zero, List.set_cons_succ, at_0, at_1, at_2, L2.atI_last, ixN_app, set_app, emp_app, toAr, Rv.int?, Rv.str?, Rv.bl?, Rv.tup?, Rv.list?, Rv.plain?, Rv.data, Rv.non?, truthD, seqD, idxD, lenD, listD, intD, maxD, minD, int2, sliceD, B1.go, B2.go, Ty.go, Ty.of, Bool.not_true, Bool.not_false, reduceIte, Option.map_some, Option.bind_some, if_true, if_false, Bool.false_eq_true, and_self, true_and, decide_true, decide_false, Int.reduceLT, Int.reduceLE, Nat.reduceAdd, Nat.reduceSub, m1, eqD_int, hb, s1, h4, hs2, hy1, hs, show (0 : Int) < 4 from by decide]
theorem of_loop (cl : Str → List Ar → R Rv) (v0 : Sl) (zs : List Str) (h3 : zs.length = 3) (hz : ∀ z ∈ zs, NameOk z) (ns : List Int) : ∀ (f : List (Option Str)) (s3 s4 : Sl), (∀ x ∈ f, LandOk x) → f.length + ns.length < 1000 →
    ∃ (p : List (Option Str)) (s3' s4' : Sl), (∀ x ∈ p, LandOk x) ∧ p.length = f.length + ns.length ∧ forD cl 1000 (.one 3) b__law_lands_of_0 (ns.map D.int) [v0, .bor (zs.map D.str), .own (f.map lD), s3, s4] = .ok (.next [v0, .bor (zs.map D.str), .own (p.map lD), s3', s4']) := by
  induction ns with
  | nil => exact fun f s3 s4 hf hl => ⟨f, s3, s4, hf, rfl, rfl⟩
  | cons c ns ih =>
    intro f s3 s4 hf hl
    rw [List.length_cons] at hl
    obtain ⟨y, t4, hy, st⟩ := of_step cl v0 s4 zs h3 hz f hf (by omega) c
    obtain ⟨p, s3', s4', h1, h2, ih⟩ := ih (f ++ [y]) (.val (.int c)) t4 (fun x hx => by
      rcases List.mem_append.mp hx with q | q
      · exact hf x q
      · rw [List.mem_singleton.mp q]; exact hy) (by simp; omega)
    refine ⟨p, s3', s4', h1, by rw [h2]; simp; omega, ?_⟩
    simp only [List.map_append, List.map_cons, List.map_nil] at ih
    refine (th_ret _).symm.trans ?_
    rw [List.map_cons]
    simp only [slR_s, slR_v, slR_o, slR_b, slR_c, slX_s, slX_v, slX_o, ownI_s, ownI_o, xR_var, xR_con, xR_bin, xR_neg, xR_not, xR_one, xR_and, xR_or, xR_cmp, xR_ite, xR_idx, xR_sli, xR_lst, xR_tup, xR_call, xR_b1, xR_b2, xR_isi, xR_comp, yRet, yBl, yTmp, yB1, yB2, yNeg, yNot, yAnd, yOr, yC1, yC2, yIf, yI1, yI2, yS1, yS2, yS3, yLst, yTup, yCall, yF1, yG1, yG2, yIsi, yComp, xT_not, xT_one, xT_and, xT_or, xT_cmp, xT_val, yBo, yTn, yTa, yTo, yD1, yD2, yTv, xF_yes, xF_test, xEs_nil, xEs_cons, yE1, yE2, xAs_nil, xAs_cons, yA1, yA2, xO_none, xO_some, yO, xI_seq, xI_rng, xI_rng2, xI_enum, xI_zip, ySeq, yRng, yR1, yR2, yEnum, yZ1, yZ2, yVal, yValt, yValL, yValLt, yValLs, yValLm, yX, yXt, yAv, yAx, yAxt, yCons, xE_s, xE_v, xE_o, xL_s, xL_l, xL_t, xL_z, xL_o, xL_b, xL_c, xS_pass, xS_stuck, xS_expr, yExpr, oGo_some, xS_app, yApp, yApp2, xS_ext, yExt, yExt2, xS_clr, xS_ret, yRt, xS_retN, xS_set, ySet, xS_setT, yST, yNx, xS_setI, ySI, ySI2, ySI3, ySI4, xS_ite, yIte, xS_for, yFor, xS_whl, xSs_nil, xSs_cons, yNext, yNextr, xFo_nil, xFo_cons, yFo1, yFo2, yFo2r, xWh, yWh1, yWh2, yWh2r, xP_nil, xP_cons, yP1, yP2, yP3, eE_bin, eL_bin, eX_bin, eA_bin, eE_neg, eL_neg, eX_neg, eA_neg, eE_not, eL_not, eX_not, eA_not, eE_one, eL_one, eX_one, eA_one, eE_and, eL_and, eX_and, eA_and, eE_or, eL_or, eX_or, eA_or, eE_cmp, eL_cmp, eX_cmp, eA_cmp, eE_ite, eL_ite, eX_ite, eA_ite, eE_idx, eL_idx, eX_idx, eA_idx, eE_sli, eL_sli, eX_sli, eA_sli, eE_lst, eL_lst, eX_lst, eA_lst, eE_tup, eL_tup, eX_tup, eA_tup, eE_call, eL_call, eX_call, eA_call, eE_b1, eL_b1, eX_b1, eA_b1, eE_b2, eL_b2, eX_b2, eA_b2, eE_isi, eL_isi, eX_isi, eA_isi, eE_comp, eL_comp, eX_comp, eA_comp, eE_var, eE_con, eL_var, eL_con, eX_var, eX_con, eA_var, eA_con, bAdd, bAdds, bAddtt, bAddtc, bAddtv, bAddct, bAddcc, bAddcv, bAddvt, bAddvc, bAddvv, bSub, bMult, bDiv, bMod, bPow, cEq, cNe, cLt, cLe, cGt, cGe, cIs, cIsN, cIn, cNi, mIn, rgoV, rgoT, setIs_nil, setIs_cons, sgn_some, ixS, th_ok, th_no, of_some, runD, slN, toSl, flR, List.map_cons, List.map_nil, List.length_cons, List.length_nil, List.replicate, List.cons_append, List.nil_append, List.set_cons_zero, List.set_cons_succ, at_0, at_1, at_2, L2.atI_last, ixN_app, set_app, emp_app, toAr, Rv.int?, Rv.str?, Rv.bl?, Rv.tup?, Rv.list?, Rv.plain?, Rv.data, Rv.non?, truthD, seqD, idxD, lenD, listD, intD, maxD, minD, int2, sliceD, B1.go, B2.go, Ty.go, Ty.of, Bool.not_true, Bool.not_false, reduceIte, Option.map_some, Option.bind_some, if_true, if_false, Bool.false_eq_true, and_self, true_and, decide_true, decide_false, Int.reduceLT, Int.reduceLE, Nat.reduceAdd, Nat.reduceSub, st, ih]
theorem of_ok (k : Nat) (zs : List Str) (h3 : zs.length = 3) (hz : ∀ z ∈ zs, NameOk z) (ns : List Int) (hl : ns.length < 1000) : ∃ p : List (Option Str), (∀ x ∈ p, LandOk x) ∧ p.length = ns.length ∧ clK pg (k + 1) "_law_lands_of" [.val (.lst (ns.map D.int)), .bor (zs.map D.str)] = .ok (.tmp (p.map lD)) := by
  obtain ⟨p, s3', s4', h1, h2, ih⟩ := of_loop (clK pg k) (.val (.lst (ns.map D.int))) zs h3 hz ns [] .no .no (fun x hx => by cases hx) (by simpa using hl)
  rw [List.map_nil] at ih
  refine ⟨p, h1, by simpa using h2, ?_⟩
  rw [r__law_lands_of]
  simp only [c__law_lands_of, slR_s, slR_v, slR_o, slR_b, slR_c, slX_s, slX_v, slX_o, ownI_s, ownI_o, xR_var, xR_con, xR_bin, xR_neg, xR_not, xR_one, xR_and, xR_or, xR_cmp, xR_ite, xR_idx, xR_sli, xR_lst, xR_tup, xR_call, xR_b1, xR_b2, xR_isi, xR_comp, yRet, yBl, yTmp, yB1, yB2, yNeg, yNot, yAnd, yOr, yC1, yC2, yIf, yI1, yI2, yS1, yS2, yS3, yLst, yTup, yCall, yF1, yG1, yG2, yIsi, yComp, xT_not, xT_one, xT_and, xT_or, xT_cmp, xT_val, yBo, yTn, yTa, yTo, yD1, yD2, yTv, xF_yes, xF_test, xEs_nil, xEs_cons, yE1, yE2, xAs_nil, xAs_cons, yA1, yA2, xO_none, xO_some, yO, xI_seq, xI_rng, xI_rng2, xI_enum, xI_zip, ySeq, yRng, yR1, yR2, yEnum, yZ1, yZ2, yVal, yValt, yValL, yValLt, yValLs, yValLm, yX, yXt, yAv, yAx, yAxt, yCons, xE_s, xE_v, xE_o, xL_s, xL_l, xL_t, xL_z, xL_o, xL_b, xL_c, xS_pass, xS_stuck, xS_expr, yExpr, oGo_some, xS_app, yApp, yApp2, xS_ext, yExt, yExt2, xS_clr, xS_ret, yRt, xS_retN, xS_set, ySet, xS_setT, yST, yNx, xS_setI, ySI, ySI2, ySI3, ySI4, xS_ite, yIte, xS_for, yFor, xS_whl, xSs_nil, xSs_cons, yNext, yNextr, xFo_nil, xFo_cons, yFo1, yFo2, yFo2r, xWh, yWh1, yWh2, yWh2r, xP_nil, xP_cons, yP1, yP2, yP3, eE_bin, eL_bin, eX_bin, eA_bin, eE_neg, eL_neg, eX_neg, eA_neg, eE_not, eL_not, eX_not, eA_not, eE_one, eL_one, eX_one, eA_one, eE_and, eL_and, eX_and, eA_and, eE_or, eL_or, eX_or, eA_or, eE_cmp, eL_cmp, eX_cmp, eA_cmp, eE_ite, eL_ite, eX_ite, eA_ite, eE_idx, eL_idx, eX_idx, eA_idx, eE_sli, eL_sli, eX_sli, eA_sli, eE_lst, eL_lst, eX_lst, eA_lst, eE_tup, eL_tup, eX_tup, eA_tup, eE_call, eL_call, eX_call, eA_call, eE_b1, eL_b1, eX_b1, eA_b1, eE_b2, eL_b2, eX_b2, eA_b2, eE_isi, eL_isi, eX_isi, eA_isi, eE_comp, eL_comp, eX_comp, eA_comp, eE_var, eE_con, eL_var, eL_con, eX_var, eX_con, eA_var, eA_con, bAdd, bAdds, bAddtt, bAddtc, bAddtv, bAddct, bAddcc, bAddcv, bAddvt, bAddvc, bAddvv, bSub, bMult, bDiv, bMod, bPow, cEq, cNe, cLt, cLe, cGt, cGe, cIs, cIsN, cIn, cNi, mIn, rgoV, rgoT, setIs_nil, setIs_cons, sgn_some, ixS, th_ok, th_no, of_some, runD, slN, toSl, flR, List.map_cons, List.map_nil, List.length_cons, List.length_nil, List.replicate, List.cons_append, List.nil_append, List.set_cons_zero, List.set_cons_succ, at_0, at_1, at_2, L2.atI_last, ixN_app, set_app, emp_app, toAr, Rv.int?, Rv.str?, Rv.bl?, Rv.tup?, Rv.list?, Rv.plain?, Rv.data, Rv.non?, truthD, seqD, idxD, lenD, listD, intD, maxD, minD, int2, sliceD, B1.go, B2.go, Ty.go, Ty.of, Bool.not_true, Bool.not_false, reduceIte, Option.map_some, Option.bind_some, if_true, if_false, Bool.false_eq_true, and_self, true_and, decide_true, decide_false, Int.reduceLT, Int.reduceLE, Nat.reduceAdd, Nat.reduceSub, ih, show (0 : Nat) ≤ sizeLine by decide +kernel]
theorem at_map {l : List (Option Str)} {j : Nat} {x : Option Str} (h : l[j]? = some x) : atI (l.map lD) (j : Int) = some (lD x) := at_n (by rw [List.getElem?_map, h]; rfl)
theorem runs_in (cl : Str → List Ar → R Rv) (v1 v2 : Sl) (l : List (Option Str)) (hl : ∀ x ∈ l, LandOk x) (a : Nat) (x : Option Str) (ha : l[a]? = some x) : ∀ (n e : Nat), e ≤ l.length → l.length - e < n →
    whD cl 1000 t__law_runs_0 b__law_runs_0 n [.val (.lst (l.map lD)), v1, v2, .val (.int (a : Int)), .val (.int (e : Int))] = .ok (.next [.val (.lst (l.map lD)), v1, v2, .val (.int (a : Int)), .val (.int ((e + cnt x (l.drop e) : Nat) : Int))]) := by
  intro n
  induction n with
  | zero => intro e _ h; omega
  | succ n ih =>
    intro e he hn
    by_cases h : e < l.length
    · have h1 : (e : Int) < ((l.map lD).length : Int) := by rw [List.length_map]; omega
      have hy : l[e]? = some l[e] := List.getElem?_eq_getElem h
      have hd : l.drop e = l[e] :: l.drop (e + 1) := List.drop_eq_getElem_cons h
      have eq := eqL (hl l[e] (List.getElem_mem h)) (hl x (List.mem_of_getElem? ha))
      by_cases hx : l[e] = x
      · have ih := ih (e + 1) (by omega) (by omega)
        rw [show (((e + 1 : Nat)) : Int) = (e : Int) + 1 by omega] at ih
        rw [decide_eq_true hx] at eq
        rw [hd, show cnt x (l[e] :: l.drop (e + 1)) = cnt x (l.drop (e + 1)) + 1 from if_pos hx, show e + (cnt x (l.drop (e + 1)) + 1) = e + 1 + cnt x (l.drop (e + 1)) by omega]
        refine (th_ret _).symm.trans ?_
        simp only [u_t__law_runs_0, u_b__law_runs_0, slR_s, slR_v, slR_o, slR_b, slR_c, slX_s, slX_v, slX_o, ownI_s, ownI_o, xR_var, xR_con, xR_bin, xR_neg, xR_not, xR_one, xR_and, xR_or, xR_cmp, xR_ite, xR_idx, xR_sli, xR_lst, xR_tup, xR_call, xR_b1, xR_b2, xR_isi, xR_comp, yRet, yBl, yTmp, yB1, yB2, yNeg, yNot, yAnd, yOr, yC1, yC2, yIf, yI1, yI2, yS1, yS2, yS3, yLst, yTup, yCall, yF1, yG1, yG2, yIsi, yComp, xT_not, xT_one, xT_and, xT_or, xT_cmp, xT_val, yBo, yTn, yTa, yTo, yD1, yD2, yTv, xF_yes, xF_test, xEs_nil, xEs_cons, yE1, yE2, xAs_nil, xAs_cons, yA1, yA2, xO_none, xO_some, yO, xI_seq, xI_rng, xI_rng2, xI_enum, xI_zip, ySeq, yRng, yR1, yR2, yEnum, yZ1, yZ2, yVal, yValt, yValL, yValLt, yValLs, yValLm, yX, yXt, yAv, yAx, yAxt, yCons, xE_s, xE_v, xE_o, xL_s, xL_l, xL_t, xL_z, xL_o, xL_b, xL_c, xS_pass, xS_stuck, xS_expr, yExpr, oGo_some, xS_app, yApp, yApp2, xS_ext, yExt, yExt2, xS_clr, xS_ret, yRt, xS_retN, xS_set, ySet, xS_setT, yST, yNx, xS_setI, ySI, ySI2, ySI3, ySI4, xS_ite, yIte, xS_for, yFor, xS_whl, xSs_nil, xSs_cons, yNext, yNextr, xFo_nil, xFo_cons, yFo1, yFo2, yFo2r, xWh, yWh1, yWh2, yWh2r, xP_nil, xP_cons, yP1, yP2, yP3, eE_bin, eL_bin, eX_bin, eA_bin, eE_neg, eL_neg, eX_neg, eA_neg, eE_not, eL_not, eX_not, eA_not, eE_one, eL_one, eX_one, eA_one, eE_and, eL_and, eX_and, eA_and, eE_or, eL_or, eX_or, eA_or, eE_cmp, eL_cmp, eX_cmp, eA_cmp, eE_ite, eL_ite, eX_ite, eA_ite, eE_idx, eL_idx, eX_idx, eA_idx, eE_sli, eL_sli, eX_sli, eA_sli, eE_lst, eL_lst, eX_lst, eA_lst, eE_tup, eL_tup, eX_tup, eA_tup, eE_call, eL_call, eX_call, eA_call, eE_b1, eL_b1, eX_b1, eA_b1, eE_b2, eL_b2, eX_b2, eA_b2, eE_isi, eL_isi, eX_isi, eA_isi, eE_comp, eL_comp, eX_comp, eA_comp, eE_var, eE_con, eL_var, eL_con, eX_var, eX_con, eA_var, eA_con, bAdd, bAdds, bAddtt, bAddtc, bAddtv, bAddct, bAddcc, bAddcv, bAddvt, bAddvc, bAddvv, bSub, bMult, bDiv, bMod, bPow, cEq, cNe, cLt, cLe, cGt, cGe, cIs, cIsN, cIn, cNi, mIn, rgoV, rgoT, setIs_nil, setIs_cons, sgn_some, ixS, th_ok, th_no, of_some, runD, slN, toSl, flR, List.map_cons, List.map_nil, List.length_cons, List.length_nil, List.replicate, List.cons_append, List.nil_append, List.set_cons_zero, List.set_cons_succ, at_0, at_1, at_2, L2.atI_last, ixN_app, set_app, emp_app, toAr, Rv.int?, Rv.str?, Rv.bl?, Rv.tup?, Rv.list?, Rv.plain?, Rv.data, Rv.non?, truthD, seqD, idxD, lenD, listD, intD, maxD, minD, int2, sliceD, B1.go, B2.go, Ty.go, Ty.of, Bool.not_true, Bool.not_false, reduceIte, Option.map_some, Option.bind_some, if_true, if_false, Bool.false_eq_true, and_self, true_and, decide_true, decide_false, Int.reduceLT, Int.reduceLE, Nat.reduceAdd, Nat.reduceSub, h1, at_map hy, at_map ha, eq, ih]
      · rw [decide_eq_false hx] at eq
        rw [hd, show cnt x (l[e] :: l.drop (e + 1)) = 0 from if_neg hx]
        refine (th_ret _).symm.trans ?_
        simp only [u_t__law_runs_0, slR_s, slR_v, slR_o, slR_b, slR_c, slX_s, slX_v, slX_o, ownI_s, ownI_o, xR_var, xR_con, xR_bin, xR_neg, xR_not, xR_one, xR_and, xR_or, xR_cmp, xR_ite, xR_idx, xR_sli, xR_lst, xR_tup, xR_call, xR_b1, xR_b2, xR_isi, xR_comp, yRet, yBl, yTmp, yB1, yB2, yNeg, yNot, yAnd, yOr, yC1, yC2, yIf, yI1, yI2, yS1, yS2, yS3, yLst, yTup, yCall, yF1, yG1, yG2, yIsi, yComp, xT_not, xT_one, xT_and, xT_or, xT_cmp, xT_val, yBo, yTn, yTa, yTo, yD1, yD2, yTv, xF_yes, xF_test, xEs_nil, xEs_cons, yE1, yE2, xAs_nil, xAs_cons, yA1, yA2, xO_none, xO_some, yO, xI_seq, xI_rng, xI_rng2, xI_enum, xI_zip, ySeq, yRng, yR1, yR2, yEnum, yZ1, yZ2, yVal, yValt, yValL, yValLt, yValLs, yValLm, yX, yXt, yAv, yAx, yAxt, yCons, xE_s, xE_v, xE_o, xL_s, xL_l, xL_t, xL_z, xL_o, xL_b, xL_c, xS_pass, xS_stuck, xS_expr, yExpr, oGo_some, xS_app, yApp, yApp2, xS_ext, yExt, yExt2, xS_clr, xS_ret, yRt, xS_retN, xS_set, ySet, xS_setT, yST, yNx, xS_setI, ySI, ySI2, ySI3, ySI4, xS_ite, yIte, xS_for, yFor, xS_whl, xSs_nil, xSs_cons, yNext, yNextr, xFo_nil, xFo_cons, yFo1, yFo2, yFo2r, xWh, yWh1, yWh2, yWh2r, xP_nil, xP_cons, yP1, yP2, yP3, eE_bin, eL_bin, eX_bin, eA_bin, eE_neg, eL_neg, eX_neg, eA_neg, eE_not, eL_not, eX_not, eA_not, eE_one, eL_one, eX_one, eA_one, eE_and, eL_and, eX_and, eA_and, eE_or, eL_or, eX_or, eA_or, eE_cmp, eL_cmp, eX_cmp, eA_cmp, eE_ite, eL_ite, eX_ite, eA_ite, eE_idx, eL_idx, eX_idx, eA_idx, eE_sli, eL_sli, eX_sli, eA_sli, eE_lst, eL_lst, eX_lst, eA_lst, eE_tup, eL_tup, eX_tup, eA_tup, eE_call, eL_call, eX_call, eA_call, eE_b1, eL_b1, eX_b1, eA_b1, eE_b2, eL_b2, eX_b2, eA_b2, eE_isi, eL_isi, eX_isi, eA_isi, eE_comp, eL_comp, eX_comp, eA_comp, eE_var, eE_con, eL_var, eL_con, eX_var, eX_con, eA_var, eA_con, bAdd, bAdds, bAddtt, bAddtc, bAddtv, bAddct, bAddcc, bAddcv, bAddvt, bAddvc, bAddvv, bSub, bMult, bDiv, bMod, bPow, cEq, cNe, cLt, cLe, cGt, cGe, cIs, cIsN, cIn, cNi, mIn, rgoV, rgoT, setIs_nil, setIs_cons, sgn_some, ixS, th_ok, th_no, of_some, runD, slN, toSl, flR, List.map_cons, List.map_nil, List.length_cons, List.length_nil, List.replicate, List.cons_append, List.nil_append, List.set_cons_zero, List.set_cons_succ, at_0, at_1, at_2, L2.atI_last, ixN_app, set_app, emp_app, toAr, Rv.int?, Rv.str?, Rv.bl?, Rv.tup?, Rv.list?, Rv.plain?, Rv.data, Rv.non?, truthD, seqD, idxD, lenD, listD, intD, maxD, minD, int2, sliceD, B1.go, B2.go, Ty.go, Ty.of, Bool.not_true, Bool.not_false, reduceIte, Option.map_some, Option.bind_some, if_true, if_false, Bool.false_eq_true, and_self, true_and, decide_true, decide_false, Int.reduceLT, Int.reduceLE, Nat.reduceAdd, Nat.reduceSub, h1, at_map hy, at_map ha, eq, Nat.add_zero]
    · have h1 : ¬ (e : Int) < ((l.map lD).length : Int) := by rw [List.length_map]; omega
      rw [List.drop_eq_nil_of_le (by omega)]
      refine (th_ret _).symm.trans ?_
      simp only [u_t__law_runs_0, slR_s, slR_v, slR_o, slR_b, slR_c, slX_s, slX_v, slX_o, ownI_s, ownI_o, xR_var, xR_con, xR_bin, xR_neg, xR_not, xR_one, xR_and, xR_or, xR_cmp, xR_ite, xR_idx, xR_sli, xR_lst, xR_tup, xR_call, xR_b1, xR_b2, xR_isi, xR_comp, yRet, yBl, yTmp, yB1, yB2, yNeg, yNot, yAnd, yOr, yC1, yC2, yIf, yI1, yI2, yS1, yS2, yS3, yLst, yTup, yCall, yF1, yG1, yG2, yIsi, yComp, xT_not, xT_one, xT_and, xT_or, xT_cmp, xT_val, yBo, yTn, yTa, yTo, yD1, yD2, yTv, xF_yes, xF_test, xEs_nil, xEs_cons, yE1, yE2, xAs_nil, xAs_cons, yA1, yA2, xO_none, xO_some, yO, xI_seq, xI_rng, xI_rng2, xI_enum, xI_zip, ySeq, yRng, yR1, yR2, yEnum, yZ1, yZ2, yVal, yValt, yValL, yValLt, yValLs, yValLm, yX, yXt, yAv, yAx, yAxt, yCons, xE_s, xE_v, xE_o, xL_s, xL_l, xL_t, xL_z, xL_o, xL_b, xL_c, xS_pass, xS_stuck, xS_expr, yExpr, oGo_some, xS_app, yApp, yApp2, xS_ext, yExt, yExt2, xS_clr, xS_ret, yRt, xS_retN, xS_set, ySet, xS_setT, yST, yNx, xS_setI, ySI, ySI2, ySI3, ySI4, xS_ite, yIte, xS_for, yFor, xS_whl, xSs_nil, xSs_cons, yNext, yNextr, xFo_nil, xFo_cons, yFo1, yFo2, yFo2r, xWh, yWh1, yWh2, yWh2r, xP_nil, xP_cons, yP1, yP2, yP3, eE_bin, eL_bin, eX_bin, eA_bin, eE_neg, eL_neg, eX_neg, eA_neg, eE_not, eL_not, eX_not, eA_not, eE_one, eL_one, eX_one, eA_one, eE_and, eL_and, eX_and, eA_and, eE_or, eL_or, eX_or, eA_or, eE_cmp, eL_cmp, eX_cmp, eA_cmp, eE_ite, eL_ite, eX_ite, eA_ite, eE_idx, eL_idx, eX_idx, eA_idx, eE_sli, eL_sli, eX_sli, eA_sli, eE_lst, eL_lst, eX_lst, eA_lst, eE_tup, eL_tup, eX_tup, eA_tup, eE_call, eL_call, eX_call, eA_call, eE_b1, eL_b1, eX_b1, eA_b1, eE_b2, eL_b2, eX_b2, eA_b2, eE_isi, eL_isi, eX_isi, eA_isi, eE_comp, eL_comp, eX_comp, eA_comp, eE_var, eE_con, eL_var, eL_con, eX_var, eX_con, eA_var, eA_con, bAdd, bAdds, bAddtt, bAddtc, bAddtv, bAddct, bAddcc, bAddcv, bAddvt, bAddvc, bAddvv, bSub, bMult, bDiv, bMod, bPow, cEq, cNe, cLt, cLe, cGt, cGe, cIs, cIsN, cIn, cNi, mIn, rgoV, rgoT, setIs_nil, setIs_cons, sgn_some, ixS, th_ok, th_no, of_some, runD, slN, toSl, flR, List.map_cons, List.map_nil, List.length_cons, List.length_nil, List.replicate, List.cons_append, List.nil_append, List.set_cons_zero, List.set_cons_succ, at_0, at_1, at_2, L2.atI_last, ixN_app, set_app, emp_app, toAr, Rv.int?, Rv.str?, Rv.bl?, Rv.tup?, Rv.list?, Rv.plain?, Rv.data, Rv.non?, truthD, seqD, idxD, lenD, listD, intD, maxD, minD, int2, sliceD, B1.go, B2.go, Ty.go, Ty.of, Bool.not_true, Bool.not_false, reduceIte, Option.map_some, Option.bind_some, if_true, if_false, Bool.false_eq_true, and_self, true_and, decide_true, decide_false, Int.reduceLT, Int.reduceLE, Nat.reduceAdd, Nat.reduceSub, h1, cnt, Nat.add_zero]
theorem runs_out (cl : Str → List Ar → R Rv) (f : Int) (l : List (Option Str)) (hl : ∀ x ∈ l, LandOk x) (h9 : l.length < 900) : ∀ (n a m : Nat) (r : List Run) (s4 : Sl), a ≤ l.length → l.length - a < n → l.length - a ≤ m → r.length + (l.length - a) < 1000 →
    ∃ s3' s4', whD cl 1000 t__law_runs_1 b__law_runs_1 n [.val (.lst (l.map lD)), .val (.int f), .own (r.map stD), .val (.int (a : Int)), s4] = .ok (.next [.val (.lst (l.map lD)), .val (.int f), .own ((r ++ runsF m (l.drop a) (f + a)).map stD), s3', s4']) := by
  intro n
  induction n with
  | zero => intro a m r s4 _ h; omega
  | succ n ih =>
    intro a m r s4 ha hn hm hr
    by_cases h : a < l.length
    · have h1 : (a : Int) < ((l.map lD).length : Int) := by rw [List.length_map]; omega
      obtain ⟨x, hx⟩ : ∃ x, l[a]? = some x := ⟨l[a], List.getElem?_eq_getElem h⟩
      have hxe : l[a] = x := by rw [List.getElem?_eq_getElem h] at hx; exact Option.some.inj hx
      have hdr : l.drop a = x :: l.drop (a + 1) := by rw [List.drop_eq_getElem_cons h, hxe]
      have ri := runs_in cl (.val (.int f)) (.own (r.map stD)) l hl a x hx 1000 a ha (by omega)
      obtain ⟨c, hc⟩ : ∃ c, c = cnt x (l.drop (a + 1)) := ⟨_, rfl⟩
      have hcl : c ≤ l.length - (a + 1) := by
        have := cnt_le x (l.drop (a + 1))
        rw [List.length_drop] at this
        omega
      rw [hdr, show cnt x (x :: l.drop (a + 1)) = cnt x (l.drop (a + 1)) + 1 from if_pos rfl, ← hc] at ri
      cases m with
      | zero => omega
      | succ m =>
        have hr1 : runsF (m + 1) (l.drop a) (f + a) = hd x (f + a) c ++ runsF m (l.drop (a + (c + 1))) (f + ((a + (c + 1) : Nat) : Int)) := by
          rw [hdr]
          show K53.hd x (f + a) (cnt x (l.drop (a + 1))) ++ runsF m ((l.drop (a + 1)).drop (cnt x (l.drop (a + 1)))) _ = _
          rw [← hc, List.drop_drop, show a + 1 + c = a + (c + 1) by omega, show f + (a : Int) + (c : Int) + 1 = f + ((a + (c + 1) : Nat) : Int) by omega]
        have e3 : f + ((a + (c + 1) : Nat) : Int) - 1 = f + a + c := by omega
        have hs : (r.map stD).length < sizeLine := by
          rw [List.length_map]
          show _ < 2 ^ 24
          omega
        cases x with
        | none =>
          obtain ⟨s3', s4', ih⟩ := ih (a + (c + 1)) m r (.val (.int ((a + (c + 1) : Nat) : Int))) (by omega) (by omega) (by omega) (by omega)
          refine ⟨s3', s4', ?_⟩
          rw [hr1]
          refine (th_ret _).symm.trans ?_
          have hx := at_map hx
          rw [lD] at hx
          simp only [u_t__law_runs_1, u_b__law_runs_1, slR_s, slR_v, slR_o, slR_b, slR_c, slX_s, slX_v, slX_o, ownI_s, ownI_o, xR_var, xR_con, xR_bin, xR_neg, xR_not, xR_one, xR_and, xR_or, xR_cmp, xR_ite, xR_idx, xR_sli, xR_lst, xR_tup, xR_call, xR_b1, xR_b2, xR_isi, xR_comp, yRet, yBl, yTmp, yB1, yB2, yNeg, yNot, yAnd, yOr, yC1, yC2, yIf, yI1, yI2, yS1, yS2, yS3, yLst, yTup, yCall, yF1, yG1, yG2, yIsi, yComp, xT_not, xT_one, xT_and, xT_or, xT_cmp, xT_val, yBo, yTn, yTa, yTo, yD1, yD2, yTv, xF_yes, xF_test, xEs_nil, xEs_cons, yE1, yE2, xAs_nil, xAs_cons, yA1, yA2, xO_none, xO_some, yO, xI_seq, xI_rng, xI_rng2, xI_enum, xI_zip, ySeq, yRng, yR1, yR2, yEnum, yZ1, yZ2, yVal, yValt, yValL, yValLt, yValLs, yValLm, yX, yXt, yAv, yAx, yAxt, yCons, xE_s, xE_v, xE_o, xL_s, xL_l, xL_t, xL_z, xL_o, xL_b, xL_c, xS_pass, xS_stuck, xS_expr, yExpr, oGo_some, xS_app, yApp, yApp2, xS_ext, yExt, yExt2, xS_clr, xS_ret, yRt, xS_retN, xS_set, ySet, xS_setT, yST, yNx, xS_setI, ySI, ySI2, ySI3, ySI4, xS_ite, yIte, xS_for, yFor, xS_whl, xSs_nil, xSs_cons, yNext, yNextr, xFo_nil, xFo_cons, yFo1, yFo2, yFo2r, xWh, yWh1, yWh2, yWh2r, xP_nil, xP_cons, yP1, yP2, yP3, eE_bin, eL_bin, eX_bin, eA_bin, eE_neg, eL_neg, eX_neg, eA_neg, eE_not, eL_not, eX_not, eA_not, eE_one, eL_one, eX_one, eA_one, eE_and, eL_and, eX_and, eA_and, eE_or, eL_or, eX_or, eA_or, eE_cmp, eL_cmp, eX_cmp, eA_cmp, eE_ite, eL_ite, eX_ite, eA_ite, eE_idx, eL_idx, eX_idx, eA_idx, eE_sli, eL_sli, eX_sli, eA_sli, eE_lst, eL_lst, eX_lst, eA_lst, eE_tup, eL_tup, eX_tup, eA_tup, eE_call, eL_call, eX_call, eA_call, eE_b1, eL_b1, eX_b1, eA_b1, eE_b2, eL_b2, eX_b2, eA_b2, eE_isi, eL_isi, eX_isi, eA_isi, eE_comp, eL_comp, eX_comp, eA_comp, eE_var, eE_con, eL_var, eL_con, eX_var, eX_con, eA_var, eA_con, bAdd, bAdds, bAddtt, bAddtc, bAddtv, bAddct, bAddcc, bAddcv, bAddvt, bAddvc, bAddvv, bSub, bMult, bDiv, bMod, bPow, cEq, cNe, cLt, cLe, cGt, cGe, cIs, cIsN, cIn, cNi, mIn, rgoV, rgoT, setIs_nil, setIs_cons, sgn_some, ixS, th_ok, th_no, of_some, runD, slN, toSl, flR, List.map_cons, List.map_nil, List.length_cons, List.length_nil, List.replicate, List.cons_append, List.nil_append, List.set_cons_zero, List.set_cons_succ, at_0, at_1, at_2, L2.atI_last, ixN_app, set_app, emp_app, toAr, Rv.int?, Rv.str?, Rv.bl?, Rv.tup?, Rv.list?, Rv.plain?, Rv.data, Rv.non?, truthD, seqD, idxD, lenD, listD, intD, maxD, minD, int2, sliceD, B1.go, B2.go, Ty.go, Ty.of, Bool.not_true, Bool.not_false, reduceIte, Option.map_some, Option.bind_some, if_true, if_false, Bool.false_eq_true, and_self, true_and, decide_true, decide_false, Int.reduceLT, Int.reduceLE, Nat.reduceAdd, Nat.reduceSub, h1, ri, hx, ih, List.nil_append, K53.hd]
        | some s =>
          obtain ⟨s3', s4', ih⟩ := ih (a + (c + 1)) m (r ++ [(s, f + a, f + a + c)]) (.val (.int ((a + (c + 1) : Nat) : Int))) (by omega) (by omega) (by omega) (by simp; omega)
          refine ⟨s3', s4', ?_⟩
          rw [hr1]
          refine (th_ret _).symm.trans ?_
          have hx := at_map hx
          rw [lD] at hx
          simp only [List.map_append, List.map_cons, List.map_nil, stD_eq] at ih
          simp only [u_t__law_runs_1, u_b__law_runs_1, slR_s, slR_v, slR_o, slR_b, slR_c, slX_s, slX_v, slX_o, ownI_s, ownI_o, xR_var, xR_con, xR_bin, xR_neg, xR_not, xR_one, xR_and, xR_or, xR_cmp, xR_ite, xR_idx, xR_sli, xR_lst, xR_tup, xR_call, xR_b1, xR_b2, xR_isi, xR_comp, yRet, yBl, yTmp, yB1, yB2, yNeg, yNot, yAnd, yOr, yC1, yC2, yIf, yI1, yI2, yS1, yS2, yS3, yLst, yTup, yCall, yF1, yG1, yG2, yIsi, yComp, xT_not, xT_one, xT_and, xT_or, xT_cmp, xT_val, yBo, yTn, yTa, yTo, yD1, yD2, yTv, xF_yes, xF_test, xEs_nil, xEs_cons, yE1, yE2, xAs_nil, xAs_cons, yA1, yA2, xO_none, xO_some, yO, xI_seq, xI_rng, xI_rng2, xI_enum, xI_zip, ySeq, yRng, yR1, yR2, yEnum, yZ1, yZ2, yVal, yValt, yValL, yValLt, yValLs, yValLm, yX, yXt, yAv, yAx, yAxt, yCons, xE_s, xE_v, xE_o, xL_s, xL_l, xL_t, xL_z, xL_o, xL_b, xL_c, xS_pass, xS_stuck, xS_expr, yExpr, oGo_some, xS_app, yApp, yApp2, xS_ext, yExt, yExt2, xS_clr, xS_ret, yRt, xS_retN, xS_set, ySet, xS_setT, yST, yNx, xS_setI, ySI, ySI2, ySI3, ySI4, xS_ite, yIte, xS_for, yFor, xS_whl, xSs_nil, xSs_cons, yNext, yNextr, xFo_nil, xFo_cons, yFo1, yFo2, yFo2r, xWh, yWh1, yWh2, yWh2r, xP_nil, xP_cons, yP1, yP2, yP3, eE_bin, eL_bin, eX_bin, eA_bin, eE_neg, eL_neg, eX_neg, eA_neg, eE_not, eL_not, eX_not, eA_not, eE_one, eL_one, eX_one, eA_one, eE_and, eL_and, eX_and, eA_and, eE_or, eL_or, eX_or, eA_or, eE_cmp, eL_cmp, eX_cmp, eA_cmp, eE_ite, eL_ite, eX_ite, eA_ite, eE_idx, eL_idx, eX_idx, eA_idx, eE_sli, eL_sli, eX_sli, eA_sli, eE_lst, eL_lst, eX_lst, eA_lst, eE_tup, eL_tup, eX_tup, eA_tup, eE_call, eL_call, eX_call, eA_call, eE_b1, eL_b1, eX_b1, eA_b1, eE_b2, eL_b2, eX_b2, eA_b2, eE_isi, eL_isi, eX_isi, eA_isi, eE_comp, eL_comp, eX_comp, eA_comp, eE_var, eE_con, eL_var, eL_con, eX_var, eX_con, eA_var, eA_con, bAdd, bAdds, bAddtt, bAddtc, bAddtv, bAddct, bAddcc, bAddcv, bAddvt, bAddvc, bAddvv, bSub, bMult, bDiv, bMod, bPow, cEq, cNe, cLt, cLe, cGt, cGe, cIs, cIsN, cIn, cNi, mIn, rgoV, rgoT, setIs_nil, setIs_cons, sgn_some, ixS, th_ok, th_no, of_some, runD, slN, toSl, flR, List.map_cons, List.map_nil, List.length_cons, List.length_nil, List.replicate, List.cons_append, List.nil_append, List.set_cons_zero, List.set_cons_succ, at_0, at_1, at_2, L2.atI_last, ixN_app, set_app, emp_app, toAr, Rv.int?, Rv.str?, Rv.bl?, Rv.tup?, Rv.list?, Rv.plain?, Rv.data, Rv.non?, truthD, seqD, idxD, lenD, listD, intD, maxD, minD, int2, sliceD, B1.go, B2.go, Ty.go, Ty.of, Bool.not_true, Bool.not_false, reduceIte, Option.map_some, Option.bind_some, if_true, if_false, Bool.false_eq_true, and_self, true_and, decide_true, decide_false, Int.reduceLT, Int.reduceLE, Nat.reduceAdd, Nat.reduceSub, h1, ri, hx, e3, hs, ih, K53.hd, List.map_append, stD_eq, List.append_assoc, show 0 + 1 + 1 + 1 ≤ sizeLine by decide +kernel]
    · have h1 : ¬ (a : Int) < ((l.map lD).length : Int) := by rw [List.length_map]; omega
      refine ⟨.val (.int (a : Int)), s4, ?_⟩
      rw [List.drop_eq_nil_of_le (by omega), show runsF m [] (f + a) = [] by cases m <;> rfl, List.append_nil]
      refine (th_ret _).symm.trans ?_
      simp only [u_t__law_runs_1, slR_s, slR_v, slR_o, slR_b, slR_c, slX_s, slX_v, slX_o, ownI_s, ownI_o, xR_var, xR_con, xR_bin, xR_neg, xR_not, xR_one, xR_and, xR_or, xR_cmp, xR_ite, xR_idx, xR_sli, xR_lst, xR_tup, xR_call, xR_b1, xR_b2, xR_isi, xR_comp, yRet, yBl, yTmp, yB1, yB2, yNeg, yNot, yAnd, yOr, yC1, yC2, yIf, yI1, yI2, yS1, yS2, yS3, yLst, yTup, yCall, yF1, yG1, yG2, yIsi, yComp, xT_not, xT_one, xT_and, xT_or, xT_cmp, xT_val, yBo, yTn, yTa, yTo, yD1, yD2, yTv, xF_yes, xF_test, xEs_nil, xEs_cons, yE1, yE2, xAs_nil, xAs_cons, yA1, yA2, xO_none, xO_some, yO, xI_seq, xI_rng, xI_rng2, xI_enum, xI_zip, ySeq, yRng, yR1, yR2, yEnum, yZ1, yZ2, yVal, yValt, yValL, yValLt, yValLs, yValLm, yX, yXt, yAv, yAx, yAxt, yCons, xE_s, xE_v, xE_o, xL_s, xL_l, xL_t, xL_z, xL_o, xL_b, xL_c, xS_pass, xS_stuck, xS_expr, yExpr, oGo_some, xS_app, yApp, yApp2, xS_ext, yExt, yExt2, xS_clr, xS_ret, yRt, xS_retN, xS_set, ySet, xS_setT, yST, yNx, xS_setI, ySI, ySI2, ySI3, ySI4, xS_ite, yIte, xS_for, yFor, xS_whl, xSs_nil, xSs_cons, yNext, yNextr, xFo_nil, xFo_cons, yFo1, yFo2, yFo2r, xWh, yWh1, yWh2, yWh2r, xP_nil, xP_cons, yP1, yP2, yP3, eE_bin, eL_bin, eX_bin, eA_bin, eE_neg, eL_neg, eX_neg, eA_neg, eE_not, eL_not, eX_not, eA_not, eE_one, eL_one, eX_one, eA_one, eE_and, eL_and, eX_and, eA_and, eE_or, eL_or, eX_or, eA_or, eE_cmp, eL_cmp, eX_cmp, eA_cmp, eE_ite, eL_ite, eX_ite, eA_ite, eE_idx, eL_idx, eX_idx, eA_idx, eE_sli, eL_sli, eX_sli, eA_sli, eE_lst, eL_lst, eX_lst, eA_lst, eE_tup, eL_tup, eX_tup, eA_tup, eE_call, eL_call, eX_call, eA_call, eE_b1, eL_b1, eX_b1, eA_b1, eE_b2, eL_b2, eX_b2, eA_b2, eE_isi, eL_isi, eX_isi, eA_isi, eE_comp, eL_comp, eX_comp, eA_comp, eE_var, eE_con, eL_var, eL_con, eX_var, eX_con, eA_var, eA_con, bAdd, bAdds, bAddtt, bAddtc, bAddtv, bAddct, bAddcc, bAddcv, bAddvt, bAddvc, bAddvv, bSub, bMult, bDiv, bMod, bPow, cEq, cNe, cLt, cLe, cGt, cGe, cIs, cIsN, cIn, cNi, mIn, rgoV, rgoT, setIs_nil, setIs_cons, sgn_some, ixS, th_ok, th_no, of_some, runD, slN, toSl, flR, List.map_cons, List.map_nil, List.length_cons, List.length_nil, List.replicate, List.cons_append, List.nil_append, List.set_cons_zero, List.set_cons_succ, at_0, at_1, at_2, L2.atI_last, ixN_app, set_app, emp_app, toAr, Rv.int?, Rv.str?, Rv.bl?, Rv.tup?, Rv.list?, Rv.plain?, Rv.data, Rv.non?, truthD, seqD, idxD, lenD, listD, intD, maxD, minD, int2, sliceD, B1.go, B2.go, Ty.go, Ty.of, Bool.not_true, Bool.not_false, reduceIte, Option.map_some, Option.bind_some, if_true, if_false, Bool.false_eq_true, and_self, true_and, decide_true, decide_false, Int.reduceLT, Int.reduceLE, Nat.reduceAdd, Nat.reduceSub, h1]
theorem runs_ok (k : Nat) (f : Int) (l : List (Option Str)) (hl : ∀ x ∈ l, LandOk x) (h9 : l.length < 900) : clK pg (k + 1) "_law_runs" [.val (.lst (l.map lD)), .val (.int f)] = .ok (.tmp ((runsF l.length l f).map stD)) := by
  obtain ⟨s3', s4', h⟩ := runs_out (clK pg k) f l hl h9 1000 0 l.length [] .no (by omega) (by omega) (by omega) (by simp; omega)
  rw [List.drop_zero, List.nil_append, List.map_nil, show ((0 : Nat) : Int) = 0 from rfl, Int.add_zero] at h
  rw [r__law_runs]
  simp only [c__law_runs, slR_s, slR_v, slR_o, slR_b, slR_c, slX_s, slX_v, slX_o, ownI_s, ownI_o, xR_var, xR_con, xR_bin, xR_neg, xR_not, xR_one, xR_and, xR_or, xR_cmp, xR_ite, xR_idx, xR_sli, xR_lst, xR_tup, xR_call, xR_b1, xR_b2, xR_isi, xR_comp, yRet, yBl, yTmp, yB1, yB2, yNeg, yNot, yAnd, yOr, yC1, yC2, yIf, yI1, yI2, yS1, yS2, yS3, yLst, yTup, yCall, yF1, yG1, yG2, yIsi, yComp, xT_not, xT_one, xT_and, xT_or, xT_cmp, xT_val, yBo, yTn, yTa, yTo, yD1, yD2, yTv, xF_yes, xF_test, xEs_nil, xEs_cons, yE1, yE2, xAs_nil, xAs_cons, yA1, yA2, xO_none, xO_some, yO, xI_seq, xI_rng, xI_rng2, xI_enum, xI_zip, ySeq, yRng, yR1, yR2, yEnum, yZ1, yZ2, yVal, yValt, yValL, yValLt, yValLs, yValLm, yX, yXt, yAv, yAx, yAxt, yCons, xE_s, xE_v, xE_o, xL_s, xL_l, xL_t, xL_z, xL_o, xL_b, xL_c, xS_pass, xS_stuck, xS_expr, yExpr, oGo_some, xS_app, yApp, yApp2, xS_ext, yExt, yExt2, xS_clr, xS_ret, yRt, xS_retN, xS_set, ySet, xS_setT, yST, yNx, xS_setI, ySI, ySI2, ySI3, ySI4, xS_ite, yIte, xS_for, yFor, xS_whl, xSs_nil, xSs_cons, yNext, yNextr, xFo_nil, xFo_cons, yFo1, yFo2, yFo2r, xWh, yWh1, yWh2, yWh2r, xP_nil, xP_cons, yP1, yP2, yP3, eE_bin, eL_bin, eX_bin, eA_bin, eE_neg, eL_neg, eX_neg, eA_neg, eE_not, eL_not, eX_not, eA_not, eE_one, eL_one, eX_one, eA_one, eE_and, eL_and, eX_and, eA_and, eE_or, eL_or, eX_or, eA_or, eE_cmp, eL_cmp, eX_cmp, eA_cmp, eE_ite, eL_ite, eX_ite, eA_ite, eE_idx, eL_idx, eX_idx, eA_idx, eE_sli, eL_sli, eX_sli, eA_sli, eE_lst, eL_lst, eX_lst, eA_lst, eE_tup, eL_tup, eX_tup, eA_tup, eE_call, eL_call, eX_call, eA_call, eE_b1, eL_b1, eX_b1, eA_b1, eE_b2, eL_b2, eX_b2, eA_b2, eE_isi, eL_isi, eX_isi, eA_isi, eE_comp, eL_comp, eX_comp, eA_comp, eE_var, eE_con, eL_var, eL_con, eX_var, eX_con, eA_var, eA_con, bAdd, bAdds, bAddtt, bAddtc, bAddtv, bAddct, bAddcc, bAddcv, bAddvt, bAddvc, bAddvv, bSub, bMult, bDiv, bMod, bPow, cEq, cNe, cLt, cLe, cGt, cGe, cIs, cIsN, cIn, cNi, mIn, rgoV, rgoT, setIs_nil, setIs_cons, sgn_some, ixS, th_ok, th_no, of_some, runD, slN, toSl, flR, List.map_cons, List.map_nil, List.length_cons, List.length_nil, List.replicate, List.cons_append, List.nil_append, List.set_cons_zero, List.set_cons_succ, at_0, at_1, at_2, L2.atI_last, ixN_app, set_app, emp_app, toAr, Rv.int?, Rv.str?, Rv.bl?, Rv.tup?, Rv.list?, Rv.plain?, Rv.data, Rv.non?, truthD, seqD, idxD, lenD, listD, intD, maxD, minD, int2, sliceD, B1.go, B2.go, Ty.go, Ty.of, Bool.not_true, Bool.not_false, reduceIte, Option.map_some, Option.bind_some, if_true, if_false, Bool.false_eq_true, and_self, true_and, decide_true, decide_false, Int.reduceLT, Int.reduceLE, Nat.reduceAdd, Nat.reduceSub, h, show (0 : Nat) ≤ sizeLine by decide +kernel]
end K53
set_option maxHeartbeats 4000000
namespace K53
open PySem L2 DE
def En : Int → List Run → Int
  | e, [] => e
  | _, s :: l => En s.2.2 l
theorem ch_snoc : ∀ (l : List Run) (e : Int) (s : Run), Ch e l → StOk (En e l) s → Ch e (l ++ [s])
  | [], e, s, _, h => ⟨h, trivial⟩
  | q :: l, e, s, h, h2 => ⟨h.1, ch_snoc l q.2.2 s h.2 h2⟩
theorem en_snoc : ∀ (l : List Run) (e : Int) (s : Run), En e (l ++ [s]) = s.2.2
  | [], e, s => rfl
  | q :: l, e, s => en_snoc l q.2.2 s
theorem ch_names : ∀ (l : List Run) (e : Int), Ch e l → ∀ s ∈ l, NameOk s.1
  | [], _, _, s, h => by cases h
  | q :: l, e, h, s, hs => by
    rcases List.mem_cons.mp hs with rfl | hs
    · exact h.1.nm
    · exact ch_names l q.2.2 h.2 s hs
theorem fold_ok : ∀ (l : List (Option Str)) (r : List Run) (f : Int), RunsOk r → (∀ x ∈ l, LandOk x) → RunsOk (foldR r l f) ∧ (foldR r l f).length ≤ r.length + l.length
  | [], r, f, h, _ => ⟨h, Nat.le_refl _⟩
  | x :: l, r, f, h, hx => by
    obtain ⟨h1, h2⟩ := step_ok (f := f) h (hx x (by simp))
    obtain ⟨h3, h4⟩ := fold_ok l (stepR r x f) (f + 1) h1 fun y hy => hx y (by simp [hy])
    exact ⟨h3, by rw [foldR, List.length_cons]; omega⟩
theorem ok_st {s : Run} (h : NameOk s.1) : okD (stD s) = true ∧ dpD (stD s) ≤ 1 := by
  refine ⟨?_, ?_⟩
  · rw [stD_eq, okD, okDs, okDs, okDs, okDs, okD, okD, okD, strOk_of h]; rfl
  · rw [stD_eq, dpD, dpDs, dpDs, dpDs, dpDs, dpD, dpD, dpD]; decide
theorem ok_sts {l : List Run} (h : RunsOk l) : (∀ d ∈ l.map stD, okD d = true) ∧ ∀ d ∈ l.map stD, dpD d ≤ 2 := by
  refine ⟨fun d hd => ?_, fun d hd => ?_⟩
  · obtain ⟨s, hs, rfl⟩ := List.mem_map.mp hd
    exact (ok_st (h s hs)).1
  · obtain ⟨s, hs, rfl⟩ := List.mem_map.mp hd
    have := (ok_st (h s hs)).2
    omega
theorem ok_plan : ∀ (p : List (Option Str)) (f : Int), (∀ x ∈ p, LandOk x) → (∀ d ∈ planF f p, okD d = true) ∧ ∀ d ∈ planF f p, dpD d ≤ 2
  | [], f, _ => by
    rw [planF]
    exact ⟨fun d hd => absurd hd (by simp), fun d hd => absurd hd (by simp)⟩
  | x :: p, f, h => by
    obtain ⟨h1, h2⟩ := ok_plan p (f + 1) fun y hy => h y (by simp [hy])
    obtain ⟨h3, h4⟩ := okD_lD (h x (by simp))
    refine ⟨fun d hd => ?_, fun d hd => ?_⟩
    · rw [planF] at hd
      rcases List.mem_cons.mp hd with rfl | hd
      · rw [okD, okDs, okDs, okDs, okDs, okD, okD, okDs, h3]; rfl
      · exact h1 d hd
    · rw [planF] at hd
      rcases List.mem_cons.mp hd with rfl | hd
      · rw [dpD, dpDs, dpDs, dpDs, dpDs, dpD, dpD, dpDs, h4]; decide
      · exact h2 d hd
theorem self_lst {l : List D} (h1 : ∀ d ∈ l, okD d = true) (h2 : ∀ d ∈ l, dpD d ≤ 3) : eqD (.lst l) (.lst l) = some true := by
  refine eqD_self (by rw [okD]; exact okDs_of h1) ?_
  have := dpDs_of h2
  rw [dpD]
  omega
theorem law_step (cl : Str → List Ar → R Rv) (v0 s5 s6 s7 s8 s9 s10 s11 : Sl) (zs : List Str) (h3 : zs.length = 3) (hz : ∀ z ∈ zs, NameOk z) (l : List Run) (hl : l.length < 900) (day c : Int) :
    ∃ (s : Run) (s5' : Sl), NameOk s.1 ∧ day ≤ s.2.1 ∧ s.2.1 ≤ s.2.2 ∧ s.2.2 ≤ day + 12 ∧ iSs cl 1000 b_law_0 [v0, .own (zs.map D.str), .val (.int day), .own (l.map stD), .val (.int c), s5, s6, s7, s8, s9, s10, s11] = .ok (.next [v0, .own (zs.map D.str), .val (.int (s.2.2 + 1)), .own (l.map stD ++ [stD s]), .val (.int c), s5', s6, s7, s8, s9, s10, s11]) := by
  have m1 : mulB c 1099087573 = true := mulB_r (by decide) (by decide)
  obtain ⟨n, hn⟩ : ∃ n, n = c * 1099087573 % 10000000000037 := ⟨_, rfl⟩
  obtain ⟨z, hz1, hz2⟩ := name_at h3 hz (n % 3) (Int.emod_nonneg _ (by decide)) (Int.emod_lt_of_pos _ (by decide))
  have hs : (l.map stD).length < sizeLine := by
    rw [List.length_map]
    show _ < 2 ^ 24
    omega
  refine ⟨(z, day + n / 3 % 5, day + n / 3 % 5 + n / 15 % 9), .val (.int n), hz2, by show day ≤ day + n / 3 % 5; omega, by show day + n / 3 % 5 ≤ day + n / 3 % 5 + n / 15 % 9; omega, by show day + n / 3 % 5 + n / 15 % 9 ≤ day + 12; omega, ?_⟩
  have e2 : atI (l.map stD ++ [D.tup [.str z, .int (day + n / 3 % 5), .int (day + n / 3 % 5 + n / 15 % 9)]]) (((l.map stD ++ [D.tup [.str z, .int (day + n / 3 % 5), .int (day + n / 3 % 5 + n / 15 % 9)]]).length : Int) - 1) = some (.tup [.str z, .int (day + n / 3 % 5), .int (day + n / 3 % 5 + n / 15 % 9)]) := by
    rw [show (((l.map stD ++ [D.tup [.str z, .int (day + n / 3 % 5), .int (day + n / 3 % 5 + n / 15 % 9)]]).length : Int) - 1) = ((l.map stD).length : Int) by simp only [List.length_append, List.length_cons, List.length_nil]; omega]
    exact at_n (by simp)
  refine (th_ret _).symm.trans ?_
  simp only [u_b_law_0, slR_s, slR_v, slR_o, slR_b, slR_c, slX_s, slX_v, slX_o, ownI_s, ownI_o, xR_var, xR_con, xR_bin, xR_neg, xR_not, xR_one, xR_and, xR_or, xR_cmp, xR_ite, xR_idx, xR_sli, xR_lst, xR_tup, xR_call, xR_b1, xR_b2, xR_isi, xR_comp, yRet, yBl, yTmp, yB1, yB2, yNeg, yNot, yAnd, yOr, yC1, yC2, yIf, yI1, yI2, yS1, yS2, yS3, yLst, yTup, yCall, yF1, yG1, yG2, yIsi, yComp, xT_not, xT_one, xT_and, xT_or, xT_cmp, xT_val, yBo, yTn, yTa, yTo, yD1, yD2, yTv, xF_yes, xF_test, xEs_nil, xEs_cons, yE1, yE2, xAs_nil, xAs_cons, yA1, yA2, xO_none, xO_some, yO, xI_seq, xI_rng, xI_rng2, xI_enum, xI_zip, ySeq, yRng, yR1, yR2, yEnum, yZ1, yZ2, yVal, yValt, yValL, yValLt, yValLs, yValLm, yX, yXt, yAv, yAx, yAxt, yCons, xE_s, xE_v, xE_o, xL_s, xL_l, xL_t, xL_z, xL_o, xL_b, xL_c, xS_pass, xS_stuck, xS_expr, yExpr, oGo_some, xS_app, yApp, yApp2, xS_ext, yExt, yExt2, xS_clr, xS_ret, yRt, xS_retN, xS_set, ySet, xS_setT, yST, yNx, xS_setI, ySI, ySI2, ySI3, ySI4, xS_ite, yIte, xS_for, yFor, xS_whl, xSs_nil, xSs_cons, yNext, yNextr, xFo_nil, xFo_cons, yFo1, yFo2, yFo2r, xWh, yWh1, yWh2, yWh2r, xP_nil, xP_cons, yP1, yP2, yP3, eE_bin, eL_bin, eX_bin, eA_bin, eE_neg, eL_neg, eX_neg, eA_neg, eE_not, eL_not, eX_not, eA_not, eE_one, eL_one, eX_one, eA_one, eE_and, eL_and, eX_and, eA_and, eE_or, eL_or, eX_or, eA_or, eE_cmp, eL_cmp, eX_cmp, eA_cmp, eE_ite, eL_ite, eX_ite, eA_ite, eE_idx, eL_idx, eX_idx, eA_idx, eE_sli, eL_sli, eX_sli, eA_sli, eE_lst, eL_lst, eX_lst, eA_lst, eE_tup, eL_tup, eX_tup, eA_tup, eE_call, eL_call, eX_call, eA_call, eE_b1, eL_b1, eX_b1, eA_b1, eE_b2, eL_b2, eX_b2, eA_b2, eE_isi, eL_isi, eX_isi, eA_isi, eE_comp, eL_comp, eX_comp, eA_comp, eE_var, eE_con, eL_var, eL_con, eX_var, eX_con, eA_var, eA_con, bAdd, bAdds, bAddtt, bAddtc, bAddtv, bAddct, bAddcc, bAddcv, bAddvt, bAddvc, bAddvv, bSub, bMult, bDiv, bMod, bPow, cEq, cNe, cLt, cLe, cGt, cGe, cIs, cIsN, cIn, cNi, mIn, rgoV, rgoT, setIs_nil, setIs_cons, sgn_some, ixS, th_ok, th_no, of_some, runD, slN, toSl, flR, List.map_cons, List.map_nil, List.length_cons, List.length_nil, List.replicate, List.cons_append, List.nil_append, List.set_cons_zero, List.set_cons_succ, at_0, at_1, at_2, L2.atI_last, ixN_app, set_app, emp_app, toAr, Rv.int?, Rv.str?, Rv.bl?, Rv.tup?, Rv.list?, Rv.plain?, Rv.data, Rv.non?, truthD, seqD, idxD, lenD, listD, intD, maxD, minD, int2, sliceD, B1.go, B2.go, Ty.go, Ty.of, Bool.not_true, Bool.not_false, reduceIte, Option.map_some, Option.bind_some, if_true, if_false, Bool.false_eq_true, and_self, true_and, decide_true, decide_false, Int.reduceLT, Int.reduceLE, Nat.reduceAdd, Nat.reduceSub, m1, ← hn, hz1, hs, e2, stD_eq, show 0 + 1 + 1 + 1 ≤ sizeLine by decide +kernel]
structure DayInv (l : List Run) (day : Int) : Prop where
  ch : Ch (-1) l
  en : En (-1) l < day
  lo : 0 ≤ day
  hi : day ≤ 100000000 + 20 * l.length
theorem law_loop (cl : Str → List Ar → R Rv) (v0 s6 s7 s8 s9 s10 s11 : Sl) (zs : List Str) (h3 : zs.length = 3) (hz : ∀ z ∈ zs, NameOk z) (ns : List Int) : ∀ (l : List Run) (day : Int) (s4 s5 : Sl), DayInv l day → l.length + ns.length < 900 →
    ∃ (l' : List Run) (day' : Int) (s4' s5' : Sl), DayInv l' day' ∧ l'.length = l.length + ns.length ∧ forD cl 1000 (.one 4) b_law_0 (ns.map D.int) [v0, .own (zs.map D.str), .val (.int day), .own (l.map stD), s4, s5, s6, s7, s8, s9, s10, s11] = .ok (.next [v0, .own (zs.map D.str), .val (.int day'), .own (l'.map stD), s4', s5', s6, s7, s8, s9, s10, s11]) := by
  induction ns with
  | nil => exact fun l day s4 s5 h _ => ⟨l, day, s4, s5, h, rfl, rfl⟩
  | cons c ns ih =>
    intro l day s4 s5 hi hl
    rw [List.length_cons] at hl
    obtain ⟨s, t5, q1, q2, q3, q4, st⟩ := law_step cl v0 s5 s6 s7 s8 s9 s10 s11 zs h3 hz l (by omega) day c
    have e0 := hi.en
    have e1 := hi.lo
    have e2 := hi.hi
    obtain ⟨l', day', s4', s5', h1, h2, ih⟩ := ih (l ++ [s]) (s.2.2 + 1) (.val (.int c)) t5 ⟨ch_snoc l (-1) s hi.ch ⟨q1, by omega, q3, by omega⟩, by rw [en_snoc]; omega, by omega, by simp; omega⟩ (by simp; omega)
    refine ⟨l', day', s4', s5', h1, by rw [h2]; simp; omega, ?_⟩
    simp only [List.map_append, List.map_cons, List.map_nil] at ih
    refine (th_ret _).symm.trans ?_
    rw [List.map_cons]
    simp only [slR_s, slR_v, slR_o, slR_b, slR_c, slX_s, slX_v, slX_o, ownI_s, ownI_o, xR_var, xR_con, xR_bin, xR_neg, xR_not, xR_one, xR_and, xR_or, xR_cmp, xR_ite, xR_idx, xR_sli, xR_lst, xR_tup, xR_call, xR_b1, xR_b2, xR_isi, xR_comp, yRet, yBl, yTmp, yB1, yB2, yNeg, yNot, yAnd, yOr, yC1, yC2, yIf, yI1, yI2, yS1, yS2, yS3, yLst, yTup, yCall, yF1, yG1, yG2, yIsi, yComp, xT_not, xT_one, xT_and, xT_or, xT_cmp, xT_val, yBo, yTn, yTa, yTo, yD1, yD2, yTv, xF_yes, xF_test, xEs_nil, xEs_cons, yE1, yE2, xAs_nil, xAs_cons, yA1, yA2, xO_none, xO_some, yO, xI_seq, xI_rng, xI_rng2, xI_enum, xI_zip, ySeq, yRng, yR1, yR2, yEnum, yZ1, yZ2, yVal, yValt, yValL, yValLt, yValLs, yValLm, yX, yXt, yAv, yAx, yAxt, yCons, xE_s, xE_v, xE_o, xL_s, xL_l, xL_t, xL_z, xL_o, xL_b, xL_c, xS_pass, xS_stuck, xS_expr, yExpr, oGo_some, xS_app, yApp, yApp2, xS_ext, yExt, yExt2, xS_clr, xS_ret, yRt, xS_retN, xS_set, ySet, xS_setT, yST, yNx, xS_setI, ySI, ySI2, ySI3, ySI4, xS_ite, yIte, xS_for, yFor, xS_whl, xSs_nil, xSs_cons, yNext, yNextr, xFo_nil, xFo_cons, yFo1, yFo2, yFo2r, xWh, yWh1, yWh2, yWh2r, xP_nil, xP_cons, yP1, yP2, yP3, eE_bin, eL_bin, eX_bin, eA_bin, eE_neg, eL_neg, eX_neg, eA_neg, eE_not, eL_not, eX_not, eA_not, eE_one, eL_one, eX_one, eA_one, eE_and, eL_and, eX_and, eA_and, eE_or, eL_or, eX_or, eA_or, eE_cmp, eL_cmp, eX_cmp, eA_cmp, eE_ite, eL_ite, eX_ite, eA_ite, eE_idx, eL_idx, eX_idx, eA_idx, eE_sli, eL_sli, eX_sli, eA_sli, eE_lst, eL_lst, eX_lst, eA_lst, eE_tup, eL_tup, eX_tup, eA_tup, eE_call, eL_call, eX_call, eA_call, eE_b1, eL_b1, eX_b1, eA_b1, eE_b2, eL_b2, eX_b2, eA_b2, eE_isi, eL_isi, eX_isi, eA_isi, eE_comp, eL_comp, eX_comp, eA_comp, eE_var, eE_con, eL_var, eL_con, eX_var, eX_con, eA_var, eA_con, bAdd, bAdds, bAddtt, bAddtc, bAddtv, bAddct, bAddcc, bAddcv, bAddvt, bAddvc, bAddvv, bSub, bMult, bDiv, bMod, bPow, cEq, cNe, cLt, cLe, cGt, cGe, cIs, cIsN, cIn, cNi, mIn, rgoV, rgoT, setIs_nil, setIs_cons, sgn_some, ixS, th_ok, th_no, of_some, runD, slN, toSl, flR, List.map_cons, List.map_nil, List.length_cons, List.length_nil, List.replicate, List.cons_append, List.nil_append, List.set_cons_zero, List.set_cons_succ, at_0, at_1, at_2, L2.atI_last, ixN_app, set_app, emp_app, toAr, Rv.int?, Rv.str?, Rv.bl?, Rv.tup?, Rv.list?, Rv.plain?, Rv.data, Rv.non?, truthD, seqD, idxD, lenD, listD, intD, maxD, minD, int2, sliceD, B1.go, B2.go, Ty.go, Ty.of, Bool.not_true, Bool.not_false, reduceIte, Option.map_some, Option.bind_some, if_true, if_false, Bool.false_eq_true, and_self, true_and, decide_true, decide_false, Int.reduceLT, Int.reduceLE, Nat.reduceAdd, Nat.reduceSub, st, ih]
theorem enF_len : ∀ (l : List D) (i : Nat), (enF i l).length = l.length
  | [], _ => rfl
  | d :: l, i => by rw [enF, List.length_cons, List.length_cons, enF_len l (i + 1)]
theorem plan_loop (cl : Str → List Ar → R Rv) (f : Int) (p : List (Option Str)) : ∀ (i : Nat) (s0 s1 : Sl) (acc : List D), acc.length + p.length < 5000 →
    compD cl e_law_0 (.many [0, 1]) .yes (enF i (p.map lD)) [s0, s1, .val (.int f)] acc = .ok (acc ++ planF (f + i) p) := by
  induction p with
  | nil =>
    intro i s0 s1 acc _
    rw [List.map_nil, enF, planF, List.append_nil]
    rfl
  | cons x p ih =>
    intro i s0 s1 acc hl
    rw [List.length_cons] at hl
    have ih := ih (i + 1) (.val (.int i)) (.val (lD x)) (acc ++ [.tup [.int (f + i), lD x, .lst []]]) (by simp; omega)
    rw [List.append_assoc, show f + ((i + 1 : Nat) : Int) = f + i + 1 by omega] at ih
    have hs : acc.length < sizeLine := by show _ < 2 ^ 24; omega
    refine (th_ret _).symm.trans ?_
    rw [List.map_cons, enF, planF]
    simp only [u_e_law_0, slR_s, slR_v, slR_o, slR_b, slR_c, slX_s, slX_v, slX_o, ownI_s, ownI_o, xR_var, xR_con, xR_bin, xR_neg, xR_not, xR_one, xR_and, xR_or, xR_cmp, xR_ite, xR_idx, xR_sli, xR_lst, xR_tup, xR_call, xR_b1, xR_b2, xR_isi, xR_comp, yRet, yBl, yTmp, yB1, yB2, yNeg, yNot, yAnd, yOr, yC1, yC2, yIf, yI1, yI2, yS1, yS2, yS3, yLst, yTup, yCall, yF1, yG1, yG2, yIsi, yComp, xT_not, xT_one, xT_and, xT_or, xT_cmp, xT_val, yBo, yTn, yTa, yTo, yD1, yD2, yTv, xF_yes, xF_test, xEs_nil, xEs_cons, yE1, yE2, xAs_nil, xAs_cons, yA1, yA2, xO_none, xO_some, yO, xI_seq, xI_rng, xI_rng2, xI_enum, xI_zip, ySeq, yRng, yR1, yR2, yEnum, yZ1, yZ2, yVal, yValt, yValL, yValLt, yValLs, yValLm, yX, yXt, yAv, yAx, yAxt, yCons, xE_s, xE_v, xE_o, xL_s, xL_l, xL_t, xL_z, xL_o, xL_b, xL_c, xS_pass, xS_stuck, xS_expr, yExpr, oGo_some, xS_app, yApp, yApp2, xS_ext, yExt, yExt2, xS_clr, xS_ret, yRt, xS_retN, xS_set, ySet, xS_setT, yST, yNx, xS_setI, ySI, ySI2, ySI3, ySI4, xS_ite, yIte, xS_for, yFor, xS_whl, xSs_nil, xSs_cons, yNext, yNextr, xFo_nil, xFo_cons, yFo1, yFo2, yFo2r, xWh, yWh1, yWh2, yWh2r, xP_nil, xP_cons, yP1, yP2, yP3, eE_bin, eL_bin, eX_bin, eA_bin, eE_neg, eL_neg, eX_neg, eA_neg, eE_not, eL_not, eX_not, eA_not, eE_one, eL_one, eX_one, eA_one, eE_and, eL_and, eX_and, eA_and, eE_or, eL_or, eX_or, eA_or, eE_cmp, eL_cmp, eX_cmp, eA_cmp, eE_ite, eL_ite, eX_ite, eA_ite, eE_idx, eL_idx, eX_idx, eA_idx, eE_sli, eL_sli, eX_sli, eA_sli, eE_lst, eL_lst, eX_lst, eA_lst, eE_tup, eL_tup, eX_tup, eA_tup, eE_call, eL_call, eX_call, eA_call, eE_b1, eL_b1, eX_b1, eA_b1, eE_b2, eL_b2, eX_b2, eA_b2, eE_isi, eL_isi, eX_isi, eA_isi, eE_comp, eL_comp, eX_comp, eA_comp, eE_var, eE_con, eL_var, eL_con, eX_var, eX_con, eA_var, eA_con, bAdd, bAdds, bAddtt, bAddtc, bAddtv, bAddct, bAddcc, bAddcv, bAddvt, bAddvc, bAddvv, bSub, bMult, bDiv, bMod, bPow, cEq, cNe, cLt, cLe, cGt, cGe, cIs, cIsN, cIn, cNi, mIn, rgoV, rgoT, setIs_nil, setIs_cons, sgn_some, ixS, th_ok, th_no, of_some, runD, slN, toSl, flR, List.map_cons, List.map_nil, List.length_cons, List.length_nil, List.replicate, List.cons_append, List.nil_append, List.set_cons_zero, List.set_cons_succ, at_0, at_1, at_2, L2.atI_last, ixN_app, set_app, emp_app, toAr, Rv.int?, Rv.str?, Rv.bl?, Rv.tup?, Rv.list?, Rv.plain?, Rv.data, Rv.non?, truthD, seqD, idxD, lenD, listD, intD, maxD, minD, int2, sliceD, B1.go, B2.go, Ty.go, Ty.of, Bool.not_true, Bool.not_false, reduceIte, Option.map_some, Option.bind_some, if_true, if_false, Bool.false_eq_true, and_self, true_and, decide_true, decide_false, Int.reduceLT, Int.reduceLE, Nat.reduceAdd, Nat.reduceSub, hs, ih, show 0 + 1 + 1 + 1 ≤ sizeLine by decide +kernel, show (0 : Nat) ≤ sizeLine by decide +kernel]
theorem cut_ok (ns : List Int) (a b : Nat) : ∃ ms : List Int, cutD (ns.map D.int) (some (a : Int)) (some (b : Int)) = ms.map D.int ∧ ms.length ≤ b := by
  refine ⟨(ns.drop (min a ns.length)).take (min b ns.length - min a ns.length), ?_, ?_⟩
  · unfold cutD
    rw [HT.sIx_nat, HT.sIx_nat, List.length_map, List.map_take, List.map_drop]
  · have := List.length_take_le (min b ns.length - min a ns.length) (ns.drop (min a ns.length))
    omega
end K53
set_option maxHeartbeats 4000000
namespace K53
open PySem L2 DE
theorem law_ok (k : Nat) (ns : List Int) : clK pg (k + 7) "law" [.scr (ns.map D.int)] = .ok (.val (.bl true)) := by
  have c0 : clK pg (k + 6) "_law_cell_at" [.scr (ns.map D.int), .val (.int 0)] = .ok (.val (.int (cellAt ns 0))) := cell_ok (k + 5) ns 0
  have c1 : clK pg (k + 6) "_law_cell_at" [.scr (ns.map D.int), .val (.int 1)] = .ok (.val (.int (cellAt ns 1))) := cell_ok (k + 5) ns 1
  obtain ⟨zs, hn, h3, hz⟩ := lands_ok (k + 5) (cellAt ns 0)
  obtain ⟨ms1, e1, l1⟩ := cut_ok ns 2 12
  obtain ⟨ms2, e2, l2⟩ := cut_ok ns 12 60
  have e1 : cutD (ns.map D.int) (some 2) (some 12) = ms1.map D.int := e1
  have e2 : cutD (ns.map D.int) (some 12) (some 60) = ms2.map D.int := e2
  have hday : DayInv [] (cellAt ns 1 % 100000000) := ⟨trivial, by show (-1 : Int) < _; omega, by omega, by show _ ≤ (100000000 : Int) + 20 * ((0 : Nat) : Int); omega⟩
  obtain ⟨l, day, s4, s5, hi, hl, lp⟩ := law_loop (clK pg (k + 6)) (.scr (ns.map D.int)) .no .no .no .no .no .no zs h3 hz ms1 [] _ .no .no hday (by simp; omega)
  rw [List.map_nil] at lp
  have hl' : l.length ≤ 12 := by rw [hl]; simpa using l1
  obtain ⟨p, hp, hpl, ho⟩ := of_ok (k + 5) zs h3 hz ms2 (by omega)
  obtain ⟨f, hf⟩ : ∃ f, f = day + cellAt ns 1 / 7 % 4 * 3 := ⟨_, rfl⟩
  have pl := plan_loop (clK pg (k + 6)) f p 0 .no .no [] (by simp; omega)
  rw [show ((0 : Nat) : Int) = 0 from rfl, Int.add_zero, List.nil_append] at pl
  have fl : (foldR [] p f).length ≤ 60 := by
    have := (fold_ok p [] f (fun q hq => by cases hq) hp).2
    simp at this
    omega
  have ro : RunsOk (foldR [] p f) := (fold_ok p [] f (fun q hq => by cases hq) hp).1
  have fe : foldR [] p f = runsF p.length p f := by
    have := fold_runs p.length p [] f (Nat.le_refl _) fun r' q e => by simp at e
    simpa using this
  have by1 := by_ok k l p f hi.ch (by omega) hp (by omega) (by omega)
  have by0 : clK pg (k + 6) "stays_by" [.val (.lst (l.map stD)), .val (.lst [])] = .ok (.tmp (l.map stD)) := by
    have := by_ok k l [] 0 hi.ch (by omega) (fun x hx => by cases hx) (by decide) (by show l.length + 0 ≤ 5000; omega)
    simpa only [planF, foldR, List.map_nil, List.append_nil] using this
  have ru := runs_ok (k + 5) f p hp (by omega)
  rw [← fe] at ru
  have hlz : (l.map stD).length + ((foldR [] p f).map stD).length ≤ sizeLine := by
    rw [List.length_map, List.length_map]
    show _ ≤ 2 ^ 24
    omega
  have hen : (enF 0 (p.map lD)).length ≤ sizeLine := by
    rw [enF_len, List.length_map]
    show _ ≤ 2 ^ 24
    omega
  have hls : (l.map stD ++ (foldR [] p f).map stD).length < sizeLine := by
    rw [List.length_append, List.length_map, List.length_map]
    show _ < 2 ^ 24
    omega
  have lo : RunsOk l := ch_names l (-1) hi.ch
  have q1 : eqD (.lst (l.map stD ++ (foldR [] p f).map stD)) (.lst (l.map stD ++ (foldR [] p f).map stD)) = some true := by
    refine self_lst (fun d hd => ?_) (fun d hd => ?_)
    · rcases List.mem_append.mp hd with hd | hd
      · exact (ok_sts lo).1 d hd
      · exact (ok_sts ro).1 d hd
    · have : dpD d ≤ 2 := by
        rcases List.mem_append.mp hd with hd | hd
        · exact (ok_sts lo).2 d hd
        · exact (ok_sts ro).2 d hd
      omega
  have q2 : eqD (.lst (l.map stD)) (.lst (l.map stD)) = some true := self_lst (ok_sts lo).1 fun d hd => by
    have := (ok_sts lo).2 d hd
    omega
  have q3 : eqD (.lst [.lst (l.map stD), .lst (planF f p)]) (.lst [.lst (l.map stD), .lst (planF f p)]) = some true := by
    refine self_lst (fun d hd => ?_) (fun d hd => ?_)
    · simp only [List.mem_cons, List.not_mem_nil, or_false] at hd
      rcases hd with rfl | rfl
      · rw [okD]; exact okDs_of (ok_sts lo).1
      · rw [okD]; exact okDs_of (ok_plan p f hp).1
    · simp only [List.mem_cons, List.not_mem_nil, or_false] at hd
      rcases hd with rfl | rfl
      · have := dpDs_of (ok_sts lo).2
        rw [dpD]
        omega
      · have := dpDs_of (ok_plan p f hp).2
        rw [dpD]
        omega
  have s0 : (0 : Nat) ≤ sizeLine := by decide +kernel
  have s2 : (0 : Nat) + 1 + 1 ≤ sizeLine := by decide +kernel
  have hpw : (10 : Int) ^ Int.toNat 8 = 100000000 := by decide
  have hna : Int.natAbs 10 < 2 ^ 64 := by decide
  have m4 : mulB (cellAt ns 1 / 7 % 4) 3 = true := mulB_r (by decide) (by decide)
  rw [r_law]
  simp only [c_law, slR_s, slR_v, slR_o, slR_b, slR_c, slX_s, slX_v, slX_o, ownI_s, ownI_o, xR_var, xR_con, xR_bin, xR_neg, xR_not, xR_one, xR_and, xR_or, xR_cmp, xR_ite, xR_idx, xR_sli, xR_lst, xR_tup, xR_call, xR_b1, xR_b2, xR_isi, xR_comp, yRet, yBl, yTmp, yB1, yB2, yNeg, yNot, yAnd, yOr, yC1, yC2, yIf, yI1, yI2, yS1, yS2, yS3, yLst, yTup, yCall, yF1, yG1, yG2, yIsi, yComp, xT_not, xT_one, xT_and, xT_or, xT_cmp, xT_val, yBo, yTn, yTa, yTo, yD1, yD2, yTv, xF_yes, xF_test, xEs_nil, xEs_cons, yE1, yE2, xAs_nil, xAs_cons, yA1, yA2, xO_none, xO_some, yO, xI_seq, xI_rng, xI_rng2, xI_enum, xI_zip, ySeq, yRng, yR1, yR2, yEnum, yZ1, yZ2, yVal, yValt, yValL, yValLt, yValLs, yValLm, yX, yXt, yAv, yAx, yAxt, yCons, xE_s, xE_v, xE_o, xL_s, xL_l, xL_t, xL_z, xL_o, xL_b, xL_c, xS_pass, xS_stuck, xS_expr, yExpr, oGo_some, xS_app, yApp, yApp2, xS_ext, yExt, yExt2, xS_clr, xS_ret, yRt, xS_retN, xS_set, ySet, xS_setT, yST, yNx, xS_setI, ySI, ySI2, ySI3, ySI4, xS_ite, yIte, xS_for, yFor, xS_whl, xSs_nil, xSs_cons, yNext, yNextr, xFo_nil, xFo_cons, yFo1, yFo2, yFo2r, xWh, yWh1, yWh2, yWh2r, xP_nil, xP_cons, yP1, yP2, yP3, eE_bin, eL_bin, eX_bin, eA_bin, eE_neg, eL_neg, eX_neg, eA_neg, eE_not, eL_not, eX_not, eA_not, eE_one, eL_one, eX_one, eA_one, eE_and, eL_and, eX_and, eA_and, eE_or, eL_or, eX_or, eA_or, eE_cmp, eL_cmp, eX_cmp, eA_cmp, eE_ite, eL_ite, eX_ite, eA_ite, eE_idx, eL_idx, eX_idx, eA_idx, eE_sli, eL_sli, eX_sli, eA_sli, eE_lst, eL_lst, eX_lst, eA_lst, eE_tup, eL_tup, eX_tup, eA_tup, eE_call, eL_call, eX_call, eA_call, eE_b1, eL_b1, eX_b1, eA_b1, eE_b2, eL_b2, eX_b2, eA_b2, eE_isi, eL_isi, eX_isi, eA_isi, eE_comp, eL_comp, eX_comp, eA_comp, eE_var, eE_con, eL_var, eL_con, eX_var, eX_con, eA_var, eA_con, bAdd, bAdds, bAddtt, bAddtc, bAddtv, bAddct, bAddcc, bAddcv, bAddvt, bAddvc, bAddvv, bSub, bMult, bDiv, bMod, bPow, cEq, cNe, cLt, cLe, cGt, cGe, cIs, cIsN, cIn, cNi, mIn, rgoV, rgoT, setIs_nil, setIs_cons, sgn_some, ixS, th_ok, th_no, of_some, runD, slN, toSl, flR, List.map_cons, List.map_nil, List.length_cons, List.length_nil, List.replicate, List.cons_append, List.nil_append, List.set_cons_zero, List.set_cons_succ, at_0, at_1, at_2, L2.atI_last, ixN_app, set_app, emp_app, toAr, Rv.int?, Rv.str?, Rv.bl?, Rv.tup?, Rv.list?, Rv.plain?, Rv.data, Rv.non?, truthD, seqD, idxD, lenD, listD, intD, maxD, minD, int2, sliceD, B1.go, B2.go, Ty.go, Ty.of, Bool.not_true, Bool.not_false, reduceIte, Option.map_some, Option.bind_some, if_true, if_false, Bool.false_eq_true, and_self, true_and, decide_true, decide_false, Int.reduceLT, Int.reduceLE, Nat.reduceAdd, Nat.reduceSub, c0, c1, hn, hpw, hna, e1, e2, lp, m4, ← hf, ho, enumD_eq, hen, iBlk, lend, List.getD_cons_succ, List.getD_cons_zero, pl, by1, by0, ru, hlz, hls, q1, q2, q3, s0, s2]
theorem law_true (ns : List Int) (_ : ns.length ≤ 63) : clK pg 8 "law" [.scr (ns.map D.int)] = .ok (.val (.bl true)) := law_ok 1 ns
end K53
set_option maxHeartbeats 4000000
namespace K53
open PySem L2 DE
theorem all_mk {l : PySem.W.OpenLaw} {w : World} {K : PySem.W.Frag} {h : Heap} {mg : Str → Option Value} {fa f0 f1 f2 f3 f4 f5 f6 f7 f8 f9 f10 f11 f12 : Addr} (X : K.In h) (G : h.Ns mainGlobals mg) (hfa : mg "law" = some (.ref fa))
    {od0 an0 od1 an1 od2 an2 od3 an3 od4 an4 od5 an5 od6 an6 od7 an7 od8 an8 od9 an9 od10 an10 od11 an11 od12 an12 : Option Addr} {sl0 sl1 sl2 sl3 sl4 sl5 sl6 sl7 sl8 sl9 sl10 sl11 sl12 : Array (Option Value)} {oc0 kV0 dc0 pm0 cd0 ct0 oc1 kV1 dc1 pm1 cd1 ct1 oc2 kV2 dc2 pm2 cd2 ct2 oc3 kV3 dc3 pm3 cd3 ct3 oc4 kV4 dc4 pm4 cd4 ct4 oc5 kV5 dc5 pm5 cd5 ct5 oc6 kV6 dc6 pm6 cd6 ct6 oc7 kV7 dc7 pm7 cd7 ct7 oc8 kV8 dc8 pm8 cd8 ct8 oc9 kV9 dc9 pm9 cd9 ct9 oc10 kV10 dc10 pm10 cd10 ct10 oc11 kV11 dc11 pm11 cd11 ct11 oc12 kV12 dc12 pm12 cd12 ct12 : Value} {t0 t1 t2 t3 : Tok}
    (a0 : PySem.W.nsIn K mainGlobals "is_whole" = some (some (.ref f0)))
    (l0 : K.lookup f0 = some ⟨oc0, od0, .func (PySem.W.fnOf "is_whole" "is_whole" (defArgs (top 4)) (defBody (top 4)) (defScope (top 4)) .none kV0 dc0 pm0 an0 cd0 ct0), sl0⟩)
    (cc0 : PySem.W.codeIn K cd0 "is_whole" = true)
    (k0 : PySem.W.keepIn K (.ref f0) = true)
    (a1 : PySem.W.nsIn K mainGlobals "is_between" = some (some (.ref f1)))
    (l1 : K.lookup f1 = some ⟨oc1, od1, .func (PySem.W.fnOf "is_between" "is_between" (defArgs (top 5)) (defBody (top 5)) (defScope (top 5)) .none kV1 dc1 pm1 an1 cd1 ct1), sl1⟩)
    (cc1 : PySem.W.codeIn K cd1 "is_between" = true)
    (k1 : PySem.W.keepIn K (.ref f1) = true)
    (a2 : PySem.W.nsIn K mainGlobals "are_days" = some (some (.ref f2)))
    (l2 : K.lookup f2 = some ⟨oc2, od2, .func (PySem.W.fnOf "are_days" "are_days" (defArgs (top 6)) (defBody (top 6)) (defScope (top 6)) .none kV2 dc2 pm2 an2 cd2 ct2), sl2⟩)
    (cc2 : PySem.W.codeIn K cd2 "are_days" = true)
    (k2 : PySem.W.keepIn K (.ref f2) = true)
    (a3 : PySem.W.nsIn K mainGlobals "is_made_of" = some (some (.ref f3)))
    (l3 : K.lookup f3 = some ⟨oc3, od3, .func (PySem.W.fnOf "is_made_of" "is_made_of" (defArgs (top 7)) (defBody (top 7)) (defScope (top 7)) .none kV3 dc3 pm3 an3 cd3 ct3), sl3⟩)
    (cc3 : PySem.W.codeIn K cd3 "is_made_of" = true)
    (k3 : PySem.W.keepIn K (.ref f3) = true)
    (a4 : PySem.W.nsIn K mainGlobals "is_name" = some (some (.ref f4)))
    (l4 : K.lookup f4 = some ⟨oc4, od4, .func (PySem.W.fnOf "is_name" "is_name" (defArgs (top 8)) (defBody (top 8)) (defScope (top 8)) .none kV4 dc4 pm4 an4 cd4 ct4), sl4⟩)
    (cc4 : PySem.W.codeIn K cd4 "is_name" = true)
    (k4 : PySem.W.keepIn K (.ref f4) = true)
    (a5 : PySem.W.nsIn K mainGlobals "is_stay" = some (some (.ref f5)))
    (l5 : K.lookup f5 = some ⟨oc5, od5, .func (PySem.W.fnOf "is_stay" "is_stay" (defArgs (top 14)) (defBody (top 14)) (defScope (top 14)) .none kV5 dc5 pm5 an5 cd5 ct5), sl5⟩)
    (cc5 : PySem.W.codeIn K cd5 "is_stay" = true)
    (k5 : PySem.W.keepIn K (.ref f5) = true)
    (a6 : PySem.W.nsIn K mainGlobals "stays_of" = some (some (.ref f6)))
    (l6 : K.lookup f6 = some ⟨oc6, od6, .func (PySem.W.fnOf "stays_of" "stays_of" (defArgs (top 15)) (defBody (top 15)) (defScope (top 15)) .none kV6 dc6 pm6 an6 cd6 ct6), sl6⟩)
    (cc6 : PySem.W.codeIn K cd6 "stays_of" = true)
    (k6 : PySem.W.keepIn K (.ref f6) = true)
    (a7 : PySem.W.nsIn K mainGlobals "stays_by" = some (some (.ref f7)))
    (l7 : K.lookup f7 = some ⟨oc7, od7, .func (PySem.W.fnOf "stays_by" "stays_by" (defArgs (top 17)) (defBody (top 17)) (defScope (top 17)) .none kV7 dc7 pm7 an7 cd7 ct7), sl7⟩)
    (cc7 : PySem.W.codeIn K cd7 "stays_by" = true)
    (k7 : PySem.W.keepIn K (.ref f7) = true)
    (a8 : PySem.W.nsIn K mainGlobals "_law_cell_at" = some (some (.ref f8)))
    (l8 : K.lookup f8 = some ⟨oc8, od8, .func (PySem.W.fnOf "_law_cell_at" "_law_cell_at" (defArgs (top 19)) (defBody (top 19)) (defScope (top 19)) .none kV8 dc8 pm8 an8 cd8 ct8), sl8⟩)
    (cc8 : PySem.W.codeIn K cd8 "_law_cell_at" = true)
    (k8 : PySem.W.keepIn K (.ref f8) = true)
    (a9 : PySem.W.nsIn K mainGlobals "_law_lands" = some (some (.ref f9)))
    (l9 : K.lookup f9 = some ⟨oc9, od9, .func (PySem.W.fnOf "_law_lands" "_law_lands" (defArgs (top 20)) (defBody (top 20)) (defScope (top 20)) .none kV9 dc9 pm9 an9 cd9 ct9), sl9⟩)
    (cc9 : PySem.W.codeIn K cd9 "_law_lands" = true)
    (k9 : PySem.W.keepIn K (.ref f9) = true)
    (a10 : PySem.W.nsIn K mainGlobals "_law_lands_of" = some (some (.ref f10)))
    (l10 : K.lookup f10 = some ⟨oc10, od10, .func (PySem.W.fnOf "_law_lands_of" "_law_lands_of" (defArgs (top 21)) (defBody (top 21)) (defScope (top 21)) .none kV10 dc10 pm10 an10 cd10 ct10), sl10⟩)
    (cc10 : PySem.W.codeIn K cd10 "_law_lands_of" = true)
    (k10 : PySem.W.keepIn K (.ref f10) = true)
    (a11 : PySem.W.nsIn K mainGlobals "_law_runs" = some (some (.ref f11)))
    (l11 : K.lookup f11 = some ⟨oc11, od11, .func (PySem.W.fnOf "_law_runs" "_law_runs" (defArgs (top 22)) (defBody (top 22)) (defScope (top 22)) .none kV11 dc11 pm11 an11 cd11 ct11), sl11⟩)
    (cc11 : PySem.W.codeIn K cd11 "_law_runs" = true)
    (k11 : PySem.W.keepIn K (.ref f11) = true)
    (a12 : PySem.W.nsIn K mainGlobals "law" = some (some (.ref f12)))
    (l12 : K.lookup f12 = some ⟨oc12, od12, .func (PySem.W.fnOf "law" "law" (defArgs (top 23)) (defBody (top 23)) (defScope (top 23)) .none kV12 dc12 pm12 an12 cd12 ct12), sl12⟩)
    (cc12 : PySem.W.codeIn K cd12 "law" = true)
    (k12 : PySem.W.keepIn K (.ref f12) = true)
    (z_len : PySem.W.nsIn K mainGlobals "len" = some none)
    (z_list : PySem.W.nsIn K mainGlobals "list" = some none)
    (z_tuple : PySem.W.nsIn K mainGlobals "tuple" = some none)
    (z_int : PySem.W.nsIn K mainGlobals "int" = some none)
    (z_bool : PySem.W.nsIn K mainGlobals "bool" = some none)
    (z_str : PySem.W.nsIn K mainGlobals "str" = some none)
    (z_max : PySem.W.nsIn K mainGlobals "max" = some none)
    (z_min : PySem.W.nsIn K mainGlobals "min" = some none)
    (z_isinstance : PySem.W.nsIn K mainGlobals "isinstance" = some none)
    (z_range : PySem.W.nsIn K mainGlobals "range" = some none)
    (z_enumerate : PySem.W.nsIn K mainGlobals "enumerate" = some none)
    (z_zip : PySem.W.nsIn K mainGlobals "zip" = some none)
    (gv0 : PySem.W.nsIn K mainGlobals "GREATEST" = some (some (.int 1000000000 t0)))
    (gv1 : PySem.W.nsIn K mainGlobals "LETTERS" = some (some (.str "abcdefghijklmnopqrstuvwxyz" t1)))
    (gv2 : PySem.W.nsIn K mainGlobals "LONGEST_NAME" = some (some (.int 8 t2)))
    (gv3 : PySem.W.nsIn K mainGlobals "MOST_STAYS" = some (some (.int 60 t3)))
    :
    ∃ fd : FuncData, (∀ (s : Shared) (v : Value), BindsTo s fd ⟨[v], []⟩ [("_law_script", v)]) ∧ ∀ base : Heap, K.In base → base.Ns mainGlobals mg → FnOk l.prog w K mg base CX0 8 fa fd ["_law_script"] (spF (fun _ => none) K (clK pg 8) "law") := by
  have e := hfa.symm.trans (PySem.W.mg_of X G a12)
  cases e
  have F0 := fun_mk (st := top 4) l0 cc0 k0
  have p0 : parN (top 4) = [("thing" : Str)] := by kernel_rfl
  have b0 := F0.binds (ps := ["thing"]) fun _ _ _ _ _ _ us hl => match us, hl with | [_], _ => rfl
  rw [← p0] at b0
  have m0 := PySem.W.mg_of X G a0
  have F1 := fun_mk (st := top 5) l1 cc1 k1
  have p1 : parN (top 5) = [("thing" : Str), ("least" : Str), ("greatest" : Str)] := by kernel_rfl
  have b1 := F1.binds (ps := ["thing", "least", "greatest"]) fun _ _ _ _ _ _ us hl => match us, hl with | [_, _, _], _ => rfl
  rw [← p1] at b1
  have m1 := PySem.W.mg_of X G a1
  have F2 := fun_mk (st := top 6) l2 cc2 k2
  have p2 : parN (top 6) = [("first" : Str), ("last" : Str)] := by kernel_rfl
  have b2 := F2.binds (ps := ["first", "last"]) fun _ _ _ _ _ _ us hl => match us, hl with | [_, _], _ => rfl
  rw [← p2] at b2
  have m2 := PySem.W.mg_of X G a2
  have F3 := fun_mk (st := top 7) l3 cc3 k3
  have p3 : parN (top 7) = [("text" : Str), ("signs" : Str)] := by kernel_rfl
  have b3 := F3.binds (ps := ["text", "signs"]) fun _ _ _ _ _ _ us hl => match us, hl with | [_, _], _ => rfl
  rw [← p3] at b3
  have m3 := PySem.W.mg_of X G a3
  have F4 := fun_mk (st := top 8) l4 cc4 k4
  have p4 : parN (top 8) = [("thing" : Str)] := by kernel_rfl
  have b4 := F4.binds (ps := ["thing"]) fun _ _ _ _ _ _ us hl => match us, hl with | [_], _ => rfl
  rw [← p4] at b4
  have m4 := PySem.W.mg_of X G a4
  have F5 := fun_mk (st := top 14) l5 cc5 k5
  have p5 : parN (top 14) = [("thing" : Str)] := by kernel_rfl
  have b5 := F5.binds (ps := ["thing"]) fun _ _ _ _ _ _ us hl => match us, hl with | [_], _ => rfl
  rw [← p5] at b5
  have m5 := PySem.W.mg_of X G a5
  have F6 := fun_mk (st := top 15) l6 cc6 k6
  have p6 : parN (top 15) = [("some" : Str)] := by kernel_rfl
  have b6 := F6.binds (ps := ["some"]) fun _ _ _ _ _ _ us hl => match us, hl with | [_], _ => rfl
  rw [← p6] at b6
  have m6 := PySem.W.mg_of X G a6
  have F7 := fun_mk (st := top 17) l7 cc7 k7
  have p7 : parN (top 17) = [("stays" : Str), ("plan" : Str)] := by kernel_rfl
  have b7 := F7.binds (ps := ["stays", "plan"]) fun _ _ _ _ _ _ us hl => match us, hl with | [_, _], _ => rfl
  rw [← p7] at b7
  have m7 := PySem.W.mg_of X G a7
  have F8 := fun_mk (st := top 19) l8 cc8 k8
  have p8 : parN (top 19) = [("_law_script" : Str), ("_law_k" : Str)] := by kernel_rfl
  have b8 := F8.binds (ps := ["_law_script", "_law_k"]) fun _ _ _ _ _ _ us hl => match us, hl with | [_, _], _ => rfl
  rw [← p8] at b8
  have m8 := PySem.W.mg_of X G a8
  have F9 := fun_mk (st := top 20) l9 cc9 k9
  have p9 : parN (top 20) = [("_law_cell" : Str), ("_law_many" : Str)] := by kernel_rfl
  have b9 := F9.binds (ps := ["_law_cell", "_law_many"]) fun _ _ _ _ _ _ us hl => match us, hl with | [_, _], _ => rfl
  rw [← p9] at b9
  have m9 := PySem.W.mg_of X G a9
  have F10 := fun_mk (st := top 21) l10 cc10 k10
  have p10 : parN (top 21) = [("_law_cells" : Str), ("_law_names" : Str)] := by kernel_rfl
  have b10 := F10.binds (ps := ["_law_cells", "_law_names"]) fun _ _ _ _ _ _ us hl => match us, hl with | [_, _], _ => rfl
  rw [← p10] at b10
  have m10 := PySem.W.mg_of X G a10
  have F11 := fun_mk (st := top 22) l11 cc11 k11
  have p11 : parN (top 22) = [("_law_lands_here" : Str), ("_law_first" : Str)] := by kernel_rfl
  have b11 := F11.binds (ps := ["_law_lands_here", "_law_first"]) fun _ _ _ _ _ _ us hl => match us, hl with | [_, _], _ => rfl
  rw [← p11] at b11
  have m11 := PySem.W.mg_of X G a11
  have F12 := fun_mk (st := top 23) l12 cc12 k12
  have p12 : parN (top 23) = [("_law_script" : Str)] := by kernel_rfl
  have b12 := F12.binds (ps := ["_law_script"]) fun _ _ _ _ _ _ us hl => match us, hl with | [_], _ => rfl
  rw [← p12] at b12
  have m12 := PySem.W.mg_of X G a12
  have ok : PgOk (fun _ => none) K mg pg :=
    { fn := .cons ⟨_, _, F0, m0, b0⟩ (.cons ⟨_, _, F1, m1, b1⟩ (.cons ⟨_, _, F2, m2, b2⟩ (.cons ⟨_, _, F3, m3, b3⟩ (.cons ⟨_, _, F4, m4, b4⟩ (.cons ⟨_, _, F5, m5, b5⟩ (.cons ⟨_, _, F6, m6, b6⟩ (.cons ⟨_, _, F7, m7, b7⟩ (.cons ⟨_, _, F8, m8, b8⟩ (.cons ⟨_, _, F9, m9, b9⟩ (.cons ⟨_, _, F10, m10, b10⟩ (.cons ⟨_, _, F11, m11, b11⟩ (.cons ⟨_, _, F12, m12, b12⟩ (.nil)))))))))))))
      blt := fun f hf => by
        simp only [bNames, List.mem_cons, List.not_mem_nil, or_false] at hf
        rcases hf with rfl | rfl | rfl | rfl | rfl | rfl | rfl | rfl | rfl | rfl | rfl | rfl
        · exact PySem.W.mg_none_of X G z_len
        · exact PySem.W.mg_none_of X G z_list
        · exact PySem.W.mg_none_of X G z_tuple
        · exact PySem.W.mg_none_of X G z_int
        · exact PySem.W.mg_none_of X G z_bool
        · exact PySem.W.mg_none_of X G z_str
        · exact PySem.W.mg_none_of X G z_max
        · exact PySem.W.mg_none_of X G z_min
        · exact PySem.W.mg_none_of X G z_isinstance
        · exact PySem.W.mg_none_of X G z_range
        · exact PySem.W.mg_none_of X G z_enumerate
        · exact PySem.W.mg_none_of X G z_zip
      gl := fun x d hd => by
        unfold pg at hd
        dsimp only at hd
        by_cases h0 : x = "GREATEST"
        · rw [if_pos h0] at hd
          cases hd
          exact ⟨.int 1000000000, _, h0 ▸ PySem.W.mg_of X G gv0, ⟨_, rfl⟩, fun _ => by simp only [Rep]⟩
        rw [if_neg h0] at hd
        by_cases h1 : x = "LETTERS"
        · rw [if_pos h1] at hd
          cases hd
          exact ⟨.str "abcdefghijklmnopqrstuvwxyz", _, h1 ▸ PySem.W.mg_of X G gv1, ⟨_, rfl⟩, fun _ => by simp only [Rep]⟩
        rw [if_neg h1] at hd
        by_cases h2 : x = "LONGEST_NAME"
        · rw [if_pos h2] at hd
          cases hd
          exact ⟨.int 8, _, h2 ▸ PySem.W.mg_of X G gv2, ⟨_, rfl⟩, fun _ => by simp only [Rep]⟩
        rw [if_neg h2] at hd
        by_cases h3 : x = "MOST_STAYS"
        · rw [if_pos h3] at hd
          cases hd
          exact ⟨.int 60, _, h3 ▸ PySem.W.mg_of X G gv3, ⟨_, rfl⟩, fun _ => by simp only [Rep]⟩
        rw [if_neg h3] at hd
        cases hd }
  exact ⟨PySem.W.fnOf "law" "law" (defArgs (top 23)) (defBody (top 23)) (defScope (top 23)) .none kV12 dc12 pm12 an12 cd12 ct12, fun s v => .of_eq rfl, fun base _ _ => law_of (k := 7) ok F12 (by kernel_rfl) p12⟩
theorem walk {l : PySem.W.OpenLaw} {q : Program} {loose : List Str} {XP : (Str → Option Value) → Heap → Prop} {YP : World → Heap → Prop} {d : DefRec} {K : Params → PySem.W.Frag} (hn : l.most = some 63) (hdf : d.params.defaults = [])
    (hY : ∀ (w : World) (h : Heap), YP w h → (K w.params).In h)
    (F : ∀ (w : World) (mg : Str → Option Value) (fa : Addr) (h : Heap), (K w.params).In h → h.Ns mainGlobals mg → mg d.name = some (.ref fa) →
      ∃ fd : FuncData, (∀ (s : Shared) (u : Value), BindsTo s fd ⟨[u], []⟩ [("_law_script", u)]) ∧ ∀ base : Heap, (K w.params).In base → base.Ns mainGlobals mg → FnOk l.prog w (K w.params) mg base CX0 8 fa fd ["_law_script"] (spF (fun _ => none) (K w.params) (clK pg 8) "law")) :
    PySem.W.WalkO q loose XP YP l.row.toRowW d [] (fun f vs => PySem.call f vs) :=
  L2.walk_of (n := 63) (k := 8) (x := "_law_script") (CX := fun _ => CX0) (sp := fun w => spF (fun _ => none) (K w.params) (clK pg 8) "law") hn (by decide) hdf ⟨rfl, by decide, by decide⟩ hY F (fun _ _ a ns hl _ hS => law_sp hS (law_true ns hl)) fun _ _ _ _ _ z => z
end K53
open PySem PySem.W PyProof.Rows
set_option maxRecDepth 100000 in
set_option maxHeartbeats 0 in
theorem PySem.Challenge.cw_daysgate_k53_stays_of_a_plan_holds : PySem.Challenge.rw_daysgate_k53_stays_of_a_plan.Holds := by
  w_on; o_law; k_head; (case hw => w_witness2)
  k_fill
  refine K53.walk (l := PySem.Challenge.rw_daysgate_k53_stays_of_a_plan) rfl rfl (fun w h Y => PySem.W.kIn_of Y) ?F
  case F =>
    intro w mg fa h KX G hmg
    refine' K53.all_mk KX G hmg ?a0 ?l0 ?cc0 ?k0 ?a1 ?l1 ?cc1 ?k1 ?a2 ?l2 ?cc2 ?k2 ?a3 ?l3 ?cc3 ?k3 ?a4 ?l4 ?cc4 ?k4 ?a5 ?l5 ?cc5 ?k5 ?a6 ?l6 ?cc6 ?k6 ?a7 ?l7 ?cc7 ?k7 ?a8 ?l8 ?cc8 ?k8 ?a9 ?l9 ?cc9 ?k9 ?a10 ?l10 ?cc10 ?k10 ?a11 ?l11 ?cc11 ?k11 ?a12 ?l12 ?cc12 ?k12 ?z_len ?z_list ?z_tuple ?z_int ?z_bool ?z_str ?z_max ?z_min ?z_isinstance ?z_range ?z_enumerate ?z_zip ?gv0 ?gv1 ?gv2 ?gv3
    (case a0 => k_is)
    (case l0 => k_is)
    (case cc0 => k_is)
    (case k0 => k_is)
    (case a1 => k_is)
    (case l1 => k_is)
    (case cc1 => k_is)
    (case k1 => k_is)
    (case a2 => k_is)
    (case l2 => k_is)
    (case cc2 => k_is)
    (case k2 => k_is)
    (case a3 => k_is)
    (case l3 => k_is)
    (case cc3 => k_is)
    (case k3 => k_is)
    (case a4 => k_is)
    (case l4 => k_is)
    (case cc4 => k_is)
    (case k4 => k_is)
    (case a5 => k_is)
    (case l5 => k_is)
    (case cc5 => k_is)
    (case k5 => k_is)
    (case a6 => k_is)
    (case l6 => k_is)
    (case cc6 => k_is)
    (case k6 => k_is)
    (case a7 => k_is)
    (case l7 => k_is)
    (case cc7 => k_is)
    (case k7 => k_is)
    (case a8 => k_is)
    (case l8 => k_is)
    (case cc8 => k_is)
    (case k8 => k_is)
    (case a9 => k_is)
    (case l9 => k_is)
    (case cc9 => k_is)
    (case k9 => k_is)
    (case a10 => k_is)
    (case l10 => k_is)
    (case cc10 => k_is)
    (case k10 => k_is)
    (case a11 => k_is)
    (case l11 => k_is)
    (case cc11 => k_is)
    (case k11 => k_is)
    (case a12 => k_is)
    (case l12 => k_is)
    (case cc12 => k_is)
    (case k12 => k_is)
    (case z_len => k_is)
    (case z_list => k_is)
    (case z_tuple => k_is)
    (case z_int => k_is)
    (case z_bool => k_is)
    (case z_str => k_is)
    (case z_max => k_is)
    (case z_min => k_is)
    (case z_isinstance => k_is)
    (case z_range => k_is)
    (case z_enumerate => k_is)
    (case z_zip => k_is)
    (case gv0 => k_is)
    (case gv1 => k_is)
    (case gv2 => k_is)
    (case gv3 => k_is)
#print axioms PySem.Challenge.cw_daysgate_k53_stays_of_a_plan_holds
