import PyProof.Rows.All
import Wide.All
import OpenK.AllK
import Wide.FinOn
import Lean
import PyProof.EqAt
import PyProof.EqKinds
import PyProof.TupleCall
import PySem.Challenge.RW_daysgate_k11_a_rule
set_option Elab.async false
set_option linter.all false
set_option maxRecDepth 100000
namespace L2
open PySem PySem.Spec PyProof.Rows
abbrev Key := Sum Int Str
def keyIs : Key → Value → Bool
  | .inl k, v => Value.isInt k v
  | .inr x, v => Value.isStrOf x v
def keyH (w : World) : Key → Int
  | .inl k => hashInt k
  | .inr x => hashStr w x
theorem keyIs_shape : ∀ {k : Key} {v : Value}, keyIs k v = true → (∃ i t, k = Sum.inl i ∧ v = Value.int i t) ∨ (∃ x t, k = Sum.inr x ∧ v = Value.str x t)
  | .inl i, v, h => by
    obtain ⟨t, e⟩ := Value.isInt_shape (k := i) (v := v) h
    exact .inl ⟨i, t, rfl, e⟩
  | .inr x, v, h => by
    obtain ⟨t, e⟩ := Value.isStrOf_shape (x := x) (v := v) h
    exact .inr ⟨x, t, rfl, e⟩
theorem key_ll (a b : Int) : decide ((Sum.inl a : Key) = Sum.inl b) = (a == b) := by
  by_cases e : a = b
  · subst e; simp
  · have h : ¬ (Sum.inl a : Key) = Sum.inl b := fun q => e (Sum.inl.inj q)
    rw [decide_eq_false h]
    exact (beq_eq_false_iff_ne.mpr e).symm
theorem key_rr (a b : Str) : decide ((Sum.inr a : Key) = Sum.inr b) = decide (a = b) := by
  by_cases e : a = b
  · subst e; simp
  · have h : ¬ (Sum.inr a : Key) = Sum.inr b := fun q => e (Sum.inr.inj q)
    rw [decide_eq_false h, decide_eq_false e]
theorem key_lr (a : Int) (b : Str) : decide ((Sum.inl a : Key) = Sum.inr b) = false := decide_eq_false (fun q => nomatch q)
theorem key_rl (a : Str) (b : Int) : decide ((Sum.inr a : Key) = Sum.inl b) = false := decide_eq_false (fun q => nomatch q)

def mixKind (prog : Program) (w : World) : PySem.KeyKind prog w Key where
  is := keyIs
  hash := keyH w
  inj := fun v a b ha hb => by
    rcases keyIs_shape ha with ⟨i, t, rfl, rfl⟩ | ⟨x, t, rfl, rfl⟩
    · rcases keyIs_shape hb with ⟨j, u, rfl, e⟩ | ⟨y, u, rfl, e⟩
      · injection e with e1 _; rw [e1]
      · exact nomatch e
    · rcases keyIs_shape hb with ⟨j, u, rfl, e⟩ | ⟨y, u, rfl, e⟩
      · exact nomatch e
      · injection e with e1 _; rw [e1]
  byValue := fun k v h => by
    rcases keyIs_shape h with ⟨i, t, rfl, rfl⟩ | ⟨x, t, rfl, rfl⟩ <;> rfl
  pyHash := fun hv h => by
    rcases keyIs_shape hv with ⟨i, t, rfl, rfl⟩ | ⟨x, t, rfl, rfl⟩
    · exact wpAny_pyHash_int h
    · exact wpAny_pyHash_str h
  eqBool := fun hu hv h => by
    rcases keyIs_shape hu with ⟨i, t, rfl, rfl⟩ | ⟨x, t, rfl, rfl⟩
    · rcases keyIs_shape hv with ⟨j, u, rfl, rfl⟩ | ⟨y, u, rfl, rfl⟩
      · rw [key_ll] at h; exact wpAny_eqBool_int h
      · rw [key_lr] at h; exact SeqAt.EqAt.int_str i t y u _ _ _ _ h
    · rcases keyIs_shape hv with ⟨j, u, rfl, rfl⟩ | ⟨y, u, rfl, rfl⟩
      · rw [key_rl] at h; exact SeqAt.EqAt.str_int x t j u _ _ _ _ h
      · rw [key_rr] at h; exact wpAny_eqBool_str h
  «strs» := fun k x t v h => by
    rcases keyIs_shape h with ⟨i, u, rfl, e⟩ | ⟨y, u, rfl, e⟩
    · exact nomatch e
    · injection e with e1 _
      subst e1
      cases v <;> rfl

end L2
namespace L2
open PySem PySem.Spec PyProof.Rows
inductive V where
  | non | bl (b : Bool) | int (i : Int) | str (x : Str) | byt (b : Array UInt8) | flt (b : UInt64) | ref (a : Addr) | ty (n : String)
  deriving DecidableEq

def RelV : V → Value → Prop
  | .non, u => u = Value.none
  | .bl b, u => u = Value.bool b
  | .int i, u => ∃ t, u = Value.int i t
  | .str x, u => ∃ t, u = Value.str x t
  | .byt b, u => ∃ t, u = Value.bytes b t
  | .flt b, u => ∃ t, u = Value.float b t
  | .ref a, u => u = Value.ref a
  | .ty n, u => u = Value.type n

abbrev Vals : List V → List Value → Prop := Paired RelV
theorem Vals.length {xs : List V} {us : List Value} (r : Vals xs us) : xs.length = us.length := Paired.length r
theorem Vals.get : ∀ {xs : List V} {us : List Value} {i : Nat} {x : V}, Vals xs us → xs[i]? = some x → ∃ u, us[i]? = some u ∧ RelV x u
  | _, _, _, _, .nil, e => by simp at e
  | _, _, 0, _, .cons r _, e => by simp at e; subst e; exact ⟨_, rfl, r⟩
  | _, _, i + 1, x, .cons _ t, e => by
    obtain ⟨u, h1, h2⟩ := Vals.get (i := i) (x := x) t (by simpa using e)
    exact ⟨u, by simpa using h1, h2⟩
theorem Vals.set {x : V} {u : Value} (r : RelV x u) : ∀ {xs : List V} {us : List Value} (i : Nat), Vals xs us → Vals (xs.set i x) (us.set i u)
  | _, _, _, .nil => .nil
  | _, _, 0, .cons _ t => .cons r t
  | _, _, i + 1, .cons q t => .cons q (Vals.set r i t)
theorem Vals.append : ∀ {xs ys : List V} {us ws : List Value}, Vals xs us → Vals ys ws → Vals (xs ++ ys) (us ++ ws)
  | _, _, _, _, .nil, s => s
  | _, _, _, _, .cons r t, s => .cons r (Vals.append t s)
theorem Vals.take : ∀ {xs : List V} {us : List Value} (n : Nat), Vals xs us → Vals (xs.take n) (us.take n)
  | _, _, 0, _ => .nil
  | _, _, _ + 1, .nil => .nil
  | _, _, n + 1, .cons r t => .cons r (Vals.take n t)
theorem Vals.drop : ∀ {xs : List V} {us : List Value} (n : Nat), Vals xs us → Vals (xs.drop n) (us.drop n)
  | _, _, 0, r => r
  | _, _, _ + 1, .nil => .nil
  | _, _, n + 1, .cons _ t => Vals.drop n t
theorem Vals.none_of : ∀ {xs : List V} {us : List Value} {i : Nat}, Vals xs us → xs[i]? = none → us[i]? = none := fun {xs us i} r e => by
  have h1 := r.length
  have h2 : xs.length ≤ i := List.getElem?_eq_none_iff.mp e
  exact List.getElem?_eq_none_iff.mpr (by omega)

def RelO : Option V → Option Value → Prop
  | some v, some u => RelV v u
  | none, none => True
  | _, _ => False
def KV {κ : Type} : List (κ × V) → List (κ × Value) → Prop := Paired fun (p : κ × V) (q : κ × Value) => p.1 = q.1 ∧ RelV p.2 q.2

def kV : Key → V
  | .inl i => .int i
  | .inr x => .str x

inductive HO where
  /-- a list -/
  | lst (xs : List V)
  /-- a tuple (never changes) -/
  | tup (xs : List V)
  /-- a dict whose keys are ints and texts; one whose keys are tuples of ints and texts (the empty one is both) -/
  | dK (kvs : List (Key × V)) | dT (kvs : List (List Key × V))
  /-- a set of ints: its members, its size -/
  | set (S : Int → Bool) (n : Nat)
  /-- an instance of the class at C, its dict at dx, its attributes -/
  | ins (C dx : Addr) (fs : List (Str × V))
  /-- the dict of the instance at x -/
  | own (x : Addr)
  /-- the dict of an exception -/
  | xd (fs : List (Str × V))
  /-- a bound method, f of x -/
  | met (f x : Addr)
  /-- a range object lo, lo + 1, .. below hi -/
  | rng (lo hi : Int)
  /-- a thing that is known to the object (the script; a dict while a loop walks it): read, never written while it is so -/
  | frz (o : Obj) (u : HO)
  /-- a code object's table -/
  | tbl (ps : Array Value)
  /-- any other thing, by what is true of its one object (a def of one's own: SetO a S n := HO.ext fun h => ..) -/
  | ext (φ : Heap → Prop)

abbrev Hp := Addr → Option HO
def upd (H : Hp) (a : Addr) (o : HO) : Hp := fun b => if b = a then some o else H b
theorem upd_same {H : Hp} {a : Addr} {o : HO} : upd H a o a = some o := by unfold upd; rw [if_pos rfl]
theorem upd_ne {H : Hp} {a b : Addr} {o : HO} (h : b ≠ a) : upd H a o b = H b := by unfold upd; rw [if_neg h]
theorem ne_of {H : Hp} {a b : Addr} {o u : HO} (h : H a = some o) (h' : H b = some u) (d : o ≠ u) : a ≠ b := by
  intro e; subst e; rw [h] at h'; exact d (Option.some.inj h')
theorem ne_of_none {H : Hp} {a b : Addr} {o : HO} (h : H a = some o) (h' : H b = none) : a ≠ b := by
  intro e; subst e; rw [h] at h'; cases h'

section
variable (P : Program) (w : World)
def ObjOk (H : Hp) (h : Heap) (a : Addr) : HO → Prop
  | .lst xs => xs.length ≤ sizeLine ∧ ∃ (its : List Value) (n : Nat), Vals xs its ∧ h.get? a = some { cls := .type "list", data := .seq its.toArray n }
  | .tup xs => xs.length ≤ sizeLine ∧ ∃ its : List Value, Vals xs its ∧ IsTup h a its.toArray
  | .dK kvs => kvs.length ≤ sizeLine ∧ (a == sysModules) = false ∧ ∃ vs, KV kvs vs ∧ h.DictOf (mixKind P w) a vs
  | .dT kvs => kvs.length ≤ sizeLine ∧ (a == sysModules) = false ∧ ∃ xs : List (List Key × Addr × Value),
      Paired (fun (p : List Key × V) (q : List Key × Addr × Value) => p.1 = q.1 ∧ H q.2.1 = some (.tup (p.1.map kV)) ∧ RelV p.2 q.2.2) kvs xs ∧
      ∃ o es ep, h.get? a = some o ∧ o.ExactDict ∧ o.data = .dict es ep ∧ es.toList = xs.map (entryOfKey (tupleKind (mixKind P w))) ∧ (xs.map (·.1)).Nodup
  | .set S n => h.SetOf (intKind P w) a S n
  | .ins C dx fs => H dx = some (.own a) ∧ fs.length ≤ 1000 ∧ dx ≠ a ∧ h.get? a = some (PySem.W.instObj C dx) ∧
      ∃ mA, h.Ns1 dx mA ∧ (∀ f, RelO (fs.lookup f) (mA f)) ∧ PySem.Within mA (fs.map (·.1))
  | .own _ => ∃ o, h.get? a = some o
  | .xd fs => ∃ mA, h.Ns1 a mA ∧ ∀ f, RelO (fs.lookup f) (mA f)
  | .rng lo hi => ∃ t u v, h.get? a = some { cls := .type "range", data := .fields #[.int lo t, .int hi u, .int 1 v] }
  | .frz o u => h.get? a = some o ∧ ObjOk H h a u
  | .tbl ps => h.get? a = some { cls := .none, data := .fields ps }
  | .met f x => h.get? a = some (PySem.W.methodObj (.ref f) (.ref x))
  | .ext φ => φ h ∧ (∃ o, h.get? a = some o) ∧ ∀ h1 h2 : Heap, φ h1 → (∀ o, h1.get? a = some o → h2.get? a = some o) → φ h2
def HOk (H : Hp) (h : Heap) : Prop := ∀ a o, H a = some o → ObjOk P w H h a o
end
section
variable {P : Program} {w : World} {H H' : Hp} {h h' : Heap} {a : Addr} {o : HO}
theorem ObjOk.lt (x : ObjOk P w H h a o) : a < h.objs.size := by
  cases o with
  | lst xs => obtain ⟨_, _, _, _, e⟩ := x; exact Heap.lt_size e
  | tup xs => obtain ⟨_, _, _, p⟩ := x; exact p.lt
  | dK kvs => obtain ⟨_, _, _, _, o, _, _, e, _⟩ := x; exact Heap.lt_size e
  | dT kvs => obtain ⟨_, _, _, _, o, _, _, e, _⟩ := x; exact Heap.lt_size e
  | set S n => obtain ⟨o, _, _, _, e, _⟩ := x; exact Heap.lt_size e
  | ins C dx fs => obtain ⟨_, _, _, e, _⟩ := x; exact Heap.lt_size e
  | own y => obtain ⟨_, e⟩ := x; exact Heap.lt_size e
  | xd fs => obtain ⟨_, ⟨_, _, _, e, _⟩, _⟩ := x; exact Heap.lt_size e
  | rng lo hi => obtain ⟨_, _, _, e⟩ := x; exact Heap.lt_size e
  | frz ob u => obtain ⟨e, _⟩ := x; exact Heap.lt_size e
  | tbl ps => exact Heap.lt_size (show h.get? a = some _ from x)
  | met f y => exact Heap.lt_size (show h.get? a = some _ from x)
  | ext φ => obtain ⟨_, ⟨_, e⟩, _⟩ := x; exact Heap.lt_size e
theorem Paired.mapP {α β : Type} {F G : α → β → Prop} : ∀ {l₁ : List α} {l₂ : List β}, Paired F l₁ l₂ → (∀ a b, F a b → G a b) → Paired G l₁ l₂
  | _, _, .nil, _ => .nil
  | _, _, .cons r t, f => .cons (f _ _ r) (Paired.mapP t f)
theorem ObjOk.stay (x : ObjOk P w H h a o) (k : ∀ b u, (b = a ∨ H b = some (.own a)) → h.get? b = some u → h'.get? b = some u)
    (ho : ∀ b, H b = some (.own a) → H' b = some (.own a)) (ht : ∀ b xs, H b = some (.tup xs) → H' b = some (.tup xs)) : ObjOk P w H' h' a o := by
  induction o with
  | lst xs => obtain ⟨z, its, n, r, e⟩ := x; exact ⟨z, its, n, r, k _ _ (.inl rfl) e⟩
  | tup xs => obtain ⟨z, its, r, ob, e, c⟩ := x; exact ⟨z, its, r, ob, k _ _ (.inl rfl) e, c⟩
  | dK kvs => obtain ⟨z, y, vs, r, ob, es, ep, e, c⟩ := x; exact ⟨z, y, vs, r, ob, es, ep, k _ _ (.inl rfl) e, c⟩
  | dT kvs =>
    obtain ⟨z, y, xs, r, ob, es, ep, e, c⟩ := x
    exact ⟨z, y, xs, Paired.mapP r fun p q z => ⟨z.1, ht _ _ z.2.1, z.2.2⟩, ob, es, ep, k _ _ (.inl rfl) e, c⟩
  | set S n => obtain ⟨ob, es, ep, t, e, c⟩ := x; exact ⟨ob, es, ep, t, k _ _ (.inl rfl) e, c⟩
  | ins C dx fs =>
    obtain ⟨d, z, ne, e, mA, ⟨od, es, ep, e2, c⟩, r⟩ := x
    exact ⟨ho _ d, z, ne, k _ _ (.inl rfl) e, mA, ⟨od, es, ep, k _ _ (.inr d) e2, c⟩, r⟩
  | own y => obtain ⟨ob, e⟩ := x; exact ⟨ob, k _ _ (.inl rfl) e⟩
  | xd fs => obtain ⟨mA, ⟨od, es, ep, e, c⟩, r⟩ := x; exact ⟨mA, ⟨od, es, ep, k _ _ (.inl rfl) e, c⟩, r⟩
  | rng lo hi => obtain ⟨t, u, v, e⟩ := x; exact ⟨t, u, v, k _ _ (.inl rfl) e⟩
  | frz ob u ih => obtain ⟨e, q⟩ := x; exact ⟨k _ _ (.inl rfl) e, ih q⟩
  | tbl ps =>
    have e : h.get? a = some { cls := .none, data := .fields ps } := x
    show h'.get? a = some { cls := .none, data := .fields ps }
    exact k a _ (.inl rfl) e
  | met f y =>
    have e : h.get? a = some (PySem.W.methodObj (.ref f) (.ref y)) := x
    show h'.get? a = some (PySem.W.methodObj (.ref f) (.ref y))
    exact k a _ (.inl rfl) e
  | ext φ => obtain ⟨p, ⟨o, e⟩, st⟩ := x; exact ⟨st _ _ p fun o q => k _ _ (.inl rfl) q, ⟨o, k _ _ (.inl rfl) e⟩, st⟩
theorem HOk.lt (x : HOk P w H h) (e : H a = some o) : a < h.objs.size := (x a o e).lt
theorem HOk.fresh (x : HOk P w H h) (e : h.objs.size ≤ a) : H a = none := by
  cases q : H a with
  | none => rfl
  | some u => exact absurd (Nat.lt_of_lt_of_le (x.lt q) e) (Nat.lt_irrefl _)
theorem HOk.kept (x : HOk P w H h) (k : ∀ b u, h.get? b = some u → h'.get? b = some u) : HOk P w H h' := fun a o e =>
  (x a o e).stay (fun b u _ q => k b u q) (fun _ q => q) fun _ _ q => q
theorem HOk.laid (x : HOk P w H h) (k : ∀ b u, h.get? b = some u → h'.get? b = some u) (hp : h.objs.size ≤ a) (new : ObjOk P w (upd H a o) h' a o) : HOk P w (upd H a o) h' := fun b u e => by
  have hn := x.fresh hp
  by_cases hb : b = a
  · subst hb; rw [upd_same] at e; cases e; exact new
  · rw [upd_ne hb] at e
    exact (x b u e).stay (fun c v _ q => k c v q) (fun c q => by rw [upd_ne (ne_of_none q hn)]; exact q) fun c xs q => by rw [upd_ne (ne_of_none q hn)]; exact q
end
def Rd (H : Hp) (a : Addr) (u : HO) : Prop := H a = some u ∨ ∃ o, H a = some (.frz o u)
theorem Rd.of {H : Hp} {a : Addr} {u : HO} (h : H a = some u) : Rd H a u := .inl h
theorem Rd.ok {P : Program} {w : World} {H : Hp} {h : Heap} {a : Addr} {u : HO} (r : Rd H a u) (x : HOk P w H h) : ObjOk P w H h a u := by
  rcases r with r | ⟨o, r⟩
  · exact x a u r
  · obtain ⟨_, q⟩ := x a _ r
    exact q
def Mut : Option HO → Prop
  | some (.lst _) => True
  | some (.dK _) => True
  | some (.dT _) => True
  | some (.set _ _) => True
  | some (.ins _ _ _) => True
  | some (.ext _) => True
  | _ => False
section
variable {P : Program} {w : World} {H : Hp} {h h' : Heap} {x e : Addr} {o' : HO}
theorem HOk.write (ok : HOk P w H h) (mu : Mut (H x)) (he : e = x ∨ H e = some (.own x)) (k : ∀ b u, b ≠ e → h.get? b = some u → h'.get? b = some u) (heo : ∃ u, h'.get? e = some u)
    (new : ObjOk P w (upd H x o') h' x o') : HOk P w (upd H x o') h' := fun b u q => by
  have nown : ∀ c y, H c = some (.own y) → c ≠ x := fun c y r z => by subst z; rw [r] at mu; exact mu
  have ntup : ∀ c xs, H c = some (.tup xs) → c ≠ x := fun c xs r z => by subst z; rw [r] at mu; exact mu
  by_cases hb : b = x
  · subst hb; rw [upd_same] at q; cases q; exact new
  · rw [upd_ne hb] at q
    by_cases hbe : b = e
    · have q' : H b = some (.own x) := by
        rcases he with z | z
        · exact absurd (hbe.trans z) hb
        · rw [hbe]; exact z
      rw [q] at q'; cases q'
      obtain ⟨v, hv⟩ := heo
      exact ⟨v, by rw [hbe]; exact hv⟩
    · refine (ok b u q).stay (fun c v hc r => k c v ?_ r) (fun c r => by rw [upd_ne (nown c b r)]; exact r) fun c xs r => by rw [upd_ne (ntup c xs r)]; exact r
      rcases hc with rfl | hc
      · exact hbe
      · rintro rfl
        rcases he with z | z
        · exact nown c b hc z
        · rw [hc] at z; cases z; exact hb rfl
end
structure Un (fs ex : List Addr) (H H' : Hp) (h h' : Heap) : Prop where
  keep : ∀ b o, h.get? b = some o → H b = none → b ∉ fs → b ∉ ex → h'.get? b = some o
  slot : ∀ b o, h.get? b = some o → H b = none → b ∈ fs → b ∉ ex → ∃ sl, h'.get? b = some { o with slots := sl }
  free : ∀ b o, h.get? b = some o → H b = none → b ∉ ex → H' b = none
  there : ∀ b o, h.get? b = some o → b ∉ ex → ∃ o', h'.get? b = some o'
  tups : ∀ b xs, H b = some (.tup xs) → H' b = some (.tup xs)
  frzs : ∀ b o u, H b = some (.frz o u) → H' b = some (.frz o u)
  tbls : ∀ b ps, H b = some (.tbl ps) → ∃ more, H' b = some (.tbl (ps ++ more))
section
variable {fs fs' ex ex' : List Addr} {H H1 H2 : Hp} {h h1 h2 h' : Heap} {a x e : Addr} {o : HO}
theorem Un.any (u : Un fs ex H H1 h h1) {b : Addr} {ob : Obj} (q : h.get? b = some ob) (n : H b = none) (hx : b ∉ ex) : ∃ sl, h1.get? b = some { ob with slots := sl } := by
  by_cases hb : b ∈ fs
  · exact u.slot b ob q n hb hx
  · exact ⟨ob.slots, u.keep b ob q n hb hx⟩
theorem Un.trans (a : Un fs ex H H1 h h1) (b : Un fs ex H1 H2 h1 h2) : Un fs ex H H2 h h2 where
  keep := fun c ob q n hc hx => b.keep c ob (a.keep c ob q n hc hx) (a.free c ob q n hx) hc hx
  slot := fun c ob q n hc hx => by
    obtain ⟨sl, e1⟩ := a.slot c ob q n hc hx
    obtain ⟨sl', e2⟩ := b.slot c _ e1 (a.free c ob q n hx) hc hx
    exact ⟨sl', e2⟩
  free := fun c ob q n hx => by
    obtain ⟨o', e1⟩ := a.there c ob q hx
    exact b.free c o' e1 (a.free c ob q n hx) hx
  there := fun c ob q hx => by
    obtain ⟨o', e1⟩ := a.there c ob q hx
    exact b.there c o' e1 hx
  tups := fun c xs q => b.tups c xs (a.tups c xs q)
  frzs := fun c ob xs q => b.frzs c ob xs (a.frzs c ob xs q)
  tbls := fun c ps q => by
    obtain ⟨m1, e1⟩ := a.tbls c ps q
    obtain ⟨m2, e2⟩ := b.tbls c _ e1
    exact ⟨m1 ++ m2, by rw [e2, Array.append_assoc]⟩
theorem Un.kept (k : ∀ b u, h.get? b = some u → h'.get? b = some u) : Un fs ex H H h h' :=
  ⟨fun b ob q _ _ _ => k b ob q, fun b ob q _ _ _ => ⟨ob.slots, k b ob q⟩, fun _ _ _ n _ => n, fun b ob q _ => ⟨ob, k b ob q⟩, fun _ _ q => q, fun _ _ _ q => q, fun _ ps q => ⟨#[], by rw [q]; simp⟩⟩
theorem Un.refl : Un fs ex H H h h := Un.kept fun _ _ q => q
theorem Un.laid (k : ∀ b u, h.get? b = some u → h'.get? b = some u) (hp : h.objs.size ≤ a) (hn : H a = none) : Un fs ex H (upd H a o) h h' where
  keep := fun b u q _ _ _ => k b u q
  slot := fun b u q _ _ _ => ⟨u.slots, k b u q⟩
  free := fun b u q n _ => by rw [upd_ne (Nat.ne_of_lt (Nat.lt_of_lt_of_le (Heap.lt_size q) hp))]; exact n
  there := fun b u q _ => ⟨u, k b u q⟩
  tups := fun b xs q => by rw [upd_ne (ne_of_none q hn)]; exact q
  frzs := fun b u xs q => by rw [upd_ne (ne_of_none q hn)]; exact q
  tbls := fun b ps q => ⟨#[], by rw [upd_ne (ne_of_none q hn), q]; simp⟩
theorem Un.write (mu : Mut (H x)) (he : e = x ∨ H e = some (.own x)) (k : ∀ b u, b ≠ e → h.get? b = some u → h'.get? b = some u) (heo : ∃ u, h'.get? e = some u) : Un fs ex H (upd H x o) h h' := by
  have hx : ∀ b, H b = none → b ≠ x := fun b n z => by subst z; rw [n] at mu; exact mu
  have hb : ∀ b, H b = none → b ≠ e := fun b n z => by
    subst z
    rcases he with r | r
    · exact hx b n r
    · rw [n] at r; cases r
  have hm : ∀ b u, H b = some u → ¬ Mut (some u) → b ≠ x := fun b u q nm z => by subst z; rw [q] at mu; exact nm mu
  refine ⟨fun b u q n _ _ => k b u (hb b n) q, fun b u q n _ _ => ⟨u.slots, k b u (hb b n) q⟩, fun b u q n _ => by rw [upd_ne (hx b n)]; exact n, fun b u q _ => ?_,
    fun b xs q => by rw [upd_ne (hm b _ q fun z => z)]; exact q, fun b u xs q => by rw [upd_ne (hm b _ q fun z => z)]; exact q, fun b ps q => ⟨#[], by rw [upd_ne (hm b _ q fun z => z), q]; simp⟩⟩
  by_cases hbe : b = e
  · subst hbe; exact heo
  · exact ⟨u, k b u hbe q⟩
theorem Un.mono (u : Un fs ex H H1 h h1) (hs : ∀ b ∈ fs, b ∈ fs') (hx : ∀ b ∈ ex, b ∈ ex') : Un fs' ex' H H1 h h1 :=
  ⟨fun b ob q n hb he => u.keep b ob q n (fun z => hb (hs b z)) fun z => he (hx b z), fun _ _ q n _ he => u.any q n fun z => he (hx _ z), fun b ob q n he => u.free b ob q n fun z => he (hx b z), fun b ob q he => u.there b ob q fun z => he (hx b z), u.tups, u.frzs, u.tbls⟩
end
def trk (h : Heap) (H : Hp) : List Addr := (List.range h.objs.size).filter fun a => (H a).isSome
def hidT (h : Heap) (H : Hp) : Heap := PySem.W.hideAll h (trk h H)
theorem hidT_size (h : Heap) (H : Hp) : (hidT h H).objs.size = h.objs.size := PySem.W.hideAll_size _ _
theorem hidT_get {h : Heap} {H : Hp} {b : Addr} {o : Obj} (e : h.get? b = some o) (n : H b = none) : (hidT h H).get? b = some o :=
  PySem.W.hideAll_get _ e fun hm => by
    have q : (H b).isSome = true := (List.mem_filter.mp hm).2
    rw [n] at q; simp at q
theorem of_hidT {h : Heap} {H : Hp} {b : Addr} {o : Obj} (e : (hidT h H).get? b = some o) : h.get? b = some o ∧ H b = none := by
  have e' : h.get? b = some o := PySem.W.of_hideAll (trk h H) e
  refine ⟨e', ?_⟩
  cases q : H b with
  | none => rfl
  | some x =>
    have hm : b ∈ trk h H := List.mem_filter.mpr ⟨List.mem_range.mpr (Heap.lt_size e'), by simp [q]⟩
    have z : (hidT h H).get? b = none := PySem.W.hideAll_none (trk h H) hm
    rw [z] at e; cases e

def allNews (g h : Heap) (L : Addr) : List (Addr × Obj) := (List.range h.objs.size).filterMap fun a => if a = L ∨ (g.get? a).isSome = true then none else (h.get? a).map fun o => (a, o)
def rest (g h : Heap) (L d : Addr) : List (Addr × Obj) := (allNews g h L).filter fun p => decide (p.1 ≠ d)
end L2
namespace L2
open PySem PySem.Spec PyProof.Rows
structure Mod (K : PySem.W.Frag) (mg : Str → Option Value) (base : Heap) : Prop where
  kin : K.In base
  glob : base.Ns mainGlobals mg
  blt : ∃ mb, base.Ns builtinsNs mb ∧ ∀ x : Str, x ≠ "__name__" → mb x = bootBuiltins x
  nolimit : base.NoLimit

structure Cx where
  prog : Program
  w : World
  K : PySem.W.Frag
  mg : Str → Option Value
  base : Heap
  A : Around
  N : List Str
  s₀ : Shared
  H₀ : Hp
  env : Env
  outer : List Env
  stack : List Env
  ex : List Addr
  fn : Str → Bool
  calm : Bool
  pn : List (Addr × Obj)
  xe : Value → Shared → Prop
def frs (l : List Env) : List Addr := l.filterMap (·.frame)
abbrev Cx.fs (X : Cx) : List Addr := frs X.outer

def Vis (sc : Scope) (x : Str) : Prop := sc.names.lookup x = some .local ∨ sc.names.lookup x = some .cell ∨ sc.names.lookup x = some .free
def Loc (sc : Scope) (x : Str) : Prop := sc.names.lookup x = some .local ∨ sc.names.lookup x = some .cell
def Look (env : Env) (h : Heap) (m : Str → Option Value) (x : Str) (u : Value) : Prop :=
  (env.kindOf x = some .local ∧ m x = some u) ∨ ((env.kindOf x = some .cell ∨ env.kindOf x = some .free) ∧ ∃ c, env.cells.lookup x = some c ∧ h.IsCell c (some u))

structure Cx.Ok (X : Cx) : Prop where
  mod : Mod X.K X.mg X.base
  kind : X.env.scope.kind = .function
  glob : X.env.globals = mainGlobals
  blt : X.env.builtins = builtinsNs
  above : X.s₀.heap.objs.size ≤ X.env.locals
  inj : ∀ x y c, X.env.cells.lookup x = some c → X.env.cells.lookup y = some c → x = y
  has : ∀ x, (X.env.kindOf x = some .cell ∨ X.env.kindOf x = some .free) → ∃ c, X.env.cells.lookup x = some c
  cab : ∀ x c, X.fn x = true → X.env.cells.lookup x = some c → X.s₀.heap.objs.size ≤ c
  hd : X.calm = true → X.A.handled = none
  frames : X.A.frames = some X.stack
  stk : X.stack = X.outer ∨ (X.stack = X.env :: X.outer ∧ X.env.frame = some X.env.locals)
  exf : ∀ b ∈ X.ex, b ≠ X.env.locals ∧ ∀ x c, X.env.cells.lookup x = some c → c ≠ b
  bs : ∀ b o, X.base.get? b = some o → X.s₀.heap.get? b = some o ∧ X.H₀ b = none
  bsz : X.base.objs.size ≤ X.s₀.heap.objs.size
  noex : ∀ b o, X.base.get? b = some o → b ∉ X.ex
  exfs : ∀ b ∈ X.ex, b ∉ X.fs
  funs : X.s₀.heap.FunFrames X.base X.outer
  frf : ∀ b ∈ X.fs, X.H₀ b = none

structure Inv (X : Cx) (pins : List (Addr × Obj)) (σ : List (Option V)) (H : Hp) (s : Shared) : Prop where
  ok : X.Ok
  os : s.os = X.s₀.os
  bare : AllBare s.gens
  base : Un X.fs X.ex X.H₀ H X.s₀.heap s.heap
  loc : ∃ m, s.heap.Ns X.env.locals m ∧ ∀ (i : Nat) (x : Str) (v : V), X.N[i]? = some x → σ[i]? = some (some v) → Vis X.env.scope x → ∃ u, RelV v u ∧ Look X.env s.heap m x u
  cell : ∀ x c, X.env.cells.lookup x = some c → ∃ v, s.heap.IsCell c v
  free : H X.env.locals = none
  freeC : ∀ x c, X.env.cells.lookup x = some c → H c = none
  pin : ∀ p ∈ X.pn ++ pins, s.heap.get? p.1 = some p.2 ∧ H p.1 = none ∧ p.1 ≠ X.env.locals ∧ p.1 ∉ X.fs ∧ ∀ v, p.2.data ≠ .cell v
  hok : HOk X.prog X.w H s.heap
  len : σ.length = X.N.length

section
variable {X : Cx} {pins : List (Addr × Obj)} {σ : List (Option V)} {H H' : Hp} {s : Shared} {h' : Heap}
theorem Cx.Ok.nofr (ok : X.Ok) {b : Addr} {o : Obj} (e : X.base.get? b = some o) : b ∉ X.fs := fun hb => by
  have := (ok.funs.mem hb).1
  rw [e] at this; cases this
theorem Inv.bs (I : Inv X pins σ H s) : ∀ b o, X.base.get? b = some o → s.heap.get? b = some o ∧ H b = none := fun b o e =>
  ⟨I.base.keep b o (I.ok.bs b o e).1 (I.ok.bs b o e).2 (I.ok.nofr e) (I.ok.noex b o e), I.base.free b o (I.ok.bs b o e).1 (I.ok.bs b o e).2 (I.ok.noex b o e)⟩
theorem Inv.bk (I : Inv X pins σ H s) : ∀ b o, X.base.get? b = some o → s.heap.get? b = some o := fun b o e => (I.bs b o e).1
theorem Inv.mod (I : Inv X pins σ H s) : Mod X.K X.mg X.base := I.ok.mod
theorem Inv.kIn (I : Inv X pins σ H s) : X.K.In s.heap := I.ok.mod.kin.keeps I.bk
theorem Inv.nolimit (I : Inv X pins σ H s) : s.heap.NoLimit := I.ok.mod.nolimit.keeps I.bk
theorem Inv.fr (I : Inv X pins σ H s) : ∃ m, Fr X.base X.env.locals s.heap m :=
  let ⟨m, hn, _⟩ := I.loc
  ⟨m, hn, I.bk, Nat.le_trans I.ok.bsz I.ok.above⟩
theorem Inv.lt (I : Inv X pins σ H s) : X.env.locals < s.heap.objs.size := let ⟨_, hn, _⟩ := I.loc; hn.lt
theorem Inv.sz (I : Inv X pins σ H s) : X.s₀.heap.objs.size ≤ s.heap.objs.size := Nat.le_trans I.ok.above (Nat.le_of_lt I.lt)
theorem Inv.nofs (I : Inv X pins σ H s) {a : Addr} (h : s.heap.objs.size ≤ a) : a ∉ X.fs := fun hb => by
  obtain ⟨_, o, ho, _⟩ := I.ok.funs.mem hb
  exact absurd (Nat.lt_of_lt_of_le (Heap.lt_size ho) (Nat.le_trans I.sz h)) (Nat.lt_irrefl _)
theorem Inv.cne (I : Inv X pins σ H s) : ∀ x c, X.env.cells.lookup x = some c → c ≠ X.env.locals := fun x c e z => by
  obtain ⟨v, o, ho, hd⟩ := I.cell x c e
  obtain ⟨m, ⟨o', es, ep, ho', hd', _⟩, _⟩ := I.loc
  rw [z, ho'] at ho; cases ho; rw [hd'] at hd; cases hd
theorem Inv.funs (I : Inv X pins σ H s) : s.heap.FunFrames X.base X.outer := by
  have all : ∀ (l : List Env), (∀ b ∈ frs l, b ∈ X.fs) → X.s₀.heap.FunFrames X.base l → s.heap.FunFrames X.base l := by
    intro l
    induction l with
    | nil => intro _ _; trivial
    | cons env r ih =>
      intro hs hl
      obtain ⟨hk, ⟨L, o, hf, hn, ho, hd⟩, hr⟩ := hl
      have hL : L ∈ X.fs := hs L (by unfold frs; rw [List.filterMap_cons, hf]; exact List.mem_cons_self)
      obtain ⟨sl, e⟩ := I.base.slot L o ho (I.ok.frf L hL) hL fun z => I.ok.exfs L z hL
      exact ⟨hk, ⟨L, _, hf, hn, e, hd⟩, ih (fun b hb => hs b (by unfold frs; rw [List.filterMap_cons, hf]; exact List.mem_cons_of_mem _ hb)) hr⟩
  exact all X.outer (fun _ hb => hb) I.ok.funs

theorem Inv.stack (I : Inv X pins σ H s) : s.heap.FunFrames X.base X.stack := by
  rcases I.ok.stk with e | ⟨e, hf⟩
  · rw [e]; exact I.funs
  · rw [e]
    obtain ⟨m, hn, _⟩ := I.loc
    refine .cons (by rw [I.ok.kind]; decide) hf hn ?_ I.funs
    exact Heap.get?_none_of_le (Nat.le_trans I.ok.bsz I.ok.above)
theorem Inv.stkSub (I : Inv X pins σ H s) : ∀ b ∈ frs X.stack, b ∈ X.env.locals :: X.fs := fun b hb => by
  rcases I.ok.stk with e | ⟨e, hf⟩
  · rw [e] at hb; exact List.mem_cons_of_mem _ hb
  · rw [e] at hb
    unfold frs at hb
    rw [List.filterMap_cons, hf] at hb
    exact hb
theorem Inv.stkFree (I : Inv X pins σ H s) : ∀ b ∈ frs X.stack, H b = none := fun b hb => by
  rcases List.mem_cons.mp (I.stkSub b hb) with e | hb
  · rw [e]; exact I.free
  · obtain ⟨_, o, ho, _⟩ := I.ok.funs.mem hb
    exact I.base.free b o ho (I.ok.frf b hb) fun z => I.ok.exfs b z hb

theorem Inv.step {g' : Array GenState} {t' : Nat} {d' : Drawn} {ch : List Addr} (I : Inv X pins σ H s)
    (hch : ∀ b ∈ ch, (b ∈ X.ex ∨ X.s₀.heap.objs.size ≤ b) ∧ b ≠ X.env.locals ∧ (∀ x c, X.env.cells.lookup x = some c → c ≠ b) ∧ ∀ p ∈ X.pn ++ pins, p.1 ≠ b)
    (keep : ∀ b o, b ≠ X.env.locals → b ∉ X.fs → b ∉ ch → s.heap.get? b = some o → H b = none → h'.get? b = some o)
    (slot : ∀ b o, b ≠ X.env.locals → b ∈ X.fs → b ∉ ch → s.heap.get? b = some o → H b = none → ∃ sl, h'.get? b = some { o with slots := sl }) (free : ∀ b o, b ∉ ch → s.heap.get? b = some o → H b = none → H' b = none)
    (there : ∀ b o, b ∉ ch → s.heap.get? b = some o → ∃ o', h'.get? b = some o')
    (tups : ∀ b xs, H b = some (.tup xs) → H' b = some (.tup xs)) (frzs : ∀ b o u, H b = some (.frz o u) → H' b = some (.frz o u)) (tbls : ∀ b ps, H b = some (.tbl ps) → ∃ more, H' b = some (.tbl (ps ++ more)))
    (ns : ∀ m, s.heap.Ns X.env.locals m → h'.Ns X.env.locals m) (hok : HOk X.prog X.w H' h') (hg : AllBare g') :
    Inv X pins σ H' { s with heap := h', gens := g', drawn := d', toks := t' } := by
  have neL : ∀ b o, X.s₀.heap.get? b = some o → b ≠ X.env.locals := fun b o e => Nat.ne_of_lt (Nat.lt_of_lt_of_le (Heap.lt_size e) I.ok.above)
  have neC : ∀ b o, X.s₀.heap.get? b = some o → b ∉ X.ex → b ∉ ch := fun b o e hx hb => by
    rcases (hch b hb).1 with z | z
    · exact hx z
    · exact absurd (Nat.lt_of_lt_of_le (Heap.lt_size e) z) (Nat.lt_irrefl _)
  have cellK : ∀ x c, X.env.cells.lookup x = some c → ∀ v, s.heap.IsCell c v → h'.IsCell c v := fun x c e v ⟨o, ho, hd⟩ => by
    have nch : c ∉ ch := fun z => (hch c z).2.2.1 x c e rfl
    by_cases hc : c ∈ X.fs
    · obtain ⟨sl, q⟩ := slot c o (I.cne x c e) hc nch ho (I.freeC x c e)
      exact ⟨_, q, hd⟩
    · exact ⟨o, keep c o (I.cne x c e) hc nch ho (I.freeC x c e), hd⟩
  refine ⟨I.ok, I.os, hg, ⟨fun b o e n hb hx => ?_, fun b o e n hb hx => ?_, fun b o e n hx => ?_, fun b o e hx => ?_, fun b xs e => tups b xs (I.base.tups b xs e), fun b o xs e => frzs b o xs (I.base.frzs b o xs e), fun b ps e => ?_⟩, ?_, fun x c e => ?_, ?_, fun x c e => ?_, fun p hp => ?_, hok, I.len⟩
  · exact keep b o (neL b o e) hb (neC b o e hx) (I.base.keep b o e n hb hx) (I.base.free b o e n hx)
  · obtain ⟨sl, e1⟩ := I.base.slot b o e n hb hx
    obtain ⟨sl', e2⟩ := slot b _ (neL b o e) hb (neC b o e hx) e1 (I.base.free b o e n hx)
    exact ⟨sl', e2⟩
  · obtain ⟨o', e1⟩ := I.base.there b o e hx
    exact free b o' (neC b o e hx) e1 (I.base.free b o e n hx)
  · obtain ⟨o', e1⟩ := I.base.there b o e hx
    exact there b o' (neC b o e hx) e1
  · obtain ⟨m1, e1⟩ := I.base.tbls b ps e
    obtain ⟨m2, e2⟩ := tbls b _ e1
    exact ⟨m1 ++ m2, by rw [e2, Array.append_assoc]⟩
  · obtain ⟨m, hn, hl⟩ := I.loc
    refine ⟨m, ns m hn, fun i x v e1 e2 e3 => ?_⟩
    obtain ⟨u, r, l⟩ := hl i x v e1 e2 e3
    refine ⟨u, r, ?_⟩
    rcases l with l | ⟨k, c, e, z⟩
    · exact .inl l
    · exact .inr ⟨k, c, e, cellK x c e _ z⟩
  · obtain ⟨v, z⟩ := I.cell x c e
    exact ⟨v, cellK x c e v z⟩
  · obtain ⟨m, ⟨o, _, _, ho, _⟩, _⟩ := I.loc
    exact free _ o (fun z => (hch _ z).2.1 rfl) ho I.free
  · obtain ⟨v, o, ho, hd⟩ := I.cell x c e
    exact free c o (fun z => (hch c z).2.2.1 x c e rfl) ho (I.freeC x c e)
  · obtain ⟨e, n, ne, nf, d⟩ := I.pin p hp
    have nch : p.1 ∉ ch := fun z => (hch p.1 z).2.2.2 p hp rfl
    exact ⟨keep p.1 p.2 ne nf nch e n, free p.1 p.2 nch e n, ne, nf, d⟩
theorem Inv.un {t' : Nat} (I : Inv X pins σ H s) (u : Un X.fs [] H H' s.heap h') (hok : HOk X.prog X.w H' h') : Inv X pins σ H' { s with heap := h', toks := t' } := by
  obtain ⟨m, ⟨o, es, ep, ho, r⟩, _⟩ := id I.loc
  obtain ⟨sl, hL⟩ := u.any ho I.free (by simp)
  exact I.step (g' := s.gens) (d' := s.drawn) (ch := []) (fun _ z => nomatch z) (fun b o _ hb _ e n => u.keep b o e n hb (by simp)) (fun b o _ hb _ e n => u.slot b o e n hb (by simp)) (fun b o _ e n => u.free b o e n (by simp)) (fun b o _ e => u.there b o e (by simp)) u.tups u.frzs u.tbls (fun m' hm => by
    obtain ⟨o', es', ep', ho', r'⟩ := hm
    rw [ho] at ho'; cases ho'
    exact ⟨_, es', ep', hL, r'⟩) hok I.bare
theorem Inv.call {g' : Array GenState} {t' : Nat} {d' : Drawn} {ch : List Addr} (I : Inv X pins σ H s) (u : Un (frs X.stack) ch H H' s.heap h') (hok : HOk X.prog X.w H' h') (hg : AllBare g')
    (hch : ∀ b ∈ ch, (b ∈ X.ex ∨ X.s₀.heap.objs.size ≤ b) ∧ b ≠ X.env.locals ∧ (∀ x c, X.env.cells.lookup x = some c → c ≠ b) ∧ ∀ p ∈ X.pn ++ pins, p.1 ≠ b) :
    Inv X pins σ H' { s with heap := h', gens := g', drawn := d', toks := t' } := by
  obtain ⟨m, ⟨o, es, ep, ho, r⟩, _⟩ := id I.loc
  obtain ⟨sl, hL⟩ := u.any ho I.free fun z => (hch _ z).2.1 rfl
  exact I.step (ch := ch) hch (fun b o hL hb hc e n => u.keep b o e n (fun z => (List.mem_cons.mp (I.stkSub b z)).elim hL hb) hc) (fun b o _ _ hc e n => u.any e n hc) (fun b o hc e n => u.free b o e n hc) (fun b o hc e => u.there b o e hc) u.tups u.frzs u.tbls (fun m' hm => by
    obtain ⟨o', es', ep', ho', r'⟩ := hm
    rw [ho] at ho'; cases ho'
    exact ⟨_, es', ep', hL, r'⟩) hok hg
theorem Inv.turned {t' : Nat} {it : Addr} (I : Inv X pins σ H s) (k : ∀ b o, b ≠ it → s.heap.get? b = some o → h'.get? b = some o) (hn : H it = none) (hL : it ≠ X.env.locals)
    (h1 : it ∈ X.ex ∨ X.s₀.heap.objs.size ≤ it) (h2 : ∀ x c, X.env.cells.lookup x = some c → c ≠ it) (h3 : ∀ p ∈ X.pn ++ pins, p.1 ≠ it) : Inv X pins σ H { s with heap := h', toks := t' } := by
  have nit : ∀ b u, H b = some u → b ≠ it := fun b u e z => by rw [z, hn] at e; cases e
  refine I.step (g' := s.gens) (d' := s.drawn) (ch := [it]) (fun b hb => ?_) (fun b o _ _ hc e _ => k b o (fun z => hc (by simp [z])) e) (fun b o _ _ hc e _ => ⟨o.slots, k b o (fun z => hc (by simp [z])) e⟩) (fun _ _ _ _ n => n)
    (fun b o hc e => ⟨o, k b o (fun z => hc (by simp [z])) e⟩) (fun _ _ e => e) (fun _ _ _ e => e) (fun b ps e => ⟨#[], by rw [e]; simp⟩) (fun m hm => ?_) (fun b u e => ?_) I.bare
  · have e : b = it := by simpa using hb
    subst e
    exact ⟨h1, hL, h2, h3⟩
  · obtain ⟨o, es, ep, ho, r⟩ := hm
    exact ⟨o, es, ep, k _ o (Ne.symm hL) ho, r⟩
  · refine (I.hok b u e).stay (fun c v hc q => k c v ?_ q) (fun _ q => q) fun _ _ q => q
    rcases hc with z | z
    · rw [z]; exact nit b u e
    · exact nit c _ z
theorem Inv.tok (I : Inv X pins σ H s) (t : Nat) : Inv X pins σ H { s with toks := t } := I.un (h' := s.heap) (t' := t) Un.refl I.hok
theorem Inv.kept {t' : Nat} (I : Inv X pins σ H s) (k : ∀ b u, s.heap.get? b = some u → h'.get? b = some u) : Inv X pins σ H { s with heap := h', toks := t' } := I.un (Un.kept k) (I.hok.kept k)
theorem Inv.laid {a : Addr} {o : HO} {t' : Nat} (I : Inv X pins σ H s) (k : ∀ b u, s.heap.get? b = some u → h'.get? b = some u) (hp : s.heap.objs.size ≤ a) (new : ObjOk X.prog X.w (upd H a o) h' a o) :
    Inv X pins σ (upd H a o) { s with heap := h', toks := t' } := I.un (Un.laid k hp (I.hok.fresh hp)) (I.hok.laid k hp new)
theorem Inv.write {x e : Addr} {o : HO} {t' : Nat} (I : Inv X pins σ H s) (mu : Mut (H x)) (he : e = x ∨ H e = some (.own x)) (k : ∀ b u, b ≠ e → s.heap.get? b = some u → h'.get? b = some u) (heo : ∃ u, h'.get? e = some u)
    (new : ObjOk X.prog X.w (upd H x o) h' x o) : Inv X pins σ (upd H x o) { s with heap := h', toks := t' } := I.un (Un.write mu he k heo) (I.hok.write mu he k heo new)
theorem Inv.pins_of {pins' : List (Addr × Obj)} (I : Inv X pins σ H s) (h : ∀ p ∈ pins', s.heap.get? p.1 = some p.2 ∧ H p.1 = none ∧ p.1 ≠ X.env.locals ∧ p.1 ∉ X.fs ∧ ∀ v, p.2.data ≠ .cell v) : Inv X pins' σ H s :=
  ⟨I.ok, I.os, I.bare, I.base, I.loc, I.cell, I.free, I.freeC, fun p hp => (List.mem_append.mp hp).elim (fun z => I.pin p (List.mem_append_left _ z)) (h p), I.hok, I.len⟩

theorem nodup_ix {N : List Str} (hN : N.Nodup) {i j : Nat} {x : Str} (a : N[i]? = some x) (b : N[j]? = some x) : i = j := by
  obtain ⟨h1, e1⟩ := List.getElem?_eq_some_iff.mp a
  obtain ⟨h2, e2⟩ := List.getElem?_eq_some_iff.mp b
  exact (List.getElem_inj hN).mp (e1.trans e2.symm)

theorem store_ok2 {M : Model} {A : Around} {E : Value → Shared → Prop} {i : Nat} {x : Str} {v : V} {u : Value} {Q : Unit → Shared → Prop} (I : Inv X pins σ H s) (hN : X.N.Nodup) (hi : X.N[i]? = some x) (hx : Loc X.env.scope x) (r : RelV v u)
    (h : ∀ s', Inv X pins (σ.set i (some v)) H s' → (∃ a, Heap.SameBut a s.heap s'.heap ∧ (a = X.env.locals ∨ X.env.cells.lookup x = some a)) → Q () s') (hf : X.fn x = true ∨ X.env.scope.names.lookup x = some .local := by first | exact .inl rfl | exact .inr rfl | assumption) : wpAny M A (storeName X.env x u) Q E s := by
  obtain ⟨m, hn, hl⟩ := id I.loc
  have hcls : (X.env.scope.kind == .class || (X.env.scope.kind == .module && X.env.locals != X.env.globals)) = false := by rw [I.ok.kind]; rfl
  have hiσ : i < σ.length := by rw [I.len]; exact (List.getElem?_eq_some_iff.mp hi).1
  have cne := I.cne
  have tracked : ∀ {a : Addr} {h' : Heap}, (∃ o, s.heap.get? a = some o ∧ H a = none) → Heap.SameBut a s.heap h' → HOk X.prog X.w H h' := fun {a h'} ha hs b ob e => by
    obtain ⟨_, _, hfree⟩ := ha
    refine (I.hok b ob e).stay (fun c w' hc q => (hs.2 c ?_).trans q) (fun _ q => q) fun _ _ q => q
    rintro rfl
    rcases hc with rfl | hc
    · rw [hfree] at e; cases e
    · rw [hfree] at hc; cases hc
  rcases hx with hk | hk
  · refine wpAny_storeName_local hk hn (fun h' hn' hs => ?_) hcls
    obtain ⟨oL, _, _, hoL, _⟩ := id hn
    refine h _ ⟨I.ok, I.os, I.bare, ⟨fun b o e n hb hx => ?_, fun b o e n hb hx => ?_, I.base.free, fun b o e hx => ?_, I.base.tups, I.base.frzs, I.base.tbls⟩, ⟨_, hn', fun j y v' e1 e2 e3 => ?_⟩, fun y c e => ?_, I.free, I.freeC, fun p hp => ?_, tracked ⟨oL, hoL, I.free⟩ hs, by simpa using I.len⟩ ⟨_, hs, .inl rfl⟩
    · exact (hs.2 b (Nat.ne_of_lt (Nat.lt_of_lt_of_le (Heap.lt_size e) I.ok.above))).trans (I.base.keep b o e n hb hx)
    · obtain ⟨sl, e1⟩ := I.base.slot b o e n hb hx
      exact ⟨sl, (hs.2 b (Nat.ne_of_lt (Nat.lt_of_lt_of_le (Heap.lt_size e) I.ok.above))).trans e1⟩
    · obtain ⟨o', e1⟩ := I.base.there b o e hx
      exact ⟨o', (hs.2 b (Nat.ne_of_lt (Nat.lt_of_lt_of_le (Heap.lt_size e) I.ok.above))).trans e1⟩
    · by_cases hj : j = i
      · subst hj
        rw [hi] at e1; cases e1
        rw [List.getElem?_set_self hiσ] at e2
        cases e2
        exact ⟨u, r, .inl ⟨hk, by simp⟩⟩
      · rw [List.getElem?_set_ne (Ne.symm hj)] at e2
        obtain ⟨u', r', q⟩ := hl j y v' e1 e2 e3
        refine ⟨u', r', ?_⟩
        rcases q with ⟨k, e⟩ | ⟨k, c, e, z⟩
        · refine .inl ⟨k, ?_⟩
          have : y ≠ x := fun e => hj (nodup_ix hN e1 (e ▸ hi))
          simp [this, e]
        · exact .inr ⟨k, c, e, z.sameBut hs (cne y c e)⟩
    · obtain ⟨w', z⟩ := I.cell y c e
      exact ⟨w', z.sameBut hs (cne y c e)⟩
    · obtain ⟨e, n, ne, nf, d⟩ := I.pin p hp
      exact ⟨(hs.2 p.1 ne).trans e, n, ne, nf, d⟩
  · have hfn : X.fn x = true := by
      rcases hf with z | z
      · exact z
      · rw [z] at hk; cases hk
    obtain ⟨c, hc⟩ := I.ok.has x (.inl hk)
    obtain ⟨w', z⟩ := I.cell x c hc
    refine wpAny_storeName_cell I.ok.kind hk hc z (fun h' hc' hs => ?_)
    obtain ⟨oc, hoc, hocd⟩ := id z
    refine h { s with heap := h' } ⟨I.ok, I.os, I.bare, ⟨fun b o e n hb hx => ?_, fun b o e n hb hx => ?_, I.base.free, fun b o e hx => ?_, I.base.tups, I.base.frzs, I.base.tbls⟩, ⟨m, hn.sameBut hs (Ne.symm (cne x c hc)), fun j y v' e1 e2 e3 => ?_⟩, fun y c' e => ?_, I.free, I.freeC, fun p hp => ?_, tracked ⟨oc, hoc, I.freeC x c hc⟩ hs, by simpa using I.len⟩ ⟨c, hs, .inr hc⟩
    · exact (hs.2 b (Nat.ne_of_lt (Nat.lt_of_lt_of_le (Heap.lt_size e) (I.ok.cab x c hfn hc)))).trans (I.base.keep b o e n hb hx)
    · obtain ⟨sl, e1⟩ := I.base.slot b o e n hb hx
      exact ⟨sl, (hs.2 b (Nat.ne_of_lt (Nat.lt_of_lt_of_le (Heap.lt_size e) (I.ok.cab x c hfn hc)))).trans e1⟩
    · obtain ⟨o', e1⟩ := I.base.there b o e hx
      exact ⟨o', (hs.2 b (Nat.ne_of_lt (Nat.lt_of_lt_of_le (Heap.lt_size e) (I.ok.cab x c hfn hc)))).trans e1⟩
    · by_cases hj : j = i
      · subst hj
        rw [hi] at e1; cases e1
        rw [List.getElem?_set_self hiσ] at e2
        cases e2
        exact ⟨u, r, .inr ⟨.inl hk, c, hc, hc'⟩⟩
      · rw [List.getElem?_set_ne (Ne.symm hj)] at e2
        obtain ⟨u', r', q⟩ := hl j y v' e1 e2 e3
        refine ⟨u', r', ?_⟩
        rcases q with q | ⟨k, c', e, z'⟩
        · exact .inl q
        · refine .inr ⟨k, c', e, z'.sameBut hs ?_⟩
          rintro rfl
          exact hj (nodup_ix hN e1 (I.ok.inj _ _ _ e hc ▸ hi))
    · by_cases hcc : c' = c
      · subst hcc; exact ⟨_, hc'⟩
      · obtain ⟨w2, z2⟩ := I.cell y c' e
        exact ⟨w2, z2.sameBut hs hcc⟩
    · obtain ⟨e, n, ne, nf, d⟩ := I.pin p hp
      refine ⟨(hs.2 p.1 ?_).trans e, n, ne, nf, d⟩
      intro q
      rw [q, hoc] at e
      have q' : oc = p.2 := Option.some.inj e
      exact d w' (by rw [← q']; exact hocd)
theorem store_ok {M : Model} {A : Around} {E : Value → Shared → Prop} {i : Nat} {x : Str} {v : V} {u : Value} {Q : Unit → Shared → Prop} (I : Inv X pins σ H s) (hN : X.N.Nodup) (hi : X.N[i]? = some x) (hx : Loc X.env.scope x) (r : RelV v u)
    (h : ∀ s', Inv X pins (σ.set i (some v)) H s' → Q () s') (hf : X.fn x = true ∨ X.env.scope.names.lookup x = some .local := by first | exact .inl rfl | exact .inr rfl | assumption) : wpAny M A (storeName X.env x u) Q E s :=
  store_ok2 I hN hi hx r (fun s' I' _ => h s' I') hf
theorem Inv.call' {s' : Shared} {ch : List Addr} (I : Inv X pins σ H s) (ho : s'.os = s.os) (u : Un (frs X.stack) ch H H' s.heap s'.heap) (hok : HOk X.prog X.w H' s'.heap) (hg : AllBare s'.gens)
    (hch : ∀ b ∈ ch, (b ∈ X.ex ∨ X.s₀.heap.objs.size ≤ b) ∧ b ≠ X.env.locals ∧ (∀ x c, X.env.cells.lookup x = some c → c ≠ b) ∧ ∀ p ∈ X.pn ++ pins, p.1 ≠ b) : Inv X pins σ H' s' := by
  obtain ⟨h', g', d', t', o'⟩ := s'
  have e : o' = s.os := ho
  subst e
  exact I.call (g' := g') (t' := t') (d' := d') u hok hg hch
end
abbrev XK := Value → Option Addr → Hp → Prop
abbrev St := List (Option V)
abbrev VK := V → Hp → Prop
abbrev TE := St → Hp → VK → Prop
abbrev TT := St → Hp → (Bool → Hp → Prop) → Prop
abbrev TA := St → Hp → (List V → Hp → Prop) → Prop
structure Ends where
  nx : St → Hp → Prop
  rt : VK
  bk : St → Hp → Prop := fun _ _ => False
  ct : St → Hp → Prop := fun _ _ => False
abbrev TS := Ends → St → Hp → Prop

def EP (X : Cx) (pins : List (Addr × Obj)) (σ : St) (Q : VK) (u : Value) (s' : Shared) : Prop := ∃ v H', Inv X pins σ H' s' ∧ RelV v u ∧ Q v H'
def TP (X : Cx) (pins : List (Addr × Obj)) (σ : St) (Q : Bool → Hp → Prop) (b : Bool) (s' : Shared) : Prop := ∃ H', Inv X pins σ H' s' ∧ Q b H'
def AP (X : Cx) (pins : List (Addr × Obj)) (σ : St) (Q : List V → Hp → Prop) (us : List Value) (s' : Shared) : Prop := ∃ vs H', Inv X pins σ H' s' ∧ Vals vs us ∧ Q vs H'
def SP (X : Cx) (pins : List (Addr × Obj)) (D : Ends) (f : Flow) (s' : Shared) : Prop :=
  match f with
  | .next => ∃ σ' H', Inv X pins σ' H' s' ∧ D.nx σ' H'
  | .brk => ∃ σ' H', Inv X pins σ' H' s' ∧ D.bk σ' H'
  | .cont => ∃ σ' H', Inv X pins σ' H' s' ∧ D.ct σ' H'
  | .ret u => ∃ v σ' H', Inv X pins σ' H' s' ∧ RelV v u ∧ D.rt v H'

def PE (X : Cx) (e : Expr) (t : TE) : Prop :=
  ∀ (pins : List (Addr × Obj)) (s : Shared) (σ : St) (H : Hp) (Q : VK), Inv X pins σ H s → t σ H Q → wpAny (model X.prog X.w) X.A (eval e X.env) (EP X pins σ Q) X.xe s
def PT (X : Cx) (e : Expr) (t : TT) : Prop :=
  ∀ (pins : List (Addr × Obj)) (s : Shared) (σ : St) (H : Hp) (Q : Bool → Hp → Prop), Inv X pins σ H s → t σ H Q → wpAny (model X.prog X.w) X.A (isTrue e X.env (eval e X.env)) (TP X pins σ Q) X.xe s
def PW (X : Cx) (e : Expr) (t : TT) : Prop :=
  ∀ (whole : Sem Value) (pins : List (Addr × Obj)) (s : Shared) (σ : St) (H : Hp) (Q : Bool → Hp → Prop), Inv X pins σ H s → t σ H Q → wpAny (model X.prog X.w) X.A (isTrue e X.env whole) (TP X pins σ Q) X.xe s
theorem PW.pt {X : Cx} {e : Expr} {t : TT} (h : PW X e t) : PT X e t := h _
def PA (X : Cx) (es : List Expr) (t : TA) : Prop :=
  ∀ (pos : Pos) (pins : List (Addr × Obj)) (s : Shared) (σ : St) (H : Hp) (Q : List V → Hp → Prop), Inv X pins σ H s → t σ H Q → wpAny (model X.prog X.w) X.A (spliced (backTo pos (starEach es X.env))) (AP X pins σ Q) X.xe s
def PS (X : Cx) (st : Stmt) (t : TS) : Prop :=
  ∀ (pins : List (Addr × Obj)) (s : Shared) (σ : St) (H : Hp) (D : Ends), Inv X pins σ H s → t D σ H → wpAny (model X.prog X.w) X.A (exec st X.env) (SP X pins D) X.xe s
def PSs (X : Cx) (st : List Stmt) (t : TS) : Prop :=
  ∀ (pins : List (Addr × Obj)) (s : Shared) (σ : St) (H : Hp) (D : Ends), Inv X pins σ H s → t D σ H → wpAny (model X.prog X.w) X.A (execs st X.env) (SP X pins D) X.xe s
theorem thn {α : Type} {t : Sem α} {Q Q' : α → Shared → Prop} {M : Model} {A : Around} {E : Value → Shared → Prop} {s : Shared} (h : wpAny M A t Q E s) (hQ : ∀ a s, Q a s → Q' a s) : wpAny M A t Q' E s := wpAny_mono h hQ fun _ _ x => x
end L2
namespace L2
open PySem PySem.Spec PyProof.Rows
section
variable {X : Cx}
def tVar (i : Nat) : TE := fun σ H Q => ∃ v, σ[i]? = some (some v) ∧ Q v H
def tC (v : V) : TE := fun _ H Q => Q v H
theorem pe_var {i : Nat} {x : Str} {pos : Pos} (hN : X.N[i]? = some x) (hv : Vis X.env.scope x) (hd : (x == ("__debug__" : Str)) = false := by decide) (hcd : (x == ("__classdict__" : Str)) = false := by decide) : PE X (.Name x pos) (tVar i) := by
  intro pins s σ H Q I h
  obtain ⟨v, e, h⟩ := h
  obtain ⟨m, hn, hl⟩ := I.loc
  obtain ⟨u, r, l⟩ := hl i x v hN e hv
  have fin : EP X pins σ Q u s := ⟨v, H, I, r, h⟩
  rcases l with ⟨hk, hm⟩ | ⟨hk, c, hc, hcell⟩
  · exact wpAny_Name (wpAny_loadName_local I.ok.kind hk hn hm fin) hd
  · rcases hk with hk | hk
    · exact wpAny_Name (wpAny_loadName_cell I.ok.kind hk hc hcell fin) hd
    · exact wpAny_Name (wpAny_loadName_free I.ok.kind hk hc hcell fin hcd) hd
theorem pe_int {i j pos} : PE X (.Constant (.int i) j pos) (tC (.int i)) := fun _ _ _ H _ I h => wpAny_Constant_int ⟨.int i, H, I.tok _, ⟨_, rfl⟩, h⟩
theorem pe_bl {b j pos} : PE X (.Constant (.bool b) j pos) (tC (.bl b)) := fun _ _ _ H _ I h => Constant_bool ⟨.bl b, H, I, rfl, h⟩
theorem pe_non {j pos} : PE X (.Constant .none j pos) (tC .non) := fun _ _ _ H _ I h => Constant_none ⟨.non, H, I, rfl, h⟩
theorem pe_str {x j pos} : PE X (.Constant (.str x) j pos) (tC (.str x)) := fun _ _ _ H _ I h => Calls.Constant_str ⟨.str x, H, I.tok _, ⟨_, rfl⟩, h⟩

def Gl (X : Cx) (x : Str) : Prop := X.env.kindOf x = some .globalImplicit
theorem ld_glob {E : Value → Shared → Prop} {pins : List (Addr × Obj)} {s : Shared} {σ : St} {H : Hp} {x : Str} {u : Value} {pos : Pos} {Q : Value → Shared → Prop} (I : Inv X pins σ H s) (hg : Gl X x) (hm : X.mg x = some u) (h : Q u s)
    (hd : (x == ("__debug__" : Str)) = false := by decide) : wpAny (model X.prog X.w) X.A (eval (.Name x pos) X.env) Q E s :=
  Calls.Name_function_global I.ok.kind hg (Calls.loadGlobal_global (by rw [I.ok.glob]; exact I.mod.glob.keeps I.bk) hm h) hd
theorem ld_blt {E : Value → Shared → Prop} {pins : List (Addr × Obj)} {s : Shared} {σ : St} {H : Hp} {x : Str} {u : Value} {pos : Pos} {Q : Value → Shared → Prop} (I : Inv X pins σ H s) (hg : Gl X x) (hm : X.mg x = none) (hv : bootBuiltins x = some u) (h : Q u s)
    (hn : x ≠ "__name__" := by decide) (hd : (x == ("__debug__" : Str)) = false := by decide) : wpAny (model X.prog X.w) X.A (eval (.Name x pos) X.env) Q E s := by
  obtain ⟨mb, h1, h2⟩ := I.mod.blt
  exact Calls.Name_function_global I.ok.kind hg (Calls.loadGlobal_builtin (by rw [I.ok.glob]; exact I.mod.glob.keeps I.bk) hm (by rw [I.ok.blt]; exact h1.keeps I.bk) ((h2 x hn).trans hv) h) hd
theorem pe_glob {x : Str} {v : V} {u : Value} {pos : Pos} (hg : Gl X x) (hm : X.mg x = some u) (r : RelV v u) (hd : (x == ("__debug__" : Str)) = false := by decide) : PE X (.Name x pos) (tC v) :=
  fun _ _ _ H _ I h => ld_glob I hg hm ⟨v, H, I, r, h⟩ hd
theorem pe_bltn {x : Str} {v : V} {u : Value} {pos : Pos} (hg : Gl X x) (hm : X.mg x = none) (hv : bootBuiltins x = some u) (r : RelV v u) (hn : x ≠ "__name__" := by decide) (hd : (x == ("__debug__" : Str)) = false := by decide) : PE X (.Name x pos) (tC v) :=
  fun _ _ _ H _ I h => ld_blt I hg hm hv ⟨v, H, I, r, h⟩ hn hd

variable {a b : Expr} {ta tb : TE} {pos : Pos}
def tB (t : TE) : TT := fun σ H Q => t σ H fun x H1 => ∃ c, x = .bl c ∧ Q c H1
theorem pt_val {e : Expr} {t : TE} (h : PE X e t) (he : ∀ whole, isTrue e X.env whole = (do let v ← whole; standAt e.pos; holding [v] (truthy v)) := by intro _; rfl) : PT X e (tB t) := by
  intro pins s σ H Q I hw
  refine isTrue_plain (thn (h pins s σ H _ I hw) fun v s1 ⟨x, H1, I1, r1, q1⟩ => ?_) (he _)
  obtain ⟨d, rfl, q⟩ := q1
  cases r1
  exact wpAny_truthy_bool ⟨H1, I1, q⟩

variable {tA tB' : TT} {rest : List Expr}
def tAnd (t u : TT) : TT := fun σ H Q => t σ H fun c H1 => if c = true then u σ H1 Q else Q false H1
def tOr (t u : TT) : TT := fun σ H Q => t σ H fun c H1 => if c = true then Q true H1 else u σ H1 Q
def tNot (t : TT) : TT := fun σ H Q => t σ H fun c H1 => Q (!c) H1
theorem pw_and1 (ha : PT X a tA) : PW X (.BoolOp .And [a] pos) tA := by
  intro wh pins s σ H Q I h
  refine isTrue_and (thn (ha pins s σ H Q I h) fun c s1 e => ?_)
  cases c with
  | true => exact isTrue_and_nil e
  | false => exact e
theorem pw_or1 (ha : PT X a tA) : PW X (.BoolOp .Or [a] pos) tA := by
  intro wh pins s σ H Q I h
  refine isTrue_or (thn (ha pins s σ H Q I h) fun c s1 e => ?_)
  cases c with
  | false => exact isTrue_or_nil e
  | true => exact e
theorem pw_and (ha : PT X a tA) (hb : PW X (.BoolOp .And (b :: rest) pos) tB') : PW X (.BoolOp .And (a :: b :: rest) pos) (tAnd tA tB') := by
  intro wh pins s σ H Q I h
  refine isTrue_and (thn (ha pins s σ H _ I h) fun c s1 ⟨H1, I1, q1⟩ => ?_)
  cases c with
  | true => exact hb wh pins s1 σ H1 Q I1 q1
  | false => exact ⟨H1, I1, q1⟩
theorem pw_or (ha : PT X a tA) (hb : PW X (.BoolOp .Or (b :: rest) pos) tB') : PW X (.BoolOp .Or (a :: b :: rest) pos) (tOr tA tB') := by
  intro wh pins s σ H Q I h
  refine isTrue_or (thn (ha pins s σ H _ I h) fun c s1 ⟨H1, I1, q1⟩ => ?_)
  cases c with
  | true => exact ⟨H1, I1, q1⟩
  | false => exact hb wh pins s1 σ H1 Q I1 q1
theorem pt_not (ha : PT X a tA) : PT X (.UnaryOp .Not a pos) (tNot tA) := by
  intro pins s σ H Q I h
  exact isTrue_not (ha pins s σ H (fun c H1 => Q (!c) H1) I h)
def tAndV (ta tb : TE) : TE := fun σ H Q => ta σ H fun x H1 => ∃ c, x = .bl c ∧ if c = true then tb σ H1 Q else Q (.bl false) H1
def tOrV (ta tb : TE) : TE := fun σ H Q => ta σ H fun x H1 => ∃ c, x = .bl c ∧ if c = true then Q (.bl true) H1 else tb σ H1 Q
def tNotV (ta : TE) : TE := fun σ H Q => ta σ H fun x H1 => ∃ c, x = .bl c ∧ Q (.bl (!c)) H1
theorem pe_one {op} {t : TE} (h : PE X a t) : PE X (.BoolOp op [a] pos) t := fun pins s σ H Q I hw => BoolOp_one (h pins s σ H Q I hw)
theorem pe_and (ha : PE X a ta) (hb : PE X (.BoolOp .And (b :: rest) pos) tb) : PE X (.BoolOp .And (a :: b :: rest) pos) (tAndV ta tb) := by
  intro pins s σ H Q I h
  refine BoolOp_and (thn (ha pins s σ H _ I h) fun v s1 ⟨x, H1, I1, r1, q1⟩ => ?_)
  obtain ⟨c, rfl, q1⟩ := q1
  cases r1
  refine wpAny_truthy_bool ?_
  cases c with
  | true => exact hb pins s1 σ H1 Q I1 q1
  | false => exact ⟨.bl false, H1, I1, rfl, q1⟩
theorem pe_or (ha : PE X a ta) (hb : PE X (.BoolOp .Or (b :: rest) pos) tb) : PE X (.BoolOp .Or (a :: b :: rest) pos) (tOrV ta tb) := by
  intro pins s σ H Q I h
  refine BoolOp_or (thn (ha pins s σ H _ I h) fun v s1 ⟨x, H1, I1, r1, q1⟩ => ?_)
  obtain ⟨c, rfl, q1⟩ := q1
  cases r1
  refine wpAny_truthy_bool ?_
  cases c with
  | false => exact hb pins s1 σ H1 Q I1 q1
  | true => exact ⟨.bl true, H1, I1, rfl, q1⟩
theorem pe_not (ha : PE X a ta) : PE X (.UnaryOp .Not a pos) (tNotV ta) := by
  intro pins s σ H Q I h
  refine UnaryOp_ (thn (ha pins s σ H _ I h) fun v s1 ⟨x, H1, I1, r1, q1⟩ => ?_)
  obtain ⟨c, rfl, q1⟩ := q1
  cases r1
  exact not_of (wpAny_truthy_bool ⟨.bl (!c), H1, I1, rfl, q1⟩)
end
end L2
namespace L2
open PySem PySem.Spec PyProof.Rows
def SqL (K : PySem.W.Frag) (H : Hp) (a : Addr) (xs : List V) : Prop :=
  Rd H a (.lst xs) ∨
    ∃ (o : Obj) (its : Array Value) (n : Nat), K.lookup a = some o ∧ o.cls = .type "list" ∧ o.dict = none ∧ o.data = .seq its n ∧ its.size ≤ sizeLine ∧ Vals xs its.toList
def SqT (K : PySem.W.Frag) (H : Hp) (a : Addr) (xs : List V) : Prop :=
  Rd H a (.tup xs) ∨
    ∃ (o : Obj) (its : Array Value) (n : Nat), K.lookup a = some o ∧ o.cls = .type "tuple" ∧ o.data = .seq its n ∧ its.size ≤ sizeLine ∧ Vals xs its.toList
def absV : Value → Option V
  | .none => some .non
  | .bool b => some (.bl b)
  | .int i _ => some (.int i)
  | .str x _ => some (.str x)
  | .bytes b _ => some (.byt b)
  | .float b _ => some (.flt b)
  | .ref a => some (.ref a)
  | .type n => some (.ty n)
  | _ => none
theorem RelV.abs {x : V} {u : Value} (r : RelV x u) : absV u = some x := by
  cases x with
  | non => cases r; rfl
  | bl _ => cases r; rfl
  | int _ => obtain ⟨t, rfl⟩ := r; rfl
  | str _ => obtain ⟨t, rfl⟩ := r; rfl
  | byt _ => obtain ⟨t, rfl⟩ := r; rfl
  | flt _ => obtain ⟨t, rfl⟩ := r; rfl
  | ref _ => cases r; rfl
  | ty _ => cases r; rfl
theorem RelV.inj {x y : V} {u : Value} (r : RelV x u) (q : RelV y u) : x = y := Option.some.inj (r.abs.symm.trans q.abs)
theorem Vals.inj : ∀ {xs ys : List V} {us : List Value}, Vals xs us → Vals ys us → xs = ys
  | _, _, _, .nil, .nil => rfl
  | _, _, _, .cons r t, .cons r' t' => by rw [r.inj r', Vals.inj t t']
section
variable {X : Cx} {pins : List (Addr × Obj)} {σ : St} {H : Hp} {s : Shared} {a : Addr} {xs ys : List V}
theorem SqL.of {K : PySem.W.Frag} (h : H a = some (.lst xs)) : SqL K H a xs := .inl (.inl h)
theorem SqT.of {K : PySem.W.Frag} (h : H a = some (.tup xs)) : SqT K H a xs := .inl (.inl h)
theorem Inv.list (I : Inv X pins σ H s) (h : SqL X.K H a xs) : ∃ its : List Value, Vals xs its ∧ PlainL s.heap a its.toArray ∧ xs.length ≤ sizeLine := by
  rcases h with h | ⟨o, its, n, hk, hc, hd, hs, hz, r⟩
  · obtain ⟨z, its, n, r, e⟩ := h.ok I.hok
    exact ⟨its, r, ⟨_, n, e, rfl, rfl, rfl⟩, z⟩
  · refine ⟨its.toList, r, ⟨o, n, I.kIn a o hk, hc, hd, by simpa using hs⟩, ?_⟩
    have e := r.length
    simp only [Array.length_toList] at e
    omega
theorem Inv.tuple (I : Inv X pins σ H s) (h : SqT X.K H a xs) : ∃ its : List Value, Vals xs its ∧ IsTup s.heap a its.toArray ∧ xs.length ≤ sizeLine := by
  rcases h with h | ⟨o, its, n, hk, hc, hs, hz, r⟩
  · obtain ⟨z, its, r, p⟩ := h.ok I.hok
    exact ⟨its, r, p, z⟩
  · refine ⟨its.toList, r, ⟨o, I.kIn a o hk, hc, n, by simpa using hs⟩, ?_⟩
    have e := r.length
    simp only [Array.length_toList] at e
    omega
theorem Inv.list_inj (I : Inv X pins σ H s) (h : SqL X.K H a xs) (h' : SqL X.K H a ys) : xs = ys := by
  obtain ⟨its, r, ⟨o, n, e, _, _, d⟩, _⟩ := I.list h
  obtain ⟨its', r', ⟨o', n', e', _, _, d'⟩, _⟩ := I.list h'
  rw [e] at e'; cases e'
  rw [d] at d'
  injection d' with d1 _
  have : its = its' := by simpa using congrArg Array.toList d1
  subst this
  exact r.inj r'
theorem Inv.tuple_inj (I : Inv X pins σ H s) (h : SqT X.K H a xs) (h' : SqT X.K H a ys) : xs = ys := by
  obtain ⟨its, r, ⟨o, e, _, n, d⟩, _⟩ := I.tuple h
  obtain ⟨its', r', ⟨o', e', _, n', d'⟩, _⟩ := I.tuple h'
  rw [e] at e'; cases e'
  rw [d] at d'
  injection d' with d1 _
  have : its = its' := by simpa using congrArg Array.toList d1
  subst this
  exact r.inj r'
end
abbrev Cx.wish (X : Cx) (E : Value → Shared → Prop) : Cx := { X with xe := E }
abbrev Cx.nox (X : Cx) : Cx := X.wish fun _ _ => False
theorem Cx.Ok.wish {X : Cx} (ok : X.Ok) (E : Value → Shared → Prop) : (X.wish E).Ok :=
  ⟨ok.mod, ok.kind, ok.glob, ok.blt, ok.above, ok.inj, ok.has, ok.cab, ok.hd, ok.frames, ok.stk, ok.exf, ok.bs, ok.bsz, ok.noex, ok.exfs, ok.funs, ok.frf⟩
theorem Cx.Ok.unwish {X : Cx} {E : Value → Shared → Prop} (ok : (X.wish E).Ok) : X.Ok :=
  ⟨ok.mod, ok.kind, ok.glob, ok.blt, ok.above, ok.inj, ok.has, ok.cab, ok.hd, ok.frames, ok.stk, ok.exf, ok.bs, ok.bsz, ok.noex, ok.exfs, ok.funs, ok.frf⟩
section
variable {X : Cx} {pins : List (Addr × Obj)} {σ : St} {H : Hp} {s : Shared} {E : Value → Shared → Prop}
theorem Inv.wish (I : Inv X pins σ H s) (E : Value → Shared → Prop) : Inv (X.wish E) pins σ H s := ⟨I.ok.wish E, I.os, I.bare, I.base, I.loc, I.cell, I.free, I.freeC, I.pin, I.hok, I.len⟩
theorem Inv.unwish (I : Inv (X.wish E) pins σ H s) : Inv X pins σ H s := ⟨I.ok.unwish, I.os, I.bare, I.base, I.loc, I.cell, I.free, I.freeC, I.pin, I.hok, I.len⟩
theorem SP.unwish {D : Ends} {f : Flow} {s' : Shared} (h : SP (X.wish E) pins D f s') : SP X pins D f s' := by
  cases f with
  | next => obtain ⟨σ', H', I, q⟩ := h; exact ⟨σ', H', I.unwish, q⟩
  | brk => obtain ⟨σ', H', I, q⟩ := h; exact ⟨σ', H', I.unwish, q⟩
  | cont => obtain ⟨σ', H', I, q⟩ := h; exact ⟨σ', H', I.unwish, q⟩
  | ret u => obtain ⟨v, σ', H', I, r, q⟩ := h; exact ⟨v, σ', H', I.unwish, r, q⟩
theorem PE.nox {e : Expr} {t : TE} (h : PE X.nox e t) : PE X e t := fun pins s σ H Q I hw =>
  wpAny_mono (h pins s σ H Q (I.wish _) hw) (fun _ _ ⟨v, H', I', r, q⟩ => ⟨v, H', I'.unwish, r, q⟩) fun _ _ z => False.elim z
theorem PT.nox {e : Expr} {t : TT} (h : PT X.nox e t) : PT X e t := fun pins s σ H Q I hw =>
  wpAny_mono (h pins s σ H Q (I.wish _) hw) (fun _ _ ⟨H', I', q⟩ => ⟨H', I'.unwish, q⟩) fun _ _ z => False.elim z
theorem PSs.nox {st : List Stmt} {t : TS} (h : PSs X.nox st t) : PSs X st t := fun pins s σ H D I hw =>
  wpAny_mono (h pins s σ H D (I.wish _) hw) (fun _ _ q => q.unwish) fun _ _ z => False.elim z
end
section
variable {X : Cx} {st : Stmt} {rest : List Stmt} {t u : TS} {e : Expr} {te : TE} {pos : Pos}
def tNext : TS := fun D σ H => D.nx σ H
def tSeq (t u : TS) : TS := fun D σ H => t { D with nx := u D } σ H
theorem pss_nil : PSs X [] tNext := fun _ _ σ H _ I h => wpAny_execs_nil ⟨σ, H, I, h⟩
theorem pss_cons (h1 : PS X st t) (h2 : PSs X rest u) : PSs X (st :: rest) (tSeq t u) := by
  intro pins s σ H D I h
  refine wpAny_execs_cons (thn (h1 pins s σ H { D with nx := u D } I h) fun f s1 q => ?_)
  cases f with
  | next =>
    obtain ⟨σ', H', I', q⟩ := q
    exact h2 pins s1 σ' H' D I' q
  | ret v => exact q
  | brk => exact q
  | cont => exact q
theorem pss_one (h1 : PS X st t) : PSs X [st] t := by
  intro pins s σ H D I h
  refine wpAny_execs_cons (thn (h1 pins s σ H D I h) fun f s1 q => ?_)
  cases f with
  | next => exact wpAny_execs_nil q
  | ret v => exact q
  | brk => exact q
  | cont => exact q
theorem Inv.quiet {pins : List (Addr × Obj)} {σ : St} {H : Hp} {s : Shared} (I : Inv X pins σ H s) : interactive X.env = false := by simp [interactive, I.ok.kind]
def tDrop (te : TE) : TS := fun D σ H => te σ H fun _ H1 => D.nx σ H1
theorem ps_expr (he : PE X e te) (hs : swapsWith e none pos.line X.env = pure false := by rfl) : PS X (.Expr e pos) (tDrop te) := by
  intro pins s σ H D I h
  exact wpAny_Expr_any (thn (he pins s σ H _ I h) fun v s1 ⟨x, H1, I1, r1, q1⟩ => ⟨σ, H1, I1, q1⟩) I.quiet hs
def tRet (te : TE) : TS := fun D σ H => te σ H D.rt
theorem ps_ret (he : PE X e te) : PS X (.Return (some e) pos) (tRet te) := by
  intro pins s σ H D I h
  exact wpAny_Return_some (thn (he pins s σ H _ I h) fun v s1 ⟨x, H1, I1, r1, q1⟩ => ⟨x, σ, H1, I1, r1, q1⟩)
def tIfS (c : TT) (t u : TS) : TS := fun D σ H => c σ H fun b H1 => if b = true then t D σ H1 else u D σ H1
theorem ps_if {c : Expr} {a b : List Stmt} {tc : TT} (hc : PT X c tc) (ha : PSs X a t) (hb : PSs X b u) : PS X (.If c a b pos) (tIfS tc t u) := by
  intro pins s σ H D I h
  refine wpAny_If (thn (hc pins s σ H _ I h) fun d s1 ⟨H1, I1, q1⟩ => ?_)
  cases d with
  | true => exact ha pins s1 σ H1 D I1 q1
  | false => exact hb pins s1 σ H1 D I1 q1
end
abbrev TG := V → St → Hp → (St → Hp → Prop) → Prop
abbrev TGs := List V → St → Hp → (St → Hp → Prop) → Prop
def PG (X : Cx) (target : Expr) (t : TG) : Prop :=
  ∀ (pins : List (Addr × Obj)) (s : Shared) (σ : St) (H : Hp) (v : V) (u : Value) (Q : St → Hp → Prop), Inv X pins σ H s → RelV v u → t v σ H Q →
    wpAny (model X.prog X.w) X.A (assign target X.env u) (fun _ s' => ∃ σ' H', Inv X pins σ' H' s' ∧ Q σ' H') X.xe s
def PGs (X : Cx) (ts : List Expr) (t : TGs) : Prop :=
  ∀ (pins : List (Addr × Obj)) (s : Shared) (σ : St) (H : Hp) (vs : List V) (us : List Value) (Q : St → Hp → Prop), Inv X pins σ H s → Vals vs us → t vs σ H Q →
    wpAny (model X.prog X.w) X.A (assignInOrder ((assignEach ts X.env).map (·.2)) us) (fun _ s' => ∃ σ' H', Inv X pins σ' H' s' ∧ Q σ' H') X.xe s
section
variable {X : Cx} {pos : Pos}
def gName (i : Nat) : TG := fun v σ H Q => Q (σ.set i (some v)) H
theorem pg_name {i : Nat} {x : Str} (hN : X.N.Nodup) (hi : X.N[i]? = some x) (hx : Loc X.env.scope x) (hf : X.fn x = true ∨ X.env.scope.names.lookup x = some .local := by first | exact .inl rfl | exact .inr rfl | assumption) : PG X (.Name x pos) (gName i) := by
  intro pins s σ H v u Q I r h
  exact wpAny_assign_Name (store_ok I hN hi hx r (fun s' I' => ⟨_, H, I', h⟩) hf)
def gNil : TGs := fun vs σ H Q => vs = [] ∧ Q σ H
def gCons (t : TG) (u : TGs) : TGs := fun vs σ H Q => ∃ v r, vs = v :: r ∧ t v σ H fun σ' H' => u r σ' H' Q
theorem pgs_nil : PGs X [] gNil := by
  intro pins s σ H vs us Q I r h
  obtain ⟨e, h⟩ := h
  subst e
  cases r
  exact assignInOrder_nil ⟨σ, H, I, h⟩
theorem pgs_cons {e : Expr} {es : List Expr} {t : TG} {u : TGs} (h1 : PG X e t) (h2 : PGs X es u)
    (hs : (assignEach (e :: es) X.env).map (·.2) = assign e X.env :: (assignEach es X.env).map (·.2) := by rfl) : PGs X (e :: es) (gCons t u) := by
  intro pins s σ H vs us Q I r h
  obtain ⟨v, vr, e1, h⟩ := h
  subst e1
  cases r with
  | cons r rr =>
    rw [hs]
    refine assignInOrder_cons (thn (h1 pins s σ H _ _ _ I r h) fun _ s1 ⟨σ1, H1, I1, q1⟩ => ?_)
    exact h2 pins s1 σ1 H1 _ _ Q I1 rr q1
def gTup (K : PySem.W.Frag) (n : Nat) (t : TGs) : TG := fun v σ H Q => ∃ a xs, v = .ref a ∧ SqT K H a xs ∧ xs.length = n ∧ t xs σ H Q
theorem pg_tup {es : List Expr} {k : Nat} {t : TGs} {n : Nat} (hc : X.calm = true) (h : PGs X es t)
    (hn : (assignEach es X.env).length = n := by rfl) (hst : (assignEach es X.env).findIdx? (·.1) = none := by rfl) : PG X (.Tuple es k pos) (gTup X.K n t) := by
  intro pins s σ H v u Q I r hw
  obtain ⟨a, xs, e1, hq, hl, hw⟩ := hw
  subst e1
  cases r
  obtain ⟨its, rv, ht, hz⟩ := I.tuple hq
  refine assign_Tuple_tuple (I.ok.hd hc) ht (by simp [hn, ← hl, rv.length]) hst fun h' hx => ?_
  have I1 : Inv X pins σ H { s with heap := h' } := I.kept (t' := s.toks) fun b o e => hx b o (Nat.ne_of_lt (Heap.lt_size e)) e
  exact h pins _ σ H xs _ Q I1 (by simpa using rv) hw
def tAsg (te : TE) (g : TG) : TS := fun D σ H => te σ H fun x H1 => g x σ H1 D.nx
theorem ps_asg {tg e : Expr} {te : TE} {g : TG} (he : PE X e te) (hg : PG X tg g) (hs : swapsWithSole [tg] e pos.line X.env = pure false := by rfl) (hw : swappedStores [tg] e X.env = pure none := by rfl)
    (h1 : (assignEach [tg] X.env).map (·.2) = [assign tg X.env] := by rfl) : PS X (.Assign [tg] e pos) (tAsg te g) := by
  intro pins s σ H D I h
  refine wpAny_Assign_stores (thn (he pins s σ H _ I h) fun v s1 ⟨x, H1, I1, r1, q1⟩ => ?_) hs hw
  rw [h1]
  exact thn (hg pins s1 σ H1 x v _ I1 r1 q1) fun _ s2 q => q
theorem ps_set {i : Nat} {x : Str} {e : Expr} {te : TE} {pos' : Pos} (hN : X.N.Nodup) (hi : X.N[i]? = some x) (hx : Loc X.env.scope x) (he : PE X e te) (hs : swapsWith e (some (.Name x pos')) pos.line X.env = pure false := by rfl) (hf : X.fn x = true ∨ X.env.scope.names.lookup x = some .local := by first | exact .inl rfl | exact .inr rfl | assumption) :
    PS X (.Assign [.Name x pos'] e pos) (tAsg te (gName i)) := by
  intro pins s σ H D I h
  refine wpAny_Assign_Name (thn (he pins s σ H _ I h) fun v s1 ⟨y, H1, I1, r1, q1⟩ => ?_) hs
  exact store_ok I1 hN hi hx r1 (fun s2 I2 => ⟨_, H1, I2, q1⟩) hf
end
section
variable {X : Cx} {pos : Pos}
end
structure It where
  go : Nat → Hp → Prop
  yld : Nat → Hp → V → Hp → Prop
  stop : Nat → Hp → Prop
def FpOk (X : Cx) (pins : List (Addr × Obj)) (H : Hp) (b : Addr) : Prop :=
  H b = none ∧ b ≠ X.env.locals ∧ b ∉ X.fs ∧ (b ∈ X.ex ∨ X.s₀.heap.objs.size ≤ b) ∧ (∀ x c, X.env.cells.lookup x = some c → c ≠ b) ∧ ∀ p ∈ X.pn ++ pins, p.1 ≠ b
theorem Inv.fpOk {X : Cx} {pins : List (Addr × Obj)} {σ : St} {H H' : Hp} {s : Shared} {b : Addr} (I : Inv X pins σ H s) (hb : s.heap.objs.size ≤ b) (hn : H' b = none) : FpOk X pins H' b := by
  refine ⟨hn, Nat.ne_of_gt (Nat.lt_of_lt_of_le I.lt hb), I.nofs hb, .inr (Nat.le_trans I.sz hb), fun x c e z => ?_, fun p hp z => ?_⟩
  · obtain ⟨v, q⟩ := I.cell x c e
    exact absurd (Nat.lt_of_lt_of_le q.lt (by rw [z]; exact hb)) (Nat.lt_irrefl _)
  · exact absurd (Nat.lt_of_lt_of_le (Heap.lt_size (I.pin p hp).1) (by rw [z]; exact hb)) (Nat.lt_irrefl _)
structure Turn (P : Program) (w : World) (K : PySem.W.Frag) (tg : Expr) (J : It) (fp : List Addr) (it : Addr) (tn : Nat → Heap → Prop) : Prop where
  mem : it ∈ fp
  obj : ∀ i h, tn i h → ∀ b ∈ fp, ∃ o, h.get? b = some o ∧ ∀ v, o.data ≠ .cell v
  keep : ∀ i h h', tn i h → (∀ b ∈ fp, ∀ o, h.get? b = some o → h'.get? b = some o) → tn i h'
  item : ∀ (X : Cx), X.prog = P → X.w = w → X.K = K → X.calm = true → ∀ (i : Nat) (pins : List (Addr × Obj)) (s : Shared) (σ : St) (H : Hp) (E : Value → Shared → Prop), Inv X pins σ H s → (∀ b ∈ fp, FpOk X pins H b) → tn i s.heap → J.go i H →
    wpAny (model P w) X.A (pyNext (.ref it)) (fun r s1 => ∃ u, r = some u ∧
      wpAny (model P w) X.A (letOwnedTupleGo tg (.ref it) u) (fun _ s2 => ∃ x H', Inv X pins σ H' s2 ∧ RelV x u ∧ J.yld i H x H' ∧ tn (i + 1) s2.heap ∧ ∀ b ∈ fp, H' b = none) E s1) E s
  done : ∀ (X : Cx), X.prog = P → X.w = w → X.K = K → X.calm = true → ∀ (i : Nat) (pins : List (Addr × Obj)) (s : Shared) (σ : St) (H : Hp) (E : Value → Shared → Prop), Inv X pins σ H s → (∀ b ∈ fp, FpOk X pins H b) → tn i s.heap → J.stop i H →
    wpAny (model P w) X.A (pyNext (.ref it)) (fun r s1 => r = none ∧ Inv X pins σ H s1) E s
  self : ∀ (A : Around) (i : Nat) (s : Shared) (Q : Value → Shared → Prop) (E : Value → Shared → Prop), tn i s.heap → Q (.ref it) s → wpAny (model P w) A (pyIter (.ref it)) Q E s
abbrev TI := St → Hp → (It → Hp → Prop) → Prop
def PIE (X : Cx) (pins : List (Addr × Obj)) (σ : St) (tg : Expr) (R : It → Hp → Prop) (itv : Value) (s2 : Shared) : Prop :=
  ∃ (it : Addr) (fp : List Addr) (tn : Nat → Heap → Prop) (J : It) (H' : Hp), itv = .ref it ∧ Inv X pins σ H' s2 ∧ Turn X.prog X.w X.K tg J fp it tn ∧ tn 0 s2.heap ∧ (∀ b ∈ fp, FpOk X pins H' b) ∧ R J H'
def PI (X : Cx) (tg iter : Expr) (wi : TI) : Prop :=
  ∀ (pins : List (Addr × Obj)) (s : Shared) (σ : St) (H : Hp) (R : It → Hp → Prop), Inv X pins σ H s → wi σ H R →
    wpAny (model X.prog X.w) X.A (eval iter X.env) (fun v s1 => wpAny (model X.prog X.w) X.A (pyIter v) (PIE X pins σ tg R) X.xe s1) X.xe s

theorem go_of {M : Model} {A : Around} {E : Value → Shared → Prop} {s : Shared} {tg : Expr} {it : Addr} {u : Value} {o : Obj} {n : String} {vs : Array Value} {Q : Unit → Shared → Prop} (ho : s.heap.get? it = some o) (hc : o.cls = .type n) (hd : o.data = .fields vs)
    (hn : ["enumerate", "zip", "dict_itemiterator", "dict_reverseitemiterator", "odict_iterator", "itertools.zip_longest", "itertools.pairwise"].contains n = false) (hQ : Q () s) : wpAny M A (letOwnedTupleGo tg (.ref it) u) Q E s := by
  unfold letOwnedTupleGo
  cases tg <;> first
    | exact wpAny_pure hQ
    | (cases u <;> first
        | exact wpAny_pure hQ
        | (refine wpAny_bind (wpAny_load ho ?_)
           rw [hc, hd]
           show wpAny M A (if (["enumerate", "zip", "dict_itemiterator", "dict_reverseitemiterator", "odict_iterator", "itertools.zip_longest", "itertools.pairwise"].contains n && vs[0]? == some (rawInt _)) = true then _ else _) Q E s
           rw [if_neg (by intro h; rw [hn, Bool.false_and] at h; cases h)]
           exact wpAny_pure hQ))

def Itl (K : PySem.W.Frag) (a : Addr) : It :=
  ⟨fun i H => ∃ xs x, SqL K H a xs ∧ xs[i]? = some x, fun i H x H' => H' = H ∧ ∀ xs, SqL K H a xs → xs[i]? = some x, fun i H => ∃ xs, SqL K H a xs ∧ xs.length ≤ i⟩
def Itt (K : PySem.W.Frag) (a : Addr) : It :=
  ⟨fun i H => ∃ xs x, SqT K H a xs ∧ xs[i]? = some x, fun i H x H' => H' = H ∧ ∀ xs, SqT K H a xs → xs[i]? = some x, fun i H => ∃ xs, SqT K H a xs ∧ xs.length ≤ i⟩
def Itr (lo : Int) (n : Nat) : It := ⟨fun i _ => i < n, fun i H x H' => H' = H ∧ x = .int (lo + i), fun i _ => n ≤ i⟩
theorem turn_list {P : Program} {w : World} {K : PySem.W.Frag} {tg : Expr} (a it : Addr) : Turn P w K tg (Itl K a) [it] it (fun i h => h.IsListIter it a i) where
  mem := by simp
  obj := fun i h st b hb => by
    have e : b = it := by simpa using hb
    subst e
    obtain ⟨o, e, c, d⟩ := st
    exact ⟨o, e, fun v z => by rw [d] at z; cases z⟩
  keep := fun i h h' st k => st.at fun o e => k it (by simp) o e
  item := by
    intro X hP hw hK hc i pins s σ H E I hf st hg
    subst hP hw hK
    obtain ⟨xs, x, hq, hx⟩ := hg
    obtain ⟨its, rv, p, hz⟩ := I.list hq
    obtain ⟨u, hu, ru⟩ := rv.get hx
    obtain ⟨f0, f1, f2, f3, f4, f5⟩ := hf it (by simp)
    refine wpAny_pyNext_list_item st p.isList (x := u) (by simpa using hu) fun h' st' sb => ?_
    have I1 : Inv X pins σ H { s with heap := h' } := I.turned (t' := s.toks) (fun b o hb e => (sb.2 b hb).trans e) f0 f1 f3 f4 f5
    obtain ⟨o, e, c, d⟩ := id st'
    exact ⟨u, rfl, go_of (s := { s with heap := h' }) e c d (by decide) ⟨x, H, I1, ru, ⟨rfl, fun ys hy => by rw [I.list_inj hy hq]; exact hx⟩, st', fun b hb => (hf b hb).1⟩⟩
  done := by
    intro X hP hw hK hc i pins s σ H E I hf st hg
    subst hP hw hK
    obtain ⟨xs, hq, hx⟩ := hg
    obtain ⟨its, rv, p, hz⟩ := I.list hq
    obtain ⟨f0, f1, f2, f3, f4, f5⟩ := hf it (by simp)
    have hl := rv.length
    exact wpAny_pyNext_list_end (I.ok.hd hc) st p.isList (by simp; omega) fun h' eb => ⟨rfl, I.turned (t' := s.toks) (fun b o hb e => eb b o hb e) f0 f1 f3 f4 f5⟩
  self := fun _ _ _ _ _ st h => wpAny_pyIter_listiter st h
theorem turn_tuple {P : Program} {w : World} {K : PySem.W.Frag} {tg : Expr} (a it : Addr) : Turn P w K tg (Itt K a) [it] it (fun i h => h.IsTupleIter it a i) where
  mem := by simp
  obj := fun i h st b hb => by
    have e : b = it := by simpa using hb
    subst e
    obtain ⟨o, e, c, d⟩ := st
    exact ⟨o, e, fun v z => by rw [d] at z; cases z⟩
  keep := fun i h h' st k => st.at fun o e => k it (by simp) o e
  item := by
    intro X hP hw hK hc i pins s σ H E I hf st hg
    subst hP hw hK
    obtain ⟨xs, x, hq, hx⟩ := hg
    obtain ⟨its, rv, p, hz⟩ := I.tuple hq
    obtain ⟨u, hu, ru⟩ := rv.get hx
    obtain ⟨f0, f1, f2, f3, f4, f5⟩ := hf it (by simp)
    refine wpAny_pyNext_tuple_item st (show s.heap.IsTuple a its.toArray from p) (x := u) (by simpa using hu) fun h' st' sb => ?_
    have I1 : Inv X pins σ H { s with heap := h' } := I.turned (t' := s.toks) (fun b o hb e => (sb.2 b hb).trans e) f0 f1 f3 f4 f5
    obtain ⟨o, e, c, d⟩ := id st'
    exact ⟨u, rfl, go_of (s := { s with heap := h' }) e c d (by decide) ⟨x, H, I1, ru, ⟨rfl, fun ys hy => by rw [I.tuple_inj hy hq]; exact hx⟩, st', fun b hb => (hf b hb).1⟩⟩
  done := by
    intro X hP hw hK hc i pins s σ H E I hf st hg
    subst hP hw hK
    obtain ⟨xs, hq, hx⟩ := hg
    obtain ⟨its, rv, p, hz⟩ := I.tuple hq
    obtain ⟨f0, f1, f2, f3, f4, f5⟩ := hf it (by simp)
    have hl := rv.length
    exact wpAny_pyNext_tuple_end (I.ok.hd hc) st (show s.heap.IsTuple a its.toArray from p) (by simp; omega) fun h' eb => ⟨rfl, I.turned (t' := s.toks) (fun b o hb e => eb b o hb e) f0 f1 f3 f4 f5⟩
  self := fun _ _ _ _ _ st h => wpAny_pyIter_tupleiter st h
theorem turn_range {P : Program} {w : World} {K : PySem.W.Frag} {tg : Expr} (it : Addr) (lo : Int) (n : Nat) : Turn P w K tg (Itr lo n) [it] it (fun i h => IsRangeIter h it (lo + (i : Nat) * 1) ((n : Int) - (i : Nat)) 1) where
  mem := by simp
  obj := fun i h st b hb => by
    have e : b = it := by simpa using hb
    subst e
    exact ⟨_, st, fun v z => by
      have z' : Data.fields _ = Data.cell v := z
      cases z'⟩
  keep := fun i h h' st k => k it (by simp) _ st
  item := by
    intro X hP hw hK hc i pins s σ H E I hf st hg
    subst hP hw hK
    obtain ⟨f0, f1, f2, f3, f4, f5⟩ := hf it (by simp)
    have W := Walks.range (prog := X.prog) (w := X.w) (I.ok.hd hc) it lo 1 n
    refine W.item i s _ _ hg st fun v h' tk hv st' kk => ?_
    obtain ⟨t, rfl⟩ := hv
    have I1 : Inv X pins σ H { s with heap := h', toks := tk } := I.turned (fun b o hb e => kk b o (by simpa using hb) e) f0 f1 f3 f4 f5
    refine ⟨_, rfl, go_of (s := { s with heap := h', toks := tk }) (n := "range_iterator") st' rfl rfl (by decide) ⟨.int (lo + i), H, I1, ⟨t, ?_⟩, ⟨rfl, rfl⟩, st', fun b hb => (hf b hb).1⟩⟩
    rw [Int.mul_one]
  done := by
    intro X hP hw hK hc i pins s σ H E I hf st hg
    subst hP hw hK
    obtain ⟨f0, f1, f2, f3, f4, f5⟩ := hf it (by simp)
    exact wpAny_pyNext_range_end (I.ok.hd hc) st (by have : n ≤ i := hg; omega) fun h' eb => ⟨rfl, I.turned (t' := s.toks) (fun b o hb e => eb b o hb e) f0 f1 f3 f4 f5⟩
  self := fun _ _ _ _ _ st h => wpAny_pyIter_rangeiter st h
end L2
namespace L2
open PySem PySem.Spec PyProof.Rows
section
variable {X : Cx} {tg : Expr}
def iList (K : PySem.W.Frag) (tl : TE) : TI := fun σ H R => tl σ H fun x H1 => ∃ a, x = .ref a ∧ (∃ xs, SqL K H1 a xs) ∧ R (Itl K a) H1
def iTup (K : PySem.W.Frag) (tl : TE) : TI := fun σ H R => tl σ H fun x H1 => ∃ a, x = .ref a ∧ (∃ xs, SqT K H1 a xs) ∧ R (Itt K a) H1
theorem pi_list {l : Expr} {tl : TE} (hl : PE X l tl) : PI X tg l (iList X.K tl) := by
  intro pins s σ H R I h
  refine thn (hl pins s σ H _ I h) fun v s1 ⟨x, H1, I1, r1, q1⟩ => ?_
  obtain ⟨a, e, ⟨xs, hq⟩, q⟩ := q1
  subst e
  cases r1
  obtain ⟨its, rv, p, hz⟩ := I1.list hq
  refine wpAny_pyIter_list p.isList ?_
  refine ⟨s1.heap.objs.size, [s1.heap.objs.size], _, _, H1, rfl, I1.kept (t' := s1.toks) fun b o e => Heap.get?_push_of_some _ e, turn_list a _, ⟨_, Heap.get?_push_size _ rfl, rfl, rfl⟩, fun b hb => ?_, q⟩
  have e : b = s1.heap.objs.size := by simpa using hb
  subst e
  exact I1.fpOk (Nat.le_refl _) (I1.hok.fresh (Nat.le_refl _))
theorem pi_tup {l : Expr} {tl : TE} (hl : PE X l tl) : PI X tg l (iTup X.K tl) := by
  intro pins s σ H R I h
  refine thn (hl pins s σ H _ I h) fun v s1 ⟨x, H1, I1, r1, q1⟩ => ?_
  obtain ⟨a, e, ⟨xs, hq⟩, q⟩ := q1
  subst e
  cases r1
  obtain ⟨its, rv, p, hz⟩ := I1.tuple hq
  refine wpAny_pyIter_tuple (show s1.heap.IsTuple a its.toArray from p) ?_
  refine ⟨s1.heap.objs.size, [s1.heap.objs.size], _, _, H1, rfl, I1.kept (t' := s1.toks) fun b o e => Heap.get?_push_of_some _ e, turn_tuple a _, ⟨_, Heap.get?_push_size _ rfl, rfl, rfl⟩, fun b hb => ?_, q⟩
  have e : b = s1.heap.objs.size := by simpa using hb
  subst e
  exact I1.fpOk (Nat.le_refl _) (I1.hok.fresh (Nat.le_refl _))
theorem range_it {pins : List (Addr × Obj)} {σ : St} {H : Hp} {s : Shared} {R : It → Hp → Prop} {E : Value → Shared → Prop} {lo hi : Int} {t u v : Tok} {tk : Nat} (I : Inv X pins σ H s) (h1 : -(2 ^ 62) ≤ lo) (h2 : lo < 2 ^ 62) (h3 : -(2 ^ 62) ≤ hi) (h4 : hi < 2 ^ 62)
    (q : R (Itr lo (hi - lo).toNat) H) : wpAny (model X.prog X.w) X.A (pyIter (.ref s.heap.objs.size)) (PIE X pins σ tg R) E { s with heap := s.heap.push { cls := .type "range", data := .fields #[.int lo t, .int hi u, .int 1 v] }, toks := tk } := by
  refine wpAny_pyIter_range (IsRange.new ..) (small_one h1 h2 h3 h4) ?_
  have I1 : Inv X pins σ H { s with heap := s.heap.push { cls := .type "range", data := .fields #[.int lo t, .int hi u, .int 1 v] }, toks := tk } := I.kept fun b o e => Heap.get?_push_of_some _ e
  refine ⟨(s.heap.push { cls := .type "range", data := .fields #[.int lo t, .int hi u, .int 1 v] }).objs.size, [(s.heap.push { cls := .type "range", data := .fields #[.int lo t, .int hi u, .int 1 v] }).objs.size], _, _, H, rfl,
    I1.kept (t' := tk) fun b o e => Heap.get?_push_of_some _ e, turn_range _ lo (hi - lo).toNat, ?_, fun b hb => ?_, q⟩
  · have e1 : lo + ((0 : Nat) : Int) * 1 = lo := by simp
    have e2 : (((hi - lo).toNat : Nat) : Int) - ((0 : Nat) : Int) = Builtin.Range.rangeSize lo hi 1 := by rw [rangeSize_one]; split <;> omega
    show IsRangeIter _ _ (lo + ((0 : Nat) : Int) * 1) ((((hi - lo).toNat : Nat) : Int) - ((0 : Nat) : Int)) 1
    rw [e1, e2]
    exact Heap.get?_push_size _ rfl
  · have e : b = (s.heap.push { cls := .type "range", data := .fields #[.int lo t, .int hi u, .int 1 v] }).objs.size := by simpa using hb
    subst e
    exact I1.fpOk (Nat.le_refl _) (I1.hok.fresh (Nat.le_refl _))
def iRng1 (ta : TA) : TI := fun σ H R => ta σ H fun vs H1 => ∃ j : Int, vs = [.int j] ∧ -(2 ^ 62) ≤ j ∧ j < 2 ^ 62 ∧ R (Itr 0 j.toNat) H1
theorem pi_range1 {a : Expr} {ta : TA} {p pos : Pos} (hg : Gl X "range") (hm : X.mg "range" = none) (ha : PA X [a] ta) (hs : starEach [a] X.env = [(false, eval a X.env)] := by rfl) : PI X tg (.Call (.Name "range" p) [a] [] pos) (iRng1 ta) := by
  intro pins s σ H R I h
  refine Call_ (ld_blt I hg hm boot_range (PyProof.Rows.callWith_type1 (thn (ha pos pins s σ H _ I h) fun us s1 ⟨vs, H1, I1, r1, q1⟩ => ?_) hs rfl))
  obtain ⟨j, e, q1, q2, q⟩ := q1
  subst e
  cases r1 with
  | cons r rr =>
    cases rr
    obtain ⟨t, rfl⟩ := r
    exact call_range_1 (range_it I1 (by omega) (by omega) q1 q2 (by simpa using q))
def tFor (wi : TI) (g : TG) (tb : TS) : TS := fun D σ H => wi σ H fun J H1 => ∃ W : Nat → Nat → St → Hp → Prop, (∃ m, W 0 m σ H1) ∧ ∀ i m σ H, W i m σ H →
  (J.stop i H ∧ D.nx σ H) ∨ (J.go i H ∧ ∃ N : St → Hp → Prop, (∀ σ' H', N σ' H' → ∃ m', m' < m ∧ W (i + 1) m' σ' H') ∧ ∀ x H', J.yld i H x H' → g x σ H' fun σ2 H2 => tb { D with nx := N, ct := N, bk := D.nx } σ2 H2)
def pinsAt (fp : List Addr) (h : Heap) : List (Addr × Obj) := fp.filterMap fun b => (h.get? b).map fun o => (b, o)
theorem mem_pinsAt {fp : List Addr} {h : Heap} {b : Addr} {o : Obj} (hb : b ∈ fp) (e : h.get? b = some o) : (b, o) ∈ pinsAt fp h := List.mem_filterMap.mpr ⟨b, hb, by rw [e]; rfl⟩
theorem of_pinsAt {fp : List Addr} {h : Heap} {p : Addr × Obj} (hp : p ∈ pinsAt fp h) : p.1 ∈ fp ∧ h.get? p.1 = some p.2 := by
  obtain ⟨b, hb, e⟩ := List.mem_filterMap.mp hp
  cases q : h.get? b with
  | none => rw [q] at e; cases e
  | some o =>
    rw [q] at e
    have e' : (b, o) = p := Option.some.inj e
    subst e'
    exact ⟨hb, q⟩
theorem Inv.pinned {pins : List (Addr × Obj)} {σ : St} {H : Hp} {s : Shared} {fp : List Addr} (I : Inv X pins σ H s) (hf : ∀ b ∈ fp, FpOk X pins H b) (ho : ∀ b ∈ fp, ∃ o, s.heap.get? b = some o ∧ ∀ v, o.data ≠ .cell v) : Inv X (pins ++ pinsAt fp s.heap) σ H s :=
  I.pins_of fun p hp => (List.mem_append.mp hp).elim (fun z => I.pin p (List.mem_append_right _ z)) fun z => by
    obtain ⟨hb, e⟩ := of_pinsAt z
    obtain ⟨f0, f1, f2, _⟩ := hf p.1 hb
    obtain ⟨o, e', d⟩ := ho p.1 hb
    rw [e] at e'; cases e'
    exact ⟨e, f0, f1, f2, d⟩
theorem Inv.unpinned {pins pl : List (Addr × Obj)} {σ : St} {H : Hp} {s : Shared} (I : Inv X (pins ++ pl) σ H s) : Inv X pins σ H s := I.pins_of fun p hp => I.pin p (List.mem_append_right _ (List.mem_append_left _ hp))
theorem ps_for {iter : Expr} {body : List Stmt} {wi : TI} {g : TG} {tb : TS} {pos : Pos} (hp : PassesOwn (model X.prog X.w) X.A X.env X.xe) (hc : X.calm = true) (hi : PI X tg iter wi) (hg : PG X tg g) (hb : PSs X body tb)
    (hs : ∀ x, foldedSetIterable iter X.env x = pure x := by intro _; rfl) : PS X (.For tg iter body [] pos) (tFor wi g tb) := by
  intro pins s σ H D I h
  refine wpAny_For (thn (hi pins s σ H _ I h) fun v s1 h1 => thn h1 fun itv s2 h2 => ?_) hs
  obtain ⟨it, fp, tn, J, H2, e, I2, T, st2, f2, W, ⟨m0, w0⟩, turn⟩ := h2
  subst e
  -- what stays true of the iterator's objects through the loop
  have stat : ∀ {H' : Hp}, (∀ b ∈ fp, H' b = none) → ∀ b ∈ fp, FpOk X pins H' b := fun hn b hb => ⟨hn b hb, (f2 b hb).2⟩
  refine codeAny_forLoop_any (fun n s' => ∃ i σ' H', Inv X pins σ' H' s' ∧ tn i s'.heap ∧ (∀ b ∈ fp, H' b = none) ∧ W i n σ' H') ?_ m0 ⟨0, σ, H2, I2, st2, fun b hb => (f2 b hb).1, w0⟩
  rintro n s3 ⟨i, σ3, H3, I3, st3, fr3, w3⟩
  rcases turn i n σ3 H3 w3 with ⟨stop, qn⟩ | ⟨go, N, hN, step⟩
  · refine wpAny_passesOwn hp (thn (T.done X rfl rfl rfl hc i pins s3 σ3 H3 X.xe I3 (stat fr3) st3 stop) fun r s4 ⟨hr, I4⟩ => ?_)
    subst hr
    exact wpAny_execs_nil ⟨σ3, H3, I4, qn⟩
  · refine wpAny_passesOwn hp (thn (T.item X rfl rfl rfl hc i pins s3 σ3 H3 X.xe I3 (stat fr3) st3 go) fun r s4 ⟨u, hr, h4⟩ => ?_)
    subst hr
    refine wpAny_passesOwn hp (thn h4 fun _ s5 ⟨x, H5, I5, r5, y5, st5, fr5⟩ => ?_)
    have I5' := I5.pinned (stat fr5) (T.obj _ _ st5)
    refine wpAny_passesOwn hp (thn (hg _ s5 σ3 H5 x u _ I5' r5 (step x H5 y5)) fun _ s6 ⟨σ6, H6, I6, q6⟩ => ?_)
    refine wpAny_passesOwn hp (thn (hb _ s6 σ6 H6 _ I6 q6) fun f s7 q7 => ?_)
    have again : ∀ {σ7 : St} {H7 : Hp}, Inv X (pins ++ pinsAt fp s5.heap) σ7 H7 s7 → N σ7 H7 → ∃ m, m < n ∧ ∃ i σ' H', Inv X pins σ' H' s7 ∧ tn i s7.heap ∧ (∀ b ∈ fp, H' b = none) ∧ W i m σ' H' := fun {σ7 H7} I7 n7 => by
      obtain ⟨m', hm, w7⟩ := hN σ7 H7 n7
      refine ⟨m', hm, i + 1, σ7, H7, I7.unpinned, T.keep _ _ _ st5 fun b hb o e => (I7.pin (b, o) (List.mem_append_right _ (List.mem_append_right _ (mem_pinsAt hb e)))).1, fun b hb => ?_, w7⟩
      obtain ⟨o, e, d⟩ := T.obj _ _ st5 b hb
      exact (I7.pin (b, o) (List.mem_append_right _ (List.mem_append_right _ (mem_pinsAt hb e)))).2.1
    cases f with
    | next => obtain ⟨σ7, H7, I7, n7⟩ := q7; exact again I7 n7
    | cont => obtain ⟨σ7, H7, I7, n7⟩ := q7; exact again I7 n7
    | brk => obtain ⟨σ7, H7, I7, q7⟩ := q7; exact ⟨σ7, H7, I7.unpinned, q7⟩
    | ret v => obtain ⟨x7, σ7, H7, I7, r7, q7⟩ := q7; exact ⟨x7, σ7, H7, I7.unpinned, r7, q7⟩
end
theorem for_list {K : PySem.W.Frag} {a : Addr} {xs : List V} {g : TG} {tb : TS} {D : Ends} {σ : St} {H : Hp} (Pv : Nat → St → Hp → Prop) (h0 : Pv 0 σ H) (hl : ∀ i σ H, i ≤ xs.length → Pv i σ H → SqL K H a xs)
    (hs : ∀ i x σ H, xs[i]? = some x → Pv i σ H → g x σ H fun σ2 H2 => tb { D with nx := Pv (i + 1), ct := Pv (i + 1), bk := D.nx } σ2 H2) (hd : ∀ σ H, Pv xs.length σ H → D.nx σ H) :
    ∃ W : Nat → Nat → St → Hp → Prop, (∃ m, W 0 m σ H) ∧ ∀ i m σ H, W i m σ H →
      ((Itl K a).stop i H ∧ D.nx σ H) ∨ ((Itl K a).go i H ∧ ∃ N : St → Hp → Prop, (∀ σ' H', N σ' H' → ∃ m', m' < m ∧ W (i + 1) m' σ' H') ∧ ∀ x H', (Itl K a).yld i H x H' → g x σ H' fun σ2 H2 => tb { D with nx := N, ct := N, bk := D.nx } σ2 H2) := by
  refine ⟨fun i m σ H => m = xs.length - i ∧ i ≤ xs.length ∧ Pv i σ H, ⟨xs.length, by simp, Nat.zero_le _, h0⟩, ?_⟩
  rintro i m σ H ⟨rfl, hi, p⟩
  have q := hl i σ H hi p
  by_cases hlt : i < xs.length
  · refine .inr ⟨⟨xs, xs[i], q, by simp [hlt]⟩, Pv (i + 1), fun σ' H' p' => ⟨xs.length - (i + 1), by omega, rfl, hlt, p'⟩, fun x H' y => ?_⟩
    obtain ⟨e, y⟩ := y
    subst e
    exact hs i x σ _ (y xs q) p
  · have e : i = xs.length := by omega
    subst e
    exact .inl ⟨⟨xs, q, Nat.le_refl _⟩, hd σ H p⟩
theorem for_tup {K : PySem.W.Frag} {a : Addr} {xs : List V} {g : TG} {tb : TS} {D : Ends} {σ : St} {H : Hp} (Pv : Nat → St → Hp → Prop) (h0 : Pv 0 σ H) (hl : ∀ i σ H, i ≤ xs.length → Pv i σ H → SqT K H a xs)
    (hs : ∀ i x σ H, xs[i]? = some x → Pv i σ H → g x σ H fun σ2 H2 => tb { D with nx := Pv (i + 1), ct := Pv (i + 1), bk := D.nx } σ2 H2) (hd : ∀ σ H, Pv xs.length σ H → D.nx σ H) :
    ∃ W : Nat → Nat → St → Hp → Prop, (∃ m, W 0 m σ H) ∧ ∀ i m σ H, W i m σ H →
      ((Itt K a).stop i H ∧ D.nx σ H) ∨ ((Itt K a).go i H ∧ ∃ N : St → Hp → Prop, (∀ σ' H', N σ' H' → ∃ m', m' < m ∧ W (i + 1) m' σ' H') ∧ ∀ x H', (Itt K a).yld i H x H' → g x σ H' fun σ2 H2 => tb { D with nx := N, ct := N, bk := D.nx } σ2 H2) := by
  refine ⟨fun i m σ H => m = xs.length - i ∧ i ≤ xs.length ∧ Pv i σ H, ⟨xs.length, by simp, Nat.zero_le _, h0⟩, ?_⟩
  rintro i m σ H ⟨rfl, hi, p⟩
  have q := hl i σ H hi p
  by_cases hlt : i < xs.length
  · refine .inr ⟨⟨xs, xs[i], q, by simp [hlt]⟩, Pv (i + 1), fun σ' H' p' => ⟨xs.length - (i + 1), by omega, rfl, hlt, p'⟩, fun x H' y => ?_⟩
    obtain ⟨e, y⟩ := y
    subst e
    exact hs i x σ _ (y xs q) p
  · have e : i = xs.length := by omega
    subst e
    exact .inl ⟨⟨xs, q, Nat.le_refl _⟩, hd σ H p⟩
theorem for_range {lo : Int} {n : Nat} {g : TG} {tb : TS} {D : Ends} {σ : St} {H : Hp} (Pv : Nat → St → Hp → Prop) (h0 : Pv 0 σ H)
    (hs : ∀ i σ H, i < n → Pv i σ H → g (.int (lo + i)) σ H fun σ2 H2 => tb { D with nx := Pv (i + 1), ct := Pv (i + 1), bk := D.nx } σ2 H2) (hd : ∀ σ H, Pv n σ H → D.nx σ H) :
    ∃ W : Nat → Nat → St → Hp → Prop, (∃ m, W 0 m σ H) ∧ ∀ i m σ H, W i m σ H →
      ((Itr lo n).stop i H ∧ D.nx σ H) ∨ ((Itr lo n).go i H ∧ ∃ N : St → Hp → Prop, (∀ σ' H', N σ' H' → ∃ m', m' < m ∧ W (i + 1) m' σ' H') ∧ ∀ x H', (Itr lo n).yld i H x H' → g x σ H' fun σ2 H2 => tb { D with nx := N, ct := N, bk := D.nx } σ2 H2) := by
  refine ⟨fun i m σ H => m = n - i ∧ i ≤ n ∧ Pv i σ H, ⟨n, by simp, Nat.zero_le _, h0⟩, ?_⟩
  rintro i m σ H ⟨rfl, hi, p⟩
  by_cases hlt : i < n
  · refine .inr ⟨hlt, Pv (i + 1), fun σ' H' p' => ⟨n - (i + 1), by omega, rfl, hlt, p'⟩, fun x H' y => ?_⟩
    obtain ⟨e, y⟩ := y
    subst e y
    exact hs i σ _ hlt p
  · have e : i = n := by omega
    subst e
    exact .inl ⟨Nat.le_refl _, hd σ H p⟩
end L2
namespace L2
open PySem PySem.Spec PyProof.Rows
abbrev R2 := V → V → Hp → VK → Prop
def OpR (X : Cx) (f : Value → Value → Sem Value) (r : R2) : Prop :=
  ∀ (pins : List (Addr × Obj)) (s : Shared) (σ : St) (H : Hp) (x y : V) (v u : Value) (Q : VK), Inv X pins σ H s → RelV x v → RelV y u → r x y H Q →
    wpAny (model X.prog X.w) X.A (f v u) (EP X pins σ Q) X.xe s
def UnR (X : Cx) (f : Value → Sem Value) (r : V → Hp → VK → Prop) : Prop :=
  ∀ (pins : List (Addr × Obj)) (s : Shared) (σ : St) (H : Hp) (x : V) (v : Value) (Q : VK), Inv X pins σ H s → RelV x v → r x H Q →
    wpAny (model X.prog X.w) X.A (f v) (EP X pins σ Q) X.xe s
def CallR (X : Cx) (f : Value) (r : List V → Hp → VK → Prop) : Prop :=
  ∀ (pins : List (Addr × Obj)) (s : Shared) (σ : St) (H : Hp) (xs : List V) (us : List Value) (Q : VK), Inv X pins σ H s → Vals xs us → r xs H Q →
    wpAny (model X.prog X.w) X.A (call f us) (EP X pins σ Q) X.xe s
def tOp (r : R2) (ta tb : TE) : TE := fun σ H Q => ta σ H fun x H1 => tb σ H1 fun y H2 => r x y H2 Q
def tUn (r : V → Hp → VK → Prop) (ta : TE) : TE := fun σ H Q => ta σ H fun x H1 => r x H1 Q
def rI (C : Int → Int → Prop) (g : Int → Int → V) : R2 := fun x y H Q => ∃ i j, x = .int i ∧ y = .int j ∧ C i j ∧ Q (g i j) H
def rI0 (g : Int → Int → V) : R2 := fun x y H Q => ∃ i j, x = .int i ∧ y = .int j ∧ Q (g i j) H
def rU (g : Int → V) : V → Hp → VK → Prop := fun x H Q => ∃ i, x = .int i ∧ Q (g i) H

section
variable {X : Cx} {a b c : Expr} {ta tb tc : TE} {pos : Pos}
theorem binT (ha : PE X a ta) (hb : PE X b tb) {pins : List (Addr × Obj)} {s : Shared} {σ : St} {H : Hp} {R : V → V → Hp → Prop} (I : Inv X pins σ H s)
    (h : ta σ H fun x H1 => tb σ H1 fun y H2 => R x y H2) {Q : Value → Shared → Prop} {f : Value → Value → Sem Value}
    (hf : ∀ v u s2 x y H2, Inv X pins σ H2 s2 → RelV x v → RelV y u → R x y H2 → wpAny (model X.prog X.w) X.A (f v u) Q X.xe s2) :
    wpAny (model X.prog X.w) X.A (eval a X.env) (fun v s₁ => wpAny (model X.prog X.w) X.A (eval b X.env) (fun u s₂ => wpAny (model X.prog X.w) X.A (f v u) Q X.xe s₂) X.xe s₁) X.xe s := by
  refine thn (ha pins s σ H _ I h) fun v s1 ⟨x, H1, I1, r1, q1⟩ => ?_
  refine thn (hb pins s1 σ H1 _ I1 q1) fun u s2 ⟨y, H2, I2, r2, q2⟩ => ?_
  exact hf v u s2 x y H2 I2 r1 r2 q2

theorem pe_op {op : Operator} {r : R2} (ho : OpR X (binaryOp op) r) (ha : PE X a ta) (hb : PE X b tb) : PE X (.BinOp a op b pos) (tOp r ta tb) := by
  intro pins s σ H Q I h
  exact wpAny_BinOp (binT ha hb I h fun v u s2 x y H2 I2 rx ry q => ho pins s2 σ H2 x y v u Q I2 rx ry q)
theorem pe_un {op : UnaryOp} {r : V → Hp → VK → Prop} (ho : UnR X (unaryOp op) r) (ha : PE X a ta) : PE X (.UnaryOp op a pos) (tUn r ta) := by
  intro pins s σ H Q I h
  exact UnaryOp_ (thn (ha pins s σ H _ I h) fun v s1 ⟨x, H1, I1, r1, q1⟩ => ho pins s1 σ H1 x v Q I1 r1 q1)
theorem opI {f : Value → Value → Sem Value} {C : Int → Int → Prop} {g : Int → Int → Int}
    (rule : ∀ (i j : Int) (t u : Tok) (s : Shared) (Q : Value → Shared → Prop) (E : Value → Shared → Prop), C i j → Q (.int (g i j) s.toks) { s with toks := s.toks + 1 } → wpAny (model X.prog X.w) X.A (f (.int i t) (.int j u)) Q E s) :
    OpR X f (rI C fun i j => .int (g i j)) := by
  intro pins s σ H x y v u Q I rx ry h
  obtain ⟨i, j, rfl, rfl, hc, q⟩ := h
  obtain ⟨t, rfl⟩ := rx
  obtain ⟨t', rfl⟩ := ry
  exact rule i j t t' s _ _ hc ⟨.int (g i j), H, I.tok _, ⟨_, rfl⟩, q⟩
theorem opI0 {f : Value → Value → Sem Value} {g : Int → Int → Int}
    (rule : ∀ (i j : Int) (t u : Tok) (s : Shared) (Q : Value → Shared → Prop) (E : Value → Shared → Prop), Q (.int (g i j) s.toks) { s with toks := s.toks + 1 } → wpAny (model X.prog X.w) X.A (f (.int i t) (.int j u)) Q E s) :
    OpR X f (rI0 fun i j => .int (g i j)) := by
  intro pins s σ H x y v u Q I rx ry h
  obtain ⟨i, j, rfl, rfl, q⟩ := h
  obtain ⟨t, rfl⟩ := rx
  obtain ⟨t', rfl⟩ := ry
  exact rule i j t t' s _ _ ⟨.int (g i j), H, I.tok _, ⟨_, rfl⟩, q⟩
theorem opB0 {f : Value → Value → Sem Value} {g : Int → Int → Bool}
    (rule : ∀ (i j : Int) (t u : Tok) (s : Shared) (Q : Value → Shared → Prop) (E : Value → Shared → Prop), Q (.bool (g i j)) s → wpAny (model X.prog X.w) X.A (f (.int i t) (.int j u)) Q E s) :
    OpR X f (rI0 fun i j => .bl (g i j)) := by
  intro pins s σ H x y v u Q I rx ry h
  obtain ⟨i, j, rfl, rfl, q⟩ := h
  obtain ⟨t, rfl⟩ := rx
  obtain ⟨t', rfl⟩ := ry
  exact rule i j t t' s _ _ ⟨.bl (g i j), H, I, rfl, q⟩

def CDiv (i j : Int) : Prop := 0 < j ∧ j < 1073741824
def CPow (i j : Int) : Prop := 0 ≤ j ∧ j ≤ 1000000 ∧ i.natAbs < 2 ^ 64
def CMul (i j : Int) : Prop := (-(2 ^ 64) < i ∧ i < 2 ^ 64) ∨ (-(2 ^ 64) < j ∧ j < 2 ^ 64)
theorem CMul.ok {i j : Int} (h : CMul i j) : IntMulOk i j := by
  rcases h with ⟨h1, h2⟩ | ⟨h1, h2⟩
  · exact .of_left (intBits_le_64 h1 h2)
  · exact .of_right (intBits_le_64 h1 h2)
theorem op_add : OpR X (binaryOp .Add) (rI0 fun i j => .int (i + j)) := opI0 fun _ _ _ _ _ _ _ q => add_int q
theorem op_sub : OpR X (binaryOp .Sub) (rI0 fun i j => .int (i - j)) := opI0 fun _ _ _ _ _ _ _ q => sub_int q
theorem op_mul : OpR X (binaryOp .Mult) (rI CMul fun i j => .int (i * j)) := opI fun _ _ _ _ _ _ _ hc q => mul_int q hc.ok
theorem op_fdiv : OpR X (binaryOp .FloorDiv) (rI CDiv fun i j => .int (i / j)) := opI fun i j _ _ _ _ _ hc q => by
  have h1 : (0 : Int) < j := hc.1
  have h2 : j < 1073741824 := hc.2
  exact floordiv_int (by omega) (by rw [Int.fdiv_eq_ediv_of_nonneg i (by omega)]; exact q) (.inl (PyProof.noPylong_small (by omega)))
theorem op_mod : OpR X (binaryOp .Mod) (rI (fun _ j => 0 < j) fun i j => .int (i % j)) := opI fun i j _ _ _ _ _ hc q => by
  have h1 : (0 : Int) < j := hc
  exact mod_int' (by omega) (by rw [Int.fmod_eq_emod_of_nonneg i (by omega)]; exact q)
theorem op_pow : OpR X (binaryOp .Pow) (rI CPow fun i j => .int (i ^ j.toNat)) := opI fun _ _ _ _ _ _ _ hc q => pow_int_small hc.1 hc.2.1 hc.2.2 q
theorem unI {f : Value → Sem Value} {g : Int → Int}
    (rule : ∀ (i : Int) (t : Tok) (s : Shared) (Q : Value → Shared → Prop) (E : Value → Shared → Prop), Q (.int (g i) s.toks) { s with toks := s.toks + 1 } → wpAny (model X.prog X.w) X.A (f (.int i t)) Q E s) :
    UnR X f (rU fun i => .int (g i)) := by
  intro pins s σ H x v Q I rx h
  obtain ⟨i, rfl, q⟩ := h
  obtain ⟨t, rfl⟩ := rx
  exact rule i t s _ _ ⟨.int (g i), H, I.tok _, ⟨_, rfl⟩, q⟩
theorem un_neg : UnR X (unaryOp .USub) (rU fun i => .int (-i)) := unI fun _ _ _ _ _ q => neg_int q
end
def scal : V → V → Bool
  | .non, .non => true | .non, .int _ => true | .int _, .non => true | .non, .bl _ => true | .bl _, .non => true | .non, .str _ => true | .str _, .non => true
  | .int _, .int _ => true | .bl _, .bl _ => true | .str _, .str _ => true | .byt _, .byt _ => true
  | .int _, .str _ => true | .str _, .int _ => true | .bl _, .str _ => true | .str _, .bl _ => true
  | _, _ => false
def rEq : R2 := fun x y H Q => scal x y = true ∧ Q (.bl (decide (x = y))) H
def rNe : R2 := fun x y H Q => scal x y = true ∧ Q (.bl (!decide (x = y))) H

theorem dec_int {i j : Int} : decide (V.int i = V.int j) = (i == j) := by
  rw [Bool.eq_iff_iff]
  simp
theorem dec_bl {i j : Bool} : decide (V.bl i = V.bl j) = (i == j) := by
  rw [Bool.eq_iff_iff]
  simp
theorem dec_str {i j : Str} : decide (V.str i = V.str j) = (i == j) := by
  rw [Bool.eq_iff_iff]
  simp
theorem dec_byt {i j : Array UInt8} : decide (V.byt i = V.byt j) = (i.toList == j.toList) := by
  rw [Bool.eq_iff_iff]
  cases i
  cases j
  simp

section
variable {X : Cx} {a b c : Expr} {ta tb tc : TE} {pos : Pos}
theorem fin_bl {pins : List (Addr × Obj)} {σ : St} {H : Hp} {s : Shared} {Q : VK} {k k' : Bool} (I : Inv X pins σ H s) (q : Q (.bl k) H) (e : k = k') : EP X pins σ Q (.bool k') s := by
  subst e
  exact ⟨.bl k, H, I, rfl, q⟩
theorem op_eq : OpR X (compareOp .Eq) rEq := by
  intro pins s σ H x y v u Q I rx ry h
  obtain ⟨hs, q⟩ := h
  cases x with
  | non =>
    cases rx
    cases y with
    | non => cases ry; exact PySem.EqNone.eq_none_none (fin_bl I q (by simp))
    | bl j => cases ry; exact PySem.EqNone.eq_none_bool (fin_bl I q (by simp))
    | int j => obtain ⟨t', rfl⟩ := ry; exact PySem.EqNone.eq_none_int (fin_bl I q (by simp))
    | str j => obtain ⟨t', rfl⟩ := ry; exact PySem.EqNone.eq_none_str (fin_bl I q (by simp))
    | _ => exact absurd (show false = true from hs) Bool.false_ne_true
  | bl i =>
    cases rx
    cases y with
    | non => cases ry; exact PySem.EqNone.eq_bool_none (fin_bl I q (by simp))
    | bl j => cases ry; exact eq_bool (fin_bl I q dec_bl)
    | str j => obtain ⟨t', rfl⟩ := ry; exact PySem.EqMixed.eq_bool_str (fin_bl I q (by simp))
    | _ => exact absurd (show false = true from hs) Bool.false_ne_true
  | int i =>
    obtain ⟨t, rfl⟩ := rx
    cases y with
    | non => cases ry; exact PySem.EqNone.eq_int_none (fin_bl I q (by simp))
    | int j => obtain ⟨t', rfl⟩ := ry; exact eq_int (fin_bl I q dec_int)
    | str j => obtain ⟨t', rfl⟩ := ry; exact PySem.EqMixed.eq_int_str (fin_bl I q (by simp))
    | _ => exact absurd (show false = true from hs) Bool.false_ne_true
  | str i =>
    obtain ⟨t, rfl⟩ := rx
    cases y with
    | non => cases ry; exact PySem.EqNone.eq_str_none (fin_bl I q (by simp))
    | bl j => cases ry; exact PySem.EqMixed.eq_str_bool (fin_bl I q (by simp))
    | int j => obtain ⟨t', rfl⟩ := ry; exact PySem.EqMixed.eq_str_int (fin_bl I q (by simp))
    | str j => obtain ⟨t', rfl⟩ := ry; exact eq_str (fin_bl I q dec_str)
    | _ => exact absurd (show false = true from hs) Bool.false_ne_true
  | byt i =>
    obtain ⟨t, rfl⟩ := rx
    cases y with
    | byt j => obtain ⟨t', rfl⟩ := ry; exact PySem.W.eq_bytes (fin_bl I q dec_byt)
    | _ => exact absurd (show false = true from hs) Bool.false_ne_true
  | _ => cases y <;> exact absurd (show false = true from hs) Bool.false_ne_true
theorem op_ne : OpR X (compareOp .NotEq) rNe := by
  intro pins s σ H x y v u Q I rx ry h
  obtain ⟨hs, q⟩ := h
  cases x with
  | non =>
    cases rx
    cases y with
    | non => cases ry; exact PySem.EqNone.ne_none_none (fin_bl I q (by simp))
    | bl j => cases ry; exact PySem.EqNone.ne_none_bool (fin_bl I q (by simp))
    | int j => obtain ⟨t', rfl⟩ := ry; exact PySem.EqNone.ne_none_int (fin_bl I q (by simp))
    | str j => obtain ⟨t', rfl⟩ := ry; exact PySem.EqNone.ne_none_str (fin_bl I q (by simp))
    | _ => exact absurd (show false = true from hs) Bool.false_ne_true
  | bl i =>
    cases rx
    cases y with
    | non => cases ry; exact PySem.EqNone.ne_bool_none (fin_bl I q (by simp))
    | bl j => cases ry; exact ne_bool (fin_bl I q (congrArg not dec_bl))
    | str j => obtain ⟨t', rfl⟩ := ry; exact PySem.EqMixed.ne_bool_str (fin_bl I q (by simp))
    | _ => exact absurd (show false = true from hs) Bool.false_ne_true
  | int i =>
    obtain ⟨t, rfl⟩ := rx
    cases y with
    | non => cases ry; exact PySem.EqNone.ne_int_none (fin_bl I q (by simp))
    | int j => obtain ⟨t', rfl⟩ := ry; exact ne_int (fin_bl I q (congrArg not dec_int))
    | str j => obtain ⟨t', rfl⟩ := ry; exact PySem.EqMixed.ne_int_str (fin_bl I q (by simp))
    | _ => exact absurd (show false = true from hs) Bool.false_ne_true
  | str i =>
    obtain ⟨t, rfl⟩ := rx
    cases y with
    | non => cases ry; exact PySem.EqNone.ne_str_none (fin_bl I q (by simp))
    | bl j => cases ry; exact PySem.EqMixed.ne_str_bool (fin_bl I q (by simp))
    | int j => obtain ⟨t', rfl⟩ := ry; exact PySem.EqMixed.ne_str_int (fin_bl I q (by simp))
    | str j => obtain ⟨t', rfl⟩ := ry; exact ne_str (fin_bl I q (congrArg not dec_str))
    | _ => exact absurd (show false = true from hs) Bool.false_ne_true
  | byt i =>
    obtain ⟨t, rfl⟩ := rx
    cases y with
    | byt j => obtain ⟨t', rfl⟩ := ry; exact PySem.W.ne_bytes (fin_bl I q (congrArg not dec_byt))
    | _ => exact absurd (show false = true from hs) Bool.false_ne_true
  | _ => cases y <;> exact absurd (show false = true from hs) Bool.false_ne_true

theorem op_lt : OpR X (compareOp .Lt) (rI0 fun i j => .bl (decide (i < j))) := opB0 fun _ _ _ _ _ _ _ q => lt_int q
theorem op_le : OpR X (compareOp .LtE) (rI0 fun i j => .bl (decide (i ≤ j))) := opB0 fun _ _ _ _ _ _ _ q => le_int q
theorem op_gt : OpR X (compareOp .Gt) (rI0 fun i j => .bl (decide (j < i))) := opB0 fun _ _ _ _ _ _ _ q => gt_int q
theorem op_notin_str : OpR X (compareOp .NotIn) (fun x y H Q => ∃ i j, x = .str i ∧ y = .str j ∧ Q (.bl (!(!(Builtin.Str.occurrences j i 0 j.length 1).isEmpty))) H) := by
  intro pins s σ H x y v u Q I rx ry h
  obtain ⟨i, j, rfl, rfl, q⟩ := h
  obtain ⟨t, rfl⟩ := rx
  obtain ⟨t', rfl⟩ := ry
  exact notIn_str (fin_bl I q rfl)
theorem nomark (b : Expr) {op : CmpOp} (h : op ≠ .In := by decide) (h2 : op ≠ .NotIn := by decide) : behindInMarks op b = false := by
  have e1 : (op == CmpOp.In) = false := by cases op <;> first | rfl | exact absurd rfl h
  have e2 : (op == CmpOp.NotIn) = false := by cases op <;> first | rfl | exact absurd rfl h2
  cases b <;> simp [behindInMarks, e1, e2]
theorem pe_cmpR {op : CmpOp} {r : R2} (ho : OpR X (compareOp op) r) (ha : PE X a ta) (hb : PE X b tb) (hm : behindInMarks op b = false) : PE X (.Compare a [op] [b] pos) (tOp r ta tb) := by
  intro pins s σ H Q I h
  exact wpAny_Compare1 (binT ha hb I h fun v u s2 x y H2 I2 rx ry q => ho pins s2 σ H2 x y v u Q I2 rx ry q) hm
def tTest (t : TE) : TT := fun σ H Q => t σ H fun x H' => ∃ k, x = .bl k ∧ Q k H'
theorem pt_cmpR {op : CmpOp} {r : R2} (ho : OpR X (compareOp op) r) (ha : PE X a ta) (hb : PE X b tb) (hm : behindInMarks op b = false) : PT X (.Compare a [op] [b] pos) (tTest (tOp r ta tb)) := by
  intro pins s σ H Q I h
  refine wpAny_isTrue_Compare1 (thn (ha pins s σ H _ I h) fun v s1 ⟨x, H1, I1, r1, q1⟩ => thn (hb pins s1 σ H1 _ I1 q1) fun u s2 ⟨y, H2, I2, r2, q2⟩ =>
    thn (ho pins s2 σ H2 x y v u _ I2 r1 r2 q2) fun c s3 ⟨z, H3, I3, r3, k, e, q3⟩ => ?_) hm
  subst e
  cases r3
  exact wpAny_truthy_bool ⟨H3, I3, q3⟩
theorem line63 : (sizeLine : Nat) < 2 ^ 63 := by rw [sizeLine_eq]; decide
theorem op_add_str : OpR X (binaryOp .Add) (fun x y H Q => ∃ i j, x = .str i ∧ y = .str j ∧ i.length + j.length ≤ sizeLine ∧ Q (.str (i ++ j)) H) := by
  intro pins s σ H x y v u Q I rx ry h
  obtain ⟨i, j, rfl, rfl, hz, q⟩ := h
  obtain ⟨t, rfl⟩ := rx
  obtain ⟨t', rfl⟩ := ry
  exact add_str (fun t' tk => ⟨.str (i ++ j), H, I.tok _, ⟨_, rfl⟩, q⟩) hz
theorem vals1 {x : V} {us : List Value} (r : Vals [x] us) : ∃ u, us = [u] ∧ RelV x u := by
  cases r with
  | cons r1 r2 => cases r2; exact ⟨_, rfl, r1⟩
theorem vals2 {x y : V} {us : List Value} (r : Vals [x, y] us) : ∃ u w', us = [u, w'] ∧ RelV x u ∧ RelV y w' := by
  cases r with
  | cons r1 r2 =>
    cases r2 with
    | cons r3 r4 => cases r4; exact ⟨_, _, rfl, r1, r3⟩
theorem call_int1 : CallR X (.type "int") (fun xs H Q => (∃ i, xs = [.int i] ∧ Q (.int i) H) ∨ ∃ k, xs = [.bl k] ∧ Q (.int (if k then 1 else 0)) H) := by
  intro pins s σ H xs us Q I r h
  rcases h with ⟨i, rfl, q⟩ | ⟨k, rfl, q⟩
  · obtain ⟨u, rfl, t, rfl⟩ := vals1 r
    exact call_int_int ⟨.int i, H, I, ⟨_, rfl⟩, q⟩
  · obtain ⟨u, rfl, r1⟩ := vals1 r
    cases r1
    exact call_int_bool ⟨.int (if k then 1 else 0), H, I.tok _, ⟨_, rfl⟩, q⟩
end
end L2
namespace L2
open PySem PySem.Spec PyProof.Rows
structure ObjM (h : Heap) (x dx C : Addr) (mA : Str → Option Value) : Prop where
  obj : h.get? x = some (PySem.W.instObj C dx)
  ns : h.Ns1 dx mA
  ne : dx ≠ x

theorem lookIn_ns {h : Heap} {dx : Addr} {mA : Str → Option Value} (n : h.Ns1 dx mA) : ∃ od, h.get? dx = some od ∧ ∀ name, PySem.W.lookIn name od = some (mA name) := by
  obtain ⟨o, es, ep, ho, hd, hk, _, hm⟩ := n
  refine ⟨o, ho, fun name => ?_⟩
  have e := hm name
  unfold nsFind findBy at e
  rw [← Array.find?_toList] at e
  unfold PySem.W.lookIn
  rw [hd]
  dsimp only
  split
  · rename_i y q
    rw [q] at e
    exact congrArg some e
  · rename_i q
    rw [q] at e
    have a : es.toList.any (·.refKey) = false := by
      rw [List.any_eq_false]
      intro y hy
      obtain ⟨z, t, hkey⟩ := hk y (Array.mem_toList_iff.mp hy)
      simp [DictEntry.refKey, hkey]
    have a' : ¬ es.toList.any (·.refKey) = true := by rw [a]; exact Bool.false_ne_true
    rw [if_neg a']
    exact congrArg some e

theorem ObjM.look {h : Heap} {x dx C : Addr} {mA : Str → Option Value} (I : ObjM h x dx C mA) : ∃ od, PySem.W.InstAt h x (PySem.W.instObj C dx) C (some od) ∧ ∀ name, PySem.W.lookIn name od = some (mA name) :=
  let ⟨od, ho, hl⟩ := lookIn_ns I.ns
  ⟨od, ⟨I.obj, rfl, rfl, ho⟩, hl⟩

section
variable {prog : Program} {w : World} {A : Around} {E : Value → Shared → Prop} {s : Shared} {K : PySem.W.Frag} {x dx C f : Addr} {mA : Str → Option Value} {name : Str} {v : Value}
theorem get_map {expr : Bool} {Q : Value → Shared → Prop} (X : K.In s.heap) (I : ObjM s.heap x dx C mA) (hg : PySem.W.plainGet K C name = true) (hh : PySem.W.hasDictIn K C = true)
    (ha : PySem.W.findIn K (.ref C) name = some none) (hv : mA name = some v) (hv' : PySem.W.handedIn v = true) (h : Q v { s with toks := s.toks + 1 }) :
    wpAny (model prog w) A (getAttr (.ref x) name expr) Q E s := by
  obtain ⟨od, J, hl⟩ := I.look
  exact PySem.W.get_value X J (PySem.W.plainGet_of hg).1 (PySem.W.findObj_own hh ha rfl (by rw [hl, hv])) hv' h

theorem get_meth {pl : Sem Bool} {Q : Value × List Value → Shared → Prop} (X : K.In s.heap) (I : ObjM s.heap x dx C mA) (hg : PySem.W.plainGet K C name = true)
    (hf : PySem.W.findIn K (.ref C) name = some (some (.ref f))) (ht : PySem.W.isFn K (.ref f) = true) (hv : mA name = none) (h : Q (.ref f, [.ref x]) s) :
    wpAny (model prog w) A (getMethod (.ref x) name pl) Q E s := by
  obtain ⟨od, J, hl⟩ := I.look
  exact PySem.W.method_fn X J (PySem.W.plainGet_of hg).1 (PySem.W.plainGet_of hg).2 hf (beq_iff_eq.mp ht) (by show (PySem.W.lookIn name od).map (·.isSome) = some false; rw [hl, hv]; rfl) h

theorem set_map {ns : List Str} {Q : Unit → Shared → Prop} (X : K.In s.heap) (I : ObjM s.heap x dx C mA)
    (hs : PySem.W.findIn K (.ref C) "__setattr__" = some (some (.builtin "object.__setattr__"))) (hp : PySem.W.plainOver K C = true) (ht : PySem.W.takerIn K C name = some none) (hh : PySem.W.hasDictIn K C = true)
    (hw : PySem.Within mA ns) (hsz : ns.length ≤ sizeLine)
    (h : ∀ h', ObjM h' x dx C (fun y => if y = name then some v else mA y) → Heap.SameBut dx s.heap h' → Q () { s with heap := h', toks := s.toks + 2 }) :
    wpAny (model prog w) A (setAttr (.ref x) name v) Q E s := by
  obtain ⟨od, J, hl⟩ := I.look
  refine PySem.W.set_plain X J hs (PySem.W.osa_open (s := { s with toks := s.toks + 1 }) (r := none) X J hp ht fun b => ?_)
  obtain ⟨cd, hc, hd'⟩ := PySem.W.any_some hh
  have hx : s.heap.get? x = some ⟨.ref C, some dx, .plain, #[]⟩ := I.obj
  refine wpAny_bind (wpAny_pure (wpAny_bind (wpAny_bind (wpAny_loadPart hx (wpAny_bind (PySem.W.Looks.here (s := { s with toks := s.toks + 1 }) (PySem.W.looks_clsIn X hc) ?_))))))
  rw [hd']
  refine wpAny_pure (a := some dx) (wpAny_bind (wpAny_pure (wpAny_bind ?_)))
  refine wpAny_nsSet1 (s := { s with toks := s.toks + 1 }) I.ns fun h' hn2 hs2 => ?_
  obtain ⟨oD, esD, epD, hoD, hdD, hcD⟩ := hn2.count (PySem.Within.cons name v hw)
  refine wpAny_bind (wpAny_lookBehind hoD (by rw [hdD]; exact pastItsLine_dict (Nat.le_trans hcD (by rw [List.length_cons]; omega))) ?_)
  exact wpAny_pure (h _ ⟨(hs2.2 _ (Ne.symm I.ne)).trans I.obj, hn2, I.ne⟩ hs2)

theorem make_map {R : Result → Shared → Prop} {vs : List Value} {kw : List (Str × Value)} (X : K.In s.heap) (hm : PySem.W.makesIn K C = true)
    (hi : PySem.W.findIn K (.ref C) "__init__" = some (some (.ref f))) (hf : PySem.W.typeIn K (.ref f) = some (.type "function"))
    (h : codeAny (model prog w) (A.under (.builtin "type.__call__" ⟨.ref C :: vs, kw⟩)) (.call (.ref f) ⟨.ref (s.heap.objs.size + 1) :: vs, kw⟩) (PySem.W.InitBack (s.heap.objs.size + 1) R)
      { s with heap := (s.heap.push PySem.W.emptyDict).push (PySem.W.instObj C s.heap.objs.size) }) :
    codeAny (model prog w) A (.call (.ref C) ⟨vs, kw⟩) R s := by
  obtain ⟨hh, g, d, t, os⟩ := s
  exact PySem.W.make_core (PySem.W.makes_of X hm) (PySem.W.looks_findIn X hi) (fun self => PySem.W.bind_fn X self hf) (.inl rfl) h
end
def putF (f : Str) (v : V) : List (Str × V) → List (Str × V)
  | [] => [(f, v)]
  | (g, x) :: r => if g = f then (g, v) :: r else (g, x) :: putF f v r
theorem lookup_putF (f g : Str) (v : V) : ∀ fs : List (Str × V), (putF f v fs).lookup g = if g = f then some v else fs.lookup g
  | [] => by
    show List.lookup g [(f, v)] = _
    by_cases h : g = f
    · have hb : (g == f) = true := beq_iff_eq.mpr h
      simp only [List.lookup, hb, if_pos h]
    · have hb : (g == f) = false := beq_eq_false_iff_ne.mpr h
      simp only [List.lookup, hb, if_neg h]
  | (k, x) :: r => by
    have ih := lookup_putF f g v r
    rw [show putF f v ((k, x) :: r) = (if k = f then (k, v) :: r else (k, x) :: putF f v r) from rfl]
    by_cases hk : k = f
    · rw [if_pos hk]
      by_cases h : g = k
      · have hb : (g == k) = true := beq_iff_eq.mpr h
        simp only [List.lookup, hb, if_pos (h.trans hk)]
      · have hb : (g == k) = false := beq_eq_false_iff_ne.mpr h
        simp only [List.lookup, hb, if_neg (fun e : g = f => h (e.trans hk.symm))]
    · rw [if_neg hk]
      by_cases h : g = k
      · have hb : (g == k) = true := beq_iff_eq.mpr h
        simp only [List.lookup, hb, if_neg (fun e : g = f => hk (h.symm.trans e))]
      · have hb : (g == k) = false := beq_eq_false_iff_ne.mpr h
        simp only [List.lookup, hb]
        exact ih
theorem keys_putF (f : Str) (v : V) : ∀ fs : List (Str × V), f ∈ (putF f v fs).map (·.1) ∧ ∀ g, g ∈ fs.map (·.1) → g ∈ (putF f v fs).map (·.1)
  | [] => ⟨by simp [putF], fun g h => by simp at h⟩
  | (k, x) :: r => by
    obtain ⟨i1, i2⟩ := keys_putF f v r
    rw [show putF f v ((k, x) :: r) = (if k = f then (k, v) :: r else (k, x) :: putF f v r) from rfl]
    by_cases hk : k = f
    · rw [if_pos hk]
      subst hk
      exact ⟨by simp, fun g h => by simpa using h⟩
    · rw [if_neg hk]
      refine ⟨?_, fun g h => ?_⟩
      · rw [List.map_cons]
        exact List.mem_cons_of_mem _ i1
      · rw [List.map_cons] at h ⊢
        rcases List.mem_cons.mp h with e | e
        · exact List.mem_cons.mpr (.inl e)
        · exact List.mem_cons_of_mem _ (i2 g e)
theorem length_putF (f : Str) (v : V) : ∀ fs : List (Str × V), (putF f v fs).length ≤ fs.length + 1
  | [] => by simp [putF]
  | (k, x) :: r => by
    have ih := length_putF f v r
    rw [show putF f v ((k, x) :: r) = (if k = f then (k, v) :: r else (k, x) :: putF f v r) from rfl]
    by_cases hk : k = f
    · rw [if_pos hk, List.length_cons, List.length_cons]; omega
    · rw [if_neg hk, List.length_cons, List.length_cons]; omega

theorem RelO.some_of {v : V} {o : Option Value} (r : RelO (some v) o) : ∃ u, o = some u ∧ RelV v u := by
  cases o with
  | none => exact (show False from r).elim
  | some u => exact ⟨u, rfl, r⟩
theorem RelO.none_of {o : Option Value} (r : RelO none o) : o = none := by
  cases o with
  | none => rfl
  | some u => exact (show False from r).elim
theorem handed_of {v : V} {u : Value} (r : RelV v u) : PySem.W.handedIn u = true := by
  cases v with
  | non => cases (show u = Value.none from r); rfl
  | bl b => cases (show u = Value.bool b from r); rfl
  | int i => obtain ⟨t, e⟩ := (show ∃ t, u = Value.int i t from r); cases e; rfl
  | str x => obtain ⟨t, e⟩ := (show ∃ t, u = Value.str x t from r); cases e; rfl
  | byt b => obtain ⟨t, e⟩ := (show ∃ t, u = Value.bytes b t from r); cases e; rfl
  | flt b => obtain ⟨t, e⟩ := (show ∃ t, u = Value.float b t from r); cases e; rfl
  | ref a => cases (show u = Value.ref a from r); rfl
  | ty n => cases (show u = Value.type n from r); rfl

section
variable {P : Program} {w : World} {H H' : Hp} {h h' : Heap} {a C dx : Addr} {fs fs' : List (Str × V)}
theorem ins_get (hok : HOk P w H h) (e : H a = some (.ins C dx fs)) : ∃ mA, ObjM h a dx C mA ∧ (∀ f, RelO (fs.lookup f) (mA f)) ∧ PySem.Within mA (fs.map (·.1)) ∧ fs.length ≤ 1000 ∧ H dx = some (.own a) := by
  obtain ⟨d, z, ne, ob, mA, n, r, q⟩ := (show ObjOk P w H h a (.ins C dx fs) from hok a _ e)
  exact ⟨mA, ⟨ob, n, ne⟩, r, q, z, d⟩
end
structure Cls (K : PySem.W.Frag) (C : Addr) : Prop where
  pg : PySem.W.plainGet K C Str.empty = true
  hd : PySem.W.hasDictIn K C = true
  po : PySem.W.plainOver K C = true
  sa : PySem.W.findIn K (.ref C) "__setattr__" = some (some (.builtin "object.__setattr__"))
theorem Cls.get {K : PySem.W.Frag} {C : Addr} (c : Cls K C) (f : Str) : PySem.W.plainGet K C f = true := c.pg
def NoAttr (K : PySem.W.Frag) (C : Addr) (f : Str) : Prop := PySem.W.findIn K (.ref C) f = some none
theorem NoAttr.taker {K : PySem.W.Frag} {C : Addr} {f : Str} (n : NoAttr K C f) : PySem.W.takerIn K C f = some none := by
  unfold PySem.W.takerIn
  rw [show PySem.W.findIn K (.ref C) f = some none from n]
  rfl
structure Meth (K : PySem.W.Frag) (C : Addr) (m : Str) (f : Addr) : Prop where
  at_ : PySem.W.findIn K (.ref C) m = some (some (.ref f))
  fn : PySem.W.isFn K (.ref f) = true
  kp : PySem.W.keepIn K (.ref f) = true

section
variable {X : Cx} {pins : List (Addr × Obj)} {σ : St} {H : Hp} {s : Shared} {a C dx : Addr} {fs : List (Str × V)} {f : Str} {v : V} {A : Around} {E : Value → Shared → Prop}
theorem getattr_ok {b : Bool} {Q : Value → Shared → Prop} (I : Inv X pins σ H s) (e : H a = some (.ins C dx fs)) (c : Cls X.K C) (n : NoAttr X.K C f) (l : fs.lookup f = some v)
    (h : ∀ u s', Inv X pins σ H s' → RelV v u → Q u s') : wpAny (model X.prog X.w) A (getAttr (.ref a) f b) Q E s := by
  obtain ⟨mA, O, r, _, _, _⟩ := ins_get I.hok e
  obtain ⟨u, hu, ru⟩ := RelO.some_of (v := v) (o := mA f) (by rw [← l]; exact r f)
  exact get_map I.kIn O (c.get f) c.hd n hu (handed_of ru) (h u _ (I.tok _) ru)

theorem getmeth_ok {m : Str} {g : Addr} {pl : Sem Bool} {Q : Value × List Value → Shared → Prop} (I : Inv X pins σ H s) (e : H a = some (.ins C dx fs)) (c : Cls X.K C) (k : Meth X.K C m g) (l : fs.lookup m = none)
    (h : Q (.ref g, [.ref a]) s) : wpAny (model X.prog X.w) A (getMethod (.ref a) m pl) Q E s := by
  obtain ⟨mA, O, r, _, _, _⟩ := ins_get I.hok e
  have hn : mA m = none := RelO.none_of (by rw [← l]; exact r m)
  exact get_meth I.kIn O (c.get m) k.at_ k.fn hn h

theorem setattr_ok {y : V} {u : Value} {Q : Unit → Shared → Prop} (I : Inv X pins σ H s) (e : H a = some (.ins C dx fs)) (c : Cls X.K C) (n : NoAttr X.K C f) (hl : fs.length < 1000) (ry : RelV y u)
    (h : ∀ s', Inv X pins σ (upd H a (.ins C dx (putF f y fs))) s' → Q () s') : wpAny (model X.prog X.w) A (setAttr (.ref a) f u) Q E s := by
  obtain ⟨mA, O, r, wi, _, ho⟩ := ins_get I.hok e
  have hz : (fs.map (·.1)).length ≤ sizeLine := by rw [List.length_map, sizeLine_eq]; omega
  refine set_map I.kIn O c.sa c.po n.taker c.hd wi hz fun h' O' sb => h _ ?_
  have hd : ∃ o, h'.get? dx = some o := let ⟨o, _, _, e', _⟩ := O'.ns; ⟨o, e'⟩
  refine I.write (x := a) (e := dx) (by rw [e]; exact True.intro) (.inr ho) (fun b q hb z => (sb.2 b hb).trans z) hd ?_
  refine ⟨by rw [upd_ne O.ne]; exact ho, ?_, O.ne, O'.obj, _, O'.ns, fun g => ?_, fun g hg => ?_⟩
  · have := length_putF f y fs; omega
  · show RelO ((putF f y fs).lookup g) (if g = f then some u else mA g)
    rw [lookup_putF]
    by_cases q : g = f
    · rw [if_pos q, if_pos q]; exact ry
    · rw [if_neg q, if_neg q]; exact r g
  · by_cases q : g = f
    · rw [q]; exact (keys_putF f y fs).1
    · refine (keys_putF f y fs).2 g (wi g fun z => hg ?_)
      show (if g = f then some u else mA g) = none
      rw [if_neg q]; exact z

theorem Inv.made (I : Inv X pins σ H s) : Inv X pins σ (upd (upd H s.heap.objs.size (.own (s.heap.objs.size + 1))) (s.heap.objs.size + 1) (.ins C s.heap.objs.size []))
    { s with heap := (s.heap.push PySem.W.emptyDict).push (PySem.W.instObj C s.heap.objs.size) } := by
  have e1 : (s.heap.push PySem.W.emptyDict).get? s.heap.objs.size = some PySem.W.emptyDict := Heap.get?_push_size s.heap rfl
  have e2 : ((s.heap.push PySem.W.emptyDict).push (PySem.W.instObj C s.heap.objs.size)).get? (s.heap.objs.size + 1) = some (PySem.W.instObj C s.heap.objs.size) := by
    have := Heap.get?_push_size (s.heap.push PySem.W.emptyDict) (o := PySem.W.instObj C s.heap.objs.size) rfl
    rwa [Heap.size_push] at this
  have e3 : (s.heap.push PySem.W.emptyDict).Ns s.heap.objs.size (fun _ => none) := ⟨PySem.W.emptyDict, #[], _, e1, rfl, (fun e he => absurd he (by simp)), fun _ => rfl⟩
  have I1 := I.laid (a := s.heap.objs.size) (o := .own (s.heap.objs.size + 1)) (h' := s.heap.push PySem.W.emptyDict) (t' := s.toks) (fun b u q => Heap.get?_push_of_some _ q) (Nat.le_refl _) ⟨_, e1⟩
  refine I1.laid (a := s.heap.objs.size + 1) (o := .ins C s.heap.objs.size []) (t' := s.toks) (fun b u q => Heap.get?_push_of_some _ q) (Nat.le_of_eq (Heap.size_push _ _)) ?_
  have ne : s.heap.objs.size ≠ s.heap.objs.size + 1 := Nat.ne_of_lt (Nat.lt_succ_self _)
  refine ⟨by rw [upd_ne ne, upd_same], Nat.zero_le _, ne, e2, fun _ => none, (Heap.Ns1.of_empty e3).at fun o q => Heap.get?_push_of_some _ q, fun _ => True.intro, fun y hy => absurd rfl hy⟩

theorem attr_of {prog : Program} {w : World} {env : Env} {e : Expr} {f : Str} {pos : Pos} {s : Shared} {Q : Value → Shared → Prop} (hb : attributeBase e f env (eval e env) = eval e env)
    (h : wpAny (model prog w) A (eval e env) (fun o s₁ => wpAny (model prog w) A (getAttr o f true) Q E s₁) E s) : wpAny (model prog w) A (eval (.Attribute e f pos) env) Q E s :=
  Attribute_any_ h (by rw [arm_eval_Attribute, hb])
end
def tFld (K : PySem.W.Frag) (ta : TE) (f : Str) : TE := fun σ H Q => ta σ H fun x H1 => ∃ a C dx fs v, x = .ref a ∧ H1 a = some (.ins C dx fs) ∧ Cls K C ∧ NoAttr K C f ∧ fs.lookup f = some v ∧ Q v H1
def sFld (K : PySem.W.Frag) (ta tv : TE) (f : Str) : TS := fun D σ H => tv σ H fun y H1 => ta σ H1 fun x H2 => ∃ a C dx fs, x = .ref a ∧ H2 a = some (.ins C dx fs) ∧ Cls K C ∧ NoAttr K C f ∧ fs.length < 1000 ∧
  D.nx σ (upd H2 a (.ins C dx (putF f y fs)))
section
variable {X : Cx} {o e value : Expr} {f : Str} {pos pos' tpos : Pos} {ta tv : TE}
theorem pe_fld (he : PE X e ta) (hb : attributeBase e f X.env (eval e X.env) = eval e X.env) : PE X (.Attribute e f pos) (tFld X.K ta f) := by
  intro pins s σ H Q I h
  refine attr_of hb (thn (he pins s σ H _ I h) fun u s1 ⟨x, H1, I1, rx, a, C, dx, fs, v, ex, ea, c, n, l, q⟩ => ?_)
  subst ex
  obtain rfl : u = Value.ref a := rx
  exact getattr_ok I1 ea c n l fun u' s2 I2 ru => ⟨v, H1, I2, ru, q⟩
theorem ps_fld (ha : PE X o ta) (hv : PE X value tv) (hs : swapsWith value (some (.Attribute o f pos')) pos.line X.env = pure false) : PS X (.Assign [.Attribute o f pos'] value pos) (sFld X.K ta tv f) := by
  intro pins s σ H D I h
  refine plainObj_wpAny_Assign_Attribute (thn (hv pins s σ H _ I h) fun u s1 ⟨y, H1, I1, ry, q⟩ => thn (ha pins s1 σ H1 _ I1 q) fun ov s2 ⟨x, H2, I2, rx, a, C, dx, fs, ex, ea, c, n, l, q2⟩ => ?_) hs
  subst ex
  obtain rfl : ov = Value.ref a := rx
  exact setattr_ok I2 ea c n l ry fun s3 I3 => ⟨σ, _, I3, q2⟩
end
section
variable {X : Cx} {pins : List (Addr × Obj)} {σ : St} {H : Hp} {s : Shared} {A : Around} {E : Value → Shared → Prop} {Q : Value → Shared → Prop} {c : Value} {b : Bool}
inductive TyOf (K : PySem.W.Frag) (H : Hp) : V → Value → Prop where
  | non : TyOf K H .non (.type "NoneType")
  | bl (x : Bool) : TyOf K H (.bl x) (.type "bool")
  | int (i : Int) : TyOf K H (.int i) (.type "int")
  | str (x : Str) : TyOf K H (.str x) (.type "str")
  | flt (x : UInt64) : TyOf K H (.flt x) (.type "float")
  | lst {a : Addr} {xs : List V} (e : H a = some (.lst xs)) : TyOf K H (.ref a) (.type "list")
  | frz {a : Addr} {o : Obj} {xs : List V} (e : H a = some (.frz o (.lst xs))) : TyOf K H (.ref a) (.type "list")
  | tup {a : Addr} {xs : List V} (e : H a = some (.tup xs)) : TyOf K H (.ref a) (.type "tuple")
  | dK {a : Addr} {kvs : List (Key × V)} (e : H a = some (.dK kvs)) : TyOf K H (.ref a) (.type "dict")
  | dT {a : Addr} {kvs : List (List Key × V)} (e : H a = some (.dT kvs)) : TyOf K H (.ref a) (.type "dict")
  | ins {a C dx : Addr} {fs : List (Str × V)} (e : H a = some (.ins C dx fs)) (cl : Cls K C) (ha : PySem.W.findIn K (.ref C) "__class__" = some (some (.builtin "object.__class__")))
      (hn : PySem.W.specialIn K (.builtin "object.__class__") "__get__" = some (some (.builtin "getset_descriptor.__get__"))) (htk : PySem.W.takesIn K (.builtin "object.__class__") = some true)
      (hm : PySem.W.mroIn K C (.type "object") = some true) : TyOf K H (.ref a) (.ref C)
theorem isinst_ok {x : V} {u t : Value} (I : Inv X pins σ H s) (rx : RelV x u) (ty : TyOf X.K H x t) (e : PySem.W.kitOne X.K t c = some b) (h : ∀ tk, Q (.bool b) { s with toks := tk }) :
    wpAny (model X.prog X.w) A (call (.builtin "isinstance") [u, c]) Q E s := by
  cases ty with
  | non => cases (show u = Value.none from rx); exact PySem.W.kia_one PySem.W.kitx_none I.kIn True.intro e (fun z => nomatch z) h
  | bl y => cases (show u = Value.bool y from rx); exact PySem.W.kia_one PySem.W.kitx_bool I.kIn True.intro e (fun z => nomatch z) h
  | int i => obtain ⟨t, q⟩ := (show ∃ t, u = Value.int i t from rx); cases q; exact PySem.W.kia_one PySem.W.kitx_int I.kIn True.intro e (fun z => nomatch z) h
  | str y => obtain ⟨t, q⟩ := (show ∃ t, u = Value.str y t from rx); cases q; exact PySem.W.kia_one PySem.W.kitx_str I.kIn True.intro e (fun z => nomatch z) h
  | flt y => obtain ⟨t, q⟩ := (show ∃ t, u = Value.float y t from rx); cases q; exact PySem.W.kia_one PySem.W.kitx_float I.kIn True.intro e (fun z => nomatch z) h
  | @lst a xs ea =>
    cases (show u = Value.ref a from rx)
    obtain ⟨_, _, n, _, h1⟩ := (show ObjOk X.prog X.w H s.heap a (.lst xs) from I.hok a _ ea)
    exact PySem.W.kia_one PySem.W.kitx_list I.kIn ⟨_, h1, rfl⟩ e (fun z => nomatch z) h
  | @frz a ob xs ea =>
    cases (show u = Value.ref a from rx)
    obtain ⟨_, _, _, n, _, h1⟩ := (show ObjOk X.prog X.w H s.heap a (.frz ob (.lst xs)) from I.hok a _ ea)
    exact PySem.W.kia_one PySem.W.kitx_list I.kIn ⟨_, h1, rfl⟩ e (fun z => nomatch z) h
  | @tup a xs ea =>
    cases (show u = Value.ref a from rx)
    obtain ⟨_, _, _, p⟩ := (show ObjOk X.prog X.w H s.heap a (.tup xs) from I.hok a _ ea)
    obtain ⟨o, h1, h2, _⟩ := p
    exact PySem.W.kia_one PySem.W.kitx_tuple I.kIn ⟨o, h1, h2⟩ e (fun z => nomatch z) h
  | @dK a kvs ea =>
    cases (show u = Value.ref a from rx)
    obtain ⟨_, _, vs, _, p⟩ := (show ObjOk X.prog X.w H s.heap a (.dK kvs) from I.hok a _ ea)
    obtain ⟨o, es, ep, h1, h2, _⟩ := p
    exact PySem.W.kia_one PySem.W.kitx_dict I.kIn ⟨o, h1, h2.1⟩ e (fun z => nomatch z) h
  | @dT a kvs ea =>
    cases (show u = Value.ref a from rx)
    obtain ⟨_, _, xs, _, o, es, ep, h1, h2, _⟩ := (show ObjOk X.prog X.w H s.heap a (.dT kvs) from I.hok a _ ea)
    exact PySem.W.kia_one PySem.W.kitx_dict I.kIn ⟨o, h1, h2.1⟩ e (fun z => nomatch z) h
  | @ins a C dx fs ea cl ha hn htk hm =>
    cases (show u = Value.ref a from rx)
    obtain ⟨mA, O, _⟩ := ins_get I.hok ea
    obtain ⟨od, J, _⟩ := O.look
    exact PySem.W.kia_one (PySem.W.kitx_own (cl.get _) cl.hd ha hn htk hm) I.kIn J e (fun z => nomatch z) h
end
end L2
namespace L2
open PySem PySem.Spec PyProof.Rows
structure Room (k : Nat) (A : Around) : Prop where
  hd : A.handled = none
  dp : A.depth + 3 * k + 5 < recursionLimit
  un : A.units + 16 * k + 200 < cLine
theorem Room.mono {j k : Nat} {A : Around} (r : Room k A) (h : j ≤ k) : Room j A := ⟨r.hd, by have := r.dp; omega, by have := r.un; omega⟩
theorem Room.deeper {k : Nat} {A : Around} (r : Room (k + 1) A) (env : Env) : Room k (A.deeper env) :=
  ⟨r.hd, by have := r.dp; show A.depth + 1 + 3 * k + 5 < _; omega, by have := r.un; show A.units + 3 + 16 * k + 200 < _; omega⟩
theorem make_depth {A : Around} {C : Addr} {us : List Value} {kw : List (Str × Value)} : (A.under (.builtin "type.__call__" ⟨.ref C :: us, kw⟩)).depth = A.depth + 1 := by
  first | rfl | simp [Around.under, Code.weight, Code.isCreation, Code.isGuard, Code.isCaller, Code.frames, Code.isFrame, guardIds]
theorem make_units {A : Around} {C : Addr} {us : List Value} {kw : List (Str × Value)} : (A.under (.builtin "type.__call__" ⟨.ref C :: us, kw⟩)).units = A.units + 1 := by
  first | rfl | simp [Around.under, Code.cUnits, Code.frames, Code.isFrame]
theorem Room.make {k : Nat} {A : Around} (r : Room (k + 1) A) (C : Addr) (us : List Value) (kw : List (Str × Value)) : Room k (A.under (.builtin "type.__call__" ⟨.ref C :: us, kw⟩)) :=
  ⟨r.hd, by have := r.dp; rw [make_depth]; omega, by have := r.un; rw [make_units]; omega⟩
theorem Room.depth {k : Nat} {A : Around} (r : Room k A) : A.depth < recursionLimit := by have := r.dp; omega
theorem Room.units {k : Nat} {A : Around} (r : Room k A) : A.units + 64 < cLine := by have := r.un; omega
def tNil : TA := fun _ H Q => Q [] H
def tCons (ta : TE) (tr : TA) : TA := fun σ H Q => ta σ H fun x H1 => tr σ H1 fun xs H2 => Q (x :: xs) H2
section
variable {X : Cx} {e : Expr} {es : List Expr} {te : TE} {t : TA} {pos : Pos}
theorem pa_nil : PA X [] tNil := fun _ _ _ _ H Q I h => Calls.spliced_nil ⟨[], H, I, .nil, h⟩
theorem pa_cons (ha : PE X e te) (hr : PA X es t) (hs : starEach (e :: es) X.env = (false, eval e X.env) :: starEach es X.env := by rfl) : PA X (e :: es) (tCons te t) := by
  intro pos pins s σ H Q I h
  rw [hs]
  show wpAny _ _ (spliced ((false, eval e X.env) :: backTo pos (starEach es X.env))) _ _ s
  refine Calls.spliced_cons (thn (ha pins s σ H _ I h) fun u s1 ⟨x, H1, I1, r1, q1⟩ => ?_)
  exact thn (hr pos pins s1 σ H1 _ I1 q1) fun us s2 ⟨xs, H2, I2, r2, q2⟩ => ⟨x :: xs, H2, I2, .cons r1 r2, q2⟩

def tTup (t : TA) : TE := fun σ H Q => t σ H fun xs H1 => xs.length ≤ sizeLine ∧ ∀ p, H1 p = none → Q (.ref p) (upd H1 p (.tup xs))
def tLst (t : TA) : TE := fun σ H Q => t σ H fun xs H1 => xs.length ≤ sizeLine ∧ ∀ p, H1 p = none → Q (.ref p) (upd H1 p (.lst xs))
theorem pe_tup {x1} (h : PA X es t) : PE X (.Tuple es x1 pos) (tTup t) := by
  intro pins s σ H Q I hq
  refine wpAny_Tuple_spliced (thn (h pos pins s σ H _ I hq) fun us s1 ⟨xs, H1, I1, r, z, q⟩ => ⟨by rw [← r.length]; exact z, ?_⟩)
  have hf : H1 s1.heap.objs.size = none := I1.hok.fresh (Nat.le_refl _)
  refine ⟨.ref s1.heap.objs.size, upd H1 s1.heap.objs.size (.tup xs), I1.laid (t' := s1.toks) (fun b u e => Heap.get?_push_of_some _ e) (Nat.le_refl _) ?_, rfl, q _ hf⟩
  exact ⟨z, us, r, ⟨_, Heap.get?_push_size _ rfl, rfl, _, rfl⟩⟩
theorem pe_lst (h : PA X es t) : PE X (.List es pos) (tLst t) := by
  intro pins s σ H Q I hq
  refine wpAny_List_spliced (thn (h pos pins s σ H _ I hq) fun us s1 ⟨xs, H1, I1, r, z, q⟩ => ⟨by rw [← r.length]; exact z, ?_⟩)
  have hf : H1 s1.heap.objs.size = none := I1.hok.fresh (Nat.le_refl _)
  refine ⟨.ref s1.heap.objs.size, upd H1 s1.heap.objs.size (.lst xs), I1.laid (t' := s1.toks) (fun b u e => Heap.get?_push_of_some _ e) (Nat.le_refl _) ?_, rfl, q _ hf⟩
  exact ⟨z, us, 0, r, Heap.get?_push_size _ rfl⟩
end
abbrev Sp := List V → Hp → VK → XK → Prop
abbrev CXT := List Env → Hp → Shared → XK → Value → Shared → Prop

structure Env0 (P : Program) (w : World) (K : PySem.W.Frag) (mg : Str → Option Value) (base : Heap) (A : Around) (outer : List Env) (s : Shared) (H : Hp) : Prop where
  frames : A.frames = some outer
  mod : Mod K mg base
  bs : ∀ b o, base.get? b = some o → s.heap.get? b = some o ∧ H b = none
  bsz : base.objs.size ≤ s.heap.objs.size
  funs : s.heap.FunFrames base outer
  frf : ∀ b ∈ frs outer, H b = none
  hok : HOk P w H s.heap
  bare : AllBare s.gens
def CE (outer : List Env) (P : Program) (w : World) (H : Hp) (s : Shared) (Q : VK) (u : Value) (s' : Shared) : Prop :=
  ∃ v H', s'.os = s.os ∧ AllBare s'.gens ∧ Un (frs outer) [] H H' s.heap s'.heap ∧ HOk P w H' s'.heap ∧ RelV v u ∧ Q v H'
def CR (CX : CXT) (outer : List Env) (P : Program) (w : World) (H : Hp) (s : Shared) (Q : VK) (E : XK) (r : Result) (s' : Shared) : Prop :=
  match r with
  | .ok (.ret u) => CE outer P w H s Q u s'
  | .ok _ => False
  | .error e => CX outer H s E e s'
structure FnOk (P : Program) (w : World) (K : PySem.W.Frag) (mg : Str → Option Value) (base : Heap) (CX : CXT) (k : Nat) (f : Addr) (fd : FuncData) (ps : List Str) (sp : Sp) : Prop where
  len : ∀ vs H Q E, sp vs H Q E → vs.length = ps.length
  run : ∀ (A : Around) (outer : List Env) (s : Shared) (H : Hp) (args : Args) (us : List Value) (vs : List V) (Q : VK) (E : XK), Room k A → Env0 P w K mg base A outer s H → BindsTo s fd args (ps.zip us) → Vals vs us → sp vs H Q E →
    codeAny (model P w) A (.call (.ref f) args) (CR CX outer P w H s Q E) s
theorem FnOk.mono {P : Program} {w : World} {K : PySem.W.Frag} {mg : Str → Option Value} {base : Heap} {CX : CXT} {j k : Nat} {f : Addr} {fd : FuncData} {ps : List Str} {sp : Sp} (F : FnOk P w K mg base CX j f fd ps sp) (h : j ≤ k) :
    FnOk P w K mg base CX k f fd ps sp := ⟨F.len, fun A outer s H args us vs Q E hr => F.run A outer s H args us vs Q E (hr.mono h)⟩
theorem FnOk.imp {P : Program} {w : World} {K : PySem.W.Frag} {mg : Str → Option Value} {base : Heap} {CX : CXT} {k : Nat} {f : Addr} {fd : FuncData} {ps : List Str} {sp sp' : Sp} (F : FnOk P w K mg base CX k f fd ps sp)
    (h : ∀ vs H Q E, sp' vs H Q E → sp vs H Q E) : FnOk P w K mg base CX k f fd ps sp' :=
  ⟨fun vs H Q E q => F.len vs H Q E (h _ _ _ _ q), fun A outer s H args us vs Q E hr he hb hv hs => F.run A outer s H args us vs Q E hr he hb hv (h _ _ _ _ hs)⟩

theorem Env0.make {P : Program} {w : World} {K : PySem.W.Frag} {mg : Str → Option Value} {base : Heap} {A : Around} {outer : List Env} {s : Shared} {H : Hp} (e : Env0 P w K mg base A outer s H) (C : Addr) (us : List Value) (kw : List (Str × Value)) :
    Env0 P w K mg base (A.under (.builtin "type.__call__" ⟨.ref C :: us, kw⟩)) outer s H := ⟨by first | exact e.frames | (simpa [Around.under, Code.envs, Code.isFrame, pushEnvs] using e.frames), e.mod, e.bs, e.bsz, e.funs, e.frf, e.hok, e.bare⟩
section
variable {X : Cx} {pins : List (Addr × Obj)} {σ : St} {H : Hp} {s s' : Shared}
theorem Inv.env0 (I : Inv X pins σ H s) : Env0 X.prog X.w X.K X.mg X.base X.A X.stack s H :=
  ⟨I.ok.frames, I.ok.mod, I.bs, Nat.le_trans I.ok.bsz I.sz, I.stack, I.stkFree, I.hok, I.bare⟩
theorem Inv.after {Q : VK} {u : Value} (I : Inv X pins σ H s) (h : CE X.stack X.prog X.w H s Q u s') : EP X pins σ Q u s' := by
  obtain ⟨v, H', os, bare, un, hok, r, q⟩ := h
  obtain ⟨hh, g, d, t, os'⟩ := s'
  obtain rfl : os' = s.os := os
  exact ⟨v, H', I.call (h' := hh) (g' := g) (d' := d) (t' := t) (ch := []) un hok bare (fun b z => absurd z (by simp)), r, q⟩
end
def tCall (sp : Sp) (dvs : List V) (E : XK) (t : TA) : TE := fun σ H Q => t σ H fun vs H1 => sp (vs ++ dvs) H1 Q E
def tMeth (C : Addr) (m : Str) (sp : Sp) (dvs : List V) (E : XK) (ta : TE) (t : TA) : TE := fun σ H Q => ta σ H fun x H1 => ∃ a dx fs, x = .ref a ∧ H1 a = some (.ins C dx fs) ∧ fs.lookup m = none ∧
  t σ H1 fun vs H2 => sp (x :: (vs ++ dvs)) H2 Q E
def tMake (C : Addr) (sp : Sp) (dvs : List V) (E : XK) (t : TA) : TE := fun σ H Q => t σ H fun vs H1 => ∀ x dx, H1 x = none → H1 dx = none → dx ≠ x →
  sp (.ref x :: (vs ++ dvs)) (upd (upd H1 dx (.own x)) x (.ins C dx [])) (fun v H2 => v = .non ∧ Q (.ref x) H2) E

def Binds (K : PySem.W.Frag) (fd : FuncData) (ps : List Str) (ds : List Value) : Prop :=
  ∀ (s : Shared) (us : List Value), K.In s.heap → (us ++ ds).length = ps.length → BindsTo s fd ⟨us, []⟩ (ps.zip (us ++ ds))
theorem Binds.all {K : PySem.W.Frag} {fd : FuncData} {ps : List Str} (h : ∀ us : List Value, us.length = ps.length → bindArgs fd ⟨us, []⟩ = pure (ps.zip us)) : Binds K fd ps [] := fun s us _ hl => by
  rw [List.append_nil] at hl ⊢
  exact .of_eq (h us hl)

def Passes (CX : CXT) (X : Cx) (E : XK) : Prop := ∀ (pins : List (Addr × Obj)) (σ : St) (H : Hp) (s : Shared) (e : Value) (s' : Shared), Inv X pins σ H s → CX X.stack H s E e s' → X.xe e s'

section
variable {X : Cx} {CX : CXT} {k : Nat} {f C : Addr} {fd : FuncData} {ps : List Str} {sp : Sp} {dvs : List V} {ds : List Value} {E : XK} {x m : Str} {p pos apos : Pos} {e o : Expr} {es : List Expr} {ta : TE} {t : TA}
theorem run_fn {pins : List (Addr × Obj)} {σ : St} {H : Hp} {s : Shared} {Q : VK} {us : List Value} {vs : List V} (F : FnOk X.prog X.w X.K X.mg X.base CX k f fd ps sp) (hr : Room k X.A) (hb : Binds X.K fd ps ds) (hd : Vals dvs ds) (hx : Passes CX X E)
    (I : Inv X pins σ H s) (r : Vals vs us) (h : sp (vs ++ dvs) H Q E) : wpAny (model X.prog X.w) X.A (call (.ref f) us) (EP X pins σ Q) X.xe s := by
  have r2 : Vals (vs ++ dvs) (us ++ ds) := r.append hd
  have hl : (us ++ ds).length = ps.length := by rw [← r2.length]; exact F.len _ _ _ _ h
  refine wpAny_call (codeAny_mono (F.run X.A X.stack s H ⟨us, []⟩ (us ++ ds) (vs ++ dvs) Q E hr I.env0 (hb s us I.kIn hl) r2 h) fun r s' hq => ?_)
  cases r with
  | error e => exact hx pins σ H s e s' I hq
  | ok fl =>
    cases fl with
    | ret u => exact I.after hq
    | next => exact False.elim hq
    | brk => exact False.elim hq
    | cont => exact False.elim hq

theorem pe_call (F : FnOk X.prog X.w X.K X.mg X.base CX k f fd ps sp) (hr : Room k X.A) (hg : Gl X x) (hm : X.mg x = some (.ref f)) (hk : PySem.W.keepIn X.K (.ref f) = true) (hb : Binds X.K fd ps ds) (hd : Vals dvs ds) (hx : Passes CX X E)
    (ha : PA X (e :: es) t) (hdb : (x == ("__debug__" : Str)) = false := by decide) (he : starEach (e :: es) X.env = (false, eval e X.env) :: starEach es X.env := by rfl) (hpl : (backTo pos (starEach es X.env)).any (·.1) = false := by rfl) :
    PE X (.Call (.Name x p) (e :: es) [] pos) (tCall sp dvs E t) := by
  intro pins s σ H Q I h
  refine wpAny_Call_Name_kw (ld_glob I hg hm ?_ hdb)
  refine PySem.W.callWith_K (h₀ := X.base) I.ok.mod.kin hk (thn (ha pos pins s σ H _ I h) fun us s1 ⟨vs, H1, I1, r, q⟩ => ⟨I1.kIn, ?_⟩) he hpl
  exact run_fn F hr hb hd hx I1 r q
theorem pe_meth {pl : Sem Bool} (he : PE X o ta) (c : Cls X.K C) (hm : Meth X.K C m f) (F : FnOk X.prog X.w X.K X.mg X.base CX k f fd ps sp) (hr : Room k X.A) (hb : Binds X.K fd ps ds) (hd : Vals dvs ds) (hx : Passes CX X E) (ha : PA X (e :: es) t)
    (hst : starEach (e :: es) X.env = (false, eval e X.env) :: starEach es X.env := by rfl) (hpl : (backTo pos (starEach es X.env)).any (·.1) = false := by rfl)
    (ht : eval (.Call (.Attribute o m apos) (e :: es) [] pos) X.env = (do
      let ov ← eval o X.env
      standAt apos.atName
      let (f, first) ← holding [ov] (getMethod ov m pl)
      callWith pos f first (backTo pos (starEach (e :: es) X.env)) (backToKw pos (keywordEach [] X.env))) := by rfl) :
    PE X (.Call (.Attribute o m apos) (e :: es) [] pos) (tMeth C m sp dvs E ta t) := by
  intro pins s σ H Q I h
  refine PySem.W.methodCall_KW (pl := pl) (thn (he pins s σ H _ I h) fun u s1 ⟨x, H1, I1, rx, a, dx, fs, ex, ea, l, q⟩ => ?_) ht
  subst ex
  obtain rfl : u = Value.ref a := rx
  refine getmeth_ok I1 ea c hm l ?_
  refine PySem.W.callWith_K (first := [.ref a]) (h₀ := X.base) I.ok.mod.kin hm.kp (thn (ha pos pins s1 σ H1 _ I1 q) fun us s2 ⟨vs, H2, I2, r, q2⟩ => ⟨I2.kIn, ?_⟩) hst hpl
  exact run_fn (us := .ref a :: us) (vs := .ref a :: vs) F hr hb hd hx I2 (.cons rfl r) q2
structure Mk (K : PySem.W.Frag) (C f : Addr) : Prop where
  makes : PySem.W.makesIn K C = true
  init : PySem.W.findIn K (.ref C) "__init__" = some (some (.ref f))
  fn : PySem.W.isFn K (.ref f) = true
  kp : PySem.W.keepIn K (.ref C) = true

theorem run_make {pins : List (Addr × Obj)} {σ : St} {H : Hp} {s : Shared} {Q : VK} {us : List Value} {vs : List V} (M : Mk X.K C f) (F : FnOk X.prog X.w X.K X.mg X.base CX k f fd ps sp) (hr : Room (k + 1) X.A) (hb : Binds X.K fd ps ds) (hd : Vals dvs ds)
    (hx : Passes CX X E) (I : Inv X pins σ H s) (r : Vals vs us)
    (h : ∀ x dx, H x = none → H dx = none → dx ≠ x → sp (.ref x :: (vs ++ dvs)) (upd (upd H dx (.own x)) x (.ins C dx [])) (fun v H2 => v = .non ∧ Q (.ref x) H2) E) :
    wpAny (model X.prog X.w) X.A (call (.ref C) us) (EP X pins σ Q) X.xe s := by
  have hq := h (s.heap.objs.size + 1) s.heap.objs.size (I.hok.fresh (Nat.le_succ _)) (I.hok.fresh (Nat.le_refl _)) (Nat.ne_of_lt (Nat.lt_succ_self _))
  have I2 := Inv.made (C := C) I
  have r2 : Vals (V.ref (s.heap.objs.size + 1) :: (vs ++ dvs)) (Value.ref (s.heap.objs.size + 1) :: (us ++ ds)) := .cons rfl (r.append hd)
  have hl : (Value.ref (s.heap.objs.size + 1) :: us ++ ds).length = ps.length := by
    have e := r2.length
    rw [F.len _ _ _ _ hq] at e
    exact e.symm
  refine wpAny_call (make_map (f := f) I.kIn M.makes M.init (beq_iff_eq.mp M.fn) (codeAny_mono (F.run _ X.stack _ _ ⟨Value.ref (s.heap.objs.size + 1) :: us, []⟩ (Value.ref (s.heap.objs.size + 1) :: (us ++ ds)) _ _ E (hr.make C us [])
    (I2.env0.make C us []) (hb _ (Value.ref (s.heap.objs.size + 1) :: us) I2.kIn hl) r2 hq) fun r s' hq' => ?_))
  cases r with
  | error e => exact hx pins σ _ _ e s' I2 hq'
  | ok fl =>
    cases fl with
    | ret u =>
      obtain ⟨v, H', I3, rv, ev, q3⟩ := I2.after hq'
      subst ev
      exact ⟨rv, ⟨V.ref (s.heap.objs.size + 1), H', I3, rfl, q3⟩⟩
    | next => exact False.elim hq'
    | brk => exact False.elim hq'
    | cont => exact False.elim hq'
theorem pe_make (M : Mk X.K C f) (F : FnOk X.prog X.w X.K X.mg X.base CX k f fd ps sp) (hr : Room (k + 1) X.A) (hg : Gl X x) (hm : X.mg x = some (.ref C)) (hb : Binds X.K fd ps ds) (hd : Vals dvs ds) (hx : Passes CX X E)
    (ha : PA X (e :: es) t) (hdb : (x == ("__debug__" : Str)) = false := by decide) (he : starEach (e :: es) X.env = (false, eval e X.env) :: starEach es X.env := by rfl) (hpl : (backTo pos (starEach es X.env)).any (·.1) = false := by rfl) :
    PE X (.Call (.Name x p) (e :: es) [] pos) (tMake C sp dvs E t) := by
  intro pins s σ H Q I h
  refine wpAny_Call_Name_kw (ld_glob I hg hm ?_ hdb)
  refine PySem.W.callWith_K (h₀ := X.base) I.ok.mod.kin M.kp (thn (ha pos pins s σ H _ I h) fun us s1 ⟨vs, H1, I1, r, q⟩ => ⟨I1.kIn, ?_⟩) he hpl
  exact run_make M F hr hb hd hx I1 r q
end
section
variable {X : Cx} {CX : CXT} {k : Nat} {f C : Addr} {fd : FuncData} {ps ks : List Str} {sp : Sp} {E : XK} {x m : Str} {p pos apos kpos : Pos} {e o : Expr} {es : List Expr} {kws : List Keyword} {te ta : TE} {t tk : TA} {nm : Option Str}
variable {g : List Value → List Value → List Value} {gV : List V → List V → List V}
end
structure FnScope (N P : List Str) (sc : Scope) : Prop where
  kind : sc.kind = .function
  co : sc.isCoroutine = false
  gen : sc.isGenerator = false
  nd : N.Nodup
  pre : N.take P.length = P
  par : ∀ x ∈ P, sc.names.lookup x = some .local ∨ sc.names.lookup x = some .cell
  nofree : ∀ y ∈ sc.names, y.2 ≠ .free

theorem bindL_out {kindOf : Str → Option NameKind} {x : Str} : ∀ {binds : List (Str × Value)} {m : Str → Option Value}, (∀ v, (x, v) ∉ binds) → bindL kindOf binds m x = m x
  | [], _, _ => rfl
  | (n, v) :: r, m, h => by
    unfold bindL
    rw [bindL_out fun w hw => h w (List.mem_cons_of_mem _ hw)]
    split
    · have : x ≠ n := by rintro rfl; exact h v List.mem_cons_self
      simp [this]
    · rfl
theorem bindC_out {kindOf : Str → Option NameKind} {x : Str} : ∀ {binds : List (Str × Value)} {m : Str → Option Value}, (∀ v, (x, v) ∉ binds) → bindC kindOf binds m x = m x
  | [], _, _ => rfl
  | (n, v) :: r, m, h => by
    unfold bindC
    rw [bindC_out fun w hw => h w (List.mem_cons_of_mem _ hw)]
    split
    · rfl
    · have : x ≠ n := by rintro rfl; exact h v List.mem_cons_self
      simp [this]
theorem bindL_get {kindOf : Str → Option NameKind} {x : Str} {v : Value} : ∀ {P : List Str} {vs : List Value} {i : Nat} {m : Str → Option Value}, P.Nodup → P[i]? = some x → vs[i]? = some v → kindOf x = some .local →
    bindL kindOf (P.zip vs) m x = some v
  | [], _, _, _, _, h, _, _ => by simp at h
  | _ :: _, [], _, _, _, _, h, _ => by simp at h
  | p :: P, w :: vs, 0, m, nd, h1, h2, hk => by
    simp at h1 h2; subst h1; subst h2
    show bindL kindOf ((p, w) :: P.zip vs) m p = _
    unfold bindL
    rw [bindL_out fun v hv => (List.nodup_cons.mp nd).1 (List.of_mem_zip hv).1, if_pos hk]
    simp
  | p :: P, w :: vs, i + 1, m, nd, h1, h2, hk => by
    show bindL kindOf ((p, w) :: P.zip vs) m x = _
    unfold bindL
    exact bindL_get (i := i) (List.nodup_cons.mp nd).2 (by simpa using h1) (by simpa using h2) hk
theorem bindC_get {kindOf : Str → Option NameKind} {x : Str} {v : Value} : ∀ {P : List Str} {vs : List Value} {i : Nat} {m : Str → Option Value}, P.Nodup → P[i]? = some x → vs[i]? = some v → kindOf x ≠ some .local →
    bindC kindOf (P.zip vs) m x = some v
  | [], _, _, _, _, h, _, _ => by simp at h
  | _ :: _, [], _, _, _, _, h, _ => by simp at h
  | p :: P, w :: vs, 0, m, nd, h1, h2, hk => by
    simp at h1 h2; subst h1; subst h2
    show bindC kindOf ((p, w) :: P.zip vs) m p = _
    unfold bindC
    rw [bindC_out fun v hv => (List.nodup_cons.mp nd).1 (List.of_mem_zip hv).1, if_neg hk]
    simp
  | p :: P, w :: vs, i + 1, m, nd, h1, h2, hk => by
    show bindC kindOf ((p, w) :: P.zip vs) m x = _
    unfold bindC
    exact bindC_get (i := i) (List.nodup_cons.mp nd).2 (by simpa using h1) (by simpa using h2) hk

def start (N : List Str) (vs : List V) : St := vs.map some ++ List.replicate (N.length - vs.length) none

def cxOf (CX : CXT) (P : Program) (w : World) (K : PySem.W.Frag) (mg : Str → Option Value) (base : Heap) (N : List Str) (qual : Str) (scope : Scope) (f : Addr) (cd : Value) (A : Around) (outer : List Env) (s : Shared) (H : Hp) (E : XK) : Cx where
  prog := P
  w := w
  K := K
  mg := mg
  base := base
  A := A.deeper (envOfC qual scope s.heap.objs.size f cd)
  N := N
  s₀ := s
  H₀ := H
  env := envOfC qual scope s.heap.objs.size f cd
  outer := outer
  stack := envOfC qual scope s.heap.objs.size f cd :: outer
  ex := []
  calm := true
  fn := fun _ => true
  pn := []
  xe := fun e s' => wpAny (model P w) (A.deeper (envOfC qual scope s.heap.objs.size f cd)) (leaving (envOfC qual scope s.heap.objs.size f cd) e) (fun _ s'' => CX outer H s E e s'') (fun e' s'' => CX outer H s E e' s'') s'

theorem cell_has {sc : Scope} {n : Nat} {x : Str} (h : sc.names.lookup x = some .cell) : ∃ c, (cellsFrom n sc.names []).lookup x = some c := by
  have q := PySem.W.cellsFrom_some sc.names n [] (.inl h)
  exact Option.isSome_iff_exists.mp q

theorem inv_start {CX : CXT} {P : Program} {w : World} {K : PySem.W.Frag} {mg : Str → Option Value} {base : Heap} {N ps : List Str} {qual : Str} {scope : Scope} {f : Addr} {cd : Value} {A : Around} {outer : List Env} {s s1 : Shared} {H : Hp} {E : XK} {us : List Value} {vs : List V}
    (S : FnScope N ps scope) (hd : A.handled = none) (e0 : Env0 P w K mg base A outer s H) (hl : vs.length = ps.length) (r : Vals vs us)
    (x : InCallC s s.heap.objs.size (bindL (envOfC qual scope s.heap.objs.size f cd).kindOf (ps.zip us) fun _ => none) (cellsFrom (s.heap.objs.size + 1) scope.names []) (bindC (envOfC qual scope s.heap.objs.size f cd).kindOf (ps.zip us) fun _ => none) s1) :
    Inv (cxOf CX P w K mg base N qual scope f cd A outer s H E) [] (start N vs) H s1 := by
  have hpl : ps.length ≤ N.length := by have := congrArg List.length S.pre; rw [List.length_take] at this; omega
  obtain ⟨h1, tk, rfl, hk⟩ := x.done
  have noA : ∀ b : Addr, b ∉ (cxOf CX P w K mg base N qual scope f cd A outer s H E).ex := fun b z => absurd (show b ∈ ([] : List Addr) from z) (by simp)
  refine ⟨⟨e0.mod, S.kind, rfl, rfl, Nat.le_refl _, fun y z c h1 h2 => ?_, fun y hy => ?_, fun y c _ h => ?_, fun _ => hd, Around.frames_deeper e0.frames, .inr ⟨rfl, rfl⟩, fun b z => absurd z (noA b), e0.bs, e0.bsz, fun b _ _ => noA b, fun b z => absurd z (noA b), e0.funs, e0.frf⟩,
    rfl, e0.bare, Un.kept hk, ⟨_, x.toInCall.ns, fun i y v h1 h2 h3 => ?_⟩, fun y c h => ⟨_, x.cell y c h⟩, e0.hok.fresh (Nat.le_refl _), fun y c h => ?_, fun p hp => absurd (show p ∈ ([] : List (Addr × Obj)) from hp) (by simp), e0.hok.kept hk, ?_⟩
  · exact name_of_addr x.apart (PySem.mem_of_lookup h1) (PySem.mem_of_lookup h2)
  · have hy : scope.names.lookup y = some .cell ∨ scope.names.lookup y = some .free := hy
    rcases hy with hy | hy
    · exact cell_has hy
    · exact absurd rfl (S.nofree _ (PySem.mem_of_lookup hy))
  · exact Nat.le_of_lt (x.above y c (PySem.mem_of_lookup h))
  · have hi : i < vs.length := by
      unfold start at h2
      by_cases hi : i < vs.length
      · exact hi
      · rw [List.getElem?_append_right (by simpa using hi)] at h2
        rw [List.getElem?_replicate] at h2
        split at h2 <;> cases h2
    have ha : vs[i]? = some v := by
      unfold start at h2
      rw [List.getElem?_append_left (by simpa using hi), List.getElem?_map] at h2
      cases e : vs[i]? with
      | none => rw [e] at h2; cases h2
      | some a => rw [e] at h2; cases h2; rfl
    obtain ⟨u, hu, rv⟩ := r.get ha
    have hp : ps[i]? = some y := by
      rw [← S.pre, List.getElem?_take_of_lt (by omega)]; exact h1
    have ndP : ps.Nodup := by rw [← S.pre]; exact S.nd.sublist (List.take_sublist _ _)
    refine ⟨u, rv, ?_⟩
    rcases S.par y (List.mem_of_getElem? hp) with k | k
    · exact .inl ⟨k, bindL_get ndP hp hu k⟩
    · obtain ⟨c, e⟩ := cell_has (n := s.heap.objs.size + 1) k
      refine .inr ⟨.inl k, c, e, ?_⟩
      have q := x.cell y c e
      rw [bindC_get ndP hp hu (by show scope.names.lookup y ≠ _; rw [k]; decide)] at q
      exact q
  · exact e0.hok.fresh (Nat.le_of_lt (x.above y c (PySem.mem_of_lookup h)))
  · unfold start
    show _ = N.length
    rw [List.length_append, List.length_map, List.length_replicate]
    omega

theorem fn_of {CX : CXT} {P : Program} {w : World} {K : PySem.W.Frag} {mg : Str → Option Value} {base : Heap} {k : Nat} {f : Addr} {name qual : Str} {params : Arguments} {body : List Stmt} {scope : Scope} {dV kV doc pm cdv ct oc : Value} {an od : Option Addr}
    {osl : Array (Option Value)} {N ps : List Str} {sp : Sp} (lk : K.lookup f = some ⟨oc, od, .func (PySem.W.fnOf name qual params body scope dV kV doc pm an cdv ct), osl⟩) (hcd : PySem.W.codeIn K cdv qual = true) (S : FnScope N ps scope)
    (len : ∀ vs H Q E, sp vs H Q E → vs.length = ps.length)
    (hbody : ∀ (A : Around) (outer : List Env) (s : Shared) (H : Hp) (vs : List V) (Q : VK) (E : XK), Room k (A.deeper (envOfC qual scope s.heap.objs.size f cdv)) → sp vs H Q E →
      ∃ t, PSs (cxOf CX P w K mg base N qual scope f cdv A outer s H E) body t ∧ t { nx := fun _ H' => Q .non H', rt := Q } (start N vs) H) :
    FnOk P w K mg base CX (k + 1) f (PySem.W.fnOf name qual params body scope dV kV doc pm an cdv ct) ps sp := by
  refine ⟨len, fun A outer s H args us vs Q E hr e0 hb r hsp => ?_⟩
  have hl := len _ _ _ _ hsp
  have KX : K.In s.heap := e0.mod.kin.keeps fun b o e => (e0.bs b o e).1
  have lim : s.heap.NoLimit := e0.mod.nolimit.keeps fun b o e => (e0.bs b o e).1
  have hkind : ∀ y ∈ ps.zip us, scope.names.lookup y.1 = some .local ∨ (scope.names.lookup y.1 = some .cell ∧ ((cellsFrom (s.heap.objs.size + 1) scope.names []).lookup y.1).isSome = true) := fun ⟨n, v⟩ hy => by
    rcases S.par n (List.of_mem_zip hy).1 with q | q
    · exact .inl q
    · exact .inr ⟨q, PySem.W.cellsFrom_some _ _ _ (.inl q)⟩
  refine codeAny_call_function hr.depth (KX _ _ lk) rfl S.co S.gen rfl (PySem.W.codeRec_of KX hcd) (hb _ _ _ _ ?_)
  refine wpAny_newFunctionEnv_cells S.kind hkind fun env he s1 x => ?_
  subst he
  refine ⟨lim.keeps x.toInCall.keep, codeAny_func ?_⟩
  obtain ⟨t, ht, hq⟩ := hbody A outer s H vs Q E (hr.deeper _) hsp
  have I : Inv (cxOf CX P w K mg base N qual scope f cdv A outer s H E) [] (start N vs) H s1 := inv_start S hr.hd e0 hl r x
  refine wpAny_mono (ht [] s1 (start N vs) H _ I hq) (fun fl s' hs => ?_) fun e s' hs => hs
  have fin : ∀ {σ' : St} {H' : Hp} {v : V} {u : Value}, Inv (cxOf CX P w K mg base N qual scope f cdv A outer s H E) [] σ' H' s' → RelV v u → Q v H' → CE outer P w H s Q u s' :=
    fun {σ' H' v u} J rv q => ⟨v, H', J.os, J.bare, J.base, J.hok, rv, q⟩
  cases fl with
  | ret u =>
    obtain ⟨v, σ', H', J, rv, q⟩ := hs
    exact fin J rv q
  | next =>
    obtain ⟨σ', H', J, q⟩ := hs
    exact fin (v := V.non) (u := Value.none) J rfl q
  | brk =>
    obtain ⟨_, _, _, q⟩ := hs
    exact False.elim q
  | cont =>
    obtain ⟨_, _, _, q⟩ := hs
    exact False.elim q
end L2
namespace L2
open PySem PySem.Spec PyProof.Rows
section
variable {X : Cx} {x : Str} {p pos : Pos} {e : Expr} {es : List Expr} {t : TA} {id T : String} {r : List V → Hp → VK → Prop}
def tCB (r : List V → Hp → VK → Prop) (t : TA) : TE := fun σ H Q => t σ H fun vs H1 => r vs H1 Q
theorem pe_callB (hc : CallR X (.builtin id) r) (hg : Gl X x) (hm : X.mg x = none) (hv : bootBuiltins x = some (.builtin id)) (ha : PA X (e :: es) t) (hn : x ≠ "__name__" := by decide) (hdb : (x == ("__debug__" : Str)) = false := by decide)
    (he : starEach (e :: es) X.env = (false, eval e X.env) :: starEach es X.env := by rfl) (hpl : (backTo pos (starEach es X.env)).any (·.1) = false := by rfl) : PE X (.Call (.Name x p) (e :: es) [] pos) (tCB r t) := by
  intro pins s σ H Q I h
  refine wpAny_Call_Name_kw (ld_blt I hg hm hv ?_ hn hdb)
  exact PyProof.Rows.callWith_builtin1 (thn (ha pos pins s σ H _ I h) fun us s1 ⟨vs, H1, I1, r1, q1⟩ => hc pins s1 σ H1 vs us Q I1 r1 q1) he hpl
theorem pe_callTy (hc : CallR X (.type T) r) (hg : Gl X x) (hm : X.mg x = none) (hv : bootBuiltins x = some (.type T)) (ha : PA X (e :: es) t) (hn : x ≠ "__name__" := by decide) (hdb : (x == ("__debug__" : Str)) = false := by decide)
    (he : starEach (e :: es) X.env = (false, eval e X.env) :: starEach es X.env := by rfl) (hpl : (backTo pos (starEach es X.env)).any (·.1) = false := by rfl) : PE X (.Call (.Name x p) (e :: es) [] pos) (tCB r t) := by
  intro pins s σ H Q I h
  refine wpAny_Call_Name_kw (ld_blt I hg hm hv ?_ hn hdb)
  exact PyProof.Rows.callWith_type1 (thn (ha pos pins s σ H _ I h) fun us s1 ⟨vs, H1, I1, r1, q1⟩ => hc pins s1 σ H1 vs us Q I1 r1 q1) he hpl
end
end L2
namespace HT
open PySem PyProof.Rows
section
open PySem.SeqAt
open PySem.AutoSeq1 (wpAny_loadPart')
open PySem.MeetsSeq PySem.MeetsSeq2 PySem.MeetsSeq3
end
section
variable {prog : Program} {w : World} {A : Around} {E : Value → Shared → Prop} {s : Shared}
def sIx (n d : Nat) : Option Int → Nat
  | none => d
  | some v => if v < 0 then (v + (n : Int)).toNat else min v.toNat n
theorem sIx_nat (n d k : Nat) : sIx n d (some (k : Int)) = min k n := by
  show (if (k : Int) < 0 then ((k : Int) + (n : Int)).toNat else min (k : Int).toNat n) = min k n
  rw [if_neg (by omega), Int.toNat_natCast]
end
end HT
namespace L2
open PySem PySem.Spec PyProof.Rows
abbrev TO := St → Hp → (Option Int → Hp → Prop) → Prop
def PO (X : Cx) (e : Option Expr) (t : TO) : Prop :=
  ∀ (pins : List (Addr × Obj)) (s : Shared) (σ : St) (H : Hp) (Q : Option Int → Hp → Prop), Inv X pins σ H s → t σ H Q →
    wpAny (model X.prog X.w) X.A (evalPart e X.env) (fun u s' => ∃ o H', Inv X pins σ H' s' ∧ IsPart u o ∧ Q o H') X.xe s
def tNoPart : TO := fun _ H Q => Q none H
def tPart (t : TE) : TO := fun σ H Q => t σ H fun x H1 => ∃ i, x = .int i ∧ Q (some i) H1

section
variable {X : Cx} {e : Expr} {te : TE} {lo hi : Option Expr} {tl th : TO} {pos p2 : Pos}
theorem po_none : PO X none tNoPart := by
  intro pins s σ H Q I h
  rw [evalPart_none]
  exact wpAny_pure ⟨none, H, I, .none, h⟩
theorem po_some (h : PE X e te) : PO X (some e) (tPart te) := by
  intro pins s σ H Q I hw
  rw [evalPart_some]
  refine thn (h pins s σ H _ I hw) fun u s1 ⟨x, H1, I1, r1, q1⟩ => ?_
  obtain ⟨i, rfl, q⟩ := q1
  obtain ⟨t, rfl⟩ := r1
  exact ⟨some i, H1, I1, .int i t, q⟩

def SlR (X : Cx) (r : V → Option Int → Option Int → Hp → VK → Prop) : Prop :=
  ∀ (pins : List (Addr × Obj)) (s : Shared) (σ : St) (H : Hp) (x : V) (v vl vu : Value) (lo hi : Option Int) (sl : Addr) (Q : VK), Inv X pins σ H s → RelV x v → s.heap.IsSliceOf sl vl vu .none → IsPart vl lo → IsPart vu hi → r x lo hi H Q →
    ∃ T id, typeLookup (.type T) "__getitem__" = pure (some (.builtin id)) ∧ s.TypeIs v T ∧ wpAny (model X.prog X.w) X.A (getItem v (.ref sl)) (EP X pins σ Q) X.xe s
def tSl (r : V → Option Int → Option Int → Hp → VK → Prop) (te : TE) (tl th : TO) : TE := fun σ H Q => te σ H fun x H1 => tl σ H1 fun l H2 => th σ H2 fun u H3 => r x l u H3 Q
theorem pe_slice {r : V → Option Int → Option Int → Hp → VK → Prop} (hr : SlR X r) (he : PE X e te) (hl : PO X lo tl) (hu : PO X hi th) : PE X (.Subscript e (.Slice lo hi none p2) pos) (tSl r te tl th) := by
  intro pins s σ H Q I h
  refine Subscript_ (thn (he pins s σ H _ I h) fun v s1 ⟨x, H1, I1, r1, q1⟩ => ?_)
  refine wpAny_Slice (thn (hl pins s1 σ H1 _ I1 q1) fun vl s2 ⟨l, H2, I2, pl, q2⟩ => thn (hu pins s2 σ H2 _ I2 q2) fun vu s3 ⟨u, H3, I3, pu, q3⟩ => ?_)
  rw [evalPart_none]
  refine wpAny_pure ?_
  have I4 : Inv X pins σ H3 { s3 with heap := s3.heap.push { cls := .type "slice", data := .fields #[vl, vu, .none] } } := I3.kept (t' := s3.toks) fun b ob q => Heap.get?_push_of_some _ q
  obtain ⟨T, id, hT, ht, hg⟩ := hr pins { s3 with heap := s3.heap.push { cls := .type "slice", data := .fields #[vl, vu, .none] } } σ H3 x v vl vu l u s3.heap.objs.size Q I4 r1 (Heap.IsSliceOf.new ..) pl pu q3
  show wpAny (model X.prog X.w) X.A (subscriptTail e (.Slice lo hi none p2) v (.ref s3.heap.objs.size)) (EP X pins σ Q) X.xe { s3 with heap := s3.heap.push { cls := .type "slice", data := .fields #[vl, vu, .none] } }
  exact tail_any (ops := [.ref s3.heap.objs.size, v]) ht hT hg (by with_unfolding_all rfl)

def cutV (xs : List V) (lo hi : Option Int) : List V := (xs.drop (HT.sIx xs.length 0 lo)).take (HT.sIx xs.length xs.length hi - HT.sIx xs.length 0 lo)
theorem cutV_length (xs : List V) (lo hi : Option Int) : (cutV xs lo hi).length ≤ xs.length := by
  unfold cutV
  rw [List.length_take, List.length_drop]
  omega
end
end L2
namespace L2
open PySem PySem.Spec PyProof.Rows
def ixN (n : Nat) (i : Int) : Option Nat := if 0 ≤ i then (if i < n then some i.toNat else none) else if -(n : Int) ≤ i then some (i + n).toNat else none
def atI {α : Type} (xs : List α) (i : Int) : Option α := (ixN xs.length i).bind fun j => xs[j]?
theorem ixN_seq {n : Nat} {i : Int} {j : Nat} (h : ixN n i = some j) : seqIndex? i n = some j ∧ j < n ∧ -(n : Int) ≤ i ∧ i < n := by
  unfold ixN at h
  by_cases h0 : 0 ≤ i
  · rw [if_pos h0] at h
    by_cases h1 : i < n
    · rw [if_pos h1] at h
      have e : i.toNat = j := Option.some.inj h
      exact ⟨by rw [seqIndex_of h0 h1, e], by omega, by omega, h1⟩
    · rw [if_neg h1] at h; cases h
  · rw [if_neg h0] at h
    by_cases h1 : -(n : Int) ≤ i
    · rw [if_pos h1] at h
      have e : (i + n).toNat = j := Option.some.inj h
      exact ⟨by rw [seqIndex_neg (by omega) h1, e], by omega, h1, by omega⟩
    · rw [if_neg h1] at h; cases h
theorem atI_get {α : Type} {xs : List α} {i : Int} {v : α} (h : atI xs i = some v) : ∃ j, seqIndex? i xs.length = some j ∧ xs[j]? = some v ∧ j < xs.length ∧ -(xs.length : Int) ≤ i ∧ i < xs.length := by
  unfold atI at h
  cases e : ixN xs.length i with
  | none => rw [e] at h; cases h
  | some j =>
    rw [e] at h
    obtain ⟨h1, h2, h3, h4⟩ := ixN_seq e
    exact ⟨j, h1, h, h2, h3, h4⟩
theorem atI_nat {α : Type} {xs : List α} {j : Nat} {v : α} (h : xs[j]? = some v) : atI xs (j : Int) = some v := by
  have hj : j < xs.length := (List.getElem?_eq_some_iff.mp h).1
  have e : ixN xs.length (j : Int) = some j := by
    unfold ixN
    rw [if_pos (by omega), if_pos (by omega)]; simp
  unfold atI; rw [e]; exact h
def PlainIx (b : Expr) : Prop := ∀ o i, subscripted b false o i = operate [o, i] (getItem o i)
def IxR (X : Cx) (r : R2) : Prop :=
  ∀ (value slice : Expr) (pins : List (Addr × Obj)) (s : Shared) (σ : St) (H : Hp) (x y : V) (v u : Value) (Q : VK), Inv X pins σ H s → RelV x v → RelV y u → r x y H Q →
    subscripted slice false v u = operate [v, u] (getItem v u) → wpAny (model X.prog X.w) X.A (subscriptTail value slice v u) (EP X pins σ Q) X.xe s
def MtR (X : Cx) (id : String) (r : V → List V → Hp → VK → Prop) : Prop :=
  ∀ (pins : List (Addr × Obj)) (s : Shared) (σ : St) (H : Hp) (x : V) (xs : List V) (v : Value) (us : List Value) (Q : VK), Inv X pins σ H s → RelV x v → Vals xs us → r x xs H Q →
    wpAny (model X.prog X.w) X.A (call (.builtin id) (v :: us)) (EP X pins σ Q) X.xe s
section
variable {X : Cx} {a b : Expr} {ta tb : TE} {pos : Pos}
theorem pe_ix {r : R2} (hr : IxR X r) (ha : PE X a ta) (hb : PE X b tb) (hs : PlainIx b) : PE X (.Subscript a b pos) (tOp r ta tb) := by
  intro pins s σ H Q I h
  exact Subscript_ (binT ha hb I h fun v u s2 x y H2 I2 rx ry q => hr a b pins s2 σ H2 x y v u Q I2 rx ry q (hs _ _))

def rIxL (K : PySem.W.Frag) : R2 := fun x y H Q => ∃ p xs i v, x = .ref p ∧ y = .int i ∧ SqL K H p xs ∧ atI xs i = some v ∧ Q v H
def rIxT (K : PySem.W.Frag) : R2 := fun x y H Q => ∃ p xs i v, x = .ref p ∧ y = .int i ∧ SqT K H p xs ∧ atI xs i = some v ∧ Q v H
def rIxS : R2 := fun x y H Q => ∃ z i c, x = .str z ∧ y = .int i ∧ z.length ≤ sizeLine ∧ atI z.cps.toList i = some c ∧ Q (.str ⟨#[c]⟩) H
theorem ix_list : IxR X (rIxL X.K) := by
  intro value slice pins s σ H x y v u Q I rx ry h hs
  obtain ⟨p, xs, i, z, rfl, rfl, hq, he, q⟩ := h
  cases rx
  obtain ⟨t, rfl⟩ := ry
  obtain ⟨its, r, pl, hz⟩ := I.list hq
  obtain ⟨j, h1, h2, h3, h4, h5⟩ := atI_get he
  obtain ⟨w, ew, rw'⟩ := r.get h2
  have hl := r.length
  have hn := line63
  have fin : EP X pins σ Q w s := ⟨z, H, I, rw', q⟩
  by_cases h0 : 0 ≤ i
  · have hj : i.toNat = j := by
      rw [seqIndex_of h0 h5] at h1
      exact Option.some.inj h1
    exact item_listR pl.isList h0 (by omega) (by rw [hj]; simpa using ew) fin hs
  · have hj : (i + (its.toArray.size : Int)).toNat = j := by
      rw [seqIndex_neg (by omega) h4] at h1
      rw [List.size_toArray, ← hl]
      exact Option.some.inj h1
    exact subscriptTail_builtinR (x := w) pl.isList.typeIs slot_list_getitem.lookup
      (wpAny_getItem_list_neg (Q := fun r s' => r = w ∧ EP X pins σ Q r s') pl.isList (by omega) (by rw [List.size_toArray] <;> omega) (by omega) (by rw [hj]; simpa using ew) ⟨rfl, fin⟩) hs
theorem ix_tup : IxR X (rIxT X.K) := by
  intro value slice pins s σ H x y v u Q I rx ry h hs
  obtain ⟨p, xs, i, z, rfl, rfl, hq, he, q⟩ := h
  cases rx
  obtain ⟨t, rfl⟩ := ry
  obtain ⟨its, r, pl, hz⟩ := I.tuple hq
  obtain ⟨j, h1, h2, h3, h4, h5⟩ := atI_get he
  obtain ⟨w, ew, rw'⟩ := r.get h2
  have hl := r.length
  have hn := line63
  have fin : EP X pins σ Q w s := ⟨z, H, I, rw', q⟩
  exact subscriptTail_builtinR (x := w) pl.typeIs slot_tuple_getitem.lookup
    (getItem_tuple (j := j) (Q := fun r s' => r = w ∧ EP X pins σ Q r s') pl (by omega) (by omega) (by rw [List.size_toArray, ← hl]; exact h1) (by simpa using ew) ⟨rfl, fin⟩) hs
theorem ix_str : IxR X rIxS := by
  intro value slice pins s σ H x y v u Q I rx ry h hs
  obtain ⟨z, i, c, rfl, rfl, hz, he, q⟩ := h
  obtain ⟨t, rfl⟩ := rx
  obtain ⟨t', rfl⟩ := ry
  obtain ⟨j, h1, h2, h3, h4, h5⟩ := atI_get he
  have hl : z.cps.toList.length = z.length := by simp [Str.length]
  rw [hl] at h1 h4 h5
  have hn := line63
  exact tail_any (typeIs_str s z t) slot_str_getitem.lookup (getItem_str (c := c) (by
    have e1 : decide (i < -(2 ^ 63 : Int)) = false := decide_eq_false (by omega)
    have e2 : decide (i ≥ 2 ^ 63) = false := decide_eq_false (by omega)
    rw [e1, e2, Bool.or_false]) (by rw [h1]; simpa using h2) ⟨.str ⟨#[c]⟩, H, I.tok _, ⟨_, rfl⟩, q⟩) hs
theorem Inv.lst {pins : List (Addr × Obj)} {σ : St} {H : Hp} {s : Shared} {p : Addr} {xs : List V} (I : Inv X pins σ H s) (h : H p = some (.lst xs)) :
    ∃ (its : List Value) (n : Nat), Vals xs its ∧ s.heap.get? p = some { cls := .type "list", data := .seq its.toArray n } ∧ xs.length ≤ sizeLine := by
  obtain ⟨z, its, n, r, e⟩ := I.hok p _ h
  exact ⟨its, n, r, e, z⟩
theorem slice_bounds (lo hi : Option Int) (n : Nat) : (sliceBounds lo hi none n).1 = ((HT.sIx n 0 lo : Nat) : Int) ∧ (sliceBounds lo hi none n).2.1 = ((HT.sIx n n hi : Nat) : Int) ∧ (sliceBounds lo hi none n).2.2 = 1 := by
  refine ⟨?_, ?_, rfl⟩
  · cases lo with
    | none => simp [sliceBounds, HT.sIx]
    | some i =>
      simp only [sliceBounds, HT.sIx, Option.getD_none, show (1 : Int) > 0 by decide, if_true]
      by_cases h : i < 0
      · simp only [h, if_true] <;> omega
      · simp only [h, if_false] <;> omega
  · cases hi with
    | none => simp [sliceBounds, HT.sIx]
    | some i =>
      simp only [sliceBounds, HT.sIx, Option.getD_none, show (1 : Int) > 0 by decide, if_true]
      by_cases h : i < 0
      · simp only [h, if_true] <;> omega
      · simp only [h, if_false] <;> omega
theorem slicePick_cut (its : List Value) (lo hi : Option Int) : slicePick its.toArray lo hi none = ((its.drop (HT.sIx its.length 0 lo)).take (HT.sIx its.length its.length hi - HT.sIx its.length 0 lo)).toArray := by
  obtain ⟨h1, h2, h3⟩ := slice_bounds lo hi its.toArray.size
  unfold slicePick
  rw [h1, h2, h3]
  simp only [sliceRange_one, pick_run, List.size_toArray] <;> rfl
def rSlL (K : PySem.W.Frag) : V → Option Int → Option Int → Hp → VK → Prop := fun x lo hi H Q => ∃ a xs, x = .ref a ∧ SqL K H a xs ∧ ∀ p, H p = none → Q (.ref p) (upd H p (.lst (cutV xs lo hi)))
theorem sl_list : SlR X (rSlL X.K) := by
  intro pins s σ H x v vl vu lo hi sl Q I rx hs pl pu h
  obtain ⟨a, xs, rfl, hx, q⟩ := h
  cases rx
  obtain ⟨its, r, ht, hz⟩ := I.list hx
  have hlen := r.length
  refine ⟨"list", _, slot_list_getitem.lookup, ht.isList.typeIs, ?_⟩
  refine wpAny_getItem_list_slice ht.isList hs pl pu .none (by simp) ?_ (by rw [List.size_toArray] <;> omega)
  rw [slicePick_cut, ← hlen]
  refine ⟨.ref s.heap.objs.size, _, I.laid (t' := s.toks) (o := .lst (cutV xs lo hi)) (fun b ob q => Heap.get?_push_of_some _ q) (Nat.le_refl _) ?_, rfl, q _ (I.hok.fresh (Nat.le_refl _))⟩
  exact ⟨Nat.le_trans (cutV_length xs lo hi) hz, _, 0, (r.drop (HT.sIx xs.length 0 lo)).take (HT.sIx xs.length xs.length hi - HT.sIx xs.length 0 lo), Heap.get?_push_size _ rfl⟩

def flatV : V → Bool
  | .non => true
  | .bl _ => true
  | .int _ => true
  | .str _ => true
  | _ => false
def eqV : V → V → Bool
  | .non, .non => true
  | .bl a, .bl b => a == b
  | .bl a, .int b => (if a then 1 else 0) == b
  | .int a, .bl b => a == (if b then 1 else 0)
  | .int a, .int b => a == b
  | .str a, .str b => a == b
  | _, _ => false
theorem eqAt_V {A : Around} {s : Shared} {y x : V} {u v : Value} (ry : RelV y u) (rx : RelV x v) (fy : flatV y = true) (fx : flatV x = true) : SeqAt.EqAt A s u v (eqV y x) := by
  cases y with
  | non =>
    cases ry
    cases x with
    | non => cases rx; exact SeqAt.EqAt.same _
    | bl b => cases rx; exact SeqAt.EqAt.none_bool b
    | int b => obtain ⟨t, rfl⟩ := rx; exact SeqAt.EqAt.none_int b t
    | str b => obtain ⟨t, rfl⟩ := rx; exact SeqAt.EqAt.none_str b t
    | _ => exact absurd (show false = true from fx) Bool.false_ne_true
  | bl a =>
    cases ry
    cases x with
    | non => cases rx; exact SeqAt.EqAt.bool_none a
    | bl b => cases rx; exact SeqAt.EqAt.bool_bool a b
    | int b => obtain ⟨t, rfl⟩ := rx; exact SeqAt.EqAt.bool_int a b t
    | str b => obtain ⟨t, rfl⟩ := rx; exact SeqAt.EqAt.bool_str a b t
    | _ => exact absurd (show false = true from fx) Bool.false_ne_true
  | int a =>
    obtain ⟨t', rfl⟩ := ry
    cases x with
    | non => cases rx; exact SeqAt.EqAt.int_none a t'
    | bl b => cases rx; exact SeqAt.EqAt.int_bool a t' b
    | int b => obtain ⟨t, rfl⟩ := rx; exact SeqAt.EqAt.int_int a t' b t
    | str b => obtain ⟨t, rfl⟩ := rx; exact SeqAt.EqAt.int_str a t' b t
    | _ => exact absurd (show false = true from fx) Bool.false_ne_true
  | str a =>
    obtain ⟨t', rfl⟩ := ry
    cases x with
    | non => cases rx; exact SeqAt.EqAt.str_none a t'
    | bl b => cases rx; exact SeqAt.EqAt.str_bool a t' b
    | int b => obtain ⟨t, rfl⟩ := rx; exact SeqAt.EqAt.str_int a t' b t
    | str b => obtain ⟨t, rfl⟩ := rx; exact SeqAt.EqAt.str_str a t' b t
    | _ => exact absurd (show false = true from fx) Bool.false_ne_true
  | _ => exact absurd (show false = true from fy) Bool.false_ne_true
def eqU (x : V) (u : Value) : Bool := match u with
  | .none => eqV .non x
  | .bool b => eqV (.bl b) x
  | .int i _ => eqV (.int i) x
  | .str z _ => eqV (.str z) x
  | _ => false
theorem eqU_of {x y : V} {u : Value} (r : RelV y u) (f : flatV y = true) : eqU x u = eqV y x := by
  cases y with
  | non => cases r; rfl
  | bl b => cases r; rfl
  | int i => obtain ⟨t, rfl⟩ := r; rfl
  | str z => obtain ⟨t, rfl⟩ := r; rfl
  | _ => exact absurd (show false = true from f) Bool.false_ne_true
theorem any_eqU {x : V} : ∀ {xs : List V} {us : List Value}, Vals xs us → xs.all flatV = true → us.any (eqU x) = xs.any fun y => eqV y x
  | _, _, .nil, _ => rfl
  | y :: xs, u :: us, .cons r t, f => by
    rw [List.all_cons, Bool.and_eq_true] at f
    rw [List.any_cons, List.any_cons, eqU_of r f.1, any_eqU t f.2]
theorem mem_eqAt {A : Around} {s : Shared} {x : V} {v : Value} (rx : RelV x v) (fx : flatV x = true) : ∀ {xs : List V} {us : List Value}, Vals xs us → xs.all flatV = true → ∀ u ∈ us, SeqAt.EqAt A s u v (eqU x u)
  | _, _, .nil, _ => fun u hu => by cases hu
  | y :: xs, u :: us, .cons r t, f => fun u' hu => by
    rw [List.all_cons, Bool.and_eq_true] at f
    rcases List.mem_cons.mp hu with rfl | hu
    · rw [eqU_of r f.1]; exact eqAt_V r rx f.1 fx
    · exact mem_eqAt rx fx t f.2 u' hu
def inV (x : V) (xs : List V) : Bool := xs.any fun y => eqV y x
def rIn (K : PySem.W.Frag) (neg : Bool) : R2 := fun x y H Q => ∃ p xs, y = .ref p ∧ (SqL K H p xs ∨ SqT K H p xs) ∧ flatV x = true ∧ xs.all flatV = true ∧ Q (.bl (if neg then !inV x xs else inV x xs)) H
theorem op_in_seq : OpR X (compareOp .In) (rIn X.K false) := by
  intro pins s σ H x y v u Q I rx ry h
  obtain ⟨p, xs, rfl, hq, fx, fs, q⟩ := h
  cases ry
  rcases hq with hq | hq
  · obtain ⟨its, r, pl, hz⟩ := I.list hq
    refine SeqAt.in_listAt (eqU x) pl.isList (fun w hw => mem_eqAt rx fx r fs w (by simpa using hw)) ⟨.bl _, H, I, rfl, ?_⟩
    rw [show its.toArray.any (eqU x) = its.any (eqU x) by simp, any_eqU r fs]
    exact q
  · obtain ⟨its, r, pl, hz⟩ := I.tuple hq
    refine SeqAt.in_tupleAt (eqU x) pl (fun w hw => mem_eqAt rx fx r fs w (by simpa using hw)) ⟨.bl _, H, I, rfl, ?_⟩
    rw [show its.toArray.any (eqU x) = its.any (eqU x) by simp, any_eqU r fs]
    exact q
theorem call_len_seq : CallR X (.builtin "len") (fun xs H Q => ∃ p ys, xs = [.ref p] ∧ (SqL X.K H p ys ∨ SqT X.K H p ys) ∧ Q (.int ys.length) H) := by
  intro pins s σ H xs us Q I r h
  obtain ⟨p, ys, rfl, hq, q⟩ := h
  obtain ⟨u, rfl, rx⟩ := vals1 r
  cases rx
  have hn := line63
  rcases hq with hq | hq
  · obtain ⟨its, r', pl, hz⟩ := I.list hq
    have hlen := r'.length
    exact Calls.call_len_list pl.isList (by simp only [List.size_toArray] <;> omega) ⟨.int ys.length, H, I.tok _, ⟨s.toks + 1, by rw [List.size_toArray, hlen]⟩, q⟩
  · obtain ⟨its, r', pl, hz⟩ := I.tuple hq
    have hlen := r'.length
    exact len_tuple pl (by simp only [List.size_toArray] <;> omega) ⟨.int ys.length, H, I.tok _, ⟨s.toks + 1, by rw [List.size_toArray, hlen]⟩, q⟩
theorem call_len_str : CallR X (.builtin "len") (fun xs H Q => ∃ z, xs = [.str z] ∧ z.length ≤ sizeLine ∧ Q (.int z.length) H) := by
  intro pins s σ H xs us Q I r h
  obtain ⟨z, rfl, hz, q⟩ := h
  obtain ⟨u, rfl, t, rfl⟩ := vals1 r
  have hn := line63
  exact len_str (by omega) ⟨.int z.length, H, I.tok _, ⟨_, rfl⟩, q⟩
theorem call_list_of : CallR X (.type "list") (fun xs H Q => ∃ p ys, xs = [.ref p] ∧ (SqL X.K H p ys ∨ SqT X.K H p ys) ∧ ∀ l, H l = none → Q (.ref l) (upd H l (.lst ys))) := by
  intro pins s σ H xs us Q I r h
  obtain ⟨p, ys, rfl, hq, q⟩ := h
  obtain ⟨u, rfl, rx⟩ := vals1 r
  cases rx
  have fin : ∀ (its : List Value), Vals ys its → ys.length ≤ sizeLine → ∀ (h' : Heap) (c' : Nat), (∀ b o', s.heap.get? b = some o' → h'.get? b = some o') →
      h'.get? s.heap.objs.size = some { cls := .type "list", dict := none, data := .seq its.toArray c', slots := #[] } → EP X pins σ Q (.ref s.heap.objs.size) { s with heap := h' } := fun its r' hz h' c' kp e =>
    ⟨.ref s.heap.objs.size, _, I.laid (t' := s.toks) kp (Nat.le_refl _) (show ObjOk X.prog X.w _ h' _ (.lst ys) from ⟨hz, its, c', r', e⟩), rfl, q _ (I.hok.fresh (Nat.le_refl _))⟩
  rcases hq with hq | hq
  · obtain ⟨its, r', pl, hz⟩ := I.list hq
    have hlen := r'.length
    obtain ⟨o, ho, hc, n, hd⟩ := pl.isList
    exact call_list_seq p (.inl rfl) ho hc hd (fun h' c' kp e => fin its r' hz h' c' kp e) (by simp only [List.size_toArray] <;> omega)
  · obtain ⟨its, r', pl, hz⟩ := I.tuple hq
    have hlen := r'.length
    obtain ⟨o, ho, hc, n, hd⟩ := pl
    exact call_list_seq p (.inr rfl) ho hc hd (fun h' c' kp e => fin its r' hz h' c' kp e) (by simp only [List.size_toArray] <;> omega)
theorem call_tuple_of : CallR X (.type "tuple") (fun xs H Q => ∃ p ys, xs = [.ref p] ∧ ((SqL X.K H p ys ∧ ∀ l, H l = none → Q (.ref l) (upd H l (.tup ys))) ∨ (SqT X.K H p ys ∧ Q (.ref p) H))) := by
  intro pins s σ H xs us Q I r h
  obtain ⟨p, ys, rfl, h⟩ := h
  obtain ⟨u, rfl, rx⟩ := vals1 r
  cases rx
  rcases h with ⟨hq, q⟩ | ⟨hq, q⟩
  · obtain ⟨its, r', pl, hz⟩ := I.list hq
    have hlen := r'.length
    refine call_tuple_list pl.isList (fun h' kp => ?_) (by simp only [List.size_toArray] <;> omega)
    have I1 : Inv X pins σ H { s with heap := h' } := I.kept (t' := s.toks) kp
    have I2 : Inv X pins σ (upd H h'.objs.size (.tup ys)) { s with heap := h'.push { cls := .type "tuple", data := .seq its.toArray } } :=
      I1.laid (t' := s.toks) (fun b o e => Heap.get?_push_of_some _ e) (Nat.le_refl _) (show ObjOk X.prog X.w _ _ _ (.tup ys) from ⟨hz, its, r', IsTup.new _ _⟩)
    exact ⟨.ref h'.objs.size, _, I2, rfl, q _ (I1.hok.fresh (Nat.le_refl _))⟩
  · obtain ⟨its, r', pl, hz⟩ := I.tuple hq
    exact call_tuple_same pl ⟨.ref p, H, I, rfl, q⟩

def tyV (K : PySem.W.Frag) (T : String) (x : V) (H : Hp) : Prop := match x with
  | .str _ => T = "str"
  | .int _ => T = "int"
  | .ref p => (T = "list" ∧ ∃ xs, SqL K H p xs) ∨ (T = "tuple" ∧ ∃ o, K.lookup p = some o ∧ o.cls = .type "tuple" ∧ o.dict = none) ∨
      (T = "dict" ∧ ((∃ kvs, H p = some (.dK kvs)) ∨ ∃ kvs, H p = some (.dT kvs))) ∨ (T = "set" ∧ ∃ S n, H p = some (.set S n))
  | _ => False
theorem tyV_is {pins : List (Addr × Obj)} {σ : St} {H : Hp} {s : Shared} {T : String} {x : V} {v : Value} (I : Inv X pins σ H s) (r : RelV x v) (ty : tyV X.K T x H) :
    s.TypeIs v T ∧ ∀ a, v = .ref a → ∃ ob, s.heap.get? a = some ob ∧ ob.dict = none := by
  cases x with
  | str z =>
    obtain ⟨t, rfl⟩ := r
    cases (show T = "str" from ty)
    exact ⟨typeIs_str s z t, fun _ e => nomatch e⟩
  | int i =>
    obtain ⟨t, rfl⟩ := r
    cases (show T = "int" from ty)
    exact ⟨typeIs_int s i t, fun _ e => nomatch e⟩
  | ref p =>
    cases r
    rcases ty with ⟨rfl, xs, hq⟩ | ⟨rfl, o, hk, hc, hd⟩ | ⟨rfl, hk⟩ | ⟨rfl, S, n, hk⟩
    · obtain ⟨its, _, pl, _⟩ := I.list hq
      refine ⟨pl.isList.typeIs, fun a e => ?_⟩
      cases e
      obtain ⟨o, n, e, c, hd, _⟩ := pl
      exact ⟨o, e, hd⟩
    · refine ⟨⟨o, I.kIn p o hk, hc⟩, fun a e => ?_⟩
      cases e
      exact ⟨o, I.kIn _ o hk, hd⟩
    · have z : ∃ o, s.heap.get? p = some o ∧ o.ExactDict := by
        rcases hk with ⟨kvs, hk⟩ | ⟨kvs, hk⟩
        · obtain ⟨_, _, _, _, o, _, _, e, ex, _⟩ := I.hok p _ hk
          exact ⟨o, e, ex⟩
        · obtain ⟨_, _, _, _, o, _, _, e, ex, _⟩ := I.hok p _ hk
          exact ⟨o, e, ex⟩
      obtain ⟨o, e, ex⟩ := z
      refine ⟨⟨o, e, ex.1⟩, fun a e2 => ?_⟩
      cases e2
      exact ⟨o, e, ex.2.1⟩
    · obtain ⟨o, _, _, _, e, ex, _⟩ := I.hok p _ hk
      refine ⟨⟨o, e, ex.1⟩, fun a e2 => ?_⟩
      cases e2
      exact ⟨o, e, ex.2.1⟩
  | _ => exact False.elim ty
def tBM0 (K : PySem.W.Frag) (T : String) (r : V → List V → Hp → VK → Prop) (to : TE) : TE := fun σ H Q => to σ H fun x H1 => tyV K T x H1 ∧ r x [] H1 Q
def tBM (K : PySem.W.Frag) (T : String) (r : V → List V → Hp → VK → Prop) (to : TE) (t : TA) : TE := fun σ H Q => to σ H fun x H1 => tyV K T x H1 ∧ t σ H1 fun xs H2 => r x xs H2 Q
variable {o e : Expr} {es : List Expr} {to : TE} {t : TA} {name : Str} {apos cpos : Pos} {T id : String} {r : V → List V → Hp → VK → Prop}
theorem pe_bm0 (pa : PlainAttrs T) (slot : Slot T name id) (hty : typeOf (.builtin id) = pure (.type "method_descriptor")) (hm : MtR X id r) (ho : PE X o to)
    (hbase : attributeBase o name X.env (eval o X.env) = eval o X.env := by rfl) (hline : (apos.endLine == cpos.line) = true := by rfl) : PE X (.Call (.Attribute o name apos) [] [] cpos) (tBM0 X.K T r to) := by
  intro pins s σ H Q I h
  refine wpAny_Call_method0_late hbase hline (thn (ho pins s σ H _ I h) fun v s1 ⟨x, H1, I1, r1, ty, q1⟩ => ?_)
  obtain ⟨h1, h2⟩ := tyV_is I1 r1 ty
  exact ⟨T, id, pa, slot, hty, h1, h2, Calls.callWith_builtin rfl (PySem.evalArgs_none (hm pins s1 σ H1 x [] v [] Q I1 r1 .nil q1))⟩
theorem pe_bm (pa : PlainAttrs T) (slot : Slot T name id) (hty : typeOf (.builtin id) = pure (.type "method_descriptor")) (hm : MtR X id r) (ho : PE X o to) (ha : PA X (e :: es) t)
    (hbase : attributeBase o name X.env (eval o X.env) = eval o X.env := by rfl)
    (hfew : ((backTo cpos (starEach (e :: es) X.env)).all (fun x => !x.1) && (backToKw cpos (keywordEach [] X.env)).all (fun x => x.1.isSome)
      && decide ((e :: es).length + ([] : List Keyword).length + (if ([] : List Keyword).isEmpty then 0 else 1) < 30)) = true := by rfl)
    (hline : (apos.endLine == cpos.line) = true := by rfl) (hs : starEach (e :: es) X.env = (false, eval e X.env) :: starEach es X.env := by rfl) (hplain : (backTo cpos (starEach es X.env)).any (·.1) = false := by rfl) :
    PE X (.Call (.Attribute o name apos) (e :: es) [] cpos) (tBM X.K T r to t) := by
  intro pins s σ H Q I h
  refine wpAny_Call_method_late hbase hfew hline rfl (thn (ho pins s σ H _ I h) fun v s1 ⟨x, H1, I1, r1, ty, q1⟩ => ?_)
  obtain ⟨h1, h2⟩ := tyV_is I1 r1 ty
  refine ⟨T, id, pa, slot, hty, h1, h2, ?_⟩
  have hA := ha cpos pins s1 σ H1 _ I1 q1
  rw [hs] at hA ⊢
  refine Calls.callWith_builtin (by show (false || (backTo cpos (starEach es X.env)).any (·.1)) = false; rw [hplain] <;> rfl) (Calls.evalArgs_plain ?_)
  exact thn hA fun us s2 ⟨vs, H2, I2, r2, q2⟩ => hm pins s2 σ H2 x vs v us Q I2 r1 r2 q2
end
end L2
namespace L2
open PySem PySem.Spec PyProof.Rows
def MtM (X : Cx) (id : String) (r : V → List V → Hp → VK → Prop) : Prop :=
  ∀ (pins : List (Addr × Obj)) (s : Shared) (σ : St) (H : Hp) (x : V) (xs : List V) (v : Value) (us : List Value) (Q : VK), Inv X pins σ H s → RelV x v → Vals xs us → r x xs H Q →
    wpAny (model X.prog X.w) X.A (call (.builtin id) (v :: us)) (EP X pins σ Q) X.xe s

theorem Vals.one : ∀ {x : V} {us : List Value}, Vals [x] us → ∃ u, us = [u] ∧ RelV x u
  | _, _, .cons r .nil => ⟨_, rfl, r⟩
theorem Vals.two : ∀ {x y : V} {us : List Value}, Vals [x, y] us → ∃ u v, us = [u, v] ∧ RelV x u ∧ RelV y v
  | _, _, _, .cons r (.cons q .nil) => ⟨_, _, rfl, r, q⟩
theorem Vals.zero : ∀ {us : List Value}, Vals [] us → us = []
  | _, .nil => rfl
theorem Vals.reverse {xs : List V} {us : List Value} (h : Vals xs us) : Vals xs.reverse us.reverse := by
  induction h with
  | nil => exact .nil
  | cons r t ih => rw [List.reverse_cons, List.reverse_cons]; exact Vals.append ih (.cons r .nil)
section
variable {X : Cx} {pins : List (Addr × Obj)} {σ : St} {H : Hp} {s : Shared} {l b : Addr} {xs ys zs : List V}
theorem Inv.lset {its its' : List Value} {n : Nat} {f : Array Value → Array Value} {t' : Nat} (I : Inv X pins σ H s) (hH : H l = some (.lst xs))
    (e : s.heap.get? l = some { cls := .type "list", data := .seq its.toArray n }) (hf : f its.toArray = its'.toArray) (hv : Vals ys its') (hz : ys.length ≤ sizeLine) :
    Inv X pins σ (upd H l (.lst ys)) { s with heap := s.heap.update l (Obj.mapSeq f), toks := t' } := by
  have q := PySem.IsL.update e f
  rw [hf] at q
  refine I.write (x := l) (e := l) (by rw [hH]; exact trivial) (.inl rfl) (fun b' u hb hu => (Heap.get?_update_other s.heap (Obj.mapSeq f) (Ne.symm hb)).trans hu) ⟨_, q⟩ ?_
  exact ⟨hz, its', _, hv, q⟩
theorem Inv.lnew {its : List Value} {t' : Nat} (I : Inv X pins σ H s) (hv : Vals ys its) (hz : ys.length ≤ sizeLine) :
    Inv X pins σ (upd H s.heap.objs.size (.lst ys)) { s with heap := s.heap.push { cls := .type "list", data := .seq its.toArray }, toks := t' } :=
  I.laid (fun _ _ q => Heap.get?_push_of_some _ q) (Nat.le_refl _) ⟨hz, its, 0, hv, Heap.get?_push_size _ rfl⟩
theorem Inv.fresh (I : Inv X pins σ H s) : H s.heap.objs.size = none := I.hok.fresh (Nat.le_refl _)
theorem Inv.lstM (I : Inv X pins σ H s) (hH : H l = some (.lst xs)) : xs.length ≤ sizeLine ∧ ∃ (its : List Value) (n : Nat), Vals xs its ∧ xs.length = its.length ∧ s.heap.get? l = some { cls := .type "list", data := .seq its.toArray n } := by
  obtain ⟨z, its, n, r, e⟩ := I.hok l _ hH
  exact ⟨z, its, n, r, r.length, e⟩

end
section
variable {X : Cx}
def rAppend : V → List V → Hp → VK → Prop := fun x vs H Q => ∃ l xs y, x = .ref l ∧ vs = [y] ∧ H l = some (.lst xs) ∧ xs.length < sizeLine ∧ Q .non (upd H l (.lst (xs ++ [y])))
theorem mt_append : MtM X "list.append" rAppend := by
  intro pins s σ H x vs v us Q I rx rv h
  obtain ⟨l, xs, y, rfl, rfl, hH, hz, q⟩ := h
  cases rx
  obtain ⟨u, rfl, ru⟩ := rv.one
  obtain ⟨z, its, n, r, hl, e⟩ := I.lstM hH
  refine call_meets F.slot_list_append ⟨_, e, rfl⟩ F.entry_list_append (F.args_list_append_2 _ _) (PySem.list_append l its.toArray n u (by rw [List.size_toArray]; omega)) ⟨e, ?_⟩
  refine ⟨.non, _, I.lset (its' := its ++ [u]) hH e (by simp) (r.append (.cons ru .nil)) ?_, rfl, q⟩
  rw [List.length_append, List.length_singleton]
  omega

def rClear : V → List V → Hp → VK → Prop := fun x vs H Q => ∃ l xs, x = .ref l ∧ vs = [] ∧ H l = some (.lst xs) ∧ Q .non (upd H l (.lst []))
theorem mt_clear : MtM X "list.clear" rClear := by
  intro pins s σ H x vs v us Q I rx rv h
  obtain ⟨l, xs, rfl, rfl, hH, q⟩ := h
  cases rx
  have hus := rv.zero
  subst hus
  obtain ⟨z, its, n, r, hl, e⟩ := I.lstM hH
  refine call_meets F.slot_list_clear ⟨_, e, rfl⟩ F.entry_list_clear (F.args_list_clear_1 _) (AutoSeq1.list_clear_list_0 l its.toArray n (by rw [List.size_toArray]; omega)) ⟨e, ?_⟩
  exact ⟨.non, _, I.lset (its' := []) (ys := []) hH e rfl .nil (Nat.zero_le _), rfl, q⟩

def rCat : R2 := fun x y H Q => ∃ l b xs zs, x = .ref l ∧ y = .ref b ∧ H l = some (.lst xs) ∧ H b = some (.lst zs) ∧ xs.length + zs.length ≤ sizeLine ∧ ∀ p, H p = none → Q (.ref p) (upd H p (.lst (xs ++ zs)))
theorem op_cat : OpR X (binaryOp .Add) rCat := by
  intro pins s σ H x y v u Q I rx ry h
  obtain ⟨l, b, xs, zs, rfl, rfl, hH, hB, hz, q⟩ := h
  cases rx
  cases ry
  obtain ⟨z, its, n, r, hl, e⟩ := I.lstM hH
  obtain ⟨z2, its2, n2, r2, hl2, e2⟩ := I.lstM hB
  refine PySem.P.add_list e e2 ?_ (by rw [List.size_toArray, List.size_toArray]; omega)
  have ea : its.toArray ++ its2.toArray = (its ++ its2).toArray := by simp
  rw [ea]
  exact ⟨.ref _, _, I.lnew (t' := s.toks) (r.append r2) (by rw [List.length_append]; omega), rfl, q _ I.fresh⟩
end
section
variable {prog : Program} {w : World} {A : Around} {E : Value → Shared → Prop} {s : Shared}
end
section
variable {X : Cx}
end
end L2
namespace Att
open PySem PySem.W PySem.Calls PyProof.Rows
theorem ints_of_wellAll {P : Params} {h : Heap} : ∀ (ns : List Int) (vs : List Value), WellAll P h vs (ns.map WData.int) → IntsAre vs ns := by
  intro ns
  induction ns with
  | nil =>
    intro vs w
    rw [List.map_nil] at w
    cases w
    exact .nil
  | cons n ns ih =>
    intro vs w
    rw [List.map_cons] at w
    cases w with
    | cons a b =>
      cases a
      exact .cons _ _ (ih _ b)

theorem script_of {l : OpenLaw} {n : Nat} (hn : l.most = some n) {P : Params} {h : Heap} {args : List WData} {vals : List Value}
    (hpre : l.row.toRowW.claim.pre args = true) (hwl : WellAll P h vals args) :
    ∃ a vs ns, vals = [Value.ref a] ∧ args = [WData.list (ns.map WData.int)] ∧ h.get? a = some { cls := .type "list", data := .seq vs.toArray } ∧ IntsAre vs ns ∧ ns.length ≤ n := by
  have hsh : WShape.hasAll [] args [.list .int] = true := (pre_splitW hpre).1
  have hc : l.pre.holds [] { args := args } = true := (pre_splitW hpre).2
  obtain ⟨d, r, rfl, h1, h2⟩ := hasAllW_cons hsh
  obtain rfl := hasAllW_nil h2
  obtain ⟨xs, rfl, h3⟩ := hasW_list h1
  obtain ⟨ns, rfl⟩ := items_int h3
  have hlen : ns.length ≤ n := by
    unfold OpenLaw.pre at hc
    have h4 : (WTm.not (.lt (.lit (.int (n : Int))) (.len (.arg 0)))).holds [] { args := [.list (ns.map .int)] } = true := by
      have h4 := (holds_andW hc).1
      rw [hn] at h4
      exact h4
    have h5 := condW_of h4 (w_not (w_lt w_lit (w_len_list (w_arg rfl))))
    rw [List.length_map] at h5
    refine Nat.le_of_not_lt fun q => ?_
    have q' : (n : Int) < ((ns.length : Nat) : Int) := by omega
    first
      | (rw [decide_eq_true q'] at h5; exact absurd h5 (by decide))
      | (simp at h5; omega)
  cases hwl with
  | cons w1 w2 =>
    cases w2
    cases w1 with
    | list ho hall => exact ⟨_, _, ns, rfl, rfl, ho, ints_of_wellAll ns _ hall, hlen⟩

theorem post_true (l : OpenLaw) (args : List WData) : l.row.toRowW.claim.post args (.bool true) args = true :=
  postW_of (r := l.row.toRowW) (X := (true == true))
    (show WShape.has [] (.bool true) .bool = true by first | rfl | decide | simp [WShape.has, WShape.arms, WShape.armsAll])
    (show (WTm.eq .res (.lit (.bool true))).value [] { args := args, res := some (.bool true), after := args } = some (.bool (true == true)) from w_eq_bool (w_res rfl) w_lit) rfl

theorem attach_call {l : OpenLaw} {n : Nat} {q : Program} {loose : List Str} {XP : (Str → Option Value) → Heap → Prop} {YP : World → Heap → Prop} {d : DefRec}
    (hn : l.most = some n) (hdf : d.params.defaults = [])
    (call : ∀ (w : World) (s₀ s₁ : Shared) (mg mb : Str → Option Value) (fa : Addr) (o : Obj) (pm cd doc : Value) (a : Addr) (vs : List Value) (ns : List Int),
      Ground q loose [] XP w s₀ mg mb s₁.heap → YP w s₁.heap →
      s₁.heap.get? fa = some o → o.data = .func (docDef d.name d.params d.body d.scope pm cd doc) → s₁.heap.CodeRec cd d.name → mg d.name = some (.ref fa) →
      s₁.heap.get? a = some { cls := .type "list", data := .seq vs.toArray } → IntsAre vs ns → ns.length ≤ n → s₁.gens = #[] →
      codeAny (model l.prog w) callerA (.call (.ref fa) ⟨[.ref a], []⟩) (fun r s' => r = .ok (.ret (.bool true)) ∧ OldK s₁.heap s'.heap ∧ s'.os = s₁.os ∧ AllBare s'.gens) s₁) :
    WalkO q loose XP YP l.row.toRowW d [] (fun f vs => PySem.call f vs) := by
  intro w s₀ s₁ mg mb G Y fa o pm cd doc dV kV ho hd hcd hD hmg hg args vals as hpre hlay hrd hwl hlo
  obtain rfl : dV = .none := Dflts.none hD hdf
  obtain rfl : kV = .none := Dflts.noKw hD
  obtain ⟨a, vs, ns, rfl, rfl, hobj, hints, hlen⟩ := script_of hn hpre hwl
  refine enter_call (codeAny_mono (call w s₀ s₁ mg mb fa o pm cd doc a vs ns G Y ho (fd_plain hd) hcd hmg hobj hints hlen hg) fun r s' hq => ?_)
  obtain ⟨rfl, h2, h3, h4⟩ := hq
  exact ⟨.inl ⟨.bool true, .bool true, [], rfl, fun _ => rfl, .bool true, post_true l _, fun _ => ⟨List.Pairwise.nil, fun _ hm => (nomatch hm)⟩⟩, h2, h3, h4⟩

section
variable {prog : Program} {w : World} {A : Around} {E : Value → Shared → Prop} {s : Shared} {K : Frag}
end
end Att
namespace L2
open PySem PySem.Spec PyProof.Rows
theorem vals_ints : ∀ {vs : List Value} {ns : List Int}, IntsAre vs ns → Vals (ns.map V.int) vs
  | _, _, .nil => .nil
  | _, _, .cons n t h => .cons ⟨t, rfl⟩ (vals_ints h)

def Only (H : Hp) : Prop := ∀ b, H b = none ∨ ∃ o xs, H b = some (.frz o (.lst xs))

theorem law_call {P : Program} {w : World} {K : PySem.W.Frag} {mg mb : Str → Option Value} {CX : CXT} {k : Nat} {fa a : Addr} {fd : FuncData} {x : Str} {sp : Sp} {s₁ : Shared} {vs : List Value} {ns : List Int}
    (KX : K.In s₁.heap) (hns : s₁.heap.Ns mainGlobals mg) (hb : s₁.heap.Ns builtinsNs mb) (hbb : ∀ x : Str, x ≠ "__name__" → mb x = bootBuiltins x) (hlim : s₁.heap.NoLimit) (hg : s₁.gens = #[])
    (ha : s₁.heap.get? a = some { cls := .type "list", data := .seq vs.toArray }) (hi : IntsAre vs ns) (hl : ns.length ≤ sizeLine) (hr : Room k callerA)
    (F : ∀ base : Heap, K.In base → base.Ns mainGlobals mg → FnOk P w K mg base CX k fa fd [x] sp) (hbind : ∀ (s : Shared) (u : Value), BindsTo s fd ⟨[u], []⟩ [(x, u)])
    (hsp : ∀ H : Hp, Only H → SqL K H a (ns.map V.int) → sp [.ref a] H (fun v _ => v = .bl true) fun _ _ _ => False)
    (hCX : ∀ H e s', CX [] H s₁ (fun _ _ _ => False) e s' → False) :
    codeAny (model P w) callerA (.call (.ref fa) ⟨[.ref a], []⟩) (fun r s' => r = .ok (.ret (.bool true)) ∧ OldK s₁.heap s'.heap ∧ s'.os = s₁.os ∧ AllBare s'.gens) s₁ := by
  have rv := vals_ints hi
  have lenV := hi.length
  -- from an abstract heap in which nothing but the script may be tracked
  have core : ∀ H : Hp, Only H → SqL K H a (ns.map V.int) → HOk P w H s₁.heap → (∀ b, H b ≠ none → b = a) → (H a ≠ none → K.lookup a = none) →
      codeAny (model P w) callerA (.call (.ref fa) ⟨[.ref a], []⟩) (fun r s' => r = .ok (.ret (.bool true)) ∧ OldK s₁.heap s'.heap ∧ s'.os = s₁.os ∧ AllBare s'.gens) s₁ := by
    intro H hO hS hok hA hK
    have base_of : ∀ {b : Addr} {o : Obj}, s₁.heap.get? b = some o → H b = none → (hidT s₁.heap H).get? b = some o := fun e n => hidT_get e n
    have noA : ∀ {b : Addr} {o : Obj} {es : Array DictEntry} {ep : Nat}, s₁.heap.get? b = some o → o.data = .dict es ep → H b = none := fun {b o es ep} e d => by
      cases q : H b with
      | none => rfl
      | some u =>
        have e' : b = a := hA b (by rw [q]; simp)
        subst e'
        rw [ha] at e; cases e
        have d' : Data.seq vs.toArray _ = Data.dict es ep := d
        cases d'
    have nsK : ∀ {b : Addr} {m : Str → Option Value}, s₁.heap.Ns b m → (hidT s₁.heap H).Ns b m := fun {b m} ⟨o, es, ep, e, d, r⟩ => ⟨o, es, ep, base_of e (noA e d), d, r⟩
    have hKb : K.In (hidT s₁.heap H) := fun b o e => base_of (KX b o e) (by
      cases q : H b with
      | none => rfl
      | some u =>
        have e' : b = a := hA b (by rw [q]; simp)
        subst e'
        rw [hK (by rw [q]; simp)] at e; cases e)
    have hM : Mod K mg (hidT s₁.heap H) := ⟨hKb, nsK hns, ⟨mb, nsK hb, hbb⟩, let ⟨mc, h1, h2⟩ := hlim; ⟨mc, nsK h1, h2⟩⟩
    have e0 : Env0 P w K mg (hidT s₁.heap H) callerA [] s₁ H := ⟨rfl, hM, fun b o e => of_hidT e, Nat.le_of_eq (hidT_size _ _), trivial, fun b hb => absurd (show b ∈ ([] : List Addr) from hb) (by simp), hok, .of_eq hg⟩
    refine codeAny_mono ((F _ hKb (nsK hns)).run callerA [] s₁ H ⟨[.ref a], []⟩ [.ref a] [.ref a] _ _ hr e0 (hbind s₁ (.ref a)) (.cons rfl .nil) (hsp H hO hS)) fun r s' h => ?_
    cases r with
    | error e => exact (hCX H e s' h).elim
    | ok fl =>
      cases fl with
      | next => exact False.elim h
      | brk => exact False.elim h
      | cont => exact False.elim h
      | ret u =>
        obtain ⟨v, H', os, bare, un, hok', r', q⟩ := h
        have q' : v = .bl true := q
        subst q'
        obtain rfl : u = Value.bool true := r'
        refine ⟨rfl, OldK.of_keep fun b o e => ?_, os, bare⟩
        cases q : H b with
        | none => exact un.keep b o e q (by intro z; exact absurd (show b ∈ ([] : List Addr) from z) (by simp)) (by simp)
        | some u =>
          rcases hO b with z | ⟨ob, xs, z⟩
          · rw [q] at z; cases z
          · have z2 := un.frzs b ob _ z
            obtain ⟨e1, _⟩ := hok b _ z
            obtain ⟨e2, _⟩ := hok' b _ z2
            rw [e] at e1; cases e1
            exact e2
  cases hk : K.lookup a with
  | some o =>
    -- the script is one of the module's own objects
    have e := KX a o hk
    rw [ha] at e
    cases e
    refine core (fun _ => none) (fun _ => .inl rfl) (.inr ⟨_, vs.toArray, _, hk, rfl, rfl, rfl, by rw [List.size_toArray, lenV]; exact hl, by simpa using rv⟩) (fun b u z => by have z' : (none : Option HO) = some u := z; cases z') (fun b z => absurd rfl z) fun z => absurd rfl z
  | none =>
    refine core (fun b => if b = a then some (.frz { cls := .type "list", data := .seq vs.toArray } (.lst (ns.map V.int))) else none) (fun b => ?_) (.inl (.inr ⟨{ cls := .type "list", data := .seq vs.toArray }, if_pos rfl⟩)) (fun b u z => ?_) (fun b z => ?_) fun _ => hk
    · by_cases hb : b = a
      · exact .inr ⟨_, _, if_pos hb⟩
      · exact .inl (if_neg hb)
    · by_cases hb : b = a
      · have z' := (if_pos hb).symm.trans z
        cases z'
        subst hb
        exact ⟨ha, by rw [List.length_map]; exact hl, vs, _, rv, ha⟩
      · have z' := (if_neg hb).symm.trans z
        cases z'
    · by_cases hb : b = a
      · exact hb
      · exact absurd (if_neg hb) z
end L2
namespace L2
open PySem PySem.Spec PyProof.Rows
theorem walk_of {l : PySem.W.OpenLaw} {n k : Nat} {q : Program} {loose : List Str} {XP : (Str → Option Value) → Heap → Prop} {YP : World → Heap → Prop} {d : DefRec} {K : Params → PySem.W.Frag} {CX : World → CXT} {sp : World → Sp} {x : Str}
    (hn : l.most = some n) (hn2 : n ≤ sizeLine) (hdf : d.params.defaults = []) (hr : Room k callerA)
    (hY : ∀ (w : World) (h : Heap), YP w h → (K w.params).In h)
    (F : ∀ (w : World) (mg : Str → Option Value) (fa : Addr) (h : Heap), (K w.params).In h → h.Ns mainGlobals mg → mg d.name = some (.ref fa) →
      ∃ fd : FuncData, (∀ (s : Shared) (u : Value), BindsTo s fd ⟨[u], []⟩ [(x, u)]) ∧
        ∀ base : Heap, (K w.params).In base → base.Ns mainGlobals mg → FnOk l.prog w (K w.params) mg base (CX w) k fa fd [x] (sp w))
    (hsp : ∀ (w : World) (H : Hp) (a : Addr) (ns : List Int), ns.length ≤ n → Only H → SqL (K w.params) H a (ns.map V.int) → sp w [.ref a] H (fun v _ => v = .bl true) fun _ _ _ => False)
    (hCX : ∀ (w : World) (H : Hp) (s : Shared) (e : Value) (s' : Shared), CX w [] H s (fun _ _ _ => False) e s' → False) :
    PySem.W.WalkO q loose XP YP l.row.toRowW d [] (fun f vs => PySem.call f vs) := by
  refine Att.attach_call hn hdf fun w s₀ s₁ mg mb fa o pm cd doc a vs ns G Y ho hd hcd hmg hobj hints hlen hg => ?_
  have KX := hY w _ Y
  obtain ⟨fd, hb, hF⟩ := F w mg fa _ KX G.T.g hmg
  exact law_call KX G.T.g G.T.b G.T.builtins G.T.nolimit hg hobj hints (Nat.le_trans hlen hn2) hr hF hb (fun H hO hS => hsp w H a ns hlen hO hS) fun H e s' => hCX w H s₁ e s'
end L2
namespace L2
open PySem PySem.Spec PyProof.Rows
def defArgs (s : Stmt) : Arguments := match s with
  | .FunctionDef _ a _ _ _ _ _ _ _ _ => a
  | _ => { posonlyargs := [], args := [], vararg := none, kwonlyargs := [], kw_defaults := [], kwarg := none, defaults := [] }
def defBody (s : Stmt) : List Stmt := match s with
  | .FunctionDef _ _ b _ _ _ _ _ _ _ => b
  | _ => []
def defScope (s : Stmt) : Scope := match s with
  | .FunctionDef _ _ _ _ _ _ sc _ _ _ => sc
  | _ => { kind := .function, names := [], isGenerator := false, isCoroutine := false }

abbrev CX0 : CXT := fun _ _ _ _ _ _ => False
abbrev E0 : XK := fun _ _ _ => False
theorem pass0 {X : Cx} : Passes CX0 X E0 := fun _ _ _ _ _ _ _ h => h.elim

structure Fun (K : PySem.W.Frag) (x qual : Str) (st : Stmt) (f : Addr) (fd : FuncData) : Prop where
  ex : ∃ (oc : Value) (od : Option Addr) (kV doc pm : Value) (an : Option Addr) (cdv ct : Value) (osl : Array (Option Value)),
    fd = PySem.W.fnOf x qual (defArgs st) (defBody st) (defScope st) .none kV doc pm an cdv ct ∧ K.lookup f = some ⟨oc, od, .func fd, osl⟩ ∧ PySem.W.codeIn K cdv qual = true
  kp : PySem.W.keepIn K (.ref f) = true
section
variable {P : Program} {w : World} {K : PySem.W.Frag} {mg : Str → Option Value} {base : Heap}
theorem Fun.ok {x qual : Str} {st : Stmt} {f : Addr} {fd : FuncData} {N ps : List Str} {k : Nat} {sp : Sp} (F : Fun K x qual st f fd) (S : FnScope N ps (defScope st)) (len : ∀ vs H Q E, sp vs H Q E → vs.length = ps.length)
    (hbody : ∀ (cdv : Value) (A : Around) (outer : List Env) (s : Shared) (H : Hp) (vs : List V) (Q : VK) (E : XK), Room k (A.deeper (envOfC qual (defScope st) s.heap.objs.size f cdv)) → sp vs H Q E →
      ∃ t, PSs (cxOf CX0 P w K mg base N qual (defScope st) f cdv A outer s H E).nox (defBody st) t ∧ t { nx := fun _ H' => Q .non H', rt := Q } (start N vs) H) : FnOk P w K mg base CX0 (k + 1) f fd ps sp := by
  obtain ⟨oc, od, kV, doc, pm, an, cdv, ct, osl, rfl, lk, hcd⟩ := F.ex
  refine fn_of lk hcd S len fun A outer s H vs Q E hr hsp => ?_
  obtain ⟨t, h, q⟩ := hbody cdv A outer s H vs Q E hr hsp
  exact ⟨t, h.nox, q⟩
theorem Fun.binds {x qual : Str} {st : Stmt} {f : Addr} {fd : FuncData} {ps : List Str} (F : Fun K x qual st f fd)
    (h : ∀ (kV doc pm : Value) (an : Option Addr) (cdv ct : Value) (us : List Value), us.length = ps.length → bindArgs (PySem.W.fnOf x qual (defArgs st) (defBody st) (defScope st) .none kV doc pm an cdv ct) ⟨us, []⟩ = pure (ps.zip us)) : Binds K fd ps [] := by
  obtain ⟨oc, od, kV, doc, pm, an, cdv, ct, osl, rfl, lk, hcd⟩ := F.ex
  exact .all (h kV doc pm an cdv ct)
theorem fun_mk {x qual : Str} {st : Stmt} {f : Addr} {oc : Value} {od an : Option Addr} {osl : Array (Option Value)} {kV doc pm cdv ct : Value} (l : K.lookup f = some ⟨oc, od, .func (PySem.W.fnOf x qual (defArgs st) (defBody st) (defScope st) .none kV doc pm an cdv ct), osl⟩)
    (c : PySem.W.codeIn K cdv qual = true) (k : PySem.W.keepIn K (.ref f) = true) : Fun K x qual st f (PySem.W.fnOf x qual (defArgs st) (defBody st) (defScope st) .none kV doc pm an cdv ct) := ⟨⟨oc, od, kV, doc, pm, an, cdv, ct, osl, rfl, l, c⟩, k⟩
end
theorem small1000 {n : Nat} (h : n ≤ 1000) : n < sizeLine := Nat.lt_of_le_of_lt h (by decide)

section
variable {X : Cx}
theorem pv (i : Nat) {x : Str} {pos : Pos} (hN : X.N[i]? = some x := by rfl) (hv : Vis X.env.scope x := by first | exact Or.inl rfl | exact Or.inr (Or.inl rfl) | exact Or.inr (Or.inr rfl)) (hd : (x == ("__debug__" : Str)) = false := by decide)
    (hcd : (x == ("__classdict__" : Str)) = false := by decide) : PE X (.Name x pos) (tVar i) := pe_var hN hv hd hcd
end
theorem ite2 {c A B : Prop} [Decidable c] (h1 : c → A) (h2 : ¬ c → B) : if c then A else B := by
  by_cases h : c
  · rw [if_pos h]
    exact h1 h
  · rw [if_neg h]
    exact h2 h
def Same (H H' : Hp) : Prop := ∀ b o, H b = some o → H' b = some o
theorem Same.refl (H : Hp) : Same H H := fun _ _ h => h
theorem Same.trans {H H1 H2 : Hp} (a : Same H H1) (b : Same H1 H2) : Same H H2 := fun c o h => b c o (a c o h)
theorem Same.free {H H' : Hp} (e : Same H H') {l : Addr} (h : H' l = Option.none) : H l = Option.none := by
  cases q : H l with
  | none => rfl
  | some o =>
    rw [e l o q] at h
    cases h
theorem Same.seq {K : PySem.W.Frag} {H H' : Hp} {a : Addr} {xs : List V} (e : Same H H') (h : SqL K H a xs) : SqL K H' a xs := by
  rcases h with (h | ⟨o, h⟩) | h
  · exact .inl (.inl (e _ _ h))
  · exact .inl (.inr ⟨o, e _ _ h⟩)
  · exact .inr h

end L2
namespace TS
open PySem PyProof.Rows
def gal : Bool → Keyed → Array Keyed → Nat → Nat → Nat → StateT SortSt Sem (Option Nat) := sortPriv% PySem.Builtin.gallop
section
variable {M : Model} {A : Around} {E : Value → Shared → Prop} {s : Shared} {O : KeyOrd} {kf : Keyed → O.α} {κ : SortKind} {G : Keyed → Prop}
variable {left : Bool} {key : Keyed} {arr : Array Keyed} {base n hint : Nat} {st : SortSt} {P : Nat → Bool}
end
end TS
namespace TS
open PySem PyProof.Rows
section
variable {O : KeyOrd} {kf : Keyed → O.α}
def le (O : KeyOrd) (kf : Keyed → O.α) (x y : Keyed) : Prop := O.kle (kf x) (kf y)
theorem le_of_lt {x y : Keyed} (h : O.blt (kf x) (kf y) = true) : le O kf x y := KeyOrd.kle_of_klt h
def Srt (O : KeyOrd) (kf : Keyed → O.α) (a : Array Keyed) (lo hi : Nat) : Prop := ∀ (i j : Nat) (x y : Keyed), lo ≤ i → i ≤ j → j < hi → a[i]? = some x → a[j]? = some y → le O kf x y
theorem drop_none {a : Array Keyed} {i : Nat} (h : a.size ≤ i) : a.toList.drop i = [] := List.drop_eq_nil_of_le (by simpa using h)
theorem ext_toList (a : Array Keyed) (i : Nat) : (a.extract i a.size).toList = a.toList.drop i := by
  rw [Array.toList_extract, List.extract_eq_take_drop]
  rw [List.take_of_length_le]
  simp
theorem Srt.pw {a : Array Keyed} (h : Srt O kf a 0 a.size) : a.toList.Pairwise (le O kf) := by
  rw [List.pairwise_iff_getElem]
  intro i j hi hj hij
  have hj' : j < a.size := by simpa using hj
  have hi' : i < a.size := by simpa using hi
  exact h i j _ _ (by omega) (by omega) hj' (by simp [hi']) (by simp [hj'])
theorem Srt.of {a : Array Keyed} (h : a.toList.Pairwise (le O kf)) : Srt O kf a 0 a.size := by
  rw [List.pairwise_iff_getElem] at h
  intro i j x y _ hij hj e1 e2
  obtain ⟨h1, rfl⟩ := Array.getElem?_eq_some_iff.mp e1
  obtain ⟨h2, rfl⟩ := Array.getElem?_eq_some_iff.mp e2
  by_cases e : i = j
  · subst e; exact KeyOrd.kle_refl _
  · exact h i j (by simpa using h1) (by simpa using h2) (by omega)

structure MI (O : KeyOrd) (kf : Keyed → O.α) (a b o : Array Keyed) (i j : Nat) : Prop where
  perm : (o.toList ++ (a.toList.drop i ++ b.toList.drop j)).Perm (a.toList ++ b.toList)
  srt : o.toList.Pairwise (le O kf)
  low : ∀ x ∈ o.toList, ∀ y ∈ a.toList.drop i ++ b.toList.drop j, le O kf x y
def Mrg (O : KeyOrd) (kf : Keyed → O.α) (a b r : Array Keyed) : Prop := r.toList.Perm (a.toList ++ b.toList) ∧ r.toList.Pairwise (le O kf)
variable {a b o : Array Keyed} {i j : Nat}
theorem MI.len (h : MI O kf a b o i j) (hi : i ≤ a.size) (hj : j ≤ b.size) : o.size = i + j := by
  have := h.perm.length_eq
  simp at this
  omega
theorem MI.fin (h : MI O kf a b o i j) (sa : Srt O kf a 0 a.size) (sb : Srt O kf b 0 b.size) (z : a.size ≤ i ∨ b.size ≤ j) : Mrg O kf a b (o ++ a.extract i a.size ++ b.extract j b.size) := by
  have e : (o ++ a.extract i a.size ++ b.extract j b.size).toList = o.toList ++ (a.toList.drop i ++ b.toList.drop j) := by
    rw [Array.toList_append, Array.toList_append, ext_toList, ext_toList, List.append_assoc]
  refine ⟨by rw [e]; exact h.perm, ?_⟩
  rw [e]
  refine List.pairwise_append.mpr ⟨h.srt, ?_, h.low⟩
  rcases z with z | z
  · rw [drop_none z]; exact sb.pw.sublist (List.drop_sublist j _)
  · rw [drop_none z, List.append_nil]; exact sa.pw.sublist (List.drop_sublist i _)
theorem MI.lst (h : MI O kf a b o i j) (sa : Srt O kf a 0 a.size) (sb : Srt O kf b 0 b.size) (z : ∀ y ∈ b.toList.drop j, ∀ x ∈ a.toList.drop i, le O kf y x) : Mrg O kf a b (o ++ b.extract j b.size ++ a.extract i a.size) := by
  have e : (o ++ b.extract j b.size ++ a.extract i a.size).toList = o.toList ++ (b.toList.drop j ++ a.toList.drop i) := by
    rw [Array.toList_append, Array.toList_append, ext_toList, ext_toList, List.append_assoc]
  refine ⟨by rw [e]; exact List.Perm.trans (List.Perm.append_left _ List.perm_append_comm) h.perm, ?_⟩
  rw [e]
  refine List.pairwise_append.mpr ⟨h.srt, ?_, fun x hx y hy => h.low x hx y (by
    rcases List.mem_append.mp hy with q | q
    · exact List.mem_append_right _ q
    · exact List.mem_append_left _ q)⟩
  exact List.pairwise_append.mpr ⟨sb.pw.sublist (List.drop_sublist j _), sa.pw.sublist (List.drop_sublist i _), z⟩
end
section
variable {M : Model} {A : Around} {E : Value → Shared → Prop} {s : Shared} {O : KeyOrd} {kf : Keyed → O.α} {κ : SortKind} {G : Keyed → Prop}
end
end TS
namespace TS
open PySem PyProof.Rows
def setG (st : SortSt) (g : Nat) : SortSt := SortSt.mk' (kindOf st) (arrOf st) (pendingOf st) g (failedOf st)
section
variable {M : Model} {A : Around} {E : Value → Shared → Prop} {s : Shared} {O : KeyOrd} {kf : Keyed → O.α} {κ : SortKind} {G : Keyed → Prop} {a b : Array Keyed}
end
end TS
namespace TS
open PySem PyProof.Rows
abbrev D6 := Option (Array Keyed) × Nat × Nat × Array Keyed × Nat × Nat
abbrev D7 := Option (Array Keyed) × Nat × Nat × Array Keyed × Nat × Nat × Nat
abbrev D5 := Option (Array Keyed) × Nat × Nat × Array Keyed × Nat
def hi2c (a b : Array Keyed) (p q : Nat) (o : Array Keyed) (mg ac bc : Nat) : StateT SortSt Sem (ForInStep D7) := do
  let z ← elem' a (p - 1)
  if (p - 1 == 0) = true then pure (.done (some (a.extract 0 (p - 1) ++ b.extract 0 q ++ (o.push z).reverse), p - 1, q, o.push z, mg, ac, bc))
  else if (decide (ac < 7) && decide (bc < 7)) = true then pure (.done (none, p - 1, q, o.push z, mg, ac, bc))
  else pure (.yield (none, p - 1, q, o.push z, mg, ac, bc))
def hi2b (a b : Array Keyed) (p q : Nat) (o : Array Keyed) (mg ac bc : Nat) : StateT SortSt Sem (ForInStep D7) := do
  let z ← elem' b (q - 1)
  if (q - 1 == 1) = true then pure (.done (some (b.extract 0 (q - 1) ++ a.extract 0 p ++ (o.push z).reverse), p, q - 1, o.push z, mg, ac, bc))
  else do
    let y ← elem' a (p - 1)
    let r ← gal true y b 0 (q - 1) (q - 1 - 1)
    match r with
    | some u =>
      if q - 1 - u > 0 then
        if (u == 1) = true then pure (.done (some (b.extract 0 u ++ a.extract 0 p ++ (o.push z ++ (b.extract u (q - 1)).reverse).reverse), p, u, o.push z ++ (b.extract u (q - 1)).reverse, mg, ac, q - 1 - u))
        else if (u == 0) = true then pure (.done (some (a.extract 0 p ++ b.extract 0 u ++ (o.push z ++ (b.extract u (q - 1)).reverse).reverse), p, u, o.push z ++ (b.extract u (q - 1)).reverse, mg, ac, q - 1 - u))
        else hi2c a b p u (o.push z ++ (b.extract u (q - 1)).reverse) mg ac (q - 1 - u)
      else hi2c a b p (q - 1) (o.push z) mg ac (q - 1 - u)
    | _ => pure (.done (some (a.extract 0 p ++ b.extract 0 (q - 1) ++ (o.push z).reverse), p, q - 1, o.push z, mg, ac, bc))
def hi2a (a b : Array Keyed) (p q : Nat) (o : Array Keyed) (mg ac bc : Nat) : StateT SortSt Sem (ForInStep D7) := do
  modify fun st => setG st mg
  let y ← elem' b (q - 1)
  let r ← gal false y a 0 p (p - 1)
  match r with
  | some u =>
    if p - u > 0 then
      if (u == 0) = true then pure (.done (some (a.extract 0 u ++ b.extract 0 q ++ (o ++ (a.extract u p).reverse).reverse), u, q, o ++ (a.extract u p).reverse, mg, p - u, bc))
      else hi2b a b u q (o ++ (a.extract u p).reverse) mg (p - u) bc
    else hi2b a b p q o mg (p - u) bc
  | _ => pure (.done (some (a.extract 0 p ++ b.extract 0 q ++ o.reverse), p, q, o, mg, ac, bc))
def hi2 (a b : Array Keyed) (mg p q : Nat) (o : Array Keyed) (ac bc : Nat) : StateT SortSt Sem D7 :=
  forIn [0:a.size + b.size] ((none, p, q, o, mg, ac, bc) : D7) fun _ c =>
    if c.2.2.2.2.1 > 1 then hi2a a b c.2.1 c.2.2.1 c.2.2.2.1 (c.2.2.2.2.1 - 1) c.2.2.2.2.2.1 c.2.2.2.2.2.2
    else hi2a a b c.2.1 c.2.2.1 c.2.2.2.1 c.2.2.2.2.1 c.2.2.2.2.2.1 c.2.2.2.2.2.2
section
variable {O : KeyOrd} {kf : Keyed → O.α} {G : Keyed → Prop} {a b o : Array Keyed} {p q : Nat}
theorem ext0_toList (a : Array Keyed) (p : Nat) : (a.extract 0 p).toList = a.toList.take p := by
  rw [Array.toList_extract, List.extract_eq_take_drop]
  simp
structure HI (O : KeyOrd) (kf : Keyed → O.α) (a b o : Array Keyed) (p q : Nat) : Prop where
  perm : (a.toList.take p ++ (b.toList.take q ++ o.toList.reverse)).Perm (a.toList ++ b.toList)
  srt : o.toList.Pairwise (fun x y => le O kf y x)
  hi : ∀ x ∈ o.toList, ∀ y ∈ a.toList.take p ++ b.toList.take q, le O kf y x
theorem HI.fin (h : HI O kf a b o p q) (sa : Srt O kf a 0 a.size) (sb : Srt O kf b 0 b.size) (z : p = 0 ∨ q = 0) : Mrg O kf a b (a.extract 0 p ++ b.extract 0 q ++ o.reverse) := by
  have e : (a.extract 0 p ++ b.extract 0 q ++ o.reverse).toList = a.toList.take p ++ (b.toList.take q ++ o.toList.reverse) := by
    rw [Array.toList_append, Array.toList_append, ext0_toList, ext0_toList, Array.toList_reverse, List.append_assoc]
  refine ⟨by rw [e]; exact h.perm, ?_⟩
  rw [e, ← List.append_assoc]
  refine List.pairwise_append.mpr ⟨?_, by rw [List.pairwise_reverse]; exact h.srt, fun x hx y hy => h.hi y (List.mem_reverse.mp hy) x hx⟩
  rcases z with z | z
  · subst z
    simpa using sb.pw.sublist (List.take_sublist q _)
  · subst z
    simpa using sa.pw.sublist (List.take_sublist p _)
end
section
variable {M : Model} {A : Around} {E : Value → Shared → Prop} {s : Shared} {O : KeyOrd} {kf : Keyed → O.α} {κ : SortKind} {G : Keyed → Prop} {a b : Array Keyed}
end
end TS
namespace TS
open PySem PyProof.Rows
section
variable {O : KeyOrd} {kf : Keyed → O.α}
def KA (O : KeyOrd) (kf : Keyed → O.α) (xs : Array Keyed) (i : Nat) : O.α := kf (xs[i]?.getD (Value.none, Value.none))
def Inc (O : KeyOrd) (kf : Keyed → O.α) (xs : Array Keyed) (lo hi : Nat) : Prop := ∀ i j, lo ≤ i → i ≤ j → j < hi → O.kle (KA O kf xs i) (KA O kf xs j)
theorem KA_at {xs : Array Keyed} {i : Nat} {x : Keyed} (h : xs[i]? = some x) : KA O kf xs i = kf x := by unfold KA; rw [h]; rfl
theorem Inc.srt {xs : Array Keyed} {lo hi : Nat} (h : Inc O kf xs lo hi) : Srt O kf xs lo hi := fun i j x y h1 h2 h3 e1 e2 => by
  have := h i j h1 h2 h3
  rw [KA_at e1, KA_at e2] at this
  exact this
structure Re (lo : Nat) (xs ys : Array Keyed) : Prop where
  perm : ys.Perm xs
  keep : ∀ k, k < lo → ys[k]? = xs[k]?
theorem Re.refl (lo : Nat) (xs : Array Keyed) : Re lo xs xs := ⟨Array.Perm.refl _, fun _ _ => rfl⟩
theorem Re.trans {lo : Nat} {xs ys zs : Array Keyed} (a : Re lo xs ys) (b : Re lo ys zs) : Re lo xs zs := ⟨b.perm.trans a.perm, fun k h => (b.keep k h).trans (a.keep k h)⟩
theorem Re.size {lo : Nat} {xs ys : Array Keyed} (a : Re lo xs ys) : ys.size = xs.size := a.perm.size_eq
theorem Re.mem {lo : Nat} {xs ys : Array Keyed} (a : Re lo xs ys) {G : Keyed → Prop} (h : ∀ x ∈ xs.toList, G x) : ∀ x ∈ ys.toList, G x := fun x hx => h x ((Array.perm_iff_toList_perm.mp a.perm).mem_iff.mp hx)
end
section
variable {M : Model} {A : Around} {E : Value → Shared → Prop} {s : Shared} {O : KeyOrd} {kf : Keyed → O.α} {κ : SortKind} {G : Keyed → Prop}
def RunAt (O : KeyOrd) (kf : Keyed → O.α) (lo nrem : Nat) (st : SortSt) (Q : Option Nat → SortSt → Prop) : Prop :=
  ∀ m xs, Re lo (arrOf st) xs → 1 ≤ m → m ≤ nrem → Inc O kf xs lo (lo + m) → Q (some m) (setArr st xs)
theorem RunAt.step {lo nrem : Nat} {st : SortSt} {Q : Option Nat → SortSt → Prop} {xs : Array Keyed} (h : RunAt O kf lo nrem st Q) (r : Re lo (arrOf st) xs) : RunAt O kf lo nrem (setArr st xs) Q :=
  fun m ys r' h1 h2 h3 => h m ys (r.trans r') h1 h2 h3
end
end TS
namespace TS
open PySem PyProof.Rows
abbrev Pd := Nat × Nat × Nat
section
variable {O : KeyOrd} {kf : Keyed → O.α} {G : Keyed → Prop}
end
section
variable {M : Model} {A : Around} {E : Value → Shared → Prop} {s : Shared} {O : KeyOrd} {kf : Keyed → O.α} {κ : SortKind} {G : Keyed → Prop}
end
end TS
namespace TS
open PySem PyProof.Rows
section
variable {O : KeyOrd} {kf : Keyed → O.α} {G : Keyed → Prop}
def Runs (O : KeyOrd) (kf : Keyed → O.α) (xs : Array Keyed) : List Pd → Nat → Nat → Prop
  | [], a, b => a = b
  | (s, n, _) :: r, a, b => s = a ∧ 0 < n ∧ Srt O kf xs s (s + n) ∧ Runs O kf xs r (s + n) b
theorem Runs.le {xs : Array Keyed} : ∀ {p : List Pd} {a b : Nat}, Runs O kf xs p a b → a + p.length ≤ b
  | [], a, b, h => Nat.le_of_eq h
  | (s, n, w) :: r, a, b, h => by
    obtain ⟨rfl, h1, _, h2⟩ := h
    have := Runs.le h2
    simp
    omega
theorem Runs.app {xs : Array Keyed} : ∀ {p q : List Pd} {a c : Nat}, Runs O kf xs (p ++ q) a c ↔ ∃ b, Runs O kf xs p a b ∧ Runs O kf xs q b c
  | [], q, a, c => ⟨fun h => ⟨a, rfl, h⟩, fun ⟨b, h1, h2⟩ => by
      have h1 : a = b := h1
      rw [h1]; exact h2⟩
  | (s, n, w) :: r, q, a, c => by
    constructor
    · rintro ⟨h1, h2, h3, h4⟩
      obtain ⟨b, h5, h6⟩ := Runs.app.mp h4
      exact ⟨b, ⟨h1, h2, h3, h5⟩, h6⟩
    · rintro ⟨b, ⟨h1, h2, h3, h5⟩, h6⟩
      exact ⟨h1, h2, h3, Runs.app.mpr ⟨b, h5, h6⟩⟩
theorem Srt.congr {xs ys : Array Keyed} {lo hi : Nat} (h : Srt O kf xs lo hi) (k : ∀ t, lo ≤ t → t < hi → ys[t]? = xs[t]?) : Srt O kf ys lo hi := fun i j x y a b c e1 e2 => by
  rw [k i a (by omega)] at e1
  rw [k j (by omega) c] at e2
  exact h i j x y a b c e1 e2
theorem Runs.congr {xs ys : Array Keyed} : ∀ {p : List Pd} {a b : Nat}, Runs O kf xs p a b → (∀ t, a ≤ t → t < b → ys[t]? = xs[t]?) → Runs O kf ys p a b
  | [], a, b, h, _ => h
  | (s, n, w) :: r, a, b, h, k => by
    obtain ⟨rfl, h1, h2, h3⟩ := h
    have := Runs.le h3
    exact ⟨rfl, h1, h2.congr fun t c d => k t c (by omega), Runs.congr h3 fun t c d => k t (by omega) d⟩
structure Good (O : KeyOrd) (kf : Keyed → O.α) (κ : SortKind) (a0 : Array Keyed) (lo : Nat) (st : SortSt) : Prop where
  kind : kindOf st = κ
  ok : failedOf st = none
  perm : (arrOf st).Perm a0
  runs : Runs O kf (arrOf st) (pendingOf st).toList 0 lo
theorem Runs.same {xs : Array Keyed} : ∀ {p q : List Pd} {a b : Nat}, p.map (fun v => (v.1, v.2.1)) = q.map (fun v => (v.1, v.2.1)) → Runs O kf xs p a b → Runs O kf xs q a b
  | [], [], _, _, _, h => h
  | [], _ :: _, _, _, e, _ => by simp at e
  | _ :: _, [], _, _, e, _ => by simp at e
  | (s, n, w) :: r, (s', n', w') :: r', a, b, e, h => by
    simp at e
    obtain ⟨⟨rfl, rfl⟩, e⟩ := e
    obtain ⟨h1, h2, h3, h4⟩ := h
    exact ⟨h1, h2, h3, Runs.same (by simpa using e) h4⟩
theorem Good.push {κ : SortKind} {a0 : Array Keyed} {lo n : Nat} {st : SortSt} (g : Good O kf κ a0 lo st) (hs : Srt O kf (arrOf st) lo (lo + n)) (hn : 1 ≤ n) : Good O kf κ a0 (lo + n) (setPending st ((pendingOf st).push (lo, n, 0))) :=
  ⟨g.kind, g.ok, g.perm, by
    show Runs O kf (arrOf st) ((pendingOf st).push (lo, n, 0)).toList 0 (lo + n)
    rw [Array.toList_push]
    exact Runs.app.mpr ⟨lo, g.runs, rfl, hn, hs, rfl⟩⟩
theorem Good.mem {κ : SortKind} {a0 : Array Keyed} {lo : Nat} {st : SortSt} (g : Good O kf κ a0 lo st) (h : ∀ x ∈ a0.toList, G x) : ∀ x ∈ (arrOf st).toList, G x := fun x hx => h x ((Array.perm_iff_toList_perm.mp g.perm).mem_iff.mp hx)
theorem Good.size {κ : SortKind} {a0 : Array Keyed} {lo : Nat} {st : SortSt} (g : Good O kf κ a0 lo st) : (arrOf st).size = a0.size := g.perm.size_eq
end
section
variable {M : Model} {A : Around} {E : Value → Shared → Prop} {s : Shared} {O : KeyOrd} {kf : Keyed → O.α} {κ : SortKind} {G : Keyed → Prop} {a0 : Array Keyed}
end
end TS
namespace TS
open PySem PyProof.Rows
section
variable {prog : Program} {w : World} {A : Around} {E : Value → Shared → Prop} {s : Shared} {O : KeyOrd} {kf : Keyed → O.α} {κ : SortKind}
end
end TS
namespace TS
open PySem PyProof.Rows
section
variable {prog : Program} {w : World} {A : Around} {E : Value → Shared → Prop} {s : Shared}
end
theorem Paired.perm {α β : Type} {R : α → β → Prop} {us us' : List β} (p : us'.Perm us) : ∀ {xs : List α}, Paired R xs us → ∃ xs', xs'.Perm xs ∧ Paired R xs' us' := by
  induction p with
  | nil => exact fun {xs} h => ⟨xs, List.Perm.refl _, h⟩
  | cons x _ ih =>
    intro xs h
    cases h with
    | cons r rs =>
      obtain ⟨xs', h1, h2⟩ := ih rs
      exact ⟨_ :: xs', h1.cons _, .cons r h2⟩
  | swap x y l =>
    intro xs h
    cases h with
    | cons r rs =>
      cases rs with
      | cons r' rs => exact ⟨_ :: _ :: _, List.Perm.swap .., .cons r' (.cons r rs)⟩
  | trans _ _ ih1 ih2 =>
    intro xs h
    obtain ⟨x1, h1, h2⟩ := ih2 h
    obtain ⟨x2, h3, h4⟩ := ih1 h2
    exact ⟨x2, h3.trans h1, h4⟩
end TS
namespace L2
open PySem PySem.Spec PyProof.Rows
def P2 (K : PySem.W.Frag) (H : Hp) (v : V) (p : Int × Int) : Prop := ∃ a, v = .ref a ∧ H a = some (.tup [.int p.1, .int p.2])
section
variable {X : Cx}
end
end L2
namespace L2
open PySem PySem.Spec PyProof.Rows
def cloOf (env : Env) (ns : List (Str × NameKind)) (acc : List (Str × Addr)) : List (Str × Addr) := ns.foldl (fun cs x => if x.2 == .free then (x.1, (env.cells.lookup x.1).getD 0) :: cs else cs) acc
theorem clo_go {env : Env} : ∀ (ns : List (Str × NameKind)) (acc : List (Str × Addr)), (∀ x ∈ ns, x.2 = .free → ∃ c, env.cells.lookup x.1 = some c) →
    (forIn ns acc fun (x : Str × NameKind) (cs : List (Str × Addr)) => (match x with | (name, kind) => if kind == .free then (do let c ← cellOf env name; pure (ForInStep.yield ((name, c) :: cs)) : Sem (ForInStep (List (Str × Addr)))) else pure (ForInStep.yield cs))) = (pure (cloOf env ns acc) : Sem (List (Str × Addr)))
  | [], acc, _ => by rw [List.forIn_nil]; rfl
  | (n, k) :: r, acc, h => by
    rw [List.forIn_cons]
    have hr := clo_go (env := env) r
    by_cases hk : k = .free
    · subst hk
      obtain ⟨c, hc⟩ := h (n, .free) List.mem_cons_self rfl
      have e1 : cellOf env n = pure c := by unfold cellOf; rw [hc]
      simp only [beq_self_eq_true, if_true, e1, pure_bind]
      rw [hr _ fun x hx => h x (List.mem_cons_of_mem _ hx)]
      unfold cloOf
      simp [hc]
    · have hb : (k == NameKind.free) = false := by simpa using hk
      simp only [hb, Bool.false_eq_true, if_false, pure_bind]
      rw [hr _ fun x hx => h x (List.mem_cons_of_mem _ hx)]
      unfold cloOf
      rw [List.foldl_cons]
      simp only [hb, Bool.false_eq_true, if_false]
theorem clo_eq {env : Env} {scope : Scope} (h : ∀ x ∈ scope.names, x.2 = .free → ∃ c, env.cells.lookup x.1 = some c) : closureFor scope env = pure (cloOf env scope.names []) := by
  unfold closureFor
  have := clo_go scope.names [] h
  simp only [bind_pure_comp] at this
  simp only [bind_pure_comp, id_map', this]
  rfl
theorem clo_sub {env : Env} : ∀ (ns : List (Str × NameKind)) (acc : List (Str × Addr)), (∀ x ∈ ns, x.2 = .free → ∃ c, env.cells.lookup x.1 = some c) → (∀ x c, acc.lookup x = some c → env.cells.lookup x = some c) →
    ∀ x c, (cloOf env ns acc).lookup x = some c → env.cells.lookup x = some c
  | [], _, _, h => h
  | (n, k) :: r, acc, hf, h => by
    have ih := clo_sub (env := env) r (if k == .free then (n, (env.cells.lookup n).getD 0) :: acc else acc) (fun x hx => hf x (List.mem_cons_of_mem _ hx)) (fun x c e => by
      by_cases hk : k = .free
      · subst hk
        simp only [beq_self_eq_true, if_true] at e
        obtain ⟨c', hc⟩ := hf (n, .free) List.mem_cons_self rfl
        rw [List.lookup_cons] at e
        by_cases hx : x = n
        · subst hx
          simp [hc] at e
          rw [hc, e]
        · rw [show (x == n) = false by simpa using hx] at e
          exact h x c e
      · rw [show (k == NameKind.free) = false by simpa using hk] at e
        exact h x c e)
    exact ih
theorem clo_sub0 {env : Env} {ns : List (Str × NameKind)} (h : ∀ x ∈ ns, x.2 = .free → ∃ c, env.cells.lookup x.1 = some c) : ∀ x c, (cloOf env ns []).lookup x = some c → env.cells.lookup x = some c := clo_sub ns [] h fun _ _ e => by cases e
theorem clo_acc {env : Env} : ∀ (ns : List (Str × NameKind)) (acc : List (Str × Addr)) (x : Str) (c : Addr), acc.lookup x = some c → ∃ c, (cloOf env ns acc).lookup x = some c
  | [], _, _, c, h => ⟨c, h⟩
  | (n, k) :: r, acc, x, c, h => by
    show ∃ c, (cloOf env r (if k == .free then (n, (env.cells.lookup n).getD 0) :: acc else acc)).lookup x = some c
    by_cases hk : k = .free
    · subst hk
      simp only [beq_self_eq_true, if_true]
      by_cases hx : x = n
      · subst hx
        exact clo_acc r _ x ((env.cells.lookup x).getD 0) (by rw [List.lookup_cons]; simp)
      · exact clo_acc r _ x c (by rw [List.lookup_cons, show (x == n) = false by simpa using hx]; exact h)
    · rw [show (k == NameKind.free) = false by simpa using hk]
      exact clo_acc r _ x c h
theorem clo_has {env : Env} : ∀ (ns : List (Str × NameKind)) (acc : List (Str × Addr)) (x : Str), (x, NameKind.free) ∈ ns → ∃ c, (cloOf env ns acc).lookup x = some c
  | (n, k) :: r, acc, x, h => by
    show ∃ c, (cloOf env r (if k == .free then (n, (env.cells.lookup n).getD 0) :: acc else acc)).lookup x = some c
    rcases List.mem_cons.mp h with e | h
    · injection e with e1 e2
      subst e1 e2
      simp only [beq_self_eq_true, if_true]
      exact clo_acc r _ x ((env.cells.lookup x).getD 0) (by rw [List.lookup_cons]; simp)
    · exact clo_has r _ x h
theorem rel_free {env : Env} : ∀ {names : List (Str × NameKind)} {x : Str}, names.lookup x = some .free →
    (names.map fun (n, k) => if (k == NameKind.free && env.scope.kind == .function && env.kindOf n == some .cell) then (n, NameKind.cell) else (n, k)).lookup x = some .cell ∨
    (names.map fun (n, k) => if (k == NameKind.free && env.scope.kind == .function && env.kindOf n == some .cell) then (n, NameKind.cell) else (n, k)).lookup x = some .free
  | [], _, h => by simp at h
  | (n, k) :: r, x, h => by
    simp only [List.map_cons]
    by_cases hx : x = n
    · subst hx
      simp [List.lookup_cons] at h
      subst h
      by_cases hc : (NameKind.free == NameKind.free && env.scope.kind == .function && env.kindOf x == some .cell) = true
      · rw [if_pos hc]; left; simp [List.lookup_cons]
      · rw [if_neg hc]; right; simp [List.lookup_cons]
    · have hb : (x == n) = false := by simpa using hx
      rw [List.lookup_cons, hb] at h
      have ih := rel_free (env := env) h
      by_cases hc : (k == NameKind.free && env.scope.kind == .function && env.kindOf n == some .cell) = true
      · rw [if_pos hc]; simp only [List.lookup_cons, hb]; exact ih
      · rw [if_neg hc]; simp only [List.lookup_cons, hb]; exact ih
theorem rel_of {env : Env} : ∀ {names : List (Str × NameKind)} {x : Str} {k' : NameKind}, (names.map fun (n, k) => if (k == NameKind.free && env.scope.kind == .function && env.kindOf n == some .cell) then (n, NameKind.cell) else (n, k)).lookup x = some k' →
    k' = .cell ∨ k' = .free → (x, NameKind.free) ∈ names ∨ (x, NameKind.cell) ∈ names
  | [], _, _, h, _ => by simp at h
  | (n, k) :: r, x, k', h, hk => by
    simp only [List.map_cons] at h
    by_cases hx : x = n
    · subst hx
      by_cases hc : (k == NameKind.free && env.scope.kind == .function && env.kindOf x == some .cell) = true
      · have : k = .free := by simp at hc; exact hc.1.1
        subst this
        exact .inl List.mem_cons_self
      · rw [if_neg hc] at h
        simp [List.lookup_cons] at h
        subst h
        rcases hk with rfl | rfl
        · exact .inr List.mem_cons_self
        · exact .inl List.mem_cons_self
    · have hb : (x == n) = false := by simpa using hx
      have ih := rel_of (env := env) (names := r) (x := x) (k' := k') (by
        by_cases hc : (k == NameKind.free && env.scope.kind == .function && env.kindOf n == some .cell) = true
        · rw [if_pos hc] at h; simp only [List.lookup_cons, hb] at h; exact h
        · rw [if_neg hc] at h; simp only [List.lookup_cons, hb] at h; exact h) hk
      exact ih.imp (List.mem_cons_of_mem _) (List.mem_cons_of_mem _)

def blk (X : Cx) (N : List Str) (scope : Scope) (cl : List (Str × Addr)) (C : Addr) (fp : List Addr) (s2 : Shared) (H2 : Hp) : Cx :=
  { X with N := N, s₀ := s2, H₀ := H2, env := compEnvC scope cl C X.env, outer := X.stack, stack := X.stack, ex := fp, fn := fun _ => false, pn := [], xe := fun _ _ => False }
structure BlkScope (X : Cx) (own : List Str) (fr : List Nat) (scope : Scope) : Prop where
  kind : scope.kind = .function
  nocell : ∀ x ∈ scope.names, x.2 ≠ .cell
  names : ∀ x ∈ scope.names, x.2 = .local → scope.names.lookup x.1 = some .local
  free : ∀ x ∈ scope.names, x.2 = .free → X.env.kindOf x.1 = some .cell ∨ X.env.kindOf x.1 = some .free
  look : ∀ i ∈ fr, scope.names.lookup (X.N.getD i "") = some .free
def blkN (X : Cx) (own : List Str) (fr : List Nat) : List Str := own ++ fr.map fun i => X.N.getD i ""
def blkSt (own : List Str) (fr : List Nat) (σ : St) : St := (own.map fun _ => none) ++ fr.map fun i => (σ[i]?).join
section
variable {X : Cx} {pins : List (Addr × Obj)} {σ : St} {H : Hp} {s : Shared} {own : List Str} {fr : List Nat} {scope : Scope}
abbrev lobj (its : List Value) (n : Nat) : Obj := { cls := .type "list", data := .seq its.toArray n }
theorem blk_ok {C : Addr} {fp : List Addr} (B : BlkScope X own fr scope) (I : Inv X pins σ H s) (hf : ∀ b ∈ fp, FpOk X pins H b) (hfo : ∀ b ∈ fp, b < s.heap.objs.size) (hC : s.heap.objs.size ≤ C) :
    (blk X (blkN X own fr) scope (cloOf X.env scope.names []) C fp s H).Ok where
  mod := I.ok.mod
  kind := B.kind
  glob := I.ok.glob
  blt := I.ok.blt
  above := hC
  inj := fun x y c h1 h2 => I.ok.inj x y c (clo_sub0 (fun z hz e => I.ok.has _ (B.free z hz e)) x c h1) (clo_sub0 (fun z hz e => I.ok.has _ (B.free z hz e)) y c h2)
  has := fun x h => by
    have h' : (x, NameKind.free) ∈ scope.names ∨ (x, NameKind.cell) ∈ scope.names := by
      rcases h with h | h
      · exact rel_of (env := X.env) h (.inl rfl)
      · exact rel_of (env := X.env) h (.inr rfl)
    rcases h' with h' | h'
    · exact clo_has _ _ _ h'
    · exact absurd rfl (B.nocell _ h')
  cab := fun x c h => nomatch h
  hd := I.ok.hd
  frames := I.ok.frames
  stk := .inl rfl
  exf := fun b hb => ⟨Nat.ne_of_lt (Nat.lt_of_lt_of_le (hfo b hb) hC), fun x c e => (hf b hb).2.2.2.2.1 x c (clo_sub0 (fun z hz e => I.ok.has _ (B.free z hz e)) x c e)⟩
  bs := I.bs
  bsz := Nat.le_trans I.ok.bsz I.sz
  noex := fun b o e hb => by
    rcases (hf b hb).2.2.2.1 with z | z
    · exact I.ok.noex b o e z
    · exact absurd (Nat.lt_of_lt_of_le (Heap.lt_size (I.ok.bs b o e).1) z) (Nat.lt_irrefl _)
  exfs := fun b hb z => by
    rcases List.mem_cons.mp (I.stkSub b z) with e | e
    · exact (hf b hb).2.1 e
    · exact (hf b hb).2.2.1 e
  funs := I.stack
  frf := I.stkFree
theorem blk_start {C D : Addr} {fp : List Addr} {h4 : Heap} {tk : Nat} {n : Nat} (B : BlkScope X own fr scope) (I : Inv X pins σ H s) (hf : ∀ b ∈ fp, FpOk X pins H b) (hfo : ∀ b ∈ fp, b < s.heap.objs.size) (hC : s.heap.objs.size ≤ C) (hD : s.heap.objs.size ≤ D) (hDC : D ≠ C)
    (k : ∀ b o, s.heap.get? b = some o → h4.get? b = some o) (hn : h4.Ns C fun _ => none) (hl : h4.get? D = some (lobj [] n)) :
    Inv (blk X (blkN X own fr) scope (cloOf X.env scope.names []) C fp s H) [(D, lobj [] n)] (blkSt own fr σ) H { s with heap := h4, toks := tk } := by
  have sub := clo_sub0 (env := X.env) (ns := scope.names) (fun z hz e => I.ok.has _ (B.free z hz e))
  refine ⟨blk_ok B I hf hfo hC, rfl, I.bare, Un.kept k, ⟨_, hn, fun i x v h1 h2 h3 => ?_⟩, fun x c e => ?_, I.hok.fresh hC, fun x c e => I.freeC x c (sub x c e), fun p hp => ?_, I.hok.kept k, ?_⟩
  · have h1 : (blkN X own fr)[i]? = some x := h1
    unfold blkN at h1
    unfold blkSt at h2
    by_cases hi : i < own.length
    · rw [List.getElem?_append_left (by simpa using hi), List.getElem?_map] at h2
      cases q : own[i]? with
      | none => rw [q] at h2; cases h2
      | some a => rw [q] at h2; cases h2
    · rw [List.getElem?_append_right (by simpa using hi), List.getElem?_map] at h2
      rw [List.getElem?_append_right (by simpa using hi), List.getElem?_map] at h1
      rw [List.length_map] at h2
      cases q : fr[i - own.length]? with
      | none => rw [q] at h2; cases h2
      | some j =>
        rw [q] at h1 h2
        have h1 : X.N.getD j "" = x := Option.some.inj h1
        have h2 : (σ[j]?).join = some v := Option.some.inj h2
        have h2' : σ[j]? = some (some v) := by
          cases w : σ[j]? with
          | none => rw [w] at h2; cases h2
          | some y => rw [w] at h2; cases y with
            | none => cases h2
            | some y => cases h2; rfl
        have hjl : j < X.N.length := by rw [← I.len]; exact (List.getElem?_eq_some_iff.mp h2').1
        have hN : X.N[j]? = some x := by
          rw [← h1, List.getElem?_eq_getElem hjl]
          simp [hjl]
        have hfree : scope.names.lookup x = some .free := by rw [← h1]; exact B.look j (List.mem_of_getElem? q)
        have hk := B.free (x, .free) (PySem.mem_of_lookup hfree) rfl
        obtain ⟨m, _, hloc⟩ := I.loc
        obtain ⟨u, r, l⟩ := hloc j x v hN h2' (by
          rcases hk with z | z
          · exact .inr (.inl z)
          · exact .inr (.inr z))
        refine ⟨u, r, .inr ⟨?_, ?_⟩⟩
        · exact rel_free (env := X.env) hfree
        · rcases l with ⟨l, _⟩ | ⟨_, c, hc, o, ho, hd⟩
          · have hk : X.env.kindOf x = some .cell ∨ X.env.kindOf x = some .free := hk
            rw [l] at hk
            rcases hk with z | z <;> cases z
          · obtain ⟨c', hc'⟩ := clo_has (env := X.env) scope.names [] x (PySem.mem_of_lookup hfree)
            have := sub x c' hc'
            rw [hc] at this
            cases this
            exact ⟨c, hc', o, k _ _ ho, hd⟩
  · obtain ⟨v, o, ho, hd⟩ := I.cell x c (sub x c e)
    exact ⟨v, o, k _ _ ho, hd⟩
  · have hp : p ∈ [(D, lobj [] n)] := by simpa [blk] using hp
    obtain rfl := List.mem_singleton.mp hp
    refine ⟨hl, I.hok.fresh hD, hDC, fun z => ?_, fun v e => by cases e⟩
    rcases List.mem_cons.mp (I.stkSub D z) with e | e
    · exact Nat.ne_of_lt (Nat.lt_of_lt_of_le I.lt hD) e.symm
    · exact I.nofs hD e
  · show (blkSt own fr σ).length = (blkN X own fr).length
    unfold blkSt blkN
    simp
end
end L2
namespace L2
open PySem PySem.Spec PyProof.Rows
def PIf (X : Cx) (ifs : List Expr) (t : TT) : Prop :=
  ∀ (pins : List (Addr × Obj)) (s : Shared) (σ : St) (H : Hp) (Q : Bool → Hp → Prop), Inv X pins σ H s → t σ H Q →
    wpAny (model X.prog X.w) X.A (forIn ifs true fun c r => if r = true then do let ok ← isTrue c X.env (eval c X.env); pure (ForInStep.yield ok) else pure (ForInStep.yield r)) (TP X pins σ Q) X.xe s
def tYes : TT := fun _ H Q => Q true H
section
variable {X : Cx} {pins : List (Addr × Obj)} {σ : St} {H : Hp} {s : Shared} {own : List Str} {fr : List Nat} {scope : Scope}
theorem pif_nil : PIf X [] tYes := fun _ _ _ H _ I h => wpAny_tests_nil ⟨H, I, h⟩
def compLoopR (J : It) (g : TG) (tc : TT) (te : TE) (fin : List V → Hp → Prop) (W : Nat → Nat → List V → St → Hp → Prop) : Prop :=
  ∀ i m ys σ' H', W i m ys σ' H' → (J.stop i H' ∧ fin ys H') ∨
    (J.go i H' ∧ ys.length < sizeLine ∧ ∃ N : List V → St → Hp → Prop, (∀ ys' σ2 H2, N ys' σ2 H2 → ∃ m', m' < m ∧ W (i + 1) m' ys' σ2 H2) ∧
      ∀ x H2, J.yld i H' x H2 → g x σ' H2 fun σ2 H3 => tc σ2 H3 fun b H4 => if b = true then te σ2 H4 fun y H5 => N (ys ++ [y]) σ2 H5 else N ys σ2 H4)
def tComp (own : List Str) (fr : List Nat) (wi : TI) (g : TG) (tc : TT) (te : TE) : TE := fun σ H Q => wi σ H fun J H1 =>
  ∃ W : Nat → Nat → List V → St → Hp → Prop, (∃ m, W 0 m [] (blkSt own fr σ) H1) ∧ compLoopR J g tc te (fun ys H' => ∀ l, H' l = none → Q (.ref l) (upd H' l (.lst ys))) W
theorem blk_end {N : List Str} {cl : List (Str × Addr)} {C l : Addr} {fp : List Addr} {s4 : Shared} {H' : Hp} {σ' : St} {its : List Value} {k : Nat} {ys : List V} (I : Inv X pins σ H s) (hf : ∀ b ∈ fp, FpOk X pins H b) (hl : s.heap.objs.size ≤ l)
    (I4 : Inv (blk X N scope cl C fp s H) [(l, lobj its k)] σ' H' s4) (rv : Vals ys its) (hz : ys.length ≤ sizeLine) : Inv X pins σ (upd H' l (.lst ys)) s4 := by
  have base : Un (frs X.stack) fp H H' s.heap s4.heap := I4.base
  have pin := I4.pin (l, lobj its k) (List.mem_append_right _ List.mem_cons_self)
  have nl : ∀ b o, s.heap.get? b = some o → b ≠ l := fun b o e => Nat.ne_of_lt (Nat.lt_of_lt_of_le (Heap.lt_size e) hl)
  have nh : ∀ b u, H' b = some u → b ≠ l := fun b u e => ne_of_none e pin.2.1
  refine I.call' (ch := fp) I4.os ⟨base.keep, base.slot, fun b o e n hx => ?_, base.there, fun b xs e => ?_, fun b o u e => ?_, fun b ps e => ?_⟩ (fun b u e => ?_) I4.bare (fun b hb => ⟨(hf b hb).2.2.2.1, (hf b hb).2.1, (hf b hb).2.2.2.2.1, (hf b hb).2.2.2.2.2⟩)
  · rw [upd_ne (nl b o e)]; exact base.free b o e n hx
  · have := base.tups b xs e
    rw [upd_ne (nh b _ this)]; exact this
  · have := base.frzs b o u e
    rw [upd_ne (nh b _ this)]; exact this
  · obtain ⟨more, this⟩ := base.tbls b ps e
    exact ⟨more, by rw [upd_ne (nh b _ this)]; exact this⟩
  · by_cases hb : b = l
    · subst hb
      rw [upd_same] at e
      cases e
      exact ⟨hz, its, k, rv, pin.1⟩
    · rw [upd_ne hb] at e
      exact (I4.hok b u e).stay (fun c v _ q => q) (fun c q => by rw [upd_ne (nh c _ q)]; exact q) fun c xs q => by rw [upd_ne (nh c _ q)]; exact q
theorem comp_core {elt iter tg : Expr} {ifs : List Expr} {pos : Pos} {g : TG} {tc : TT} {te : TE} {it : Addr} {fp : List Addr} {tn : Nat → Heap → Prop} {J : It} {fin : List V → Hp → Prop} {W : Nat → Nat → List V → St → Hp → Prop} {m0 : Nat}
    {RR : Value → Addr → Result → Shared → Prop} {E : Value → Shared → Prop} (hc : X.calm = true) (B : BlkScope X own fr scope)
    (hg : ∀ cl C fp s2 H2, PG (blk X (blkN X own fr) scope cl C fp s2 H2) tg g) (ht : ∀ cl C fp s2 H2, PIf (blk X (blkN X own fr) scope cl C fp s2 H2) ifs tc) (he : ∀ cl C fp s2 H2, PE (blk X (blkN X own fr) scope cl C fp s2 H2) elt te)
    (I : Inv X pins σ H s) (T : Turn X.prog X.w X.K tg J fp it tn) (st0 : tn 0 s.heap) (hf : ∀ b ∈ fp, FpOk X pins H b) (w0 : W 0 m0 [] (blkSt own fr σ) H) (hW : compLoopR J g tc te fin W)
    (post : ∀ (l C : Addr) (s4 : Shared) (ys : List V) (H' : Hp) (m : Str → Option Value), s.heap.objs.size ≤ C → H' C = none → H' l = none → l ≠ C → s4.heap.Ns C m → Inv X pins σ (upd H' l (.lst ys)) s4 → fin ys H' → RR (.ref l) C (.ok .next) s4) :
    wpAny (model X.prog X.w) X.A (newList []) (fun acc s₃ => wpAny (model X.prog X.w) X.A (newFunctionEnv scope X.env.globals (cloOf X.env scope.names []) [] X.env.qual none .none (some X.env)) (fun cenv s₄ =>
      codeAny (model X.prog X.w) X.A (.compStart (.ListComp elt [⟨tg, iter, ifs, 0⟩] scope pos) 0 (.ref it) acc { cenv with scope := relabel scope X.env }) (RR acc cenv.locals) s₄) E s₃) E s := by
  have hfo : ∀ b ∈ fp, b < s.heap.objs.size := fun b hb => by
    obtain ⟨o, e, _⟩ := T.obj _ _ st0 b hb
    exact Heap.lt_size e
  refine wpAny_newObj_type (wpAny_newFunctionEnv B.nocell (by intro y hy; simp at hy) (fun h1 hns hsb => ?_) B.kind)
  dsimp only at hns hsb ⊢
  generalize hH2 : s.heap.push { cls := .type "list", dict := none, data := .seq ([] : List Value).toArray } = h2 at hns hsb ⊢
  have hC : h2.objs.size = s.heap.objs.size + 1 := by rw [← hH2, Heap.size_push]
  have hDC : s.heap.objs.size ≠ h2.objs.size := by rw [hC]; exact Nat.ne_of_lt (Nat.lt_succ_self _)
  have hCle : s.heap.objs.size ≤ h2.objs.size := by rw [hC]; exact Nat.le_succ _
  have old : ∀ b o, s.heap.get? b = some o → h1.get? b = some o := fun b o e => hsb.extBut b o (by rw [hC]; exact Nat.ne_of_lt (Nat.lt_succ_of_lt (Heap.lt_size e))) (Heap.get?_push_of_some _ (hH2 ▸ Heap.get?_push_of_some _ e))
  have hacc : h1.get? s.heap.objs.size = some (lobj [] 0) := hsb.extBut _ _ hDC (Heap.get?_push_of_some _ (hH2 ▸ Heap.get?_push_size _ rfl))
  have hns' : h1.Ns h2.objs.size fun _ => none := hns
  have I0 := blk_start (tk := s.toks + ([] : List (Str × Value)).length) B I hf hfo hCle (Nat.le_refl _) hDC old hns' hacc
  have st1 : tn 0 h1 := T.keep _ _ _ st0 fun b hb o e => old b o e
  have loop : codeAny (model X.prog X.w) X.A (.compLoop (.ListComp elt [⟨tg, iter, ifs, 0⟩] scope pos) 0 (.ref it) (.ref s.heap.objs.size) (compEnvC scope (cloOf X.env scope.names []) h2.objs.size X.env))
      (RR (.ref s.heap.objs.size) h2.objs.size) { s with heap := h1, toks := s.toks + ([] : List (Str × Value)).length } := by
    generalize hl : s.heap.objs.size = l at *
    generalize hCC : h2.objs.size = C at *
    -- what stays true of the iterator's objects
    have stat : ∀ {H' : Hp} {o : Obj}, (∀ b ∈ fp, H' b = none) → ∀ b ∈ fp, FpOk (blk X (blkN X own fr) scope (cloOf X.env scope.names []) C fp s H) [(l, o)] H' b := fun {H' o} hn b hb => by
      refine ⟨hn b hb, fun e => ?_, fun z => ?_, .inl hb, fun x c e z => ?_, fun p hp z => ?_⟩
      · exact Nat.ne_of_lt (Nat.lt_of_lt_of_le (hfo b hb) hCle) e
      · rcases List.mem_cons.mp (I.stkSub b z) with e | e
        · exact (hf b hb).2.1 e
        · exact (hf b hb).2.2.1 e
      · exact (hf b hb).2.2.2.2.1 x c (clo_sub0 (fun z hz e => I.ok.has _ (B.free z hz e)) x c e) z
      · have hp : p ∈ [(l, o)] := by simpa [blk] using hp
        obtain rfl := List.mem_singleton.mp hp
        exact Nat.ne_of_lt (hfo b hb) z.symm
    refine codeAny_loop rfl (fun n s' => ∃ i ys σ' H' its k, Inv (blk X (blkN X own fr) scope (cloOf X.env scope.names []) C fp s H) [(l, lobj its k)] σ' H' s' ∧ Vals ys its ∧ ys.length ≤ sizeLine ∧ tn i s'.heap ∧ (∀ b ∈ fp, H' b = none) ∧ W i n ys σ' H')
      (fun n s3 hI => ?_) m0 ⟨0, [], blkSt own fr σ, H, [], 0, I0, .nil, Nat.zero_le _, st1, fun b hb => (hf b hb).1, w0⟩
    show wpAny _ X.A ((compTurn (.ListComp elt [⟨tg, iter, ifs, 0⟩] scope pos) 0 (.ref it) (.ref l) (compEnvC scope (cloOf X.env scope.names []) C X.env)).onRaise (fun x => do noteFrame x (compEnvC scope (cloOf X.env scope.names []) C X.env); theTreesLotGoes x)) _ _ s3
    refine wpAny_noted ?_
    rw [compTurn_list]
    obtain ⟨i, ys, σ3, H3, its, k, I3, rv, hz, st3, fr3, w3⟩ := hI
    refine wpAny_bind (wpAny_standAt (wpAny_bind ?_))
    rcases hW i n ys σ3 H3 w3 with ⟨stop, qn⟩ | ⟨go, hlt, N, hN, step⟩
    · refine thn (T.done (blk X (blkN X own fr) scope (cloOf X.env scope.names []) C fp s H) rfl rfl rfl hc i _ s3 σ3 H3 _ I3 (stat fr3) st3 stop) fun r s4 ⟨hr, I4⟩ => ?_
      subst hr
      obtain ⟨m, hm, _⟩ := I4.loc
      exact wpAny_pure (post l C s4 ys H3 m hCle I4.free (I4.pin (l, lobj its k) (List.mem_append_right _ List.mem_cons_self)).2.1 hDC hm (blk_end I hf (Nat.le_of_eq hl) I4 rv hz) qn)
    · refine thn (T.item (blk X (blkN X own fr) scope (cloOf X.env scope.names []) C fp s H) rfl rfl rfl hc i _ s3 σ3 H3 _ I3 (stat fr3) st3 go) fun r s4 ⟨u, hr, h4⟩ => ?_
      subst hr
      refine wpAny_bind (thn h4 fun _ s5 ⟨x, H5, I5, r5, y5, st5, fr5⟩ => ?_)
      have I5' := I5.pinned (stat fr5) (T.obj _ _ st5)
      refine wpAny_bind (wpAny_mono (hg _ _ _ _ _ _ s5 σ3 H5 x u _ I5' r5 (step x H5 y5)) (fun _ s6 ⟨σ6, H6, I6, q6⟩ => ?_) fun _ _ z => z.elim)
      refine wpAny_bind (wpAny_mono (ht _ _ _ _ _ _ s6 σ6 H6 _ I6 q6) (fun b s7 ⟨H7, I7, q7⟩ => ?_) fun _ _ z => z.elim)
      -- the iterator stands as it stood
      have back : ∀ {σ8 : St} {H8 : Hp} {s8 : Shared}, Inv (blk X (blkN X own fr) scope (cloOf X.env scope.names []) C fp s H) ([(l, lobj its k)] ++ pinsAt fp s5.heap) σ8 H8 s8 → (∀ b ∈ fp, ∀ o, s5.heap.get? b = some o → s8.heap.get? b = some o) ∧ ∀ b ∈ fp, H8 b = none := fun I8 => by
        refine ⟨fun b hb o e => (I8.pin (b, o) (List.mem_append_right _ (List.mem_append_right _ (mem_pinsAt hb e)))).1, fun b hb => ?_⟩
        obtain ⟨o, e, _⟩ := T.obj _ _ st5 b hb
        exact (I8.pin (b, o) (List.mem_append_right _ (List.mem_append_right _ (mem_pinsAt hb e)))).2.1
      cases b with
      | false =>
        obtain ⟨k1, k2⟩ := back I7
        simp only [Bool.false_eq_true, if_false] at q7 ⊢
        obtain ⟨m', hm', w7⟩ := hN _ _ _ q7
        exact wpAny_pure ⟨rfl, m', hm', i + 1, ys, σ6, H7, its, k, I7.unpinned, rv, hz, T.keep _ _ _ st5 k1, k2, w7⟩
      | true =>
        simp only [if_true] at q7 ⊢
        refine wpAny_bind (wpAny_bind (wpAny_mono (he _ _ _ _ _ _ s7 σ6 H7 _ I7 q7) (fun w s8 ⟨y, H8, I8, r8, q8⟩ => ?_) fun _ _ z => z.elim))
        obtain ⟨k1, k2⟩ := back I8
        obtain ⟨m', hm', w8⟩ := hN _ _ _ q8
        have pin := I8.pin (l, lobj its k) (List.mem_append_right _ (List.mem_append_left _ List.mem_cons_self))
        have hil : its.length = ys.length := rv.length.symm
        refine wpAny_bind (append_at pin.1 (fun h9 hs9 hD9 => ?_) (by rw [List.size_toArray, hil]; exact hz))
        have new : h9.get? l = some (lobj (its ++ [w]) (k + 1)) := by rw [hD9, List.push_toArray]
        have Ia : Inv (blk X (blkN X own fr) scope (cloOf X.env scope.names []) C fp s H) [] σ6 H8 s8 := I8.pins_of (fun p hp => nomatch hp)
        have Ib : Inv (blk X (blkN X own fr) scope (cloOf X.env scope.names []) C fp s H) [] σ6 H8 { s8 with heap := h9 } := Ia.turned (t' := s8.toks) (fun b o hb e => hs9.extBut b o hb e) pin.2.1 pin.2.2.1 (.inr (Nat.le_of_eq hl)) (fun x c e z => by
          obtain ⟨v, o, ho, hd⟩ := I8.cell x c e
          rw [z, pin.1] at ho
          cases ho
          cases hd) (fun p hp => by
            have hp : p ∈ ([] : List (Addr × Obj)) := by simpa [blk] using hp
            cases hp)
        have Ic : Inv (blk X (blkN X own fr) scope (cloOf X.env scope.names []) C fp s H) [(l, lobj (its ++ [w]) (k + 1))] σ6 H8 { s8 with heap := h9 } := Ib.pins_of fun p hp => by
          obtain rfl := List.mem_singleton.mp hp
          exact ⟨new, pin.2.1, pin.2.2.1, pin.2.2.2.1, fun v e => by cases e⟩
        refine wpAny_pure (wpAny_pure ⟨rfl, m', hm', i + 1, ys ++ [y], σ6, H8, its ++ [w], k + 1, Ic, rv.append (.cons r8 .nil), by rw [List.length_append]; exact hlt, T.keep _ _ _ st5 fun b hb o e => ?_, k2, w8⟩)
        exact hs9.extBut b o (Nat.ne_of_lt (hfo b hb)) (k1 b hb o e)
  exact codeAny_compStart_list loop (T.self _ 0 _ _ _ st1 loop)
theorem Inv.letgo {s2 s4 : Shared} {H2 H4 : Hp} {C : Addr} {h' : Heap} (I2 : Inv X pins σ H2 s2) {σ4 : St} (I4 : Inv X pins σ4 H4 s4) (hC : s2.heap.objs.size ≤ C) (hn : H4 C = none) (hs : Heap.SameBut C s4.heap h') : Inv X pins σ4 H4 { s4 with heap := h' } := by
  obtain ⟨f0, f1, _, f3, f4, f5⟩ := I2.fpOk hC hn
  exact I4.turned (t' := s4.toks) (fun b o hb e => hs.extBut b o hb e) f0 f1 f3 f4 f5
theorem pe_comp {elt iter tg : Expr} {ifs : List Expr} {pos : Pos} {g : TG} {tc : TT} {te : TE} {wi : TI} (own : List Str) (fr : List Nat) (hc : X.calm = true) (B : BlkScope X own fr scope) (hi : PI X tg iter wi)
    (hg : ∀ cl C fp s2 H2, PG (blk X (blkN X own fr) scope cl C fp s2 H2) tg g) (ht : ∀ cl C fp s2 H2, PIf (blk X (blkN X own fr) scope cl C fp s2 H2) ifs tc) (he : ∀ cl C fp s2 H2, PE (blk X (blkN X own fr) scope cl C fp s2 H2) elt te)
    (hs : ∀ x, foldedSetIterable iter X.env x = pure x := by intro _; rfl) : PE X (.ListComp elt [⟨tg, iter, ifs, 0⟩] scope pos) (tComp own fr wi g tc te) := by
  intro pins s σ H Q I h
  rw [eval_ListComp]
  refine wpAny_comprehension_free (use := none) rfl hs (clo_eq fun z hz e => I.ok.has _ (B.free z hz e)) B.kind B.names ?_
  refine thn (hi pins s σ H _ I h) fun v s1 h1 => thn h1 fun itv s2 h2 => ?_
  obtain ⟨it, fp, tn, J, H2, e, I2, T, st2, f2, W, ⟨m0, w0⟩, hW⟩ := h2
  subst e
  refine comp_core hc B hg ht he I2 T st2 f2 w0 hW fun l C s4 ys H' m hC nC nl hlC hm I4 fin => ?_
  exact ⟨m, hm, fun h' hs' => ⟨.ref l, _, I2.letgo I4 hC (by rw [upd_ne (Ne.symm hlC)]; exact nC) hs', rfl, fin l nl⟩⟩
theorem ps_setC {elt iter tg : Expr} {ifs : List Expr} {pos pos' cpos : Pos} {g : TG} {tc : TT} {te : TE} {wi : TI} {i : Nat} {x : Str} (own : List Str) (fr : List Nat) (hN : X.N.Nodup) (hxi : X.N[i]? = some x) (hx : X.env.scope.names.lookup x = some .local) (hc : X.calm = true) (B : BlkScope X own fr scope) (hi : PI X tg iter wi)
    (hg : ∀ cl C fp s2 H2, PG (blk X (blkN X own fr) scope cl C fp s2 H2) tg g) (ht : ∀ cl C fp s2 H2, PIf (blk X (blkN X own fr) scope cl C fp s2 H2) ifs tc) (he : ∀ cl C fp s2 H2, PE (blk X (blkN X own fr) scope cl C fp s2 H2) elt te)
    (hsw : swapsWith (.ListComp elt [⟨tg, iter, ifs, 0⟩] scope cpos) (some (.Name x pos')) pos.line X.env = pure true := by rfl)
    (hs : ∀ x, foldedSetIterable iter X.env x = pure x := by intro _; rfl) : PS X (.Assign [.Name x pos'] (.ListComp elt [⟨tg, iter, ifs, 0⟩] scope cpos) pos) (tAsg (tComp own fr wi g tc te) (gName i)) := by
  intro pins s σ H D I h
  rw [exec_Assign_Name_used _ _ _ _ hsw]
  refine wpAny_bind (wpAny_standAt (wpAny_bind ?_))
  show wpAny _ X.A (do let _ ← comprehension (.ListComp elt [⟨tg, iter, ifs, 0⟩] scope cpos) scope X.env _ (newList []) false (eval iter X.env) (some (assign (.Name x pos') X.env))) _ _ s
  refine wpAny_bind (wpAny_mono (wpAny_comprehension_free (use := some (assign (.Name x pos') X.env)) (Q := fun _ s' => SP X pins D .next s') rfl hs (clo_eq fun z hz e => I.ok.has _ (B.free z hz e)) B.kind B.names ?_) (fun _ s' hq => wpAny_pure (wpAny_pure hq)) fun _ _ e => e)
  refine thn (hi pins s σ H _ I h) fun v s1 h1 => thn h1 fun itv s2 h2 => ?_
  obtain ⟨it, fp, tn, J, H2, e, I2, T, st2, f2, W, ⟨m0, w0⟩, hW⟩ := h2
  subst e
  refine comp_core (RR := fun acc C => compPost (model X.prog X.w) X.A X.xe (some (assign (.Name x pos') X.env)) (fun _ s' => SP X pins D .next s') acc C) hc B hg ht he I2 T st2 f2 w0 hW fun l C s4 ys H' m hC nC nl hlC hm I4 fin => ?_
  show wpAny _ X.A (assign (.Name x pos') X.env (.ref l)) _ _ s4
  refine wpAny_assign_Name (store_ok2 I4 hN hxi (.inl hx) (v := .ref l) rfl (fun s5 I5 hsb => ?_) (.inr hx))
  obtain ⟨a, sb, ha⟩ := hsb
  have hCa : C ≠ a := by
    rcases ha with rfl | ha
    · exact Nat.ne_of_gt (Nat.lt_of_lt_of_le I2.lt hC)
    · obtain ⟨v, q⟩ := I2.cell x a ha
      exact Nat.ne_of_gt (Nat.lt_of_lt_of_le q.lt hC)
  exact ⟨m, hm.sameBut sb hCa, fun h' hs' => ⟨_, _, I2.letgo I5 hC (by rw [upd_ne (Ne.symm hlC)]; exact nC) hs', fin l nl⟩⟩
end
end L2
namespace L2
open PySem PySem.Spec PyProof.Rows
mutual
def DV (K : PySem.W.Frag) (H : Hp) : PyData → V → Prop
  | .none, v => v = .non
  | .bool b, v => v = .bl b
  | .int i, v => v = .int i
  | .str x, v => v = .str x
  | .list ds, v => ∃ a xs, v = .ref a ∧ SqL K H a xs ∧ DVs K H ds xs
  | .tuple ds, v => ∃ a xs, v = .ref a ∧ SqT K H a xs ∧ DVs K H ds xs
  | .dict _, _ => False
def DVs (K : PySem.W.Frag) (H : Hp) : List PyData → List V → Prop
  | [], xs => xs = []
  | d :: ds, xs => ∃ x r, xs = x :: r ∧ DV K H d x ∧ DVs K H ds r
end
section
variable {X : Cx} {pins : List (Addr × Obj)} {σ : St} {H : Hp} {s : Shared}
mutual
theorem DV.reads (I : Inv X pins σ H s) : ∀ {d : PyData} {v : V} {u : Value}, DV X.K H d v → RelV v u → ∃ as, Reads s.heap u d as
  | .none, v, u, h, r => by
    have h : v = .non := by simpa [DV] using h
    subst h; cases r; exact ⟨_, Reads.none⟩
  | .bool b, v, u, h, r => by
    have h : v = .bl b := by simpa [DV] using h
    subst h; cases r; exact ⟨_, Reads.bool b⟩
  | .int i, v, u, h, r => by
    have h : v = .int i := by simpa [DV] using h
    subst h; obtain ⟨t, rfl⟩ := r; exact ⟨_, Reads.int i t⟩
  | .str x, v, u, h, r => by
    have h : v = .str x := by simpa [DV] using h
    subst h; obtain ⟨t, rfl⟩ := r; exact ⟨_, Reads.str x t⟩
  | .list ds, v, u, h, r => by
    have h : ∃ a xs, v = .ref a ∧ SqL X.K H a xs ∧ DVs X.K H ds xs := by simpa [DV] using h
    obtain ⟨a, xs, rfl, hq, hd⟩ := h
    cases r
    obtain ⟨its, rv, pl, _⟩ := I.list hq
    obtain ⟨as, ra⟩ := DVs.reads I hd rv
    obtain ⟨o, ho, hc, n, hdd⟩ := pl.isList
    exact ⟨_, reads_list_at ho hc hdd (by simpa using ra)⟩
  | .tuple ds, v, u, h, r => by
    have h : ∃ a xs, v = .ref a ∧ SqT X.K H a xs ∧ DVs X.K H ds xs := by simpa [DV] using h
    obtain ⟨a, xs, rfl, hq, hd⟩ := h
    cases r
    obtain ⟨its, rv, pl, _⟩ := I.tuple hq
    obtain ⟨as, ra⟩ := DVs.reads I hd rv
    obtain ⟨o, ho, hc, n, hdd⟩ := pl
    exact ⟨_, reads_tuple_at ho hc hdd (by simpa using ra)⟩
  | .dict _, v, u, h, r => by simp [DV] at h
theorem DVs.reads (I : Inv X pins σ H s) : ∀ {ds : List PyData} {vs : List V} {us : List Value}, DVs X.K H ds vs → Vals vs us → ∃ as, ReadsAll s.heap us ds as
  | [], vs, us, h, r => by
    have h : vs = [] := by simpa [DVs] using h
    subst h; cases r; exact ⟨_, ReadsAll.nil⟩
  | d :: ds, vs, us, h, r => by
    have h : ∃ x r, vs = x :: r ∧ DV X.K H d x ∧ DVs X.K H ds r := by simpa [DVs] using h
    obtain ⟨x, rr, rfl, h1, h2⟩ := h
    cases r with
    | cons r1 r2 =>
      obtain ⟨as, ra⟩ := DV.reads I h1 r1
      obtain ⟨bs, rb⟩ := DVs.reads I h2 r2
      exact ⟨_, ReadsAll.cons ra rb⟩
end
def rNeD (K : PySem.W.Frag) : R2 := fun x y H Q => ∃ d e, DV K H d x ∧ DV K H e y ∧ SeqAt.shaped d = true ∧ SeqAt.shaped e = true ∧ Q (.bl (!PyData.eqv d e)) H
theorem op_neD (hu : X.A.units + 64 < cLine) : OpR X (compareOp .NotEq) (rNeD X.K) := by
  intro pins s σ H x y v u Q I rx ry h
  obtain ⟨d, e, hd, he, sd, se, q⟩ := h
  obtain ⟨as, ra⟩ := DV.reads I hd rx
  obtain ⟨bs, rb⟩ := DV.reads I he ry
  exact ne_dataH ra rb sd se hu ⟨.bl _, H, I, rfl, q⟩
theorem call_isi : CallR X (.builtin "isinstance") (fun vs H Q => ∃ x n t b, vs = [x, .ty n] ∧ TyOf X.K H x t ∧ PySem.W.kitOne X.K t (.type n) = some b ∧ Q (.bl b) H) := by
  intro pins s σ H xs us Q I r h
  obtain ⟨x, n, t, b, rfl, ty, e, q⟩ := h
  obtain ⟨u, w, rfl, rx, rn⟩ := vals2 r
  cases rn
  exact isinst_ok I rx ty e fun tk => ⟨.bl b, H, I.tok tk, rfl, q⟩
end
end L2
set_option maxHeartbeats 4000000
namespace L2
open PySem PySem.Spec PyProof.Rows
section
variable {X : Cx}
end
end L2
namespace L2
open PySem PySem.Spec PyProof.Rows
section
variable {κ : Type} [DecidableEq κ]
def valV (kvs : List (κ × V)) (k : κ) : Option V := (kvs.find? fun kv => decide (kv.1 = k)).map (·.2)
def putK (kvs : List (κ × V)) (k : κ) (v : V) : List (κ × V) :=
  if (kvs.any fun kv => decide (kv.1 = k)) = true then kvs.map (fun kv => if kv.1 = k then (kv.1, v) else kv) else kvs ++ [(k, v)]
def dropK (kvs : List (κ × V)) (k : κ) : List (κ × V) := kvs.filter fun kv => decide (kv.1 ≠ k)

theorem valV_pos {p : κ × V} {r : List (κ × V)} {k : κ} (e : p.1 = k) : valV (p :: r) k = some p.2 := by simp [valV, List.find?_cons, e]
theorem valV_neg {p : κ × V} {r : List (κ × V)} {k : κ} (e : ¬ p.1 = k) : valV (p :: r) k = valV r k := by simp [valV, List.find?_cons, e]
theorem RelO.getD {o : Option V} {u : Option Value} {d : V} {d' : Value} (r : RelO o u) (rd : RelV d d') : RelV (o.getD d) (u.getD d') := by
  cases o with
  | none => cases u with
    | none => exact rd
    | some _ => exact (show False from r).elim
  | some _ => cases u with
    | none => exact (show False from r).elim
    | some _ => exact r

theorem KV.val {kvs : List (κ × V)} {vs : List (κ × Value)} (r : KV kvs vs) (k : κ) : RelO (valV kvs k) (valueAt vs k) := by
  unfold KV at r
  induction r with
  | nil => exact True.intro
  | @cons p q ps qs h t ih =>
    obtain ⟨h1, h2⟩ := h
    by_cases e : p.1 = k
    · have e' : q.1 = k := h1.symm.trans e
      have b : valueAt (q :: qs) k = some q.2 := by simp [valueAt, List.find?_cons, e']
      rw [valV_pos e, b]; exact h2
    · have e' : ¬ q.1 = k := fun z => e (h1.trans z)
      have b : valueAt (q :: qs) k = valueAt qs k := by simp [valueAt, List.find?_cons, e']
      rw [valV_neg e, b]; exact ih
theorem KV.any {kvs : List (κ × V)} {vs : List (κ × Value)} (r : KV kvs vs) (k : κ) : (kvs.any fun kv => decide (kv.1 = k)) = vs.any fun kv => decide (kv.1 = k) := by
  unfold KV at r
  induction r with
  | nil => rfl
  | cons h t ih => rw [List.any_cons, List.any_cons, ih, h.1]
theorem KV.drop {kvs : List (κ × V)} {vs : List (κ × Value)} (r : KV kvs vs) (k : κ) : KV (dropK kvs k) (without vs k) := by
  unfold KV at r ⊢
  unfold dropK without
  induction r with
  | nil => exact .nil
  | @cons p q ps qs h t ih =>
    obtain ⟨h1, h2⟩ := h
    rw [List.filter_cons, List.filter_cons]
    by_cases e : p.1 = k
    · have a : ¬ decide (p.1 ≠ k) = true := by simp [e]
      have b : ¬ decide (q.1 ≠ k) = true := by simp [h1.symm.trans e]
      rw [if_neg a, if_neg b]; exact ih
    · have e' : ¬ q.1 = k := fun z => e (h1.trans z)
      have a : decide (p.1 ≠ k) = true := by simp [e]
      have b : decide (q.1 ≠ k) = true := by simp [e']
      rw [if_pos a, if_pos b]; exact .cons ⟨h1, h2⟩ ih
theorem KV.keys {kvs : List (κ × V)} {vs : List (κ × Value)} (r : KV kvs vs) : kvs.map (·.1) = vs.map (·.1) := by
  unfold KV at r
  induction r with
  | nil => rfl
  | cons h t ih => rw [List.map_cons, List.map_cons, ih, h.1]
theorem KV.length {kvs : List (κ × V)} {vs : List (κ × Value)} (r : KV kvs vs) : kvs.length = vs.length := Paired.length r
end
abbrev KT (H : Hp) : List (List Key × V) → List (List Key × Addr × Value) → Prop := Paired fun p q => p.1 = q.1 ∧ H q.2.1 = some (.tup (p.1.map kV)) ∧ RelV p.2 q.2.2
theorem KT.val {H : Hp} {kvs : List (List Key × V)} {xs : List (List Key × Addr × Value)} (r : KT H kvs xs) (k : List Key) : RelO (valV kvs k) ((atKey xs k).map (·.2)) := by
  induction r with
  | nil => exact True.intro
  | @cons p q ps qs h t ih =>
    obtain ⟨h1, _, h2⟩ := h
    by_cases e : p.1 = k
    · have e' : q.1 = k := h1.symm.trans e
      have b : atKey (q :: qs) k = some q.2 := by simp [atKey, List.find?_cons, e']
      rw [valV_pos e, b]; exact h2
    · have e' : ¬ q.1 = k := fun z => e (h1.trans z)
      have b : atKey (q :: qs) k = atKey qs k := by simp [atKey, List.find?_cons, e']
      rw [valV_neg e, b]; exact ih
theorem KT.keeps {H H' : Hp} {kvs : List (List Key × V)} {xs : List (List Key × Addr × Value)} (r : KT H kvs xs) (ht : ∀ b ys, H b = some (.tup ys) → H' b = some (.tup ys)) : KT H' kvs xs :=
  Paired.mapP r fun _ _ z => ⟨z.1, ht _ _ z.2.1, z.2.2⟩

section
variable {P : Program} {w : World} {H : Hp} {h : Heap} {a : Addr}
end
def DGet (H : Hp) (a : Addr) (y : V) (r : Option V) : Prop :=
  (∃ kvs k, Rd H a (.dK kvs) ∧ y = kV k ∧ r = valV kvs k) ∨ ∃ kvs k b, Rd H a (.dT kvs) ∧ y = .ref b ∧ H b = some (.tup (k.map kV)) ∧ r = valV kvs k
def DPut (H : Hp) (a : Addr) (y v : V) (H' : Hp) : Prop :=
  (∃ kvs k, H a = some (.dK kvs) ∧ y = kV k ∧ kvs.length < sizeLine ∧ H' = upd H a (.dK (putK kvs k v))) ∨
  ∃ kvs k b, H a = some (.dT kvs) ∧ y = .ref b ∧ H b = some (.tup (k.map kV)) ∧ kvs.length < sizeLine ∧ H' = upd H a (.dT (putK kvs k v))
theorem DGet.k {H : Hp} {a : Addr} {kvs : List (Key × V)} {k : Key} (e : H a = some (.dK kvs)) : DGet H a (kV k) (valV kvs k) := .inl ⟨kvs, k, .inl e, rfl, rfl⟩
theorem DGet.t {H : Hp} {a b : Addr} {kvs : List (List Key × V)} {k : List Key} (e : H a = some (.dT kvs)) (eb : H b = some (.tup (k.map kV))) : DGet H a (.ref b) (valV kvs k) := .inr ⟨kvs, k, b, .inl e, rfl, eb, rfl⟩
theorem DPut.k {H : Hp} {a : Addr} {kvs : List (Key × V)} {k : Key} {v : V} (e : H a = some (.dK kvs)) (hl : kvs.length < sizeLine) : DPut H a (kV k) v (upd H a (.dK (putK kvs k v))) := .inl ⟨kvs, k, e, rfl, hl, rfl⟩
theorem DPut.t {H : Hp} {a b : Addr} {kvs : List (List Key × V)} {k : List Key} {v : V} (e : H a = some (.dT kvs)) (eb : H b = some (.tup (k.map kV))) (hl : kvs.length < sizeLine) :
    DPut H a (.ref b) v (upd H a (.dT (putK kvs k v))) := .inr ⟨kvs, k, b, e, rfl, eb, hl, rfl⟩


section
variable {X : Cx} {pins : List (Addr × Obj)} {σ : St} {H : Hp} {s : Shared} {a : Addr} {y v : V} {u r : Value} {o : Option V} {A : Around} {E : Value → Shared → Prop}
end
section
variable {X : Cx} {pins : List (Addr × Obj)} {σ : St} {H : Hp} {s : Shared} {a : Addr} {kvs : List (Key × V)} {k : Key} {u : Value} {A : Around} {E : Value → Shared → Prop}
end
section
variable {X : Cx} {o i e value : Expr} {pos pos' tpos : Pos} {td ty tv : TE}
end
section
variable {X : Cx} {pos : Pos}
end
section
variable {X : Cx} {pins : List (Addr × Obj)} {σ : St} {H : Hp} {s : Shared} {a : Addr} {y d : V} {u r : Value} {o : Option V} {A : Around} {E : Value → Shared → Prop}
end
section
variable {X : Cx} {o e f : Expr} {apos cpos : Pos} {td ty tx : TE}
end
section
variable {X : Cx} {pins : List (Addr × Obj)} {σ : St} {H : Hp} {s : Shared} {a : Addr} {kvs : List (Key × V)} {A : Around} {E : Value → Shared → Prop}
end
section
variable {X : Cx} {pins : List (Addr × Obj)} {σ : St} {H : Hp} {s : Shared} {a : Addr} {y : V} {u : Value} {A : Around} {E : Value → Shared → Prop}
end
end L2
namespace L2
open PySem PySem.Spec PyProof.Rows
section
variable {X : Cx}
end
end L2
set_option maxHeartbeats 4000000
namespace L2
open PySem PySem.Spec PyProof.Rows
def blkCheck (osc : Scope) (N : List Str) (fr : List Nat) (sc : Scope) : Bool :=
  sc.kind == .function && (sc.names.all fun x => x.2 != .cell && (x.2 != .local || sc.names.lookup x.1 == some .local) && (x.2 != .free || (osc.names.lookup x.1 == some .cell || osc.names.lookup x.1 == some .free))) && fr.all fun i => sc.names.lookup (N.getD i "") == some .free
theorem blkS {X : Cx} {own : List Str} {fr : List Nat} {sc : Scope} (osc : Scope) (N : List Str) (h : blkCheck osc N fr sc = true) (h1 : X.env.scope = osc := by rfl) (h2 : X.N = N := by rfl) : BlkScope X own fr sc := by
  unfold blkCheck at h
  simp only [Bool.and_eq_true, List.all_eq_true] at h
  obtain ⟨⟨hk, hn⟩, hf⟩ := h
  refine ⟨by simpa using hk, fun x hx => by simpa using (hn x hx).1.1, fun x hx e => ?_, fun x hx e => ?_, fun i hi => ?_⟩
  · have := (hn x hx).1.2
    simpa [e] using this
  · have := (hn x hx).2
    show X.env.scope.names.lookup x.1 = _ ∨ X.env.scope.names.lookup x.1 = _
    rw [h1]
    simpa [e] using this
  · rw [h2]
    simpa using hf i hi
theorem Same.upd {H : Hp} {a : Addr} {o : HO} (h : H a = none) : Same H (upd H a o) := fun b u e => by
  rw [upd_ne (ne_of_none e h)]
  exact e
theorem P2.same {K : PySem.W.Frag} {H H' : Hp} (e : Same H H') {v : V} {p : Int × Int} (h : P2 K H v p) : P2 K H' v p := by
  obtain ⟨a, rfl, q⟩ := h
  exact ⟨a, rfl, e _ _ q⟩
theorem P2s.same {K : PySem.W.Frag} {H H' : Hp} (e : Same H H') {vs : List V} {ps : List (Int × Int)} (h : Paired (P2 K H) vs ps) : Paired (P2 K H') vs ps := Paired.mapP h fun _ _ r => r.same e
def PL (K : PySem.W.Frag) (H : Hp) (a : Addr) (ps : List (Int × Int)) : Prop := ∃ xs, SqL K H a xs ∧ Paired (P2 K H) xs ps
theorem PL.same {K : PySem.W.Frag} {H H' : Hp} (e : Same H H') {a : Addr} {ps : List (Int × Int)} (h : PL K H a ps) : PL K H' a ps := by
  obtain ⟨xs, h1, h2⟩ := h
  exact ⟨xs, e.seq h1, P2s.same e h2⟩
theorem Paired.atL {α β : Type} {R : α → β → Prop} : ∀ {l : List α} {m : List β} {i : Nat} {x : α}, Paired R l m → l[i]? = some x → ∃ y, m[i]? = some y ∧ R x y
  | _, _, _, _, .nil, e => by simp at e
  | _, _, 0, _, .cons r _, e => by simp at e; subst e; exact ⟨_, rfl, r⟩
  | _, _, i + 1, x, .cons _ t, e => by
    obtain ⟨y, h1, h2⟩ := Paired.atL (i := i) (x := x) t (by simpa using e)
    exact ⟨y, by simpa using h1, h2⟩
theorem Paired.atR {α β : Type} {R : α → β → Prop} : ∀ {l : List α} {m : List β} {i : Nat} {y : β}, Paired R l m → m[i]? = some y → ∃ x, l[i]? = some x ∧ R x y
  | _, _, _, _, .nil, e => by simp at e
  | _, _, 0, _, .cons r _, e => by simp at e; subst e; exact ⟨_, rfl, r⟩
  | _, _, i + 1, x, .cons _ t, e => by
    obtain ⟨y, h1, h2⟩ := Paired.atR (i := i) (y := x) t (by simpa using e)
    exact ⟨y, by simpa using h1, h2⟩
theorem pg_tupK {X : Cx} (K : PySem.W.Frag) {es : List Expr} {k : Nat} {t : TGs} {n : Nat} {pos : Pos} (hK : X.K = K) (hc : X.calm = true) (h : PGs X es t)
    (hn : (assignEach es X.env).length = n := by rfl) (hst : (assignEach es X.env).findIdx? (·.1) = none := by rfl) : PG X (.Tuple es k pos) (gTup K n t) := by
  subst hK
  exact pg_tup hc h hn hst
end L2
namespace L2
open PySem
def TK (H H' : Hp) : Prop := ∀ b xs, H b = some (.tup xs) → H' b = some (.tup xs)
theorem TK.of {H H' : Hp} (e : Same H H') : TK H H' := fun b xs h => e b _ h
theorem TK.trans {H H1 H2 : Hp} (a : TK H H1) (b : TK H1 H2) : TK H H2 := fun c xs h => b c xs (a c xs h)
theorem TK.upd {H : Hp} {a : Addr} {xs : List V} {o : HO} (h : H a = some (.lst xs)) : TK H (upd H a o) := fun b ys e => by
  rw [upd_ne (ne_of e h (by intro z; cases z))]
  exact e
theorem P2.tk {K : PySem.W.Frag} {H H' : Hp} (e : TK H H') {v : V} {p : Int × Int} (h : P2 K H v p) : P2 K H' v p := by
  obtain ⟨a, rfl, q⟩ := h
  exact ⟨a, rfl, e _ _ q⟩
theorem P2s.tk {K : PySem.W.Frag} {H H' : Hp} (e : TK H H') {vs : List V} {ps : List (Int × Int)} (h : PySem.Paired (P2 K H) vs ps) : PySem.Paired (P2 K H') vs ps := Paired.mapP h fun _ _ r => r.tk e
theorem Paired.snoc {α β : Type} {R : α → β → Prop} : ∀ {l : List α} {m : List β} {x : α} {y : β}, PySem.Paired R l m → R x y → PySem.Paired R (l ++ [x]) (m ++ [y])
  | _, _, _, _, .nil, r => .cons r .nil
  | _, _, _, _, .cons q t, r => .cons q (Paired.snoc t r)
end L2
set_option maxHeartbeats 4000000
namespace TS
open PySem PyProof.Rows
section
variable {prog : Program} {w : World} {A : Around} {E : Value → Shared → Prop} {s : Shared}
end
end TS
namespace L2
open PySem PySem.Spec PyProof.Rows
section
variable {X : Cx}
def dk (ns : List Int) : List (Key × V) := ns.map fun n => (Sum.inl n, V.bl true)
def FD (H : Hp) (d : Addr) (ns : List Int) : Prop := ∃ o, H d = some (.frz o (.dK (dk ns)))
theorem FD.same {H H' : Hp} {d : Addr} {ns : List Int} (h : FD H d ns) (e : Same H H') : FD H' d ns := by
  obtain ⟨o, q⟩ := h
  exact ⟨o, e _ _ q⟩
theorem FD.get {H : Hp} {d : Addr} {ns : List Int} (h : FD H d ns) (n : Int) : DGet H d (.int n) (valV (dk ns) (Sum.inl n)) := by
  obtain ⟨o, hd⟩ := h
  exact .inl ⟨dk ns, Sum.inl n, .inr ⟨o, hd⟩, rfl, rfl⟩
end
end L2
set_option maxHeartbeats 4000000
namespace L2
open PySem PySem.Spec PyProof.Rows PySem.W
structure NX (fs : List Addr) (e : Addr) (oT : Option Addr) (oe : Obj) (vs : Array Value) (T' : Addr) (fl : Value) (h h' : Heap) : Prop where
  kept : ∀ b o, b ∉ fs → b ≠ e → oT ≠ some b → h.get? b = some o → h'.get? b = some o
  frame : ∀ b o, b ∈ fs → h.get? b = some o → ∃ sl, h'.get? b = some { o with slots := sl }
  obj : ∃ o' vs', h'.get? e = some o' ∧ o'.cls = oe.cls ∧ o'.dict = oe.dict ∧ o'.data = .fields vs' ∧ vs'[0]? = vs[0]? ∧ vs'[1]? = some (.ref T')
  new : h.get? T' = none
  ne : T' ≠ e
  ent : ∃ ot ts, h'.get? T' = some ot ∧ ot.data = .fields ts ∧ ts[3]? = some fl
section
variable {M : Model} {A : Around} {E : Value → Shared → Prop} {s : Shared} {base : Heap} {env : Env} {outer : List Env} {L e : Addr} {oe : Obj} {vs : Array Value} {Q : Unit → Shared → Prop}
theorem noFrame (hl : s.heap.FunFrames base (env :: outer)) (he : s.heap.get? e = some oe) (hd : oe.data = .fields vs) : e ∉ frs (env :: outer) := fun hm => by
  obtain ⟨_, o, ho, hnf⟩ := hl.mem hm
  rw [he] at ho
  cases ho
  exact hnf vs hd
theorem entry_core {head : Value} {hadNext : Bool} (hfr : A.frames = some (env :: outer)) (hl : s.heap.FunFrames base (env :: outer)) (hf : env.frame = some L) (he : s.heap.get? e = some oe) (hd : oe.data = .fields vs) (hsz : 1 < vs.size)
    (k : ∀ h' T', NX (frs (env :: outer)) e none oe vs T' (rawInt L) s.heap h' → Q () { s with heap := h' }) :
    wpAny M A (do let fr ← frameOf env; let pl ← entryPlaceOf L hadNext; let en ← EntryCells.newEntry head fr .none (rawInt L) .none pl; setField (.ref e) 1 en) Q E s := by
  have hne := noFrame hl he hd
  refine wpAny_bind (wpAny_frameOf_fun hfr hl hf fun h1 so => wpAny_bind (wpAny_entryPlaceOf fun pl hpl => wpAny_bind ?_))
  obtain ⟨so1, so2, so3⟩ := so
  have e1 : h1.get? e = some oe := (so2 e hne).trans he
  simp only [EntryCells.newEntry, newFields]
  refine wpAny_newObj_type ?_ (hpl.sizeOk5 _ _ _ _ _)
  generalize hob : (⟨.type "traceback", none, .fields ([head, .ref L, .none, rawInt L, .none] ++ (if pl.isEmpty then List.replicate 6 Value.none else pl)).toArray, #[]⟩ : Obj) = tb
  have hts : ∃ ts, tb.data = .fields ts ∧ ts[3]? = some (rawInt L) := ⟨_, by rw [← hob], by simp⟩
  have e2 : (h1.push tb).get? e = some oe := Heap.get?_push_of_some _ e1
  refine wpAny_setField e2 hd hsz (k _ h1.objs.size ?_)
  have hTe : h1.objs.size ≠ e := Nat.ne_of_gt (Heap.lt_size e1)
  have up : ∀ b o, b ≠ e → h1.get? b = some o → ((h1.push tb).update e (Obj.mapFields (·.setIfInBounds 1 (Value.ref h1.objs.size)))).get? b = some o := fun b o hb q => by
    rw [Heap.get?_update_other _ _ (Ne.symm hb)]
    exact Heap.get?_push_of_some _ q
  have hdt := Obj.data_mapFields hd (·.setIfInBounds 1 (Value.ref h1.objs.size))
  refine ⟨fun b o h1' h2' _ q => up b o h2' ((so2 b h1').trans q), fun b o hb q => ?_, ?_, ?_, hTe, ?_⟩
  · obtain ⟨sl, z⟩ := so3 b o q
    exact ⟨sl, up b _ (fun z => hne (z ▸ hb)) z⟩
  · refine ⟨_, _, Heap.get?_update_self _ e2 (Obj.isFreed_of_fields hdt), Obj.cls_mapFields _ _, ?_, hdt, ?_, ?_⟩
    · obtain ⟨c1, c2, c3, c4⟩ := oe
      cases hd
      rfl
    · rw [Array.getElem?_setIfInBounds_ne (by decide)]
    · simp [hsz]
  · cases q : s.heap.get? h1.objs.size with
    | none => rfl
    | some o =>
      obtain ⟨sl, z⟩ := so3 _ o q
      exact absurd (Heap.lt_size z) (Nat.lt_irrefl _)
  · obtain ⟨ts, t1, t2⟩ := hts
    refine ⟨tb, ts, ?_, t1, t2⟩
    rw [Heap.get?_update_other _ _ (Ne.symm hTe)]
    exact Heap.get?_push_size _ (by rw [← hob]; rfl)
def Bears (h : Heap) (e : Addr) (vs : Array Value) : Option Addr → Prop
  | none => vs[1]? = some .none
  | some T => vs[1]? = some (.ref T) ∧ T ≠ e ∧ ∃ ot ts, h.get? T = some ot ∧ ot.data = .fields ts ∧ ts[3]? = some .none
theorem note_x {oT : Option Addr} (hfr : A.frames = some (env :: outer)) (hl : s.heap.FunFrames base (env :: outer)) (hf : env.frame = some L) (he : s.heap.get? e = some oe) (hd : oe.data = .fields vs) (hb : Bears s.heap e vs oT)
    (k : ∀ h' T', NX (frs (env :: outer)) e oT oe vs T' (rawInt L) s.heap h' → Q () { s with heap := h' }) : wpAny M A (noteFrame (.ref e) env) Q E s := by
  simp only [noteFrame, hf]
  cases oT with
  | none =>
    have hv : vs[1]? = some .none := hb
    have hsz : 1 < vs.size := (Array.getElem?_eq_some_iff.mp hv).1
    refine wpAny_bind (wpAny_field he hd hv ?_)
    rw [if_neg (by decide)]
    exact entry_core hfr hl hf he hd hsz k
  | some T =>
    obtain ⟨hv, hTe, ot, ts, hT, hdT, h3⟩ := hb
    have hsz : 1 < vs.size := (Array.getElem?_eq_some_iff.mp hv).1
    refine wpAny_bind (wpAny_field he hd hv ?_)
    rw [if_pos (show (Value.ref T != Value.none) = true by simp)]
    refine wpAny_bind (wpAny_field hT hdT h3 ?_)
    rw [if_neg (show ¬ ((Value.none == rawInt L) = true) by simp [rawInt])]
    refine wpAny_bind (wpAny_setField hT hdT (Array.getElem?_eq_some_iff.mp h3).1 ?_)
    have oth : ∀ {b : Addr}, b ≠ T → (s.heap.update T (Obj.mapFields (·.setIfInBounds 3 Value.none))).get? b = s.heap.get? b := fun hb => Heap.get?_update_other _ _ (Ne.symm hb)
    have nT : ∀ {b : Addr} {o : Obj}, s.heap.get? b = some o → (∀ vs, o.data ≠ .fields vs) → b ≠ T := fun {b o} q hn z => by
      rw [z, hT] at q
      cases q
      exact hn ts hdT
    have hl2 : (s.heap.update T (Obj.mapFields (·.setIfInBounds 3 Value.none))).FunFrames base (env :: outer) := hl.of_keeps fun b o q hn => ⟨o, (oth (nT q hn)).trans q, rfl⟩
    refine entry_core (s := { s with heap := s.heap.update T (Obj.mapFields (·.setIfInBounds 3 Value.none)) }) hfr hl2 hf ((oth (Ne.symm hTe)).trans he) hd hsz fun h' T' nx => k h' T' ?_
    obtain ⟨n1, n2, n3, n4, n5, n6⟩ := nx
    refine ⟨fun b o h1 h2 h4 q => n1 b o h1 h2 (by simp) ((oth (fun z => h4 (by rw [z]))).trans q), fun b o hb q => n2 b o hb ((oth ?_).trans q), n3, ?_, n5, n6⟩
    · obtain ⟨_, o', ho', hn⟩ := hl.mem hb
      exact nT ho' hn
    · cases q : s.heap.get? T' with
      | none => rfl
      | some o =>
        by_cases z : T' = T
        · subst z
          have := Heap.get?_update_self (Obj.mapFields (·.setIfInBounds 3 Value.none)) hT (Obj.isFreed_of_fields (Obj.data_mapFields hdT _))
          rw [this] at n4
          cases n4
        · rw [oth z, q] at n4
          cases n4
theorem flight_x {fs : List Addr} {oT : Option Addr} {T' : Addr} {fl : Value} {h : Heap} (nx : NX fs e oT oe vs T' fl h s.heap) (k : ∀ h', NX fs e oT oe vs T' .none h h' → Q () { s with heap := h' }) : wpAny M A (setFlight (.ref e) none) Q E s := by
  obtain ⟨n1, n2, ⟨o', vs', o1, o2, o3, o4, o5, o6⟩, n4, n5, ot, ts, t1, t2, t3⟩ := nx
  have h3 : 3 < ts.size := (Array.getElem?_eq_some_iff.mp t3).1
  unfold setFlight
  refine wpAny_bind (wpAny_field o1 o4 o6 ?_)
  rw [if_pos (show (Value.ref T' != Value.none) = true by simp)]
  refine wpAny_setField t1 t2 h3 (k _ ?_)
  have oth : ∀ {b : Addr}, b ≠ T' → (s.heap.update T' (Obj.mapFields (·.setIfInBounds 3 ((none : Option Addr).elim Value.none fun f => rawInt f)))).get? b = s.heap.get? b := fun hb => Heap.get?_update_other _ _ (Ne.symm hb)
  have nT : ∀ {b : Addr} {o : Obj}, h.get? b = some o → b ≠ T' := fun {b o} q z => by
    rw [z, n4] at q
    cases q
  have hdt := Obj.data_mapFields t2 (·.setIfInBounds 3 ((none : Option Addr).elim Value.none fun f => rawInt f))
  refine ⟨fun b o h1 h2 h4 q => (oth (nT q)).trans (n1 b o h1 h2 h4 q), fun b o hb q => ?_, ⟨o', vs', (oth (Ne.symm n5)).trans o1, o2, o3, o4, o5, o6⟩, n4, n5, _, _, Heap.get?_update_self _ t1 (Obj.isFreed_of_fields hdt), hdt, by simp [h3]⟩
  obtain ⟨sl, z⟩ := n2 b o hb q
  exact ⟨sl, (oth (nT q)).trans z⟩
theorem leave_x {oT : Option Addr} (hfr : A.frames = some (env :: outer)) (hl : s.heap.FunFrames base (env :: outer)) (hf : env.frame = some L) (he : s.heap.get? e = some oe) (hd : oe.data = .fields vs) (hb : Bears s.heap e vs oT)
    (k : ∀ h' T', NX (frs (env :: outer)) e oT oe vs T' .none s.heap h' → Q () { s with heap := h' }) : wpAny M A (leaving env (.ref e)) Q E s := by
  unfold leaving
  exact wpAny_bind (note_x hfr hl hf he hd hb fun h1 T' nx => flight_x (s := { s with heap := h1 }) nx fun h2 nx2 => k h2 T' nx2)
end
end L2
set_option maxHeartbeats 4000000
namespace L2
open PySem PySem.Spec PyProof.Rows PySem.W
def Fly (h : Heap) (x : Addr) (C : Addr) (oT : Option Addr) : Prop := ∃ oe vs, h.get? x = some oe ∧ oe.cls = .ref C ∧ oe.dict = none ∧ oe.data = .fields vs ∧ Bears h x vs oT
def CX1 (P : Program) (w : World) : CXT := fun outer H s E e s' => ∃ x T C H', e = .ref x ∧ s'.os = s.os ∧ AllBare s'.gens ∧ Un (frs outer) [] H H' s.heap s'.heap ∧ HOk P w H' s'.heap ∧ H' x = none ∧ H' T = none ∧
  s.heap.get? x = none ∧ s.heap.get? T = none ∧ Fly s'.heap x C (some T) ∧ E (.ref C) none H'
theorem obj_some {P : Program} {w : World} {H : Hp} {h : Heap} {a : Addr} {o : HO} (x : ObjOk P w H h a o) : ∃ ob, h.get? a = some ob := by
  cases o with
  | lst xs => obtain ⟨z, its, n, r, e⟩ := x; exact ⟨_, e⟩
  | tup xs => obtain ⟨z, its, r, ob, e, c⟩ := x; exact ⟨_, e⟩
  | dK kvs => obtain ⟨z, y, vs, r, ob, es, ep, e, c⟩ := x; exact ⟨_, e⟩
  | dT kvs => obtain ⟨z, y, xs, r, ob, es, ep, e, c⟩ := x; exact ⟨_, e⟩
  | set S n => obtain ⟨ob, es, ep, t, e, c⟩ := x; exact ⟨_, e⟩
  | ins C dx fs => obtain ⟨d, z, ne, e, _⟩ := x; exact ⟨_, e⟩
  | own y => obtain ⟨ob, e⟩ := x; exact ⟨_, e⟩
  | xd fs => obtain ⟨mA, ⟨od, es, ep, e, c⟩, r⟩ := x; exact ⟨_, e⟩
  | rng lo hi => obtain ⟨t, u, v, e⟩ := x; exact ⟨_, e⟩
  | frz ob u => obtain ⟨e, q⟩ := x; exact ⟨_, e⟩
  | tbl ps => exact ⟨_, x⟩
  | met f y => exact ⟨_, x⟩
  | ext φ => obtain ⟨p, ⟨o, e⟩, st⟩ := x; exact ⟨_, e⟩
section
variable {X : Cx} {pins : List (Addr × Obj)} {σ : St} {H : Hp} {s : Shared}
structure Mine (X : Cx) (pins : List (Addr × Obj)) (H : Hp) (x : Addr) (oT : Option Addr) : Prop where
  hx : H x = none
  x0 : X.s₀.heap.get? x = none
  hT : ∀ T, oT = some T → H T = none ∧ X.s₀.heap.get? T = none
  pin : ∀ p ∈ X.pn ++ pins, p.1 ≠ x ∧ oT ≠ some p.1
variable {x T' : Addr} {oT : Option Addr} {oe : Obj} {vs : Array Value} {h' : Heap}
theorem noted_inv (I : Inv X pins σ H s) (hex : X.ex = []) (M : Mine X pins H x oT) (fx : ∃ o vs, s.heap.get? x = some o ∧ o.data = .fields vs) (fT : ∀ T, oT = some T → ∃ o vs, s.heap.get? T = some o ∧ o.data = .fields vs) (nx : NX (frs X.stack) x oT oe vs T' .none s.heap h') :
    Inv X pins σ H { s with heap := h' } := by
  obtain ⟨k1, k2, _⟩ := nx
  have nex : ∀ {b : Addr}, b ∉ X.ex := fun {b} hb => by rw [hex] at hb; cases hb
  have s0x : ∀ {b : Addr} {o : Obj}, X.s₀.heap.get? b = some o → b ≠ X.env.locals ∧ b ≠ x ∧ oT ≠ some b := fun {b o} e =>
    ⟨Nat.ne_of_lt (Nat.lt_of_lt_of_le (Heap.lt_size e) I.ok.above), (fun z => by rw [z, M.x0] at e; cases e), (fun z => by rw [(M.hT b z).2] at e; cases e)⟩
  have frm : ∀ {b : Addr}, b ∈ frs X.stack → b = X.env.locals ∨ b ∈ X.fs := fun {b} hb => List.mem_cons.mp (I.stkSub b hb)
  have any : ∀ {b : Addr} {o : Obj}, s.heap.get? b = some o → (∀ vs, o.data ≠ .fields vs) → ∃ sl, h'.get? b = some { o with slots := sl } := fun {b o} e hn => by
    by_cases hm : b ∈ frs X.stack
    · exact k2 b o hm e
    · refine ⟨o.slots, k1 b o hm (fun z => ?_) (fun z => ?_) e⟩
      · obtain ⟨o', v', q, qd⟩ := fx
        rw [z, q] at e
        cases e
        exact hn v' qd
      · obtain ⟨o', v', q, qd⟩ := fT b z
        rw [q] at e
        cases e
        exact hn v' qd
  have cellK : ∀ {c : Addr} {v : Option Value}, s.heap.IsCell c v → h'.IsCell c v := fun {c v} ⟨o, ho, hd⟩ => by
    obtain ⟨sl, e⟩ := any ho fun vs z => by rw [hd] at z; cases z
    exact ⟨_, e, hd⟩
  refine ⟨I.ok, I.os, I.bare, ⟨fun b o e n hb hx => ?_, fun b o e n hb hx => ?_, I.base.free, fun b o e hx => ?_, I.base.tups, I.base.frzs, I.base.tbls⟩, ?_, fun y c e => ?_, I.free, I.freeC, fun p hp => ?_, fun a o e => ?_, I.len⟩
  · obtain ⟨z1, z2, z3⟩ := s0x e
    refine k1 b o (fun z => ?_) z2 z3 (I.base.keep b o e n hb hx)
    rcases frm z with z | z
    · exact z1 z
    · exact hb z
  · obtain ⟨sl, e1⟩ := I.base.slot b o e n hb hx
    obtain ⟨_, o', ho', hd⟩ := I.ok.funs.mem hb
    rw [e] at ho'
    cases ho'
    obtain ⟨sl', e2⟩ := any e1 hd
    exact ⟨sl', e2⟩
  · obtain ⟨o1, e1⟩ := I.base.there b o e hx
    obtain ⟨z1, z2, z3⟩ := s0x e
    by_cases hm : b ∈ frs X.stack
    · obtain ⟨sl, e2⟩ := k2 b _ hm e1
      exact ⟨_, e2⟩
    · exact ⟨_, k1 b _ hm z2 z3 e1⟩
  · obtain ⟨m, ⟨o, es, ep, ho, hd, r⟩, hl⟩ := I.loc
    obtain ⟨sl, e2⟩ := any ho fun vs z => by rw [hd] at z; cases z
    refine ⟨m, ⟨_, es, ep, e2, hd, r⟩, fun i y v e1 e2 e3 => ?_⟩
    obtain ⟨u, r, l⟩ := hl i y v e1 e2 e3
    refine ⟨u, r, ?_⟩
    rcases l with l | ⟨k, c, e, z⟩
    · exact .inl l
    · exact .inr ⟨k, c, e, cellK z⟩
  · obtain ⟨v, z⟩ := I.cell y c e
    exact ⟨v, cellK z⟩
  · obtain ⟨e, n, ne, nf, d⟩ := I.pin p hp
    refine ⟨k1 _ _ (fun z => ?_) (M.pin p hp).1 (M.pin p hp).2 e, n, ne, nf, d⟩
    rcases frm z with z | z
    · exact ne z
    · exact nf z
  · have trk : ∀ {b : Addr} {u : HO}, H b = some u → b ∉ frs X.stack ∧ b ≠ x ∧ oT ≠ some b := fun {b u} e =>
      ⟨(fun z => by rw [I.stkFree b z] at e; cases e), (fun z => by rw [z, M.hx] at e; cases e), (fun z => by rw [(M.hT b z).1] at e; cases e)⟩
    refine (I.hok a o e).stay (fun b u hb q => ?_) (fun _ q => q) fun _ _ q => q
    have : b ∉ frs X.stack ∧ b ≠ x ∧ oT ≠ some b := by
      rcases hb with z | z
      · rw [z]; exact trk e
      · exact trk z
    exact k1 _ _ this.1 this.2.1 this.2.2 q
theorem NX.fly {C : Addr} {h : Heap} {fs : List Addr} (nx : NX fs x oT oe vs T' .none h h') (hc : oe.cls = .ref C) (hd : oe.dict = none) : Fly h' x C (some T') := by
  obtain ⟨_, _, ⟨o', vs', o1, o2, o3, o4, o5, o6⟩, _, n5, ot, ts, t1, t2, t3⟩ := nx
  exact ⟨o', vs', o1, o2.trans hc, o3.trans hd, o4, o6, n5, ot, ts, t1, t2, t3⟩
theorem Fly.fields {C : Addr} {h : Heap} (fl : Fly h x C oT) : (∃ o vs, h.get? x = some o ∧ o.data = .fields vs) ∧ ∀ T, oT = some T → ∃ o vs, h.get? T = some o ∧ o.data = .fields vs := by
  obtain ⟨o, vs, e1, _, _, e4, b⟩ := fl
  refine ⟨⟨o, vs, e1, e4⟩, fun T z => ?_⟩
  subst z
  obtain ⟨_, _, ot, ts, t1, t2, _⟩ := b
  exact ⟨ot, ts, t1, t2⟩
theorem Inv.newH {x : Addr} (I : Inv X pins σ H s) (h : s.heap.get? x = none) : H x = none := by
  cases e : H x with
  | none => rfl
  | some u =>
    obtain ⟨o, q⟩ := obj_some (I.hok x u e)
    rw [h] at q
    cases q
theorem Inv.new0 {x : Addr} (I : Inv X pins σ H s) (hx : x ∉ X.ex) (h : s.heap.get? x = none) : X.s₀.heap.get? x = none := by
  cases e : X.s₀.heap.get? x with
  | none => rfl
  | some o =>
    obtain ⟨o', q⟩ := I.base.there x o e hx
    rw [h] at q
    cases q
theorem leave_cx {E : XK} {C : Addr} (I : Inv X pins σ H s) (hst : X.stack = X.env :: X.outer ∧ X.env.frame = some X.env.locals) (hex : X.ex = []) (M : Mine X pins H x oT) (fl : Fly s.heap x C oT) (q : E (.ref C) none H) {E' : Value → Shared → Prop} :
    wpAny (model X.prog X.w) X.A (leaving X.env (.ref x)) (fun _ s'' => CX1 X.prog X.w X.outer X.H₀ X.s₀ E (.ref x) s'') E' s := by
  obtain ⟨fx, fT⟩ := fl.fields
  obtain ⟨oe, vs, e1, e2, e3, e4, b⟩ := fl
  have hfr : X.A.frames = some (X.env :: X.outer) := by rw [← hst.1]; exact I.ok.frames
  have hl := I.stack
  rw [hst.1] at hl
  refine leave_x hfr hl hst.2 e1 e4 b fun h' T' nx => ?_
  have nx2 := nx
  rw [← hst.1] at nx2
  have I2 := noted_inv I hex M fx fT nx2
  have no : ∀ b : Addr, b ∉ X.ex := fun b z => by rw [hex] at z; cases z
  exact ⟨x, T', C, H, rfl, I2.os, I2.bare, by rw [← hex]; exact I2.base, I2.hok, M.hx, I.newH nx.new, M.x0, I.new0 (no T') nx.new, nx.fly e2 e3, q⟩
end
end L2
set_option maxHeartbeats 4000000
namespace L2
open PySem PySem.Spec PyProof.Rows PySem.W
theorem exc_obj {K : Frag} {h : Heap} {C : Addr} {bB : List Value} {nid : String} (Y : K.In h) (ok : excIn K C bB nid = true) :
    ∃ bm N nm qn bs hd sn sub ab col dd k0 k1 k2 k3 k5 mN, h.get? C = some (excClassObj nm qn C N bs bm hd sn sub ab col dd k0 k1 k2 k3 k5 nid) ∧ h.Ns N mN ∧ mN "__init__" = none ∧ OwnTail h bB bm := by
  unfold excIn at ok
  split at ok
  case h_2 => cases ok
  case h_1 d1 cdat slots hlk =>
    split at ok
    case h_2 => cases ok
    case h_1 C2 tl a0 a1 a2 a3 nn a5 hmro hsl =>
      simp only [Bool.and_eq_true, beq_iff_eq, Bool.not_eq_true'] at ok
      obtain ⟨⟨⟨⟨⟨e1, e2⟩, e3⟩, e4⟩, e5⟩, e6⟩ := ok
      subst e1
      subst e2
      obtain ⟨w1, w2, w3, w4, w5, w6, w7, w8, w9, w10, w11⟩ := cdat
      dsimp only at hmro e3 e5 e6
      subst hmro
      subst e3
      obtain ⟨sl⟩ := slots
      obtain rfl : sl = [a0, a1, a2, a3, some (.builtin nn), a5] := hsl
      exact ⟨tl, w4, w1, w5, w2, w6, w7, w8, w9, w10, d1, a0, a1, a2, a3, a5, _, Y _ _ hlk, .of_isNs (isNs_of_in Y e5), nsMap_none_of_in Y e5 e6, tail_of_in Y e4⟩
def RaiseTo (X : Cx) (E : XK) : Prop := ∀ (pins : List (Addr × Obj)) (σ : St) (H : Hp) (s : Shared), Inv X pins σ H s → ∀ (h' : Heap) (x C : Addr) (vs : List Value), Heap.MadeExcOf s.heap h' x (.ref C) vs → E (.ref C) none H → X.xe (.ref x) { s with heap := h' }
section
variable {X : Cx} {pins : List (Addr × Obj)} {σ : St} {H : Hp} {s : Shared}
theorem made_fly {h h' : Heap} {x C : Addr} {vs : List Value} (m : Heap.MadeExcOf h h' x (.ref C) vs) : Fly h' x C none := by
  obtain ⟨t, ht, _⟩ := m.there
  exact ⟨_, _, ht, rfl, rfl, rfl, rfl⟩
end
section
variable {P : Program} {w : World} {K : Frag} {mg : Str → Option Value} {base : Heap} {N : List Str} {qual : Str} {scope : Scope} {f : Addr} {cd : Value} {A : Around} {outer : List Env} {s : Shared} {H : Hp} {E : XK}
theorem cx_raise : RaiseTo (cxOf (CX1 P w) P w K mg base N qual scope f cd A outer s H E) E := fun pins σ H1 s1 I h' x C vs m q => by
  have I2 : Inv (cxOf (CX1 P w) P w K mg base N qual scope f cd A outer s H E) pins σ H1 { s1 with heap := h' } := I.kept (t' := s1.toks) m.keeps
  refine leave_cx I2 ⟨rfl, rfl⟩ rfl (oT := none) ⟨I.newH m.new, I.new0 (by intro z; cases z) m.new, (fun T z => by cases z), fun p hp => ⟨fun z => ?_, by simp⟩⟩ (made_fly m) q
  obtain ⟨e, _⟩ := I.pin p hp
  rw [z, m.new] at e
  cases e
theorem cx_mine {X : Cx} {pins : List (Addr × Obj)} {σ : St} {H1 H2 : Hp} {s1 : Shared} {x T : Addr} (I : Inv X pins σ H1 s1) (hex : X.ex = []) (hx : H2 x = none) (hT : H2 T = none) (nx : s1.heap.get? x = none) (nT : s1.heap.get? T = none) : Mine X pins H2 x (some T) := by
  have no : ∀ b : Addr, b ∉ X.ex := fun b z => by rw [hex] at z; cases z
  refine ⟨hx, I.new0 (no x) nx, fun T' z => by cases z; exact ⟨hT, I.new0 (no T) nT⟩, fun p hp => ?_⟩
  obtain ⟨e, _⟩ := I.pin p hp
  refine ⟨fun z => ?_, fun z => ?_⟩
  · rw [z, nx] at e
    cases e
  · cases z
    rw [nT] at e
    cases e
theorem cx_pass {E2 : XK} (hE : ∀ c d h, E2 c d h → E c d h) : Passes (CX1 P w) (cxOf (CX1 P w) P w K mg base N qual scope f cd A outer s H E) E2 := fun pins σ H1 s1 e s2 I h => by
  obtain ⟨x, T, C, H2, rfl, hos, hb, un, hok, hx, hT, nx, nT, fl, q⟩ := h
  have I2 : Inv (cxOf (CX1 P w) P w K mg base N qual scope f cd A outer s H E) pins σ H2 s2 := I.call' (ch := []) hos un hok hb fun b z => absurd z (by simp)
  exact leave_cx I2 ⟨rfl, rfl⟩ rfl (cx_mine I rfl hx hT nx nT) fl (hE _ _ _ q)
theorem Fun.okx {x : Str} {st : Stmt} {fd : FuncData} {ps : List Str} {k : Nat} {sp : Sp} (F : Fun K x qual st f fd) (S : FnScope N ps (defScope st)) (len : ∀ vs H Q E, sp vs H Q E → vs.length = ps.length)
    (body : ∀ (cdv : Value) (A : Around) (outer : List Env) (s : Shared) (H : Hp) (vs : List V) (Q : VK) (E : XK), Room k (A.deeper (envOfC qual (defScope st) s.heap.objs.size f cdv)) → sp vs H Q E →
      ∃ t, PSs (cxOf (CX1 P w) P w K mg base N qual (defScope st) f cdv A outer s H E) (defBody st) t ∧ t { nx := fun _ H' => Q .non H', rt := Q } (start N vs) H) : FnOk P w K mg base (CX1 P w) (k + 1) f fd ps sp := by
  obtain ⟨oc, od, kV, doc, pm, an, cdv, ct, osl, rfl, lk, hcd⟩ := F.ex
  exact fn_of lk hcd S len fun A outer s H vs Q E hr hsp => body cdv A outer s H vs Q E hr hsp
end
section
variable {X : Cx} {E : XK} {n : Str} {C : Addr} {bB : List Value} {B nid iid : String} {e0 : Expr} {es : List Expr} {t : TA} {np cpos pos : Pos}
def tRaise (C : Addr) (E : XK) (t : TA) : TS := fun _ σ H => t σ H fun vs H1 => vs.length ≤ sizeLine ∧ E (.ref C) none H1
theorem ps_raise (hx : RaiseTo X E) (hc : X.calm = true) (hg : Gl X n) (hm : X.mg n = some (.ref C)) (ok : excIn X.K C bB nid = true) (FB : ExcBaseFacts B nid iid bB) (ha : PA X (e0 :: es) t)
    (he : starEach (e0 :: es) X.env = (false, eval e0 X.env) :: starEach es X.env := by rfl) (hpl : (backTo cpos (starEach es X.env)).any (·.1) = false := by rfl) (hdb : (n == ("__debug__" : Str)) = false := by decide) :
    PS X (.Raise (some (.Call (.Name n np) (e0 :: es) [] cpos)) none pos) (tRaise C E t) := by
  intro pins s σ H D I h
  obtain ⟨bm, N, nm, qn, bs, hd, sn, sub, ab, col, dd, k0, k1, k2, k3, k5, mN, hC, hN, hni, T⟩ := exc_obj I.mod.kin ok
  refine wpAny_Raise_call_subT (C := C) (nm := nm) (q := qn) (N := N) (bs := bs) (bm := bm) (hdct := hd) (sn := sn) (sub := sub) (ab := ab) (col := col) (dd := dd) (k0 := k0) (k1 := k1) (k2 := k2) (k3 := k3) (k5 := k5)
    FB (mN := mN) (T.hasType FB.hasBase) (I.ok.hd hc) ?_ hni (ld_glob I hg hm ⟨rfl, ?_⟩ hdb)
  · rw [he]
    show (false || (backTo cpos (starEach es X.env)).any (·.1)) = false
    rw [hpl]
    rfl
  have ha' := ha cpos pins s σ H _ I h
  rw [he] at ha' ⊢
  refine Calls.evalArgs_plain (thn ha' fun us s1 z => ?_)
  obtain ⟨vs, H1, I1, r, hl, q⟩ := z
  exact ⟨rfl, by rw [← r.length]; exact hl, I1.bk _ _ hC, hN.keeps I1.bk, T.keeps I1.bk, fun h' x m => hx pins σ H1 s1 I1 h' x C _ m q⟩
end
end L2
set_option maxHeartbeats 4000000
namespace L2
open PySem PySem.Spec PyProof.Rows PySem.W
def excN (x C : Addr) : HO := .ext fun h => ∃ o, h.get? x = some o ∧ o.cls = .ref C ∧ o.dict = none ∧ notCls o = true
section
variable {X : Cx} {pins : List (Addr × Obj)} {σ : St} {H : Hp} {s : Shared} {x C : Addr} {oT : Option Addr}
theorem track (I : Inv X pins σ H s) (fl : Fly s.heap x C oT) (hx : H x = none) (x0 : X.s₀.heap.get? x = none) (pin : ∀ p ∈ X.pn ++ pins, p.1 ≠ x) : Inv X pins σ (upd H x (excN x C)) s := by
  obtain ⟨oe, vs, ho, hc, hdi, hd, _⟩ := fl
  have nn : ∀ {b : Addr}, b ≠ x → upd H x (excN x C) b = H b := fun h => upd_ne h
  have ntr : ∀ {b : Addr} {u : HO}, H b = some u → b ≠ x := fun {b u} e z => by rw [z, hx] at e; cases e
  refine ⟨I.ok, I.os, I.bare, ⟨I.base.keep, I.base.slot, fun b o e n hx => ?_, I.base.there, fun b xs e => ?_, fun b o u e => ?_, fun b ps e => ?_⟩, I.loc, I.cell, ?_, fun y c e => ?_, fun p hp => ?_, fun a o e => ?_, I.len⟩
  · rw [nn (fun z => by rw [z, x0] at e; cases e)]
    exact I.base.free b o e n hx
  · have := I.base.tups b xs e
    rw [nn (ntr this)]
    exact this
  · have := I.base.frzs b o u e
    rw [nn (ntr this)]
    exact this
  · obtain ⟨more, this⟩ := I.base.tbls b ps e
    rw [nn (ntr this)]
    exact ⟨more, this⟩
  · have : X.env.locals ≠ x := fun z => by
      obtain ⟨m, ⟨o, es, ep, e1, e2, _⟩, _⟩ := I.loc
      rw [z, ho] at e1
      cases e1
      rw [hd] at e2
      cases e2
    rw [nn this]
    exact I.free
  · have : c ≠ x := fun z => by
      obtain ⟨v, o, e1, e2⟩ := I.cell y c e
      rw [z, ho] at e1
      cases e1
      rw [hd] at e2
      cases e2
    rw [nn this]
    exact I.freeC y c e
  · obtain ⟨e, n, r⟩ := I.pin p hp
    refine ⟨e, ?_, r⟩
    rw [nn (pin p hp)]
    exact n
  · have st : ∀ {c : Addr} {v : HO}, ObjOk X.prog X.w H s.heap c v → ObjOk X.prog X.w (upd H x (excN x C)) s.heap c v := fun z =>
      z.stay (fun _ _ _ q => q) (fun b q => by rw [nn (ntr q)]; exact q) (fun b xs q => by rw [nn (ntr q)]; exact q)
    by_cases hb : a = x
    · subst hb
      rw [upd_same] at e
      cases e
      refine ⟨⟨oe, ho, hc, hdi, ?_⟩, ⟨oe, ho⟩, fun h1 h2 ⟨o, e1, e2⟩ k => ⟨o, k o e1, e2⟩⟩
      unfold notCls
      rw [hd]
    · rw [nn hb] at e
      exact st (I.hok a o e)
end
abbrev Cx.mark (X : Cx) (e : Value) : Cx := { X with A := X.A.mark (some e), calm := false, xe := fun _ _ => False }
section
variable {X : Cx} {pins : List (Addr × Obj)} {σ : St} {H : Hp} {s : Shared} {e : Value}
theorem Inv.mark (I : Inv X pins σ H s) : Inv (X.mark e) pins σ H s :=
  ⟨⟨I.ok.mod, I.ok.kind, I.ok.glob, I.ok.blt, I.ok.above, I.ok.inj, I.ok.has, I.ok.cab, (fun z => by cases z), I.ok.frames, I.ok.stk, I.ok.exf, I.ok.bs, I.ok.bsz, I.ok.noex, I.ok.exfs, I.ok.funs, I.ok.frf⟩, I.os, I.bare, I.base, I.loc, I.cell, I.free, I.freeC, I.pin, I.hok, I.len⟩
theorem Inv.unmark (ok : X.Ok) (I : Inv (X.mark e) pins σ H s) : Inv X pins σ H s := ⟨ok, I.os, I.bare, I.base, I.loc, I.cell, I.free, I.freeC, I.pin, I.hok, I.len⟩
theorem unbind_ok {M : Model} {A : Around} {E : Value → Shared → Prop} {i : Nat} {n : Str} {pos : Pos} {Q : Unit → Shared → Prop} (I : Inv X pins σ H s) (hN : X.N.Nodup) (hi : X.N[i]? = some n) (hl : X.env.scope.names.lookup n = some .local)
    (h : ∀ s', Inv X pins (σ.set i none) H s' → Q () s') : wpAny M A (do bindName X.env n .none; unbindBehindTheSuite X.env n pos) Q E s := by
  refine wpAny_bind (wpAny_bindName (store_ok2 (v := .non) I hN hi (.inl hl) rfl (fun s1 I1 _ => ?_) (.inr hl)))
  unfold unbindBehindTheSuite
  refine wpAny_onRaise ?_
  obtain ⟨m, hn, hlk⟩ := id I1.loc
  have hiσ : i < σ.length := by rw [I.len]; exact (List.getElem?_eq_some_iff.mp hi).1
  obtain ⟨u, ru, hlook⟩ := hlk i n .non hi (by rw [List.getElem?_set_self hiσ]) (.inl hl)
  have hkl : X.env.kindOf n = some .local := hl
  have hv : m n = some u := by
    rcases hlook with ⟨_, z⟩ | ⟨z, _⟩
    · exact z
    · rcases z with z | z <;> (rw [hkl] at z; cases z)
  have hcls : (X.env.scope.kind == .class || (X.env.scope.kind == .module && X.env.locals != X.env.globals)) = false := by rw [I.ok.kind]; rfl
  refine wpAny_unbindName_local hkl hn hv hcls fun h' u' hn' hs' => ?_
  refine h _ ?_
  have kp : ∀ {b : Addr} {o : Obj}, b ≠ X.env.locals → s1.heap.get? b = some o → h'.get? b = some o := fun {b o} hb e => (hs'.2 b hb).trans e
  have s0l : ∀ {b : Addr} {o : Obj}, X.s₀.heap.get? b = some o → b ≠ X.env.locals := fun {b o} e => Nat.ne_of_lt (Nat.lt_of_lt_of_le (Heap.lt_size e) I.ok.above)
  have cK : ∀ {c : Addr} {v : Option Value} {y : Str}, X.env.cells.lookup y = some c → s1.heap.IsCell c v → h'.IsCell c v := fun {c v y} ey ⟨o, ho, hd⟩ => ⟨o, kp (I1.cne y c ey) ho, hd⟩
  refine ⟨I1.ok, I1.os, I1.bare, ⟨fun b o e n hb hx => kp (s0l e) (I1.base.keep b o e n hb hx), fun b o e n hb hx => ?_, I1.base.free, fun b o e hx => ?_, I1.base.tups, I1.base.frzs, I1.base.tbls⟩, ⟨_, hn', fun j y v e1 e2 e3 => ?_⟩, fun y c e => ?_, I1.free, I1.freeC, fun p hp => ?_, fun a o e => ?_, ?_⟩
  · obtain ⟨sl, e1⟩ := I1.base.slot b o e n hb hx
    exact ⟨sl, kp (s0l e) e1⟩
  · obtain ⟨o1, e1⟩ := I1.base.there b o e hx
    exact ⟨o1, kp (s0l e) e1⟩
  · have hij : i ≠ j := fun z => by
      subst z
      rw [List.getElem?_set_self hiσ] at e2
      cases e2
    have hyn : y ≠ n := fun z => hij (nodup_ix hN hi (z ▸ e1))
    obtain ⟨u2, r2, l2⟩ := hlk j y v e1 (by rw [List.getElem?_set_ne hij] at e2 ⊢; exact e2) e3
    refine ⟨u2, r2, ?_⟩
    rcases l2 with ⟨k, z⟩ | ⟨k, c, e, z⟩
    · exact .inl ⟨k, by show (if y = n then u' else m y) = _; rw [if_neg hyn]; exact z⟩
    · exact .inr ⟨k, c, e, cK e z⟩
  · obtain ⟨v, z⟩ := I1.cell y c e
    exact ⟨v, cK e z⟩
  · obtain ⟨e, n, ne, r⟩ := I1.pin p hp
    exact ⟨kp ne e, n, ne, r⟩
  · have tl : ∀ {b : Addr} {u : HO}, H b = some u → b ≠ X.env.locals := fun {b u} e z => by rw [z, I1.free] at e; cases e
    refine (I1.hok a o e).stay (fun b u hb q => kp ?_ q) (fun _ q => q) fun _ _ q => q
    rcases hb with z | z
    · rw [z]; exact tl e
    · exact tl z
  · rw [List.length_set]
    exact I.len
end
end L2
set_option maxHeartbeats 4000000
namespace L2
open PySem PySem.Spec PyProof.Rows PySem.W
def PEx (X : Cx) (e : Expr) (t : XK → TE) : Prop := ∀ (EX : XK) (E1 : Value → Shared → Prop) (pins : List (Addr × Obj)) (s : Shared) (σ : St) (H : Hp) (Q : VK), Inv X pins σ H s →
  (∀ (H1 : Hp) (s1 : Shared) (e : Value) (s' : Shared), Inv X pins σ H1 s1 → CX1 X.prog X.w X.stack H1 s1 EX e s' → E1 e s') → t EX σ H Q → wpAny (model X.prog X.w) X.A (eval e X.env) (EP X pins σ Q) E1 s
section
variable {X : Cx} {pins : List (Addr × Obj)} {σ : St} {H : Hp} {s : Shared}
theorem PA.nox {es : List Expr} {t : TA} (h : PA X.nox es t) : PA X es t := fun pos pins s σ H Q I hw =>
  wpAny_mono (h pos pins s σ H Q (I.wish _) hw) (fun _ _ ⟨v, H', I', r, q⟩ => ⟨v, H', I'.unwish, r, q⟩) fun _ _ z => False.elim z
theorem pex_call {k : Nat} {f : Addr} {fd : FuncData} {ps : List Str} {sp : Sp} {dvs : List V} {ds : List Value} {x : Str} {p pos : Pos} {e : Expr} {es : List Expr} {t : TA}
    (F : FnOk X.prog X.w X.K X.mg X.base (CX1 X.prog X.w) k f fd ps sp) (hr : Room k X.A) (hg : Gl X x) (hm : X.mg x = some (.ref f)) (hk : PySem.W.keepIn X.K (.ref f) = true) (hb : Binds X.K fd ps ds) (hd : Vals dvs ds)
    (ha : PA X.nox (e :: es) t) (hdb : (x == ("__debug__" : Str)) = false := by decide) (he : starEach (e :: es) X.env = (false, eval e X.env) :: starEach es X.env := by rfl) (hpl : (backTo pos (starEach es X.env)).any (·.1) = false := by rfl) :
    PEx X (.Call (.Name x p) (e :: es) [] pos) (fun EX => tCall sp dvs EX t) := by
  intro EX E1 pins s σ H Q I hx h
  refine wpAny_Call_Name_kw (ld_glob I hg hm ?_ hdb)
  refine PySem.W.callWith_K (h₀ := X.base) I.ok.mod.kin hk (wpAny_mono (ha pos pins s σ H _ (I.wish _) h) (fun us s1 z => ?_) fun _ _ z => False.elim z) he hpl
  obtain ⟨vs, H1, I1, r, q⟩ := z
  have I1 := I1.unwish
  refine ⟨I1.kIn, ?_⟩
  have r2 : Vals (vs ++ dvs) (us ++ ds) := r.append hd
  have hl : (us ++ ds).length = ps.length := by rw [← r2.length]; exact F.len _ _ _ _ q
  refine wpAny_call (codeAny_mono (F.run X.A X.stack s1 H1 ⟨us, []⟩ (us ++ ds) (vs ++ dvs) Q EX hr I1.env0 (hb s1 us I1.kIn hl) r2 q) fun res s' hq => ?_)
  cases res with
  | error e => exact hx H1 s1 e s' I1 hq
  | ok fl =>
    cases fl with
    | ret u => exact I1.after hq
    | next => exact False.elim hq
    | brk => exact False.elim hq
    | cont => exact False.elim hq
structure Held (X : Cx) (pins : List (Addr × Obj)) (σ : St) (H : Hp) (s : Shared) (x T C : Addr) (h : Heap) : Prop where
  inv : Inv X pins σ H s
  mine : Mine X pins H x (some T)
  fld : (∃ o vs, s.heap.get? x = some o ∧ o.data = .fields vs) ∧ ∀ T', some T = some T' → ∃ o vs, s.heap.get? T' = some o ∧ o.data = .fields vs
  nx : ∃ oe vs T', NX (frs X.stack) x (some T) oe vs T' .none s.heap h ∧ oe.cls = .ref C ∧ oe.dict = none
variable {x T C : Addr} {h : Heap}
theorem Held.now (Hd : Held X pins σ H s x T C h) (hex : X.ex = []) : Inv X pins σ H { s with heap := h } := by
  obtain ⟨oe, vs, T', nx, _⟩ := Hd.nx
  exact noted_inv Hd.inv hex Hd.mine Hd.fld.1 Hd.fld.2 nx
theorem Held.fly (Hd : Held X pins σ H s x T C h) : ∃ T', Fly h x C (some T') := by
  obtain ⟨oe, vs, T', nx, e1, e2⟩ := Hd.nx
  exact ⟨T', nx.fly e1 e2⟩
theorem Held.ty {M : Model} (Hd : Held X pins σ H s x T C h) : Looks M h (typeOf (.ref x)) (.ref C) := by
  obtain ⟨T', o, _, ho, hc, _⟩ := Hd.fly
  rw [← hc]
  exact (Looks.ld ho).andThen .now
def endsX (i : Nat) (D : Ends) : Ends := { nx := fun σ' H' => D.nx (σ'.set i none) H', rt := D.rt, bk := fun σ' H' => D.bk (σ'.set i none) H', ct := fun σ' H' => D.ct (σ'.set i none) H' }
variable {c n : Str} {Dc : Addr} {cp hpos : Pos} {b0 : Stmt} {suite : List Stmt} {rest : List ExceptHandler} {i : Nat} {D : Ends} {E : Value → Shared → Prop}
theorem handle_hit {th : TS} (Hd : Held X pins σ H s x T C h) (hex : X.ex = []) (hg : Gl X c) (hm : X.mg c = some (.ref Dc)) (hq : exmOne X.K (.ref C) (.ref Dc) = some true)
    (hN : X.N.Nodup) (hi : X.N[i]? = some n) (hl : X.env.scope.names.lookup n = some .local) (hsu : PSs (X.mark (.ref x)) (b0 :: suite) th) (q : th (endsX i D) (σ.set i (some (.ref x))) (upd H x (excN x C)))
    (hdb : (c == ("__debug__" : Str)) = false) :
    wpAny (model X.prog X.w) X.A (handleBy (.ref x) X.env (.ExceptHandler (some (.Name c cp)) (some n) (b0 :: suite) hpos :: rest)) (SP X pins D) E { s with heap := h } := by
  have I := Hd.now hex
  refine wpAny_handleBy_cons (codeAny_handlers_test ?_) (by intro z; cases z)
  refine ld_glob (X := X.mark (.ref x)) I.mark hg hm ?_ hdb
  refine Looks.here (exm_one I.kIn Hd.ty hq) ?_
  refine codeAny_handlers_suite_as ?_
  obtain ⟨oe, vs, T', nx, e1, e2⟩ := Hd.nx
  refine flight_x (s := { s with heap := h }) nx fun h3 nx3 => ?_
  have Hd3 : Held X pins σ H s x T C h3 := ⟨Hd.inv, Hd.mine, Hd.fld, oe, vs, T', nx3, e1, e2⟩
  have I3 := Hd3.now hex
  have I4 : Inv X pins σ (upd H x (excN x C)) { s with heap := h3 } := track I3 (nx3.fly e1 e2) Hd.mine.hx Hd.mine.x0 fun p hp => (Hd.mine.pin p hp).1
  refine store_ok2 (X := X.mark (.ref x)) (v := .ref x) I4.mark hN hi (.inl hl) rfl (fun s5 I5 _ => ?_) (.inr hl)
  refine wpAny_mono (hsu pins s5 _ _ (endsX i D) I5 q) (fun f s6 z => ?_) (fun _ _ z => False.elim z)
  have ok := I.ok
  cases f with
  | next =>
    obtain ⟨σ6, H6, I6, z⟩ := z
    exact unbind_ok (I6.unmark ok) hN hi hl fun s7 I7 => ⟨_, H6, I7, z⟩
  | brk =>
    obtain ⟨σ6, H6, I6, z⟩ := z
    exact unbind_ok (I6.unmark ok) hN hi hl fun s7 I7 => ⟨_, H6, I7, z⟩
  | cont =>
    obtain ⟨σ6, H6, I6, z⟩ := z
    exact unbind_ok (I6.unmark ok) hN hi hl fun s7 I7 => ⟨_, H6, I7, z⟩
  | ret u =>
    obtain ⟨v, σ6, H6, I6, r, z⟩ := z
    exact unbind_ok (I6.unmark ok) hN hi hl fun s7 I7 => ⟨v, _, H6, I7, r, z⟩
theorem come {H1 : Hp} {s1 s' : Shared} {EX : XK} {e : Value} {hs : List ExceptHandler} (hst : X.stack = X.env :: X.outer ∧ X.env.frame = some X.env.locals) (hex : X.ex = []) (I : Inv X pins σ H1 s1) (cx : CX1 X.prog X.w X.stack H1 s1 EX e s')
    (k : ∀ (x T C : Addr) (H2 : Hp) (h : Heap), EX (.ref C) none H2 → Held X pins σ H2 s' x T C h → wpAny (model X.prog X.w) X.A (handleBy (.ref x) X.env hs) (SP X pins D) E { s' with heap := h }) :
    wpAny (model X.prog X.w) X.A (noteFrame e X.env) (fun _ s2 => wpAny (model X.prog X.w) X.A (setFlight e none) (fun _ s3 => wpAny (model X.prog X.w) X.A (handleBy e X.env hs) (SP X pins D) E s3) E s2) E s' := by
  obtain ⟨x, T, C, H2, rfl, hos, hb, un, hok, hx, hT, nx, nT, fl, q⟩ := cx
  have I2 : Inv X pins σ H2 s' := I.call' (ch := []) hos un hok hb fun b z => absurd z (by simp)
  have M : Mine X pins H2 x (some T) := cx_mine I hex hx hT nx nT
  have hfr : X.A.frames = some (X.env :: X.outer) := by rw [← hst.1]; exact I.ok.frames
  have hl := I2.stack
  rw [hst.1] at hl
  have ff := fl.fields
  obtain ⟨oe, vs, e1, e2, e3, e4, b⟩ := fl
  refine note_x hfr hl hst.2 e1 e4 b fun h1 T' n1 => flight_x (s := { s' with heap := h1 }) n1 fun h2 n2 => ?_
  exact k x T C H2 h2 q ⟨I2, M, ff, oe, vs, T', by rw [hst.1]; exact n2, e2, e3⟩
end
section
variable {X : Cx} {e : Expr} {t : XK → TE} {c n : Str} {Dc : Addr} {cp hpos ep pos : Pos} {b0 : Stmt} {suite : List Stmt} {i : Nat} {th : TS}
def tTry1 (K : Frag) (Dc : Addr) (i : Nat) (t : XK → TE) (th : TS) : TS := fun D σ H =>
  t (fun k _ H2 => ∃ C, k = .ref C ∧ exmOne K (.ref C) (.ref Dc) = some true ∧ ∀ x, H2 x = none → th (endsX i D) (σ.set i (some (.ref x))) (upd H2 x (excN x C))) σ H fun _ H2 => D.nx σ H2
theorem ps_try1 (he : PEx X e t) (hst : X.stack = X.env :: X.outer ∧ X.env.frame = some X.env.locals) (hex : X.ex = []) (hg : Gl X c) (hm : X.mg c = some (.ref Dc)) (hN : X.N.Nodup) (hi : X.N[i]? = some n) (hl : X.env.scope.names.lookup n = some .local)
    (hsu : ∀ x, PSs (X.mark (.ref x)) (b0 :: suite) th) (hs : swapsWith e none ep.line X.env = pure false := by rfl) (hdb : (c == ("__debug__" : Str)) = false := by decide) :
    PS X (.Try [.Expr e ep] [.ExceptHandler (some (.Name c cp)) (some n) (b0 :: suite) hpos] [] [] pos) (tTry1 X.K Dc i t th) := by
  intro pins s σ H D I h
  refine wpAny_Try_except (wpAny_execs_cons (wpAny_Expr_any (thn (he _ _ pins s σ H _ I (fun H1 s1 ev s' I1 cx => ?_) h) fun v s1 z => ?_) I.quiet hs))
  · exact come (D := D) hst hex I1 cx fun x T C H2 hh q Hd => by
      obtain ⟨C', ec, hq, q⟩ := q
      cases ec
      exact handle_hit Hd hex hg hm hq hN hi hl (hsu x) (q x Hd.mine.hx) hdb
  · obtain ⟨v', H1, I1, _, q⟩ := z
    exact wpAny_execs_nil (wpAny_execs_nil ⟨σ, H1, I1, q⟩)
end
end L2
set_option maxHeartbeats 4000000
namespace L2
open PySem PySem.Spec PyProof.Rows PySem.W
section
variable {prog : Program} {w : World} {A : Around} {E : Value → Shared → Prop} {s : Shared} {K : Frag} {x C : Addr} {ox : Obj}
theorem find_none {name : Str} {a g : Value} (hc : (clsIn K C).isSome = true) (ha : findIn K (.ref C) name = some (some a)) (hg : specialIn K a "__get__" = some (some g)) (ht : takesIn K a = some true) : findObj K C none name = some (.bind g a) := by
  obtain ⟨cd, e⟩ := Option.isSome_iff_exists.mp hc
  simp [findObj, e, ha, hg, ht]
structure ExcIs (K : Frag) (C : Addr) : Prop where
  cls : (clsIn K C).isSome = true
  ga : findIn K (.ref C) "__getattribute__" = some (some (.builtin "BaseException.__getattribute__"))
  gh : findIn K (.ref C) "__getattr__" = some none
  at_ : findIn K (.ref C) "__class__" = some (some (.builtin "object.__class__"))
  get : specialIn K (.builtin "object.__class__") "__get__" = some (some (.builtin "getset_descriptor.__get__"))
  tk : takesIn K (.builtin "object.__class__") = some true
  obj : mroIn K C (.type "object") = some true
  base : mroIn K C (.type "BaseException") = some true
theorem exc_class {Q : Option Value → Shared → Prop} (Y : K.In s.heap) (I : W.InstAt s.heap x ox C none) (hC : ExcIs K C)
    (h : Q (some (.ref C)) { s with toks := s.toks + 1 }) : wpAny (model prog w) A (getAttr? (.ref x) "__class__") Q E s := by
  obtain ⟨hh, g, d, t, os⟩ := s
  have L0 := I.type (M := model prog w)
  have L1 := looks_findIn (M := model prog w) Y hC.ga
  have L2 := looks_findIn (M := model prog w) Y hC.gh
  have L3 := looks_find (M := model prog w) Y I (find_none hC.cls hC.at_ hC.get hC.tk)
  have L4 := looks_mroIn (M := model prog w) Y hC.base
  have hbind : ∀ self, bindSpecial (.builtin "BaseException.__getattribute__") self = pure (.builtin "BaseException.__getattribute__", [self]) := fun self => by rfl
  unfold getAttr? getAttrBy? getAttrBy
  refine wpAny_bind (wpAny_mkText (wpAny_bind (wpAny_attempt (wpAny_holding (wpAny_bind (L0.at (wpAny_bind (L1.at ?_))))))))
  show wpAny _ _ (getAttrByItsOwn _ _ _ _ _ _) _ _ _
  unfold getAttrByItsOwn
  refine wpAny_bind ?_
  show wpAny _ _ (typeLookup (.ref C) "__getattr__") _ _ _
  refine L2.at (wpAny_bind (wpAny_attempt (wpAny_holding ?_)))
  show wpAny _ _ (boundAndCalled _ _ _) _ _ _
  unfold boundAndCalled
  refine wpAny_bind ?_
  rw [hbind]
  refine wpAny_pure ?_
  refine wpAny_call (codeAny_call_builtin (by decide +kernel) F.entry_bexc_ga ?_)
  have hk : builtinKind "BaseException.__getattribute__" = some .slot := by decide +kernel
  have hsp : splitId "BaseException.__getattribute__" = some ("BaseException", "__getattribute__") := by decide +kernel
  have LI : Looks (model prog w) hh (isInstance (.ref x) (.type "BaseException")) true := L0.andThen L4
  have hargs := F.args_bexc_ga (.ref x) (.str "__class__" t)
  simp only [checkBuiltinCall, hk, hsp]
  refine wpAny_bind ?_
  refine LI.at ?_
  rw [if_neg (by decide)]
  refine wpAny_of_eq hargs ?_
  unfold Builtin.«object.__getattribute__»
  refine wpAny_bind (wpAny_pure ?_)
  refine wpAny_bind (wpAny_pure ?_)
  refine wpAny_bind (L0.at (wpAny_bind (L3.at ?_)))
  show wpAny _ _ (holding [Value.builtin "object.__class__"] (call (.builtin "getset_descriptor.__get__") [.builtin "object.__class__", .ref x, .ref C]) >>= ret) _ _ _
  refine wpAny_bind (wpAny_holding (wpAny_call (class_get (s := ⟨hh, g, d, t + 1, os⟩) (ox := ox) (od := none) Y I hC.obj ?_)))
  exact wpAny_pure (handed_on rfl (wpAny_pure h))
theorem kit_exc (hC : ExcIs K C) : KitX K (.ref x) (.ref C) (fun h => ∃ ox, W.InstAt h x ox C none) where
  ty := fun _ _ _ ⟨_, I⟩ => I.type
  it := fun M h Y _ => by
    obtain ⟨cd, e⟩ := Option.isSome_iff_exists.mp hC.cls
    unfold clsIn at e
    split at e
    · rename_i ho
      intro A' Q' E' s' k q
      unfold isType loadHead
      refine wpAny_bind (wpAny_loadPart (k _ _ (Y _ _ ho)) ?_)
      exact wpAny_pure q
    · cases e
  ne := fun h tp dd its n sl Y htp => by
    obtain ⟨cd, e⟩ := Option.isSome_iff_exists.mp hC.cls
    refine Bool.eq_false_iff.mpr fun q => ?_
    have z : C = tp := Value.ref.inj (beq_iff_eq.mp q)
    subst z
    unfold clsIn at e
    split at e
    · rename_i ho
      have z := (Y _ _ ho).symm.trans htp
      cases z
    · cases e
  ca := fun Y ⟨_, I⟩ k => exc_class Y I hC k
end
section
variable {X : Cx}
theorem call_isiE : CallR X (.builtin "isinstance") (fun vs H Q => ∃ x C c cv b, vs = [.ref x, c] ∧ H x = some (excN x C) ∧ ExcIs X.K C ∧ RelV c cv ∧ (∀ u, RelV c u → u = cv) ∧ kitOne X.K (.ref C) cv = some b ∧ Q (.bl b) H) := by
  intro pins s σ H xs us Q I r h
  obtain ⟨x, C, c, cv, b, rfl, hx, hC, rc, uq, e, q⟩ := h
  obtain ⟨u, v, rfl, ru, rv⟩ := vals2 r
  cases ru
  obtain rfl : v = cv := uq v rv
  obtain ⟨o, e1, e2, e3, e4⟩ := (I.hok x _ hx).1
  refine kia_one (kit_exc hC) I.kIn ⟨o, e1, e2, e4, ?_⟩ e (fun z => nomatch z) fun tk => ⟨.bl b, H, I.tok tk, rfl, q⟩
  rw [e3]
  trivial
end
end L2
set_option maxHeartbeats 4000000
namespace L2
open PySem PySem.Spec PyProof.Rows PySem.W
def Its (x : Str) : It := ⟨fun i _ => i < x.cps.size, fun i H v H' => H' = H ∧ ∃ c, x.cps[i]? = some c ∧ v = .str ⟨#[c]⟩, fun i _ => i = x.cps.size⟩
theorem turn_str {P : Program} {w : World} {K : Frag} {tg : Expr} {x : Str} {t : Tok} {it : Addr} {T : String} (hT : T = "str_ascii_iterator" ∨ T = "str_iterator") (W : ∀ A' : Around, A'.handled = none → Walks P w A' it [it] [it] x.cps.size (SignAt x) (fun i h => h.IsStrIter it T x t i)) :
    Turn P w K tg (Its x) [it] it (fun i h => h.IsStrIter it T x t i) where
  mem := by simp
  obj := fun i h st b hb => by
    have e : b = it := by simpa using hb
    subst e
    obtain ⟨o, e, c, d⟩ := st
    exact ⟨o, e, fun v z => by rw [d] at z; cases z⟩
  keep := fun i h h' st k => let ⟨o, e, r⟩ := st; ⟨o, k it (by simp) o e, r⟩
  item := by
    intro X hP hw hK hc i pins s σ H E I hf st hg
    subst hP hw hK
    obtain ⟨f0, f1, f2, f3, f4, f5⟩ := hf it (by simp)
    refine (W X.A (I.ok.hd hc)).item i s _ _ hg st fun v h' tk hv st' kk => ?_
    obtain ⟨c, u, hcx, rfl⟩ := hv
    have I1 : Inv X pins σ H { s with heap := h', toks := tk } := I.turned (fun b o hb e => kk b o (by simpa using hb) e) f0 f1 f3 f4 f5
    obtain ⟨o, e1, e2, e3⟩ := id st'
    refine ⟨_, rfl, go_of (s := { s with heap := h', toks := tk }) e1 e2 e3 (by rcases hT with z | z <;> (rw [z]; decide)) ⟨.str ⟨#[c]⟩, H, I1, ⟨u, rfl⟩, ⟨rfl, c, hcx, rfl⟩, st', fun b hb => (hf b hb).1⟩⟩
  done := by
    intro X hP hw hK hc i pins s σ H E I hf st hg
    subst hP hw hK
    obtain rfl : i = x.cps.size := hg
    obtain ⟨f0, f1, f2, f3, f4, f5⟩ := hf it (by simp)
    exact (W X.A (I.ok.hd hc)).done s _ _ st fun h' tk kk => ⟨rfl, I.turned (fun b o hb e => kk b o (by simpa using hb) e) f0 f1 f3 f4 f5⟩
  self := fun A i s Q E st h => by
    rcases hT with z | z
    · subst z
      exact wpAny_pyIter_striter_ascii st h
    · subst z
      exact wpAny_pyIter_striter_wide st h
def iStr (tl : TE) : TI := fun σ H R => tl σ H fun v H1 => ∃ x, v = .str x ∧ R (Its x) H1
section
variable {X : Cx} {tg : Expr}
theorem pi_str {l : Expr} {tl : TE} (hl : PE X l tl) : PI X tg l (iStr tl) := by
  intro pins s σ H R I h
  refine thn (hl pins s σ H _ I h) fun v s1 ⟨y, H1, I1, r1, q1⟩ => ?_
  obtain ⟨x, rfl, q⟩ := q1
  obtain ⟨t, rfl⟩ := r1
  have fin : ∀ (T : String) (o : Obj), (T = "str_ascii_iterator" ∨ T = "str_iterator") → (∀ A' : Around, A'.handled = none → Walks X.prog X.w A' s1.heap.objs.size [s1.heap.objs.size] [s1.heap.objs.size] x.cps.size (SignAt x) (fun i h => h.IsStrIter s1.heap.objs.size T x t i)) →
      (s1.heap.push o).IsStrIter s1.heap.objs.size T x t 0 → PIE X pins σ tg R (.ref s1.heap.objs.size) { s1 with heap := s1.heap.push o } := fun T o hT W st => by
    refine ⟨s1.heap.objs.size, [s1.heap.objs.size], _, _, H1, rfl, I1.kept (t' := s1.toks) fun b o e => Heap.get?_push_of_some _ e, turn_str hT W, st, fun b hb => ?_, q⟩
    have e : b = s1.heap.objs.size := by simpa using hb
    subst e
    exact I1.fpOk (Nat.le_refl _) (I1.hok.fresh (Nat.le_refl _))
  cases ha : x.cps.all (· < 128)
  · exact wpAny_pyIter_wide ha (fin _ _ (.inr rfl) (fun A' hA => Walks.strWide hA _ x t) ⟨_, Heap.get?_push_size _ rfl, rfl, rfl⟩)
  · exact wpAny_pyIter_ascii ha (fin _ _ (.inl rfl) (fun A' hA => Walks.strAscii hA _ x t) ⟨_, Heap.get?_push_size _ rfl, rfl, rfl⟩)
theorem for_str {x : Str} {g : TG} {tb : TS} {D : Ends} {σ : St} {H : Hp} (Pv : Nat → St → Hp → Prop) (h0 : Pv 0 σ H)
    (hs : ∀ i c σ H, x.cps[i]? = some c → Pv i σ H → g (.str ⟨#[c]⟩) σ H fun σ2 H2 => tb { D with nx := Pv (i + 1), ct := Pv (i + 1), bk := D.nx } σ2 H2) (hd : ∀ σ H, Pv x.cps.size σ H → D.nx σ H) :
    ∃ W : Nat → Nat → St → Hp → Prop, (∃ m, W 0 m σ H) ∧ ∀ i m σ H, W i m σ H →
      ((Its x).stop i H ∧ D.nx σ H) ∨ ((Its x).go i H ∧ ∃ N : St → Hp → Prop, (∀ σ' H', N σ' H' → ∃ m', m' < m ∧ W (i + 1) m' σ' H') ∧ ∀ v H', (Its x).yld i H v H' → g v σ H' fun σ2 H2 => tb { D with nx := N, ct := N, bk := D.nx } σ2 H2) := by
  refine ⟨fun i m σ H => m = x.cps.size - i ∧ i ≤ x.cps.size ∧ Pv i σ H, ⟨x.cps.size, by simp, Nat.zero_le _, h0⟩, ?_⟩
  rintro i m σ H ⟨rfl, hi, p⟩
  by_cases hlt : i < x.cps.size
  · refine .inr ⟨hlt, Pv (i + 1), fun σ' H' p' => ⟨x.cps.size - (i + 1), by omega, rfl, hlt, p'⟩, fun v H' y => ?_⟩
    obtain ⟨e, c, hc, rfl⟩ := y
    subst e
    exact hs i c σ _ hc p
  · have e : i = x.cps.size := by omega
    subst e
    exact .inl ⟨rfl, hd σ H p⟩
end
end L2
set_option maxHeartbeats 4000000
namespace L2
open PySem PySem.Spec PyProof.Rows PySem.W
structure ClsFn (K : Frag) (C : Addr) (m : Str) (f : Addr) : Prop where
  reads : readsIn K C (.type "type") = true
  sp : specialIn K (.ref C) "__getattribute__" = some (some (.builtin "type.__getattribute__"))
  at_ : findCls K (.ref C) (.type "type") m = some (.val (.ref f))
  kp : keepIn K (.ref f) = true
section
variable {X : Cx} {CX : CXT} {k : Nat} {f C : Addr} {fd : FuncData} {ps : List Str} {sp : Sp} {dvs : List V} {ds : List Value} {E : XK} {x m : Str} {p pos apos : Pos} {e : Expr} {es : List Expr} {t : TA}
theorem pe_clsfn {pl : Sem Bool} (hC : ClsFn X.K C m f) (F : FnOk X.prog X.w X.K X.mg X.base CX k f fd ps sp) (hr : Room k X.A) (hg : Gl X x) (hm : X.mg x = some (.ref C)) (hb : Binds X.K fd ps ds) (hd : Vals dvs ds) (hx : Passes CX X E) (ha : PA X (e :: es) t)
    (hdb : (x == ("__debug__" : Str)) = false := by decide) (hst : starEach (e :: es) X.env = (false, eval e X.env) :: starEach es X.env := by rfl) (hpl : (backTo pos (starEach es X.env)).any (·.1) = false := by rfl)
    (ht : eval (.Call (.Attribute (.Name x p) m apos) (e :: es) [] pos) X.env = (do
      let ov ← eval (.Name x p) X.env
      standAt apos.atName
      let (f, first) ← holding [ov] (getMethod ov m pl)
      callWith pos f first (backTo pos (starEach (e :: es) X.env)) (backToKw pos (keywordEach [] X.env))) := by rfl) :
    PE X (.Call (.Attribute (.Name x p) m apos) (e :: es) [] pos) (tCall sp dvs E t) := by
  intro pins s σ H Q I h
  refine PySem.W.methodCall_KW (pl := pl) (ld_glob I hg hm ?_ hdb) ht
  refine method_cls I.kIn hC.sp (cls_value I.kIn hC.reads hC.at_ rfl ?_)
  have I1 := I.tok (s.toks + 1)
  refine PySem.W.callWith_K (first := []) (h₀ := X.base) I.ok.mod.kin hC.kp (thn (ha pos pins _ σ H _ I1 h) fun us s2 z => ?_) hst hpl
  obtain ⟨vs, H2, I2, r, q⟩ := z
  exact ⟨I2.kIn, run_fn F hr hb hd hx I2 r q⟩
end
end L2
set_option maxHeartbeats 4000000
namespace L2
open PySem PySem.Spec PyProof.Rows PySem.W
def Itz (K : Frag) (a b : Addr) : It :=
  ⟨fun i H => ∃ xs ys x y, SqL K H a xs ∧ SqL K H b ys ∧ xs[i]? = some x ∧ ys[i]? = some y,
   fun i H v H' => ∃ T x y, v = .ref T ∧ H T = none ∧ H' = upd H T (.tup [x, y]) ∧ ∀ xs ys, SqL K H a xs → SqL K H b ys → xs[i]? = some x ∧ ys[i]? = some y,
   fun i H => ∃ xs ys, SqL K H a xs ∧ SqL K H b ys ∧ (xs.length ≤ i ∨ ys.length ≤ i)⟩
def ZSt (z TI TO i1 i2 a b : Addr) (i : Nat) (h : Heap) : Prop := IsZip h z TI TO .none ∧ IsPair h TI (.ref i1) (.ref i2) ∧ (∃ u v, IsPair h TO u v) ∧ h.IsListIter i1 a i ∧ h.IsListIter i2 b i
theorem Inv.turnedAll {X : Cx} {pins : List (Addr × Obj)} {σ : St} {H : Hp} {s : Shared} {h' : Heap} {t' : Nat} {ch : List Addr} (I : Inv X pins σ H s) (k : ∀ b o, b ∉ ch → s.heap.get? b = some o → h'.get? b = some o) (hf : ∀ b ∈ ch, FpOk X pins H b) : Inv X pins σ H { s with heap := h', toks := t' } := by
  have nch : ∀ {b : Addr} {u : HO}, H b = some u → b ∉ ch := fun {b u} e z => by rw [(hf b z).1] at e; cases e
  refine I.step (g' := s.gens) (d' := s.drawn) (ch := ch) (fun b hb => ?_) (fun b o _ _ hc e _ => k b o hc e) (fun b o _ _ hc e _ => ⟨o.slots, k b o hc e⟩) (fun _ _ _ _ n => n) (fun b o hc e => ⟨o, k b o hc e⟩) (fun _ _ e => e) (fun _ _ _ e => e) (fun b ps e => ⟨#[], by rw [e]; simp⟩) (fun m hm => ?_) (fun b u e => ?_) I.bare
  · obtain ⟨f0, f1, f2, f3, f4, f5⟩ := hf b hb
    exact ⟨f3, f1, f4, f5⟩
  · obtain ⟨o, es, ep, ho, r⟩ := hm
    exact ⟨o, es, ep, k _ o (fun z => (hf _ z).2.1 rfl) ho, r⟩
  · refine (I.hok b u e).stay (fun c v hc q => k c v ?_ q) (fun _ q => q) fun _ _ q => q
    rcases hc with z | z
    · rw [z]; exact nch e
    · exact nch z
theorem Inv.turnedNew {X : Cx} {pins : List (Addr × Obj)} {σ : St} {H : Hp} {s : Shared} {h' : Heap} {t' : Nat} {ch : List Addr} {T : Addr} {ob : HO} (I : Inv X pins σ H s) (k : ∀ b o, b ∉ ch → s.heap.get? b = some o → h'.get? b = some o) (hf : ∀ b ∈ ch, FpOk X pins H b)
    (hT : s.heap.get? T = none) (new : ObjOk X.prog X.w (upd H T ob) h' T ob) : Inv X pins σ (upd H T ob) { s with heap := h', toks := t' } := by
  have hH : H T = none := I.newH hT
  have nch : ∀ {b : Addr} {u : HO}, H b = some u → b ∉ ch := fun {b u} e z => by rw [(hf b z).1] at e; cases e
  have nT : ∀ {b : Addr} {u : HO}, H b = some u → b ≠ T := fun {b u} e z => by rw [z, hH] at e; cases e
  have up : ∀ {b : Addr} {u : HO}, H b = some u → upd H T ob b = some u := fun {b u} e => by rw [upd_ne (nT e)]; exact e
  refine I.step (g' := s.gens) (d' := s.drawn) (ch := ch) (fun b hb => ?_) (fun b o _ _ hc e _ => k b o hc e) (fun b o _ _ hc e _ => ⟨o.slots, k b o hc e⟩) (fun b o _ e n => ?_) (fun b o hc e => ⟨o, k b o hc e⟩) (fun _ _ e => up e) (fun _ _ _ e => up e) (fun b ps e => ⟨#[], by rw [up e]; simp⟩) (fun m hm => ?_) (fun b u e => ?_) I.bare
  · obtain ⟨f0, f1, f2, f3, f4, f5⟩ := hf b hb
    exact ⟨f3, f1, f4, f5⟩
  · rw [upd_ne (fun z => by rw [z, hT] at e; cases e)]
    exact n
  · obtain ⟨o, es, ep, ho, r⟩ := hm
    exact ⟨o, es, ep, k _ o (fun z => (hf _ z).2.1 rfl) ho, r⟩
  · by_cases hb : b = T
    · subst hb
      rw [upd_same] at e
      cases e
      exact new
    · rw [upd_ne hb] at e
      refine (I.hok b u e).stay (fun c v hc q => k c v ?_ q) (fun _ q => up q) fun _ _ q => up q
      rcases hc with z | z
      · rw [z]; exact nch e
      · exact nch z
theorem turn_zip {P : Program} {w : World} {K : Frag} {elts : List Expr} {kk : Nat} {pos : Pos} {z TI TO i1 i2 a b : Addr} (D : ZipApart z TI TO i1 i2 a b) :
    Turn P w K (.Tuple elts kk pos) (Itz K a b) [z, TI, TO, i1, i2] z (ZSt z TI TO i1 i2 a b) where
  mem := by simp
  obj := fun i h st c hc => by
    obtain ⟨s1, s2, ⟨u, v, s3⟩, ⟨o4, s4, _, d4⟩, ⟨o5, s5, _, d5⟩⟩ := st
    simp at hc
    rcases hc with rfl | rfl | rfl | rfl | rfl
    · exact ⟨_, s1, fun v q => by cases q⟩
    · exact ⟨_, s2, fun v q => by cases q⟩
    · exact ⟨_, s3, fun v q => by cases q⟩
    · exact ⟨_, s4, fun v q => by rw [d4] at q; cases q⟩
    · exact ⟨_, s5, fun v q => by rw [d5] at q; cases q⟩
  keep := fun i h h' st k => by
    obtain ⟨s1, s2, ⟨u, v, s3⟩, s4, s5⟩ := st
    exact ⟨k z (by simp) _ s1, k TI (by simp) _ s2, ⟨u, v, k TO (by simp) _ s3⟩, s4.at fun o e => k i1 (by simp) o e, s5.at fun o e => k i2 (by simp) o e⟩
  item := by
    intro X hP hw hK hc i pins s σ H E I hf st hg
    subst hP hw hK
    obtain ⟨xs, ys, x, y, qa, qb, hx, hy⟩ := hg
    obtain ⟨s1, s2, ⟨u, v, s3⟩, s4, s5⟩ := st
    obtain ⟨ia, ra, pa, za⟩ := I.list qa
    obtain ⟨ib, rb, pb, zb⟩ := I.list qb
    obtain ⟨ux, ex, rx⟩ := ra.get hx
    obtain ⟨uy, ey, ry⟩ := rb.get hy
    refine wpAny_pyNext_zip_item D s1 s2 s3 s4 s5 pa.isList pb.isList (x := ux) (y := uy) (by simpa using ex) (by simpa using ey) fun h' a1 a2 a3 a4 a5 a6 kp => ?_
    refine ⟨_, rfl, wpAny_letOwnedTupleGo_zip (s := { s with heap := h' }) a1 fun h2 b1 b2 => ?_⟩
    have two : (2 : Nat) ≤ sizeLine := Nat.le_of_lt (small1000 (by decide))
    have kp2 : ∀ c o, c ∉ [z, TI, TO, i1, i2] → s.heap.get? c = some o → h2.get? c = some o := fun c o hc e => by
      simp at hc
      exact b2.extBut c o hc.1 (kp c o hc.1 hc.2.2.1 hc.2.2.2.1 hc.2.2.2.2 e)
    have I1 : Inv X pins σ H { s with heap := h2 } := I.turnedAll (t' := s.toks) kp2 hf
    have hnew : s.heap.get? s.heap.objs.size = none := by
      cases q : s.heap.get? s.heap.objs.size with
      | none => rfl
      | some o => exact absurd (Heap.lt_size q) (Nat.lt_irrefl _)
    have hH : H s.heap.objs.size = none := I.hok.fresh (Nat.le_refl _)
    have hTz : s.heap.objs.size ≠ z := Nat.ne_of_gt (Heap.lt_size s1)
    have hT2 : IsPair h2 s.heap.objs.size ux uy := b2.extBut _ _ hTz a5
    have hf2 := hf
    have I2 : Inv X pins σ (upd H s.heap.objs.size (.tup [x, y])) { s with heap := h2 } := I.turnedNew (t' := s.toks) kp2 hf hnew ⟨two, [ux, uy], .cons rx (.cons ry .nil), _, hT2, rfl, 0, rfl⟩
    refine ⟨.ref s.heap.objs.size, _, I2, rfl, ⟨_, x, y, rfl, hH, rfl, fun xs' ys' h1 h2 => ?_⟩, ?_, fun c hc => ?_⟩
    · rw [I.list_inj h1 qa, I.list_inj h2 qb]
      exact ⟨hx, hy⟩
    · exact ⟨b1, b2.extBut _ _ D.TIz (kp TI _ D.TIz D.TITO D.TIi1 D.TIi2 s2), ⟨_, _, b2.extBut _ _ D.TOz a2⟩, a3.extBut b2.extBut D.i1z, a4.extBut b2.extBut D.i2z⟩
    · have hc0 := (hf c hc).1
      rw [upd_ne]
      · exact hc0
      · intro q
        have e : ∃ o, s.heap.get? c = some o := by
          simp at hc
          rcases hc with rfl | rfl | rfl | rfl | rfl
          · exact ⟨_, s1⟩
          · exact ⟨_, s2⟩
          · exact ⟨_, s3⟩
          · obtain ⟨o, e, _⟩ := s4; exact ⟨o, e⟩
          · obtain ⟨o, e, _⟩ := s5; exact ⟨o, e⟩
        obtain ⟨o, e⟩ := e
        rw [q, hnew] at e
        cases e
  done := by
    intro X hP hw hK hc i pins s σ H E I hf st hg
    subst hP hw hK
    obtain ⟨xs, ys, qa, qb, hend⟩ := hg
    obtain ⟨s1, s2, ⟨u, v, s3⟩, s4, s5⟩ := st
    obtain ⟨ia, ra, pa, za⟩ := I.list qa
    obtain ⟨ib, rb, pb, zb⟩ := I.list qb
    have la := ra.length
    have lb := rb.length
    refine wpAny_pyNext_zip_end (I.ok.hd hc) D s1 s2 s3 s4 s5 pa.isList pb.isList (by simp; omega) fun h' kp => ⟨rfl, I.turnedAll (t' := s.toks) (fun c o hc e => ?_) hf⟩
    simp at hc
    exact kp c o hc.1 hc.2.2.1 hc.2.2.2.1 hc.2.2.2.2 e
  self := fun A i s Q E st h => wpAny_pyIter_zip st.1 h
def iZip (K : Frag) (ta : TA) : TI := fun σ H R => ta σ H fun vs H1 => ∃ a b, vs = [.ref a, .ref b] ∧ (∃ xs, SqL K H1 a xs) ∧ (∃ ys, SqL K H1 b ys) ∧ R (Itz K a b) H1
section
variable {X : Cx}
theorem pi_zip {ea eb : Expr} {elts : List Expr} {kk : Nat} {tpos p pos : Pos} {ta : TA} (hg : Gl X "zip") (hm : X.mg "zip" = none) (ha : PA X [ea, eb] ta) (hs : starEach [ea, eb] X.env = [(false, eval ea X.env), (false, eval eb X.env)] := by rfl) (hs2 : starEach [eb] X.env = [(false, eval eb X.env)] := by rfl) :
    PI X (.Tuple elts kk tpos) (.Call (.Name "zip" p) [ea, eb] [] pos) (iZip X.K ta) := by
  intro pins s σ H R I h
  refine Call_ (ld_blt I hg hm boot_zip (PyProof.Rows.callWith_type1 (thn (ha pos pins s σ H _ I h) fun us s1 z => ?_) (by rw [hs, hs2]) (by rw [hs2]; rfl)))
  obtain ⟨vs, H1, I1, r1, a, b, rfl, ⟨xs, qa⟩, ⟨ys, qb⟩, q⟩ := z
  obtain ⟨u, v, rfl, ru, rv⟩ := vals2 r1
  cases ru
  cases rv
  obtain ⟨ia, ra, pa, za⟩ := I1.list qa
  obtain ⟨ib, rb, pb, zb⟩ := I1.list qb
  have la : a < s1.heap.objs.size := by obtain ⟨_, e, _⟩ := pa.isList; exact Heap.lt_size e
  have lb : b < s1.heap.objs.size := by obtain ⟨_, e, _⟩ := pb.isList; exact Heap.lt_size e
  refine call_zip_2 pa.isList pb.isList fun h' z1 z2 z3 z4 z5 z6 kp => wpAny_pyIter_zip z1 ?_
  have D : ZipApart (s1.heap.objs.size + 4) (s1.heap.objs.size + 2) (s1.heap.objs.size + 3) s1.heap.objs.size (s1.heap.objs.size + 1) a b := by
    constructor <;> (first | exact Nat.ne_of_lt (Nat.lt_of_lt_of_le la (Nat.le_add_right _ _)) | exact Nat.ne_of_lt (Nat.lt_of_lt_of_le lb (Nat.le_add_right _ _)) | exact Nat.ne_of_lt la | exact Nat.ne_of_lt lb | exact Nat.ne_of_lt (by omega) | exact Nat.ne_of_gt (by omega))
  refine ⟨s1.heap.objs.size + 4, [s1.heap.objs.size + 4, s1.heap.objs.size + 2, s1.heap.objs.size + 3, s1.heap.objs.size, s1.heap.objs.size + 1], _, _, H1, rfl, I1.kept (t' := s1.toks) kp, turn_zip D, ⟨z1, z2, ⟨_, _, z3⟩, z4, z5⟩, fun c hc => ?_, q⟩
  have : s1.heap.objs.size ≤ c := by
    simp at hc
    rcases hc with rfl | rfl | rfl | rfl | rfl
    · exact Nat.le_add_right _ _
    · exact Nat.le_add_right _ _
    · exact Nat.le_add_right _ _
    · exact Nat.le_refl _
    · exact Nat.le_add_right _ _
  exact I1.fpOk this (I1.hok.fresh this)
theorem comp_zip {K : Frag} {a b : Addr} {xs ys : List V} {g : TG} {tc : TT} {te : TE} {σ0 : St} {H : Hp} {fin : List V → Hp → Prop} (Pv : Nat → List V → St → Hp → Prop) (h0 : Pv 0 [] σ0 H) (hx : xs.length ≤ sizeLine)
    (hl : ∀ i zs σ H, i ≤ min xs.length ys.length → Pv i zs σ H → SqL K H a xs ∧ SqL K H b ys ∧ zs.length ≤ i)
    (hs : ∀ i x y zs σ H T, xs[i]? = some x → ys[i]? = some y → H T = none → Pv i zs σ H → g (.ref T) σ (upd H T (.tup [x, y])) fun σ2 H2 => tc σ2 H2 fun b H3 => if b = true then te σ2 H3 fun y H4 => Pv (i + 1) (zs ++ [y]) σ2 H4 else Pv (i + 1) zs σ2 H3)
    (hd : ∀ zs σ H, Pv (min xs.length ys.length) zs σ H → fin zs H) :
    ∃ W : Nat → Nat → List V → St → Hp → Prop, (∃ m, W 0 m [] σ0 H) ∧ compLoopR (Itz K a b) g tc te fin W := by
  refine ⟨fun i m zs σ H => m = min xs.length ys.length - i ∧ i ≤ min xs.length ys.length ∧ Pv i zs σ H, ⟨min xs.length ys.length, by simp, Nat.zero_le _, h0⟩, ?_⟩
  rintro i m zs σ H ⟨rfl, hi, p⟩
  obtain ⟨q1, q2, hz⟩ := hl i zs σ H hi p
  by_cases hlt : i < min xs.length ys.length
  · have i1 : i < xs.length := by omega
    have i2 : i < ys.length := by omega
    refine .inr ⟨⟨xs, ys, xs[i], ys[i], q1, q2, List.getElem?_eq_getElem i1, List.getElem?_eq_getElem i2⟩, by omega, Pv (i + 1), fun ys' σ' H' p' => ⟨min xs.length ys.length - (i + 1), by omega, rfl, hlt, p'⟩, fun v H' y => ?_⟩
    obtain ⟨T, x, y, rfl, hT, rfl, e⟩ := y
    obtain ⟨e1, e2⟩ := e xs ys q1 q2
    exact hs i x y zs σ H T e1 e2 hT p
  · have e : i = min xs.length ys.length := by omega
    subst e
    exact .inl ⟨⟨xs, ys, q1, q2, by omega⟩, hd zs σ H p⟩
theorem comp_range {lo : Int} {n : Nat} {g : TG} {tc : TT} {te : TE} {σ0 : St} {H : Hp} {fin : List V → Hp → Prop} (Pv : Nat → List V → St → Hp → Prop) (h0 : Pv 0 [] σ0 H) (hx : n ≤ sizeLine)
    (hl : ∀ i zs σ H, i ≤ n → Pv i zs σ H → zs.length ≤ i)
    (hs : ∀ i zs σ H, i < n → Pv i zs σ H → g (.int (lo + i)) σ H fun σ2 H2 => tc σ2 H2 fun b H3 => if b = true then te σ2 H3 fun y H4 => Pv (i + 1) (zs ++ [y]) σ2 H4 else Pv (i + 1) zs σ2 H3)
    (hd : ∀ zs σ H, Pv n zs σ H → fin zs H) :
    ∃ W : Nat → Nat → List V → St → Hp → Prop, (∃ m, W 0 m [] σ0 H) ∧ compLoopR (Itr lo n) g tc te fin W := by
  refine ⟨fun i m zs σ H => m = n - i ∧ i ≤ n ∧ Pv i zs σ H, ⟨n, by simp, Nat.zero_le _, h0⟩, ?_⟩
  rintro i m zs σ H ⟨rfl, hi, p⟩
  have hz := hl i zs σ H hi p
  by_cases hlt : i < n
  · refine .inr ⟨hlt, by omega, Pv (i + 1), fun ys' σ' H' p' => ⟨n - (i + 1), by omega, rfl, hlt, p'⟩, fun v H' y => ?_⟩
    obtain ⟨e, y⟩ := y
    subst e y
    exact hs i zs σ _ hlt p
  · have e : i = n := by omega
    subst e
    exact .inl ⟨Nat.le_refl _, hd zs σ H p⟩
end
end L2
set_option maxHeartbeats 4000000
namespace L2
open PySem PySem.Spec PyProof.Rows PySem.W PyProof
section
variable {X : Cx}
theorem op_mulS : OpR X (binaryOp .Mult) (fun x y H Q => ∃ z n, x = .str z ∧ y = .int n ∧ MulOk z n ∧ Q (.str (Txt.mul z n)) H) := by
  intro pins s σ H x y v u Q I rx ry h
  obtain ⟨z, n, rfl, rfl, hok, q⟩ := h
  obtain ⟨t, rfl⟩ := rx
  obtain ⟨t', rfl⟩ := ry
  exact SB.mul hok fun t2 k => ⟨.str _, H, I.tok k, ⟨t2, rfl⟩, q⟩
theorem sl_str : SlR X (fun x lo hi H Q => ∃ z, x = .str z ∧ z.length ≤ sizeLine ∧ Q (.str (Txt.slice z lo hi)) H) := by
  intro pins s σ H x v vl vu lo hi sl Q I rx hs pl pu h
  obtain ⟨z, rfl, hz, q⟩ := h
  obtain ⟨t, rfl⟩ := rx
  refine ⟨"str", _, F.slot_str_getitem.lookup, typeIs_str _ _ _, ?_⟩
  obtain ⟨o, e1, e2, e3⟩ := hs
  cases pl with
  | none =>
    cases pu with
    | none => exact wpAny_getItem_str_slice (l := none) (u := none) (st := none) ⟨o, e1, e2, e3⟩ rfl (post_val_or_str ⟨Nat.le_trans (Txt.slice_le z _ _) hz, fun t' k => ⟨.str _, H, I.tok k, ⟨t', rfl⟩, q⟩⟩)
    | int j uj => exact wpAny_getItem_str_slice (l := none) (u := some (j, uj)) (st := none) ⟨o, e1, e2, e3⟩ rfl (post_val_or_str ⟨Nat.le_trans (Txt.slice_le z _ _) hz, fun t' k => ⟨.str _, H, I.tok k, ⟨t', rfl⟩, q⟩⟩)
  | int i ui =>
    cases pu with
    | none => exact wpAny_getItem_str_slice (l := some (i, ui)) (u := none) (st := none) ⟨o, e1, e2, e3⟩ rfl (post_val_or_str ⟨Nat.le_trans (Txt.slice_le z _ _) hz, fun t' k => ⟨.str _, H, I.tok k, ⟨t', rfl⟩, q⟩⟩)
    | int j uj => exact wpAny_getItem_str_slice (l := some (i, ui)) (u := some (j, uj)) (st := none) ⟨o, e1, e2, e3⟩ rfl (post_val_or_str ⟨Nat.le_trans (Txt.slice_le z _ _) hz, fun t' k => ⟨.str _, H, I.tok k, ⟨t', rfl⟩, q⟩⟩)
end
end L2
set_option maxHeartbeats 4000000
namespace HD
open PySem PySem.W
def topRunT (tb : String → Option Builtin) (p : Program) (w : World) (n₀ : Nat) (ann : Option Value) : Nat → SharedT → Thread → Option SharedT
  | 0, _, _ => none
  | n + 1, s, t => match through t with
    | true => some s
    | false => match stepOk n₀ ann t with
      | false => none
      | true => match stepT (denote tb) p w s t with
        | some (s', t') => topRunT tb p w n₀ ann n s' t'
        | none => none
theorem topRun_of {tb : String → Option Builtin} {p : Program} {w : World} {n₀ : Nat} {ann : Option Value} : ∀ {n : Nat} {s s' : SharedT} {t : Thread}, topRunT tb p w n₀ ann n s t = some s' → topRun tb p w n₀ ann n s.abs t = some s'.abs
  | 0, _, _, _, h => by cases h
  | n + 1, s, s', t, h => by
    unfold topRunT at h
    unfold topRun
    cases ht : through t with
    | true => rw [ht] at h; cases h; rfl
    | false =>
      rw [ht] at h
      cases hk : stepOk n₀ ann t with
      | false => rw [hk] at h; cases h
      | true =>
        rw [hk] at h
        cases hs : stepT (denote tb) p w s t with
        | none => rw [hs] at h; cases h
        | some r => obtain ⟨s₂, t₂⟩ := r; rw [hs] at h; dsimp only; rw [stepT_spec hs]; exact topRun_of h
def ofL : List Obj → Nat → BT → BT
  | [], _, t => t
  | o :: r, n, t => ofL r (n + 1) (t.ins n o)
noncomputable def bootT (P : Params) (os : OsState) : SharedT := ⟨ofL (boot_heap P).objs.toList 0 .nil, (boot_heap P).objs.toList.length, (boot_heap P).life, Array.mk [], boot_drawn, boot_toks, os⟩
theorem bootT_abs (P : Params) (os : OsState) : (bootT P os).abs = ⟨boot_heap P, Array.mk [], boot_drawn, boot_toks, os⟩ := by kernel_rfl

def lookT {α : Type} (p q : Program) (loose : List Str) (Xt : Shared → Bool) (Yf : Shared → α) (g0 : Bool) (H₀ : Heap) (s : Shared) :=
  (staticsOk (importedModules p.main.body) H₀ s.heap && namesBound p s.heap && gensDone s && laidKept H₀ s.heap, openSeen q loose (importedModules p.main.body) Xt g0 s, Yf s)
theorem left_of {p q : Program} {loose : List Str} {Xt : Shared → Bool} {α : Type} {Yf : Shared → α} {Ya : World → α} {N : Nat} {g0 : Bool} {m₀ : Nat} {ann : Option Value}
    (open_ : ∀ w : World, (fencedOpening treeTable p w N).map (fun s => (s.heap, s.gens, s.drawn, s.toks)) = some (boot_heap w.params, Array.mk [], boot_drawn, boot_toks))
    (size : ∀ w : World, ((boot_heap w.params).isNs mainGlobals && (Array.mk [] : Array GenState).size == 0, (boot_heap w.params).objs.size, (boot_heap w.params).nsMap mainGlobals "__annotations__") = (true, m₀, ann))
    (h : ∀ w os, (topRunT treeTable p w m₀ ann N (bootT w.params os) (topStub p)).map (fun s => lookT p q loose Xt Yf g0 (boot_heap w.params) s.abs) = some (true, openGood q loose, Ya w)) : LeftO p q loose Xt Yf Ya N g0 := fun w => by
  obtain ⟨⟨h0, gs, d, k, os⟩, e, e'⟩ := Option.map_eq_some_iff.mp (open_ w)
  obtain ⟨rfl, rfl, rfl, rfl⟩ : h0 = boot_heap w.params ∧ gs = Array.mk [] ∧ d = boot_drawn ∧ k = boot_toks := by simpa using e'
  obtain ⟨z1, z2, z3⟩ : _ ∧ _ ∧ _ := by simpa only [Prod.mk.injEq] using size w
  obtain ⟨s₁, r, l⟩ := Option.map_eq_some_iff.mp (h w os)
  have r' := topRun_of r
  rw [bootT_abs] at r'
  obtain ⟨l1, l2, l3⟩ : _ ∧ _ ∧ _ := by simpa only [lookT, Prod.mk.injEq] using l
  have t : topFrom treeTable p w N ⟨boot_heap w.params, Array.mk [], boot_drawn, boot_toks, os⟩ = some s₁.abs := by
    unfold topFrom
    dsimp only
    rw [z1, z2, z3, r']
    show (match staticsOk (importedModules p.main.body) (boot_heap w.params) s₁.abs.heap && namesBound p s₁.abs.heap && gensDone s₁.abs && laidKept (boot_heap w.params) s₁.abs.heap with | true => _ | false => _) = _
    rw [l1]
  unfold openEnds
  rw [e]
  show (topFrom treeTable p w N _).map _ = _
  rw [t]
  exact congrArg some (Prod.ext l2 l3)
end HD
namespace HD
open PySem PySem.W
def dE (P : Params) (k : Str) (t : Tok) (v : Value) : DictEntry := ⟨PyData.keyHash P k, .str k t, v⟩
def oFn (d : Option Addr) (st : Stmt) (name qual : Str) (dV kV doc pm : Value) (an : Option Addr) (cd ct : Value) : Obj := ⟨.type "function", d, .func (fnOf name qual (L2.defArgs st) (L2.defBody st) (L2.defScope st) dV kV doc pm an cd ct), #[]⟩
theorem boot_size (w : World) : ((boot_heap w.params).isNs mainGlobals && (Array.mk [] : Array GenState).size == 0, (boot_heap w.params).objs.size, (boot_heap w.params).nsMap mainGlobals "__annotations__") = (true, 11, some (.ref 6)) := by kernel_rfl
end HD
set_option maxHeartbeats 4000000
namespace K11
open PySem L2
def top (i : Nat) : Stmt := PySem.Challenge.pw_daysgate_k11_a_rule.main.body.getD i (.Pass ⟨0, 0, 0, 0⟩)
def clsBody : Stmt → List Stmt
  | .ClassDef (body := b) .. => b
  | _ => []
def mem (i j : Nat) : Stmt := (clsBody (top i)).getD j (.Pass ⟨0, 0, 0, 0⟩)
abbrev sWhole : Stmt := top 4
abbrev sBetween : Stmt := top 5
abbrev sMade : Stmt := top 6
abbrev sName : Stmt := top 7
abbrev sLand : Stmt := top 21
abbrev sLands : Stmt := top 22
structure Txt (mg : Str → Option Value) : Prop where
  isi : mg "isinstance" = none
  int : mg "int" = none
  bool : mg "bool" = none
  str : mg "str" = none
  tup : mg "tuple" = none
  lst : mg "list" = none
  len : mg "len" = none
  rng : mg "range" = none
  zip : mg "zip" = none
  ve : mg "ValueError" = none
  gG : ∃ t, mg "GREATEST" = some (.int 1000000000 t)
  gL : ∃ t, mg "LETTERS" = some (.str "abcdefghijklmnopqrstuvwxyz" t)
  gN : ∃ t, mg "LONGEST_NAME" = some (.int 8 t)
  gM : ∃ t, mg "MOST_LANDS" = some (.int 6 t)
  gW : ∃ t, mg "GREATEST_WEIGHT" = some (.int 9 t)
mutual
def DX (H : Hp) : PyData → V → Prop
  | .none, v => v = .non
  | .bool b, v => v = .bl b
  | .int i, v => v = .int i
  | .str x, v => v = .str x ∧ x.length ≤ 1000
  | .list ds, v => ∃ a xs, v = .ref a ∧ H a = some (.lst xs) ∧ DXs H ds xs
  | .tuple ds, v => ∃ a xs, v = .ref a ∧ H a = some (.tup xs) ∧ DXs H ds xs
  | .dict _, _ => False
def DXs (H : Hp) : List PyData → List V → Prop
  | [], xs => xs = []
  | d :: ds, xs => ∃ x r, xs = x :: r ∧ DX H d x ∧ DXs H ds r
end
structure LT (H H' : Hp) : Prop where
  l : ∀ b xs, H b = some (.lst xs) → H' b = some (.lst xs)
  t : ∀ b xs, H b = some (.tup xs) → H' b = some (.tup xs)
theorem LT.of {H H' : Hp} (e : Same H H') : LT H H' := ⟨fun b xs h => e b _ h, fun b xs h => e b _ h⟩
mutual
theorem DX.lt {H H' : Hp} (e : LT H H') : ∀ {d : PyData} {v : V}, DX H d v → DX H' d v
  | .none, v, h => by simp only [DX] at h ⊢; exact h
  | .bool b, v, h => by simp only [DX] at h ⊢; exact h
  | .int i, v, h => by simp only [DX] at h ⊢; exact h
  | .str x, v, h => by simp only [DX] at h ⊢; exact h
  | .list ds, v, h => by
    simp only [DX] at h ⊢
    obtain ⟨a, xs, rfl, h1, h2⟩ := h
    exact ⟨a, xs, rfl, e.l _ _ h1, DXs.lt e h2⟩
  | .tuple ds, v, h => by
    simp only [DX] at h ⊢
    obtain ⟨a, xs, rfl, h1, h2⟩ := h
    exact ⟨a, xs, rfl, e.t _ _ h1, DXs.lt e h2⟩
  | .dict _, v, h => by simp only [DX] at h
theorem DXs.lt {H H' : Hp} (e : LT H H') : ∀ {ds : List PyData} {vs : List V}, DXs H ds vs → DXs H' ds vs
  | [], vs, h => by simp only [DXs] at h ⊢; exact h
  | d :: ds, vs, h => by
    simp only [DXs] at h ⊢
    obtain ⟨x, r, rfl, h1, h2⟩ := h
    exact ⟨x, r, rfl, DX.lt e h1, DXs.lt e h2⟩
end
theorem DX.same {H H' : Hp} (e : Same H H') {d : PyData} {v : V} (h : DX H d v) : DX H' d v := h.lt (.of e)
theorem DXs.same {H H' : Hp} (e : Same H H') {ds : List PyData} {vs : List V} (h : DXs H ds vs) : DXs H' ds vs := h.lt (.of e)
mutual
theorem DX.dv {K : PySem.W.Frag} {H : Hp} : ∀ {d : PyData} {v : V}, DX H d v → DV K H d v
  | .none, v, h => by simp only [DX] at h; simp only [DV]; exact h
  | .bool b, v, h => by simp only [DX] at h; simp only [DV]; exact h
  | .int i, v, h => by simp only [DX] at h; simp only [DV]; exact h
  | .str x, v, h => by simp only [DX] at h; simp only [DV]; exact h.1
  | .list ds, v, h => by
    simp only [DX] at h
    simp only [DV]
    obtain ⟨a, xs, rfl, h1, h2⟩ := h
    exact ⟨a, xs, rfl, SqL.of h1, DXs.dv h2⟩
  | .tuple ds, v, h => by
    simp only [DX] at h
    simp only [DV]
    obtain ⟨a, xs, rfl, h1, h2⟩ := h
    exact ⟨a, xs, rfl, SqT.of h1, DXs.dv h2⟩
  | .dict _, v, h => by simp only [DX] at h
theorem DXs.dv {K : PySem.W.Frag} {H : Hp} : ∀ {ds : List PyData} {vs : List V}, DXs H ds vs → DVs K H ds vs
  | [], vs, h => by simp only [DXs] at h; simp only [DVs]; exact h
  | d :: ds, vs, h => by
    simp only [DXs] at h
    simp only [DVs]
    obtain ⟨x, r, rfl, h1, h2⟩ := h
    exact ⟨x, r, rfl, DX.dv h1, DXs.dv h2⟩
end
theorem DXs.len {H : Hp} : ∀ {ds : List PyData} {vs : List V}, DXs H ds vs → ds.length = vs.length
  | [], vs, h => by simp only [DXs] at h; subst h; rfl
  | d :: ds, vs, h => by
    simp only [DXs] at h
    obtain ⟨x, r, rfl, h1, h2⟩ := h
    simp [DXs.len h2]
theorem DXs.at {H : Hp} : ∀ {ds : List PyData} {vs : List V} {i : Nat} {v : V}, DXs H ds vs → vs[i]? = some v → ∃ d, ds[i]? = some d ∧ DX H d v
  | [], vs, i, v, h, e => by simp only [DXs] at h; subst h; simp at e
  | d :: ds, vs, 0, v, h, e => by
    simp only [DXs] at h
    obtain ⟨x, r, rfl, h1, h2⟩ := h
    simp at e
    subst e
    exact ⟨d, rfl, h1⟩
  | d :: ds, vs, i + 1, v, h, e => by
    simp only [DXs] at h
    obtain ⟨x, r, rfl, h1, h2⟩ := h
    obtain ⟨d', e1, e2⟩ := DXs.at (i := i) h2 (by simpa using e)
    exact ⟨d', by simpa using e1, e2⟩
def tyn : PyData → String
  | .none => "NoneType" | .bool _ => "bool" | .int _ => "int" | .str _ => "str" | .list _ => "list" | .tuple _ => "tuple" | .dict _ => "dict"
theorem tyD {K : PySem.W.Frag} {H : Hp} {d : PyData} {x : V} (h : DX H d x) : TyOf K H x (.type (tyn d)) := by
  cases d <;> simp only [DX] at h
  · subst h; exact .non
  · subst h; exact .bl _
  · subst h; exact .int _
  · obtain ⟨rfl, _⟩ := h; exact .str _
  · obtain ⟨a, xs, rfl, e, _⟩ := h; exact .lst e
  · obtain ⟨a, xs, rfl, e, _⟩ := h; exact .tup e
def isInt : PyData → Bool | .int _ => true | .bool _ => true | _ => false
def isBool : PyData → Bool | .bool _ => true | _ => false
def isStr : PyData → Bool | .str _ => true | _ => false
def isTup : PyData → Bool | .tuple _ => true | _ => false
def isLst : PyData → Bool | .list _ => true | _ => false
theorem kInt {K : PySem.W.Frag} (d : PyData) : PySem.W.kitOne K (.type (tyn d)) (.type "int") = some (isInt d) := by cases d <;> rfl
theorem kBool {K : PySem.W.Frag} (d : PyData) : PySem.W.kitOne K (.type (tyn d)) (.type "bool") = some (isBool d) := by cases d <;> rfl
theorem kStr {K : PySem.W.Frag} (d : PyData) : PySem.W.kitOne K (.type (tyn d)) (.type "str") = some (isStr d) := by cases d <;> rfl
theorem kTup {K : PySem.W.Frag} (d : PyData) : PySem.W.kitOne K (.type (tyn d)) (.type "tuple") = some (isTup d) := by cases d <;> rfl
theorem kLst {K : PySem.W.Frag} (d : PyData) : PySem.W.kitOne K (.type (tyn d)) (.type "list") = some (isLst d) := by cases d <;> rfl
def wholeD : PyData → Bool | .int _ => true | _ => false
def betD (d : PyData) (a b : Int) : Bool := match d with | .int n => decide (a ≤ n) && decide (n ≤ b) | _ => false
def madeD (t g : Str) : Bool := t.cps.toList.all fun c => decide (c ∈ g.cps.toList)
def LET : Str := "abcdefghijklmnopqrstuvwxyz"
def nmS (t : Str) : Bool := decide ((1 : Int) ≤ t.length) && (decide ((t.length : Int) ≤ 8) && madeD t LET)
def nameD : PyData → Bool | .str t => nmS t | _ => false
def landD : PyData → Bool | .tuple [a, b] => nameD a && betD b 1 9 | _ => false
def nmOf : PyData → Str | .tuple (.str t :: _) => t | _ => ""
def goD : List PyData → List Str → Bool | [], _ => true | d :: ds, ns => landD d && !(decide (nmOf d ∈ ns)) && goD ds (ns ++ [nmOf d])
def areD : PyData → Bool | .list ds => decide (1 ≤ ds.length) && decide (ds.length ≤ 6) && goD ds [] | _ => false
section
variable {P : Program} {w : World} {K : PySem.W.Frag} {mg : Str → Option Value} {base : Heap}
def spWhole : Sp := fun vs H Q _ => ∃ x d, vs = [x] ∧ DX H d x ∧ Q (.bl (wholeD d)) H
theorem scWhole : FnScope ["thing"] ["thing"] (defScope sWhole) := ⟨rfl, rfl, rfl, by decide +kernel, rfl, by decide +kernel, by decide +kernel⟩
theorem ok_whole {f : Addr} {fd : FuncData} (F : Fun K "is_whole" "is_whole" sWhole f fd) (T : Txt mg) : FnOk P w K mg base CX0 1 f fd ["thing"] spWhole := by
  refine F.ok scWhole (fun vs H Q E h => ?_) (fun cdv A outer s H vs Q E hr h => ?_)
  · obtain ⟨x, d, rfl, _⟩ := h
    rfl
  · obtain ⟨x, d, rfl, hd, k⟩ := h
    refine ⟨_, pss_one (ps_ret (pe_and (pe_callB call_isi (by rfl) T.isi PyProof.Rows.boot_isinstance (pa_cons (pv 0) (pa_cons (pe_bltn (v := .ty "int") (by rfl) T.int PyProof.Rows.boot_int rfl) pa_nil)))
      (pe_one (pe_not (pe_callB call_isi (by rfl) T.isi PyProof.Rows.boot_isinstance (pa_cons (pv 0) (pa_cons (pe_bltn (v := .ty "bool") (by rfl) T.bool PyProof.Rows.boot_bool rfl) pa_nil))))))), ?_⟩
    refine ⟨_, rfl, _, _, _, _, rfl, tyD hd, kInt d, _, rfl, ite2 (fun hi => ?_) (fun hi => ?_)⟩
    · refine ⟨_, rfl, _, _, _, _, rfl, tyD hd, kBool d, _, rfl, ?_⟩
      have e : (!isBool d) = wholeD d := by cases d <;> simp_all [isInt, isBool, wholeD]
      rw [e]
      exact k
    · have e : false = wholeD d := by cases d <;> simp_all [isInt, wholeD]
      rw [e]
      exact k
def spBetween : Sp := fun vs H Q _ => ∃ x d a b, vs = [x, .int a, .int b] ∧ DX H d x ∧ Q (.bl (betD d a b)) H
theorem scBetween : FnScope ["thing", "least", "greatest"] ["thing", "least", "greatest"] (defScope sBetween) := ⟨rfl, rfl, rfl, by decide +kernel, rfl, by decide +kernel, by decide +kernel⟩
theorem ok_between {f fW : Addr} {fd dW : FuncData} (F : Fun K "is_between" "is_between" sBetween f fd) (T : Txt mg) (FW : Fun K "is_whole" "is_whole" sWhole fW dW) (bW : Binds K dW ["thing"] []) (mW : mg "is_whole" = some (.ref fW)) :
    FnOk P w K mg base CX0 2 f fd ["thing", "least", "greatest"] spBetween := by
  refine F.ok scBetween (fun vs H Q E h => ?_) (fun cdv A outer s H vs Q E hr h => ?_)
  · obtain ⟨x, d, a, b, rfl, _⟩ := h
    rfl
  · obtain ⟨x, d, a, b, rfl, hd, k⟩ := h
    refine ⟨_, pss_one (ps_ret (pe_and (pe_call (ok_whole FW T) hr (by rfl) mW FW.kp bW .nil pass0 (pa_cons (pv 0) pa_nil))
      (pe_and (pe_cmpR op_le (pv 1) (pv 0) (nomark _)) (pe_one (pe_cmpR op_le (pv 0) (pv 2) (nomark _)))))), ?_⟩
    refine ⟨_, rfl, _, d, rfl, hd, _, rfl, ite2 (fun hi => ?_) (fun hi => ?_)⟩
    · cases d <;> simp only [wholeD] at hi <;> try (exact absurd hi (by decide))
      rename_i n
      simp only [DX] at hd
      subst hd
      refine ⟨_, rfl, _, rfl, _, _, rfl, rfl, _, rfl, ite2 (fun h1 => ?_) (fun h1 => ?_)⟩
      · refine ⟨_, rfl, _, rfl, _, _, rfl, rfl, ?_⟩
        have e : betD (.int n) a b = decide (n ≤ b) := by simp only [betD, h1, Bool.true_and]
        rw [e] at k
        exact k
      · have e : betD (.int n) a b = false := by
          simp only [betD]
          rw [Bool.eq_false_iff.mpr h1]
          rfl
        rw [← e]
        exact k
    · have e : betD d a b = false := by cases d <;> simp_all [wholeD, betD]
      rw [← e]
      exact k
def spMade : Sp := fun vs H Q _ => ∃ t g, vs = [.str t, .str g] ∧ Q (.bl (madeD t g)) H
theorem scMade : FnScope ["text", "signs", "sign"] ["text", "signs"] (defScope sMade) := ⟨rfl, rfl, rfl, by decide +kernel, rfl, by decide +kernel, by decide +kernel⟩
theorem ok_made {f : Addr} {fd : FuncData} (F : Fun K "is_made_of" "is_made_of" sMade f fd) (T : Txt mg) : FnOk P w K mg base CX0 1 f fd ["text", "signs"] spMade := by
  refine F.ok scMade (fun vs H Q E h => ?_) (fun cdv A outer s H vs Q E hr h => ?_)
  · obtain ⟨t, g, rfl, _⟩ := h
    rfl
  · obtain ⟨t, g, rfl, k⟩ := h
    refine ⟨_, pss_cons (ps_for PassesOwn.never rfl (pi_str (pv 0)) (pg_name (i := 2) scMade.nd rfl (Or.inl rfl)) (pss_one (ps_if (pt_cmpR op_notin_str (pv 2) (pv 1) rfl) (pss_one (ps_ret pe_bl)) pss_nil)))
      (pss_one (ps_ret pe_bl)), ?_⟩
    refine ⟨_, rfl, t, rfl, for_str (x := t) (fun i σ H2 => ∃ v, σ = [some (V.str t), some (V.str g), v] ∧ H2 = H ∧ ∀ j c, j < i → t.cps[j]? = some c → c ∈ g.cps.toList)
      ⟨none, rfl, rfl, fun j c h => by omega⟩ (fun i c σ H2 hc h => ?_) (fun σ H2 h => ?_)⟩
    · obtain ⟨v, rfl, rfl, no⟩ := h
      refine ⟨_, rfl, _, rfl, _, _, rfl, rfl, _, rfl, ?_⟩
      rw [PySem.StrLaws.found_one]
      by_cases hm : c ∈ g.cps.toList
      · rw [decide_eq_true hm]
        refine ⟨_, rfl, rfl, fun j c' hj e => ?_⟩
        by_cases hji : j = i
        · subst hji
          rw [hc] at e
          cases e
          exact hm
        · exact no j c' (by omega) e
      · rw [decide_eq_false hm]
        have e : madeD t g = false := by
          unfold madeD
          rw [List.all_eq_false]
          refine ⟨c, ?_, by simpa using hm⟩
          have := Array.mem_of_getElem? hc
          exact Array.mem_toList_iff.mpr this
        have k' := k
        rw [e] at k'
        exact k'
    · obtain ⟨v, rfl, rfl, no⟩ := h
      have e : madeD t g = true := by
        unfold madeD
        rw [List.all_eq_true]
        intro c hc
        obtain ⟨j, hj, e⟩ := List.mem_iff_getElem.mp hc
        refine decide_eq_true (no j c (by simpa using hj) ?_)
        rw [← e]
        simp
      have k' := k
      rw [e] at k'
      exact k'
def spName : Sp := fun vs H Q _ => ∃ x d, vs = [x] ∧ DX H d x ∧ Q (.bl (nameD d)) H
theorem scName : FnScope ["thing"] ["thing"] (defScope sName) := ⟨rfl, rfl, rfl, by decide +kernel, rfl, by decide +kernel, by decide +kernel⟩
theorem ok_name {f fM : Addr} {fd dM : FuncData} (F : Fun K "is_name" "is_name" sName f fd) (T : Txt mg) (FM : Fun K "is_made_of" "is_made_of" sMade fM dM) (bM : Binds K dM ["text", "signs"] []) (mM : mg "is_made_of" = some (.ref fM)) :
    FnOk P w K mg base CX0 2 f fd ["thing"] spName := by
  refine F.ok scName (fun vs H Q E h => ?_) (fun cdv A outer s H vs Q E hr h => ?_)
  · obtain ⟨x, d, rfl, _⟩ := h
    rfl
  · obtain ⟨x, d, rfl, hd, k⟩ := h
    obtain ⟨t1, g1⟩ := T.gN
    obtain ⟨t2, g2⟩ := T.gL
    refine ⟨_, pss_cons (ps_if (pt_not (pt_val (pe_callB call_isi (by rfl) T.isi PyProof.Rows.boot_isinstance (pa_cons (pv 0) (pa_cons (pe_bltn (v := .ty "str") (by rfl) T.str PyProof.Rows.boot_str rfl) pa_nil))))) (pss_one (ps_ret pe_bl)) pss_nil)
      (pss_one (ps_ret (pe_and (pe_cmpR op_le pe_int (pe_callB call_len_str (by rfl) T.len PySem.boot_len (pa_cons (pv 0) pa_nil)) (nomark _))
        (pe_and (pe_cmpR op_le (pe_callB call_len_str (by rfl) T.len PySem.boot_len (pa_cons (pv 0) pa_nil)) (pe_glob (v := .int 8) (by rfl) g1 ⟨_, rfl⟩) (nomark _))
        (pe_one (pe_call (ok_made FM T) (hr.mono (by decide)) (by rfl) mM FM.kp bM .nil pass0 (pa_cons (pv 0) (pa_cons (pe_glob (v := .str LET) (by rfl) g2 ⟨_, rfl⟩) pa_nil)))))))), ?_⟩
    refine ⟨_, rfl, _, _, _, _, rfl, tyD hd, kStr d, _, rfl, ite2 (fun hi => ?_) (fun hi => ?_)⟩
    · have e : nameD d = false := by cases d <;> simp_all [isStr, nameD]
      rw [← e]
      exact k
    · cases d <;> simp only [isStr] at hi <;> try (exact absurd rfl hi)
      rename_i t
      simp only [DX] at hd
      obtain ⟨rfl, hl⟩ := hd
      have hz : t.length ≤ sizeLine := Nat.le_of_lt (small1000 hl)
      refine ⟨_, rfl, _, rfl, hz, _, _, rfl, rfl, _, rfl, ite2 (fun h1 => ?_) (fun h1 => ?_)⟩
      · refine ⟨_, rfl, _, rfl, hz, _, _, rfl, rfl, _, rfl, ite2 (fun h2 => ?_) (fun h2 => ?_)⟩
        · refine ⟨_, rfl, _, _, rfl, ?_⟩
          have e : nameD (.str t) = madeD t LET := by simp only [nameD, nmS, h1, h2, Bool.true_and]
          rw [← e]
          exact k
        · have e : nameD (.str t) = false := by simp only [nameD, nmS, h1, Bool.eq_false_iff.mpr h2, Bool.true_and, Bool.false_and]
          rw [← e]
          exact k
      · have e : nameD (.str t) = false := by simp only [nameD, nmS, Bool.eq_false_iff.mpr h1, Bool.false_and]
        rw [← e]
        exact k
def spLand : Sp := fun vs H Q _ => ∃ x d, vs = [x] ∧ DX H d x ∧ Q (.bl (landD d)) H
theorem scLand : FnScope ["thing"] ["thing"] (defScope sLand) := ⟨rfl, rfl, rfl, by decide +kernel, rfl, by decide +kernel, by decide +kernel⟩
structure Low (K : PySem.W.Frag) (mg : Str → Option Value) (fW fB fM fN : Addr) (dW dB dM dN : FuncData) : Prop where
  T : Txt mg
  FW : Fun K "is_whole" "is_whole" sWhole fW dW
  bW : Binds K dW ["thing"] []
  mW : mg "is_whole" = some (.ref fW)
  FB : Fun K "is_between" "is_between" sBetween fB dB
  bB : Binds K dB ["thing", "least", "greatest"] []
  mB : mg "is_between" = some (.ref fB)
  FM : Fun K "is_made_of" "is_made_of" sMade fM dM
  bM : Binds K dM ["text", "signs"] []
  mM : mg "is_made_of" = some (.ref fM)
  FN : Fun K "is_name" "is_name" sName fN dN
  bN : Binds K dN ["thing"] []
  mN : mg "is_name" = some (.ref fN)
theorem Low.bet {fW fB fM fN : Addr} {dW dB dM dN : FuncData} (L : Low K mg fW fB fM fN dW dB dM dN) : FnOk P w K mg base CX0 2 fB dB ["thing", "least", "greatest"] spBetween := ok_between L.FB L.T L.FW L.bW L.mW
theorem Low.nam {fW fB fM fN : Addr} {dW dB dM dN : FuncData} (L : Low K mg fW fB fM fN dW dB dM dN) : FnOk P w K mg base CX0 2 fN dN ["thing"] spName := ok_name L.FN L.T L.FM L.bM L.mM
variable {fW fB fM fN : Addr} {dW dB dM dN : FuncData}
theorem ok_land {f : Addr} {fd : FuncData} (F : Fun K "is_land" "is_land" sLand f fd) (L : Low K mg fW fB fM fN dW dB dM dN) : FnOk P w K mg base CX0 3 f fd ["thing"] spLand := by
  refine F.ok scLand (fun vs H Q E h => ?_) (fun cdv A outer s H vs Q E hr h => ?_)
  · obtain ⟨x, d, rfl, _⟩ := h
    rfl
  · obtain ⟨x, d, rfl, hd, k⟩ := h
    have T := L.T
    obtain ⟨t1, g1⟩ := T.gW
    refine ⟨_, pss_cons (ps_if (PW.pt (pw_or (pt_not (pt_val (pe_callB call_isi (by rfl) T.isi PyProof.Rows.boot_isinstance (pa_cons (pv 0) (pa_cons (pe_bltn (v := .ty "tuple") (by rfl) T.tup PyProof.Rows.boot_tuple rfl) pa_nil)))))
        (pw_or1 (pt_cmpR op_ne (pe_callB call_len_seq (by rfl) T.len PySem.boot_len (pa_cons (pv 0) pa_nil)) pe_int (nomark _))))) (pss_one (ps_ret pe_bl)) pss_nil)
      (pss_one (ps_ret (pe_and (pe_call L.nam hr (by rfl) L.mN L.FN.kp L.bN .nil pass0 (pa_cons (pe_ix ix_tup (pv 0) pe_int (fun _ _ => rfl)) pa_nil))
        (pe_one (pe_call L.bet hr (by rfl) L.mB L.FB.kp L.bB .nil pass0 (pa_cons (pe_ix ix_tup (pv 0) pe_int (fun _ _ => rfl)) (pa_cons pe_int (pa_cons (pe_glob (v := .int 9) (by rfl) g1 ⟨_, rfl⟩) pa_nil)))))))), ?_⟩
    refine ⟨_, rfl, _, _, _, _, rfl, tyD hd, kTup d, _, rfl, ?_⟩
    by_cases hi : isTup d = true
    case neg =>
      have e : landD d = false := by cases d <;> simp_all [isTup, landD]
      rw [Bool.eq_false_iff.mpr hi]
      have k' := k
      rw [e] at k'
      exact k'
    rw [hi]
    cases d <;> simp only [isTup] at hi <;> try (exact absurd hi (by decide))
    rename_i ds
    simp only [DX] at hd
    obtain ⟨a, xs, rfl, ha, hx⟩ := hd
    have hl := DXs.len hx
    refine ⟨_, rfl, a, xs, rfl, .inr (SqT.of ha), rfl, _, rfl, ?_⟩
    by_cases h2 : xs.length = 2
    case neg =>
      have e : landD (.tuple ds) = false := by
        cases ds with
        | nil => rfl
        | cons d1 ds => cases ds with
          | nil => rfl
          | cons d2 ds => cases ds with
            | nil => simp at hl; omega
            | cons d3 ds => rfl
      have e2 : (!decide (V.int xs.length = V.int 2)) = true := by
        rw [decide_eq_false]
        · rfl
        · intro z
          injection z with z
          omega
      rw [e2]
      have k' := k
      rw [e] at k'
      exact k'
    have e2 : (!decide (V.int xs.length = V.int 2)) = false := by rw [h2]; rfl
    rw [e2]
    rw [h2] at hl
    obtain ⟨d1, d2, rfl⟩ : ∃ d1 d2, ds = [d1, d2] := by
      match ds, hl with
      | [d1, d2], _ => exact ⟨d1, d2, rfl⟩
    simp only [DXs] at hx
    obtain ⟨x1, r1, rfl, hd1, x2, r2, rfl, hd2, rfl⟩ := hx
    refine ⟨_, rfl, a, _, _, _, rfl, rfl, SqT.of ha, atI_nat (j := 0) rfl, _, d1, rfl, hd1, _, rfl, ite2 (fun h3 => ?_) (fun h3 => ?_)⟩
    · refine ⟨_, rfl, a, _, _, _, rfl, rfl, SqT.of ha, atI_nat (j := 1) rfl, _, d2, _, _, rfl, hd2, ?_⟩
      have e : landD (.tuple [d1, d2]) = betD d2 1 9 := by simp only [landD, h3, Bool.true_and]
      rw [← e]
      exact k
    · have e : landD (.tuple [d1, d2]) = false := by simp only [landD, Bool.eq_false_iff.mpr h3, Bool.false_and]
      rw [← e]
      exact k
end
end K11
set_option maxHeartbeats 4000000
namespace K11
open PySem PySem.W HD
abbrev HP : Program := PySem.Challenge.rw_daysgate_k11_a_rule.row.toRowW.prog
def Hq : Program := view HP [1, 2, 3, 4, 5, 6, 7, 9, 10, 11, 12, 13, 14, 15, 16, 17, 19, 20, 21, 22, 23, 24, 25, 26, 27, 29, 30, 31, 32, 33, 34, 35, 36, 37]
def Hx (s : Shared) : Bool := xlAt Hq [] s && recOk (RowW.records PySem.Challenge.rw_daysgate_k11_a_rule.row.toRowW) s
def Has : List Addr := [nat_lit 2, nat_lit 3, nat_lit 15, nat_lit 17, nat_lit 18, nat_lit 20, nat_lit 21, nat_lit 22, nat_lit 24, nat_lit 25, nat_lit 27, nat_lit 28, nat_lit 29, nat_lit 31, nat_lit 32, nat_lit 34, nat_lit 35, nat_lit 36, nat_lit 38, nat_lit 39, nat_lit 41, nat_lit 42, nat_lit 43, nat_lit 50, nat_lit 51, nat_lit 52, nat_lit 53, nat_lit 56, nat_lit 63, nat_lit 64, nat_lit 65, nat_lit 68, nat_lit 75, nat_lit 77, nat_lit 78, nat_lit 80, nat_lit 81, nat_lit 82, nat_lit 83, nat_lit 84, nat_lit 87, nat_lit 94, nat_lit 96, nat_lit 97, nat_lit 99, nat_lit 100, nat_lit 101, nat_lit 102, nat_lit 103, nat_lit 106, nat_lit 113, nat_lit 115, nat_lit 116, nat_lit 118, nat_lit 119, nat_lit 120, nat_lit 121, nat_lit 122, nat_lit 125, nat_lit 132, nat_lit 133, nat_lit 134, nat_lit 137, nat_lit 144, nat_lit 145, nat_lit 146, nat_lit 149, nat_lit 156, nat_lit 157, nat_lit 158, nat_lit 161, nat_lit 168, nat_lit 169, nat_lit 170, nat_lit 173, nat_lit 175, nat_lit 176, nat_lit 178, nat_lit 179, nat_lit 180, nat_lit 182, nat_lit 183, nat_lit 185, nat_lit 186, nat_lit 194, nat_lit 196, nat_lit 197, nat_lit 199, nat_lit 200, nat_lit 201, nat_lit 203, nat_lit 204, nat_lit 206, nat_lit 207, nat_lit 208, nat_lit 209, nat_lit 210, nat_lit 211, nat_lit 212, nat_lit 215, nat_lit 222, nat_lit 224, nat_lit 225, nat_lit 227, nat_lit 228, nat_lit 229, nat_lit 231, nat_lit 232, nat_lit 234, nat_lit 235, nat_lit 236, nat_lit 237, nat_lit 238, nat_lit 241, nat_lit 248, nat_lit 250, nat_lit 251, nat_lit 253, nat_lit 254, nat_lit 255, nat_lit 257, nat_lit 258, nat_lit 260, nat_lit 261, nat_lit 262, nat_lit 263, nat_lit 264, nat_lit 267, nat_lit 274, nat_lit 276, nat_lit 277, nat_lit 279, nat_lit 280, nat_lit 281, nat_lit 283, nat_lit 284, nat_lit 286, nat_lit 287, nat_lit 288, nat_lit 289, nat_lit 290, nat_lit 293, nat_lit 296, nat_lit 297, nat_lit 298, nat_lit 300, nat_lit 301, nat_lit 303, nat_lit 304, nat_lit 305, nat_lit 307, nat_lit 308, nat_lit 310, nat_lit 311, nat_lit 312, nat_lit 314, nat_lit 315, nat_lit 317, nat_lit 318, nat_lit 319, nat_lit 321, nat_lit 322, nat_lit 324, nat_lit 325, nat_lit 326, nat_lit 329, nat_lit 330, nat_lit 331, nat_lit 333, nat_lit 334, nat_lit 336, nat_lit 337, nat_lit 338, nat_lit 340, nat_lit 341, nat_lit 343, nat_lit 344, nat_lit 345, nat_lit 347, nat_lit 348, nat_lit 350, nat_lit 351, nat_lit 352, nat_lit 355, nat_lit 356]
def Ho2 (P : Params) : Obj := ⟨.none, none, .dict #[] 0, #[]⟩
def Ho3 (P : Params) : Obj := ⟨(.type "dict"), none, .dict #[dE P "__name__" 165 (.str "law_daysgate_k11_a_rule" 577), dE P "__doc__" 166 .none, dE P "__package__" 167 .none, dE P "__loader__" 168 (.builtin "__main__.__loader__#opaque"), dE P "__spec__" 169 .none, dE P "__annotations__" 170 (.ref 6), dE P "__builtins__" 171 (.ref 4), dE P "__file__" 173 (.str "/claim/cut.py" 172), dE P "__cached__" 174 .none, dE P "GREATEST" 190 (.int (1000000000) 189), dE P "LETTERS" 192 (.str "abcdefghijklmnopqrstuvwxyz" 191), dE P "LONGEST_NAME" 194 (.int (8) 193), dE P "is_whole" 201 (.ref 21), dE P "is_between" 210 (.ref 28), dE P "is_made_of" 219 (.ref 35), dE P "is_name" 226 (.ref 42), dE P "DayError" 246 (.ref 52), dE P "NoRule" 262 (.ref 65), dE P "NoPaper" 287 (.ref 84), dE P "NoStay" 312 (.ref 103), dE P "NotLet" 341 (.ref 122), dE P "NoWish" 357 (.ref 134), dE P "NoDeed" 373 (.ref 146), dE P "NoText" 389 (.ref 158), dE P "NoRow" 405 (.ref 170), dE P "MOST_LANDS" 409 (.int (6) 408), dE P "GREATEST_WEIGHT" 411 (.int (9) 410), dE P "is_land" 418 (.ref 179), dE P "are_lands" 427 (.ref 186), dE P "Rule" 468 (.ref 210), dE P "Within" 503 (.ref 238), dE P "Since" 538 (.ref 264), dE P "InRow" 570 (.ref 290), dE P "line_of" 576 (.ref 297), dE P "_law_cell_at" 586 (.ref 304), dE P "_law_lands" 602 (.ref 311), dE P "_law_made" 612 (.ref 318), dE P "_law_refused" 627 (.ref 325), dE P "_law_bad_lands" 633 (.ref 330), dE P "_law_kinds" 640 (.ref 337), dE P "_law_weights" 654 (.ref 344), dE P "_law_edge" 662 (.ref 351), dE P "law" 668 (.ref 356)] 43, #[]⟩
def Ho15 (P : Params) : Obj := ⟨(.type "tuple"), none, .seq #[] 0, #[]⟩
def Ho17 (P : Params) : Obj := ⟨(.type "tuple"), none, .seq #[(.str "thing" 198)] 0, #[]⟩
def Ho18 (P : Params) : Obj := ⟨(.type "tuple"), none, .seq #[] 0, #[]⟩
def Ho20 (P : Params) : Obj := ⟨(.type "code"), none, .fields #[(.str "is_whole" 195), (.str "is_whole" 196), (.str "/claim/cut.py" 197), (.int (5) 0), (.int (1) 0), (.int (0) 0), (.int (0) 0), (.int (3) 0), (.ref 15), (.bool true), (.int (181) 0), (.ref 16), .none, (.ref 17), (.ref 18), (.ref 19), (.int (199) 0), (.int (5) 0), (.str "/claim/cut.py" 200)], #[]⟩
def Ho21 (P : Params) : Obj := oFn none (top 4) "is_whole" "is_whole" .none .none .none (.str "daysgate.checks" 187) none (.ref 20) .none
def Ho22 (P : Params) : Obj := ⟨(.type "tuple"), none, .seq #[] 0, #[]⟩
def Ho24 (P : Params) : Obj := ⟨(.type "tuple"), none, .seq #[(.str "thing" 205), (.str "least" 206), (.str "greatest" 207)] 0, #[]⟩
def Ho25 (P : Params) : Obj := ⟨(.type "tuple"), none, .seq #[] 0, #[]⟩
def Ho27 (P : Params) : Obj := ⟨(.type "code"), none, .fields #[(.str "is_between" 202), (.str "is_between" 203), (.str "/claim/cut.py" 204), (.int (7) 0), (.int (3) 0), (.int (0) 0), (.int (0) 0), (.int (3) 0), (.ref 22), (.bool true), (.int (181) 0), (.ref 23), .none, (.ref 24), (.ref 25), (.ref 26), (.int (208) 0), (.int (7) 0), (.str "/claim/cut.py" 209)], #[]⟩
def Ho28 (P : Params) : Obj := oFn none (top 5) "is_between" "is_between" .none .none .none (.str "daysgate.checks" 187) none (.ref 27) .none
def Ho29 (P : Params) : Obj := ⟨(.type "tuple"), none, .seq #[] 0, #[]⟩
def Ho31 (P : Params) : Obj := ⟨(.type "tuple"), none, .seq #[(.str "text" 214), (.str "signs" 215), (.str "sign" 216)] 0, #[]⟩
def Ho32 (P : Params) : Obj := ⟨(.type "tuple"), none, .seq #[] 0, #[]⟩
def Ho34 (P : Params) : Obj := ⟨(.type "code"), none, .fields #[(.str "is_made_of" 211), (.str "is_made_of" 212), (.str "/claim/cut.py" 213), (.int (9) 0), (.int (2) 0), (.int (0) 0), (.int (0) 0), (.int (3) 0), (.ref 29), (.bool true), (.int (181) 0), (.ref 30), .none, (.ref 31), (.ref 32), (.ref 33), (.int (217) 0), (.int (9) 0), (.str "/claim/cut.py" 218)], #[]⟩
def Ho35 (P : Params) : Obj := oFn none (top 6) "is_made_of" "is_made_of" .none .none .none (.str "daysgate.checks" 187) none (.ref 34) .none
def Ho36 (P : Params) : Obj := ⟨(.type "tuple"), none, .seq #[] 0, #[]⟩
def Ho38 (P : Params) : Obj := ⟨(.type "tuple"), none, .seq #[(.str "thing" 223)] 0, #[]⟩
def Ho39 (P : Params) : Obj := ⟨(.type "tuple"), none, .seq #[] 0, #[]⟩
def Ho41 (P : Params) : Obj := ⟨(.type "code"), none, .fields #[(.str "is_name" 220), (.str "is_name" 221), (.str "/claim/cut.py" 222), (.int (14) 0), (.int (1) 0), (.int (0) 0), (.int (0) 0), (.int (3) 0), (.ref 36), (.bool true), (.int (181) 0), (.ref 37), .none, (.ref 38), (.ref 39), (.ref 40), (.int (224) 0), (.int (14) 0), (.str "/claim/cut.py" 225)], #[]⟩
def Ho42 (P : Params) : Obj := oFn none (top 7) "is_name" "is_name" .none .none .none (.str "daysgate.checks" 187) none (.ref 41) .none
def Ho43 (P : Params) : Obj := ⟨(.type "tuple"), none, .seq #[(.type "ValueError")] 0, #[]⟩
def Ho50 (P : Params) : Obj := ⟨(.type "tuple"), none, .seq #[] 0, #[]⟩
def Ho51 (P : Params) : Obj := ⟨(.type "dict"), none, .dict #[dE P "__module__" 236 (.str "daysgate.errors" 227), dE P "__firstlineno__" 240 (.int (19) 239), dE P "__static_attributes__" 241 (.ref 50), dE P "__weakref__" 243 (.ref 53), dE P "__doc__" 244 .none] 3, #[]⟩
def Ho52 (P : Params) : Obj := ⟨(.type "type"), none, .cls ⟨"DayError", [(.type "ValueError")], [(.ref 52), (.type "ValueError"), (.type "Exception"), (.type "BaseException"), (.type "object")], 51, "DayError", true, [], [(.ref 65), (.ref 84), (.ref 103), (.ref 122), (.ref 134), (.ref 146), (.ref 158), (.ref 170)], false, none, false⟩, #[some (.ref 43), none, some (.str "DayError" 229), some (.str "DayError" 237), some (.builtin "ValueError.__new__"), some (.bool true)]⟩
def Ho53 (P : Params) : Obj := ⟨(.type "getset_descriptor"), none, .fields #[(.str "__weakref__" 242), (.ref 52), (.builtin "ExceptionGroup.__weakref__"), .none], #[]⟩
def Ho56 (P : Params) : Obj := ⟨(.type "tuple"), none, .seq #[(.ref 52)] 0, #[]⟩
def Ho63 (P : Params) : Obj := ⟨(.type "tuple"), none, .seq #[] 0, #[]⟩
def Ho64 (P : Params) : Obj := ⟨(.type "dict"), none, .dict #[dE P "__module__" 254 (.str "daysgate.errors" 227), dE P "__firstlineno__" 258 (.int (21) 257), dE P "__static_attributes__" 259 (.ref 63), dE P "__doc__" 260 .none] 2, #[]⟩
def Ho65 (P : Params) : Obj := ⟨(.type "type"), none, .cls ⟨"NoRule", [(.ref 52)], [(.ref 65), (.ref 52), (.type "ValueError"), (.type "Exception"), (.type "BaseException"), (.type "object")], 64, "NoRule", true, [], [], false, none, false⟩, #[some (.ref 56), none, some (.str "NoRule" 247), some (.str "NoRule" 255), some (.builtin "ValueError.__new__"), some (.bool true)]⟩
def Ho68 (P : Params) : Obj := ⟨(.type "tuple"), none, .seq #[(.ref 52)] 0, #[]⟩
def Ho75 (P : Params) : Obj := ⟨(.type "tuple"), none, .seq #[] 0, #[]⟩
def Ho77 (P : Params) : Obj := ⟨(.type "tuple"), none, .seq #[(.str "self" 278), (.str "number" 279)] 0, #[]⟩
def Ho78 (P : Params) : Obj := ⟨(.type "tuple"), none, .seq #[] 0, #[]⟩
def Ho80 (P : Params) : Obj := ⟨(.type "code"), none, .fields #[(.str "__init__" 275), (.str "NoPaper.__init__" 276), (.str "/claim/cut.py" 277), (.int (25) 0), (.int (2) 0), (.int (0) 0), (.int (0) 0), (.int (3) 0), (.ref 75), (.bool true), (.int (181) 0), (.ref 76), .none, (.ref 77), (.ref 78), (.ref 79), (.int (280) 0), (.int (25) 0), (.str "/claim/cut.py" 281)], #[]⟩
def Ho81 (P : Params) : Obj := oFn none (mem 11 0) "__init__" "NoPaper.__init__" .none .none .none (.str "daysgate.errors" 227) none (.ref 80) .none
def Ho82 (P : Params) : Obj := ⟨(.type "tuple"), none, .seq #[(.str "number" 283)] 0, #[]⟩
def Ho83 (P : Params) : Obj := ⟨(.type "dict"), none, .dict #[dE P "__module__" 270 (.str "daysgate.errors" 227), dE P "__firstlineno__" 274 (.int (23) 273), dE P "__init__" 282 (.ref 81), dE P "__static_attributes__" 284 (.ref 82), dE P "__doc__" 285 .none] 2, #[]⟩
def Ho84 (P : Params) : Obj := ⟨(.type "type"), none, .cls ⟨"NoPaper", [(.ref 52)], [(.ref 84), (.ref 52), (.type "ValueError"), (.type "Exception"), (.type "BaseException"), (.type "object")], 83, "NoPaper", true, [], [], false, none, false⟩, #[some (.ref 68), none, some (.str "NoPaper" 263), some (.str "NoPaper" 271), some (.builtin "ValueError.__new__"), some (.bool true)]⟩
def Ho87 (P : Params) : Obj := ⟨(.type "tuple"), none, .seq #[(.ref 52)] 0, #[]⟩
def Ho94 (P : Params) : Obj := ⟨(.type "tuple"), none, .seq #[] 0, #[]⟩
def Ho96 (P : Params) : Obj := ⟨(.type "tuple"), none, .seq #[(.str "self" 303), (.str "number" 304)] 0, #[]⟩
def Ho97 (P : Params) : Obj := ⟨(.type "tuple"), none, .seq #[] 0, #[]⟩
def Ho99 (P : Params) : Obj := ⟨(.type "code"), none, .fields #[(.str "__init__" 300), (.str "NoStay.__init__" 301), (.str "/claim/cut.py" 302), (.int (30) 0), (.int (2) 0), (.int (0) 0), (.int (0) 0), (.int (3) 0), (.ref 94), (.bool true), (.int (181) 0), (.ref 95), .none, (.ref 96), (.ref 97), (.ref 98), (.int (305) 0), (.int (30) 0), (.str "/claim/cut.py" 306)], #[]⟩
def Ho100 (P : Params) : Obj := oFn none (mem 12 0) "__init__" "NoStay.__init__" .none .none .none (.str "daysgate.errors" 227) none (.ref 99) .none
def Ho101 (P : Params) : Obj := ⟨(.type "tuple"), none, .seq #[(.str "number" 308)] 0, #[]⟩
def Ho102 (P : Params) : Obj := ⟨(.type "dict"), none, .dict #[dE P "__module__" 295 (.str "daysgate.errors" 227), dE P "__firstlineno__" 299 (.int (28) 298), dE P "__init__" 307 (.ref 100), dE P "__static_attributes__" 309 (.ref 101), dE P "__doc__" 310 .none] 2, #[]⟩
def Ho103 (P : Params) : Obj := ⟨(.type "type"), none, .cls ⟨"NoStay", [(.ref 52)], [(.ref 103), (.ref 52), (.type "ValueError"), (.type "Exception"), (.type "BaseException"), (.type "object")], 102, "NoStay", true, [], [], false, none, false⟩, #[some (.ref 87), none, some (.str "NoStay" 288), some (.str "NoStay" 296), some (.builtin "ValueError.__new__"), some (.bool true)]⟩
def Ho106 (P : Params) : Obj := ⟨(.type "tuple"), none, .seq #[(.ref 52)] 0, #[]⟩
def Ho113 (P : Params) : Obj := ⟨(.type "tuple"), none, .seq #[] 0, #[]⟩
def Ho115 (P : Params) : Obj := ⟨(.type "tuple"), none, .seq #[(.str "self" 328), (.str "day" 329), (.str "number" 330), (.str "first" 331)] 0, #[]⟩
def Ho116 (P : Params) : Obj := ⟨(.type "tuple"), none, .seq #[] 0, #[]⟩
def Ho118 (P : Params) : Obj := ⟨(.type "code"), none, .fields #[(.str "__init__" 325), (.str "NotLet.__init__" 326), (.str "/claim/cut.py" 327), (.int (35) 0), (.int (4) 0), (.int (0) 0), (.int (0) 0), (.int (3) 0), (.ref 113), (.bool true), (.int (181) 0), (.ref 114), .none, (.ref 115), (.ref 116), (.ref 117), (.int (332) 0), (.int (35) 0), (.str "/claim/cut.py" 333)], #[]⟩
def Ho119 (P : Params) : Obj := oFn none (mem 13 0) "__init__" "NotLet.__init__" .none .none .none (.str "daysgate.errors" 227) none (.ref 118) .none
def Ho120 (P : Params) : Obj := ⟨(.type "tuple"), none, .seq #[(.str "day" 335), (.str "first" 336), (.str "number" 337)] 0, #[]⟩
def Ho121 (P : Params) : Obj := ⟨(.type "dict"), none, .dict #[dE P "__module__" 320 (.str "daysgate.errors" 227), dE P "__firstlineno__" 324 (.int (33) 323), dE P "__init__" 334 (.ref 119), dE P "__static_attributes__" 338 (.ref 120), dE P "__doc__" 339 .none] 2, #[]⟩
def Ho122 (P : Params) : Obj := ⟨(.type "type"), none, .cls ⟨"NotLet", [(.ref 52)], [(.ref 122), (.ref 52), (.type "ValueError"), (.type "Exception"), (.type "BaseException"), (.type "object")], 121, "NotLet", true, [], [], false, none, false⟩, #[some (.ref 106), none, some (.str "NotLet" 313), some (.str "NotLet" 321), some (.builtin "ValueError.__new__"), some (.bool true)]⟩
def Ho125 (P : Params) : Obj := ⟨(.type "tuple"), none, .seq #[(.ref 52)] 0, #[]⟩
def Ho132 (P : Params) : Obj := ⟨(.type "tuple"), none, .seq #[] 0, #[]⟩
def Ho133 (P : Params) : Obj := ⟨(.type "dict"), none, .dict #[dE P "__module__" 349 (.str "daysgate.errors" 227), dE P "__firstlineno__" 353 (.int (40) 352), dE P "__static_attributes__" 354 (.ref 132), dE P "__doc__" 355 .none] 2, #[]⟩
def Ho134 (P : Params) : Obj := ⟨(.type "type"), none, .cls ⟨"NoWish", [(.ref 52)], [(.ref 134), (.ref 52), (.type "ValueError"), (.type "Exception"), (.type "BaseException"), (.type "object")], 133, "NoWish", true, [], [], false, none, false⟩, #[some (.ref 125), none, some (.str "NoWish" 342), some (.str "NoWish" 350), some (.builtin "ValueError.__new__"), some (.bool true)]⟩
def Ho137 (P : Params) : Obj := ⟨(.type "tuple"), none, .seq #[(.ref 52)] 0, #[]⟩
def Ho144 (P : Params) : Obj := ⟨(.type "tuple"), none, .seq #[] 0, #[]⟩
def Ho145 (P : Params) : Obj := ⟨(.type "dict"), none, .dict #[dE P "__module__" 365 (.str "daysgate.errors" 227), dE P "__firstlineno__" 369 (.int (42) 368), dE P "__static_attributes__" 370 (.ref 144), dE P "__doc__" 371 .none] 2, #[]⟩
def Ho146 (P : Params) : Obj := ⟨(.type "type"), none, .cls ⟨"NoDeed", [(.ref 52)], [(.ref 146), (.ref 52), (.type "ValueError"), (.type "Exception"), (.type "BaseException"), (.type "object")], 145, "NoDeed", true, [], [], false, none, false⟩, #[some (.ref 137), none, some (.str "NoDeed" 358), some (.str "NoDeed" 366), some (.builtin "ValueError.__new__"), some (.bool true)]⟩
def Ho149 (P : Params) : Obj := ⟨(.type "tuple"), none, .seq #[(.ref 52)] 0, #[]⟩
def Ho156 (P : Params) : Obj := ⟨(.type "tuple"), none, .seq #[] 0, #[]⟩
def Ho157 (P : Params) : Obj := ⟨(.type "dict"), none, .dict #[dE P "__module__" 381 (.str "daysgate.errors" 227), dE P "__firstlineno__" 385 (.int (44) 384), dE P "__static_attributes__" 386 (.ref 156), dE P "__doc__" 387 .none] 2, #[]⟩
def Ho158 (P : Params) : Obj := ⟨(.type "type"), none, .cls ⟨"NoText", [(.ref 52)], [(.ref 158), (.ref 52), (.type "ValueError"), (.type "Exception"), (.type "BaseException"), (.type "object")], 157, "NoText", true, [], [], false, none, false⟩, #[some (.ref 149), none, some (.str "NoText" 374), some (.str "NoText" 382), some (.builtin "ValueError.__new__"), some (.bool true)]⟩
def Ho161 (P : Params) : Obj := ⟨(.type "tuple"), none, .seq #[(.ref 52)] 0, #[]⟩
def Ho168 (P : Params) : Obj := ⟨(.type "tuple"), none, .seq #[] 0, #[]⟩
def Ho169 (P : Params) : Obj := ⟨(.type "dict"), none, .dict #[dE P "__module__" 397 (.str "daysgate.errors" 227), dE P "__firstlineno__" 401 (.int (46) 400), dE P "__static_attributes__" 402 (.ref 168), dE P "__doc__" 403 .none] 2, #[]⟩
def Ho170 (P : Params) : Obj := ⟨(.type "type"), none, .cls ⟨"NoRow", [(.ref 52)], [(.ref 170), (.ref 52), (.type "ValueError"), (.type "Exception"), (.type "BaseException"), (.type "object")], 169, "NoRow", true, [], [], false, none, false⟩, #[some (.ref 161), none, some (.str "NoRow" 390), some (.str "NoRow" 398), some (.builtin "ValueError.__new__"), some (.bool true)]⟩
def Ho173 (P : Params) : Obj := ⟨(.type "tuple"), none, .seq #[] 0, #[]⟩
def Ho175 (P : Params) : Obj := ⟨(.type "tuple"), none, .seq #[(.str "thing" 415)] 0, #[]⟩
def Ho176 (P : Params) : Obj := ⟨(.type "tuple"), none, .seq #[] 0, #[]⟩
def Ho178 (P : Params) : Obj := ⟨(.type "code"), none, .fields #[(.str "is_land" 412), (.str "is_land" 413), (.str "/claim/cut.py" 414), (.int (51) 0), (.int (1) 0), (.int (0) 0), (.int (0) 0), (.int (3) 0), (.ref 173), (.bool true), (.int (181) 0), (.ref 174), .none, (.ref 175), (.ref 176), (.ref 177), (.int (416) 0), (.int (51) 0), (.str "/claim/cut.py" 417)], #[]⟩
def Ho179 (P : Params) : Obj := oFn none (top 21) "is_land" "is_land" .none .none .none (.str "daysgate.rules" 406) none (.ref 178) .none
def Ho180 (P : Params) : Obj := ⟨(.type "tuple"), none, .seq #[] 0, #[]⟩
def Ho182 (P : Params) : Obj := ⟨(.type "tuple"), none, .seq #[(.str "things" 422), (.str "names" 423), (.str "thing" 424)] 0, #[]⟩
def Ho183 (P : Params) : Obj := ⟨(.type "tuple"), none, .seq #[] 0, #[]⟩
def Ho185 (P : Params) : Obj := ⟨(.type "code"), none, .fields #[(.str "are_lands" 419), (.str "are_lands" 420), (.str "/claim/cut.py" 421), (.int (55) 0), (.int (1) 0), (.int (0) 0), (.int (0) 0), (.int (3) 0), (.ref 180), (.bool true), (.int (181) 0), (.ref 181), .none, (.ref 182), (.ref 183), (.ref 184), (.int (425) 0), (.int (55) 0), (.str "/claim/cut.py" 426)], #[]⟩
def Ho186 (P : Params) : Obj := oFn none (top 22) "are_lands" "are_lands" .none .none .none (.str "daysgate.rules" 406) none (.ref 185) .none
def Ho194 (P : Params) : Obj := ⟨(.type "tuple"), none, .seq #[] 0, #[]⟩
def Ho196 (P : Params) : Obj := ⟨(.type "tuple"), none, .seq #[(.str "self" 443), (.str "lands" 444), (.str "most" 445)] 0, #[]⟩
def Ho197 (P : Params) : Obj := ⟨(.type "tuple"), none, .seq #[] 0, #[]⟩
def Ho199 (P : Params) : Obj := ⟨(.type "code"), none, .fields #[(.str "__init__" 440), (.str "Rule.__init__" 441), (.str "/claim/cut.py" 442), (.int (66) 0), (.int (3) 0), (.int (0) 0), (.int (0) 0), (.int (3) 0), (.ref 194), (.bool true), (.int (181) 0), (.ref 195), .none, (.ref 196), (.ref 197), (.ref 198), (.int (446) 0), (.int (66) 0), (.str "/claim/cut.py" 447)], #[]⟩
def Ho200 (P : Params) : Obj := oFn none (mem 23 0) "__init__" "Rule.__init__" .none .none .none (.str "daysgate.rules" 406) none (.ref 199) .none
def Ho201 (P : Params) : Obj := ⟨(.type "tuple"), none, .seq #[] 0, #[]⟩
def Ho203 (P : Params) : Obj := ⟨(.type "tuple"), none, .seq #[(.str "self" 452), (.str "land" 453), (.str "name" 454), (.str "times" 455)] 0, #[]⟩
def Ho204 (P : Params) : Obj := ⟨(.type "tuple"), none, .seq #[] 0, #[]⟩
def Ho206 (P : Params) : Obj := ⟨(.type "code"), none, .fields #[(.str "weight" 449), (.str "Rule.weight" 450), (.str "/claim/cut.py" 451), (.int (74) 0), (.int (2) 0), (.int (0) 0), (.int (0) 0), (.int (3) 0), (.ref 201), (.bool true), (.int (181) 0), (.ref 202), .none, (.ref 203), (.ref 204), (.ref 205), (.int (456) 0), (.int (74) 0), (.str "/claim/cut.py" 457)], #[]⟩
def Ho207 (P : Params) : Obj := oFn none (mem 23 1) "weight" "Rule.weight" .none .none .none (.str "daysgate.rules" 406) none (.ref 206) .none
def Ho208 (P : Params) : Obj := ⟨(.type "tuple"), none, .seq #[(.str "lands" 459), (.str "most" 460)] 0, #[]⟩
def Ho209 (P : Params) : Obj := ⟨(.type "dict"), none, .dict #[dE P "__module__" 435 (.str "daysgate.rules" 406), dE P "__firstlineno__" 439 (.int (64) 438), dE P "__init__" 448 (.ref 200), dE P "weight" 458 (.ref 207), dE P "__static_attributes__" 461 (.ref 208), dE P "__dict__" 463 (.ref 211), dE P "__weakref__" 465 (.ref 212), dE P "__doc__" 466 .none] 4, #[]⟩
def Ho210 (P : Params) : Obj := ⟨(.type "type"), none, .cls ⟨"Rule", [(.type "object")], [(.ref 210), (.type "object")], 209, "Rule", true, [], [(.ref 238), (.ref 264)], false, none, false⟩, #[none, none, some (.str "Rule" 428), some (.str "Rule" 436), some (.builtin "object.__new__"), some (.bool true)]⟩
def Ho211 (P : Params) : Obj := ⟨(.type "getset_descriptor"), none, .fields #[(.str "__dict__" 462), (.ref 210), (.builtin "function.__dict__"), (.builtin "function.__dict__#set")], #[]⟩
def Ho212 (P : Params) : Obj := ⟨(.type "getset_descriptor"), none, .fields #[(.str "__weakref__" 464), (.ref 210), (.builtin "ExceptionGroup.__weakref__"), .none], #[]⟩
def Ho215 (P : Params) : Obj := ⟨(.type "tuple"), none, .seq #[(.ref 210)] 0, #[]⟩
def Ho222 (P : Params) : Obj := ⟨(.type "tuple"), none, .seq #[] 0, #[]⟩
def Ho224 (P : Params) : Obj := ⟨(.type "tuple"), none, .seq #[(.str "self" 484), (.str "lands" 485), (.str "most" 486), (.str "span" 487)] 0, #[]⟩
def Ho225 (P : Params) : Obj := ⟨(.type "tuple"), none, .seq #[] 0, #[]⟩
def Ho227 (P : Params) : Obj := ⟨(.type "code"), none, .fields #[(.str "__init__" 481), (.str "Within.__init__" 482), (.str "/claim/cut.py" 483), (.int (81) 0), (.int (4) 0), (.int (0) 0), (.int (0) 0), (.int (3) 0), (.ref 222), (.bool true), (.int (181) 0), (.ref 223), .none, (.ref 224), (.ref 225), (.ref 226), (.int (488) 0), (.int (81) 0), (.str "/claim/cut.py" 489)], #[]⟩
def Ho228 (P : Params) : Obj := oFn none (mem 24 0) "__init__" "Within.__init__" .none .none .none (.str "daysgate.rules" 406) none (.ref 227) .none
def Ho229 (P : Params) : Obj := ⟨(.type "tuple"), none, .seq #[] 0, #[]⟩
def Ho231 (P : Params) : Obj := ⟨(.type "tuple"), none, .seq #[(.str "self" 494), (.str "span" 495)] 0, #[]⟩
def Ho232 (P : Params) : Obj := ⟨(.type "tuple"), none, .seq #[] 0, #[]⟩
def Ho234 (P : Params) : Obj := ⟨(.type "code"), none, .fields #[(.str "line" 491), (.str "Within.line" 492), (.str "/claim/cut.py" 493), (.int (87) 0), (.int (1) 0), (.int (0) 0), (.int (0) 0), (.int (3) 0), (.ref 229), (.bool true), (.int (181) 0), (.ref 230), .none, (.ref 231), (.ref 232), (.ref 233), (.int (496) 0), (.int (87) 0), (.str "/claim/cut.py" 497)], #[]⟩
def Ho235 (P : Params) : Obj := oFn none (mem 24 1) "line" "Within.line" .none .none .none (.str "daysgate.rules" 406) none (.ref 234) .none
def Ho236 (P : Params) : Obj := ⟨(.type "tuple"), none, .seq #[(.str "span" 499)] 0, #[]⟩
def Ho237 (P : Params) : Obj := ⟨(.type "dict"), none, .dict #[dE P "__module__" 476 (.str "daysgate.rules" 406), dE P "__firstlineno__" 480 (.int (79) 479), dE P "__init__" 490 (.ref 228), dE P "line" 498 (.ref 235), dE P "__static_attributes__" 500 (.ref 236), dE P "__doc__" 501 .none] 2, #[]⟩
def Ho238 (P : Params) : Obj := ⟨(.type "type"), none, .cls ⟨"Within", [(.ref 210)], [(.ref 238), (.ref 210), (.type "object")], 237, "Within", true, [], [], false, none, false⟩, #[some (.ref 215), none, some (.str "Within" 469), some (.str "Within" 477), some (.builtin "object.__new__"), some (.bool true)]⟩
def Ho241 (P : Params) : Obj := ⟨(.type "tuple"), none, .seq #[(.ref 210)] 0, #[]⟩
def Ho248 (P : Params) : Obj := ⟨(.type "tuple"), none, .seq #[] 0, #[]⟩
def Ho250 (P : Params) : Obj := ⟨(.type "tuple"), none, .seq #[(.str "self" 519), (.str "lands" 520), (.str "most" 521), (.str "leave" 522)] 0, #[]⟩
def Ho251 (P : Params) : Obj := ⟨(.type "tuple"), none, .seq #[] 0, #[]⟩
def Ho253 (P : Params) : Obj := ⟨(.type "code"), none, .fields #[(.str "__init__" 516), (.str "Since.__init__" 517), (.str "/claim/cut.py" 518), (.int (92) 0), (.int (4) 0), (.int (0) 0), (.int (0) 0), (.int (3) 0), (.ref 248), (.bool true), (.int (181) 0), (.ref 249), .none, (.ref 250), (.ref 251), (.ref 252), (.int (523) 0), (.int (92) 0), (.str "/claim/cut.py" 524)], #[]⟩
def Ho254 (P : Params) : Obj := oFn none (mem 25 0) "__init__" "Since.__init__" .none .none .none (.str "daysgate.rules" 406) none (.ref 253) .none
def Ho255 (P : Params) : Obj := ⟨(.type "tuple"), none, .seq #[] 0, #[]⟩
def Ho257 (P : Params) : Obj := ⟨(.type "tuple"), none, .seq #[(.str "self" 529), (.str "leave" 530)] 0, #[]⟩
def Ho258 (P : Params) : Obj := ⟨(.type "tuple"), none, .seq #[] 0, #[]⟩
def Ho260 (P : Params) : Obj := ⟨(.type "code"), none, .fields #[(.str "line" 526), (.str "Since.line" 527), (.str "/claim/cut.py" 528), (.int (98) 0), (.int (1) 0), (.int (0) 0), (.int (0) 0), (.int (3) 0), (.ref 255), (.bool true), (.int (181) 0), (.ref 256), .none, (.ref 257), (.ref 258), (.ref 259), (.int (531) 0), (.int (98) 0), (.str "/claim/cut.py" 532)], #[]⟩
def Ho261 (P : Params) : Obj := oFn none (mem 25 1) "line" "Since.line" .none .none .none (.str "daysgate.rules" 406) none (.ref 260) .none
def Ho262 (P : Params) : Obj := ⟨(.type "tuple"), none, .seq #[(.str "leave" 534)] 0, #[]⟩
def Ho263 (P : Params) : Obj := ⟨(.type "dict"), none, .dict #[dE P "__module__" 511 (.str "daysgate.rules" 406), dE P "__firstlineno__" 515 (.int (90) 514), dE P "__init__" 525 (.ref 254), dE P "line" 533 (.ref 261), dE P "__static_attributes__" 535 (.ref 262), dE P "__doc__" 536 .none] 2, #[]⟩
def Ho264 (P : Params) : Obj := ⟨(.type "type"), none, .cls ⟨"Since", [(.ref 210)], [(.ref 264), (.ref 210), (.type "object")], 263, "Since", true, [], [(.ref 290)], false, none, false⟩, #[some (.ref 241), none, some (.str "Since" 504), some (.str "Since" 512), some (.builtin "object.__new__"), some (.bool true)]⟩
def Ho267 (P : Params) : Obj := ⟨(.type "tuple"), none, .seq #[(.ref 264)] 0, #[]⟩
def Ho274 (P : Params) : Obj := ⟨(.type "tuple"), none, .seq #[] 0, #[]⟩
def Ho276 (P : Params) : Obj := ⟨(.type "tuple"), none, .seq #[(.str "self" 554), (.str "lands" 555), (.str "most" 556)] 0, #[]⟩
def Ho277 (P : Params) : Obj := ⟨(.type "tuple"), none, .seq #[] 0, #[]⟩
def Ho279 (P : Params) : Obj := ⟨(.type "code"), none, .fields #[(.str "__init__" 551), (.str "InRow.__init__" 552), (.str "/claim/cut.py" 553), (.int (103) 0), (.int (3) 0), (.int (0) 0), (.int (0) 0), (.int (3) 0), (.ref 274), (.bool true), (.int (181) 0), (.ref 275), .none, (.ref 276), (.ref 277), (.ref 278), (.int (557) 0), (.int (103) 0), (.str "/claim/cut.py" 558)], #[]⟩
def Ho280 (P : Params) : Obj := oFn none (mem 26 0) "__init__" "InRow.__init__" .none .none .none (.str "daysgate.rules" 406) none (.ref 279) .none
def Ho281 (P : Params) : Obj := ⟨(.type "tuple"), none, .seq #[] 0, #[]⟩
def Ho283 (P : Params) : Obj := ⟨(.type "tuple"), none, .seq #[(.str "self" 563)] 0, #[]⟩
def Ho284 (P : Params) : Obj := ⟨(.type "tuple"), none, .seq #[] 0, #[]⟩
def Ho286 (P : Params) : Obj := ⟨(.type "code"), none, .fields #[(.str "line" 560), (.str "InRow.line" 561), (.str "/claim/cut.py" 562), (.int (106) 0), (.int (1) 0), (.int (0) 0), (.int (0) 0), (.int (3) 0), (.ref 281), (.bool true), (.int (181) 0), (.ref 282), .none, (.ref 283), (.ref 284), (.ref 285), (.int (564) 0), (.int (106) 0), (.str "/claim/cut.py" 565)], #[]⟩
def Ho287 (P : Params) : Obj := oFn none (mem 26 1) "line" "InRow.line" .none .none .none (.str "daysgate.rules" 406) none (.ref 286) .none
def Ho288 (P : Params) : Obj := ⟨(.type "tuple"), none, .seq #[] 0, #[]⟩
def Ho289 (P : Params) : Obj := ⟨(.type "dict"), none, .dict #[dE P "__module__" 546 (.str "daysgate.rules" 406), dE P "__firstlineno__" 550 (.int (101) 549), dE P "__init__" 559 (.ref 280), dE P "line" 566 (.ref 287), dE P "__static_attributes__" 567 (.ref 288), dE P "__doc__" 568 .none] 2, #[]⟩
def Ho290 (P : Params) : Obj := ⟨(.type "type"), none, .cls ⟨"InRow", [(.ref 264)], [(.ref 290), (.ref 264), (.ref 210), (.type "object")], 289, "InRow", true, [], [], false, none, false⟩, #[some (.ref 267), none, some (.str "InRow" 539), some (.str "InRow" 547), some (.builtin "object.__new__"), some (.bool true)]⟩
def Ho293 (P : Params) : Obj := ⟨(.type "tuple"), none, .seq #[] 0, #[]⟩
def Ho296 (P : Params) : Obj := ⟨(.type "code"), none, .fields #[(.str "line_of" 571), (.str "line_of" 572), (.str "/claim/cut.py" 573), (.int (108) 0), (.int (2) 0), (.int (0) 0), (.int (0) 0), (.int (3) 0), (.ref 293), (.bool true), (.int (181) 0), (.ref 294), .none, .none, .none, (.ref 295), (.int (574) 0), (.int (108) 0), (.str "/claim/cut.py" 575)], #[]⟩
def Ho297 (P : Params) : Obj := oFn none (top 27) "line_of" "line_of" .none .none .none (.str "daysgate.rules" 406) none (.ref 296) .none
def Ho298 (P : Params) : Obj := ⟨(.type "tuple"), none, .seq #[] 0, #[]⟩
def Ho300 (P : Params) : Obj := ⟨(.type "tuple"), none, .seq #[(.str "_law_script" 582), (.str "_law_k" 583)] 0, #[]⟩
def Ho301 (P : Params) : Obj := ⟨(.type "tuple"), none, .seq #[] 0, #[]⟩
def Ho303 (P : Params) : Obj := ⟨(.type "code"), none, .fields #[(.str "_law_cell_at" 579), (.str "_law_cell_at" 580), (.str "/claim/cut.py" 581), (.int (113) 0), (.int (2) 0), (.int (0) 0), (.int (0) 0), (.int (3) 0), (.ref 298), (.bool true), (.int (181) 0), (.ref 299), .none, (.ref 300), (.ref 301), (.ref 302), (.int (584) 0), (.int (113) 0), (.str "/claim/cut.py" 585)], #[]⟩
def Ho304 (P : Params) : Obj := oFn none (top 29) "_law_cell_at" "_law_cell_at" .none .none .none (.str "law_daysgate_k11_a_rule" 577) none (.ref 303) .none
def Ho305 (P : Params) : Obj := ⟨(.type "tuple"), none, .seq #[] 0, #[]⟩
def Ho307 (P : Params) : Obj := ⟨(.type "tuple"), none, .seq #[(.str "_law_cell" 590), (.str "_law_many" 591), (.str "_law_letters" 592), (.str "_law_many_signs" 593), (.str "_law_at" 594), (.str "_law_names" 595), (.str "_law_k" 596), (.str "_law_name" 597), (.str "_law_j" 598), (.str "_law_place" 599)] 0, #[]⟩
def Ho308 (P : Params) : Obj := ⟨(.type "tuple"), none, .seq #[] 0, #[]⟩
def Ho310 (P : Params) : Obj := ⟨(.type "code"), none, .fields #[(.str "_law_lands" 587), (.str "_law_lands" 588), (.str "/claim/cut.py" 589), (.int (117) 0), (.int (2) 0), (.int (0) 0), (.int (0) 0), (.int (3) 0), (.ref 305), (.bool true), (.int (181) 0), (.ref 306), .none, (.ref 307), (.ref 308), (.ref 309), (.int (600) 0), (.int (117) 0), (.str "/claim/cut.py" 601)], #[]⟩
def Ho311 (P : Params) : Obj := oFn none (top 30) "_law_lands" "_law_lands" .none .none .none (.str "law_daysgate_k11_a_rule" 577) none (.ref 310) .none
def Ho312 (P : Params) : Obj := ⟨(.type "tuple"), none, .seq #[] 0, #[]⟩
def Ho314 (P : Params) : Obj := ⟨(.type "tuple"), none, .seq #[(.str "_law_kind" 606), (.str "_law_lands_here" 607), (.str "_law_top" 608), (.str "_law_days" 609)] 0, #[]⟩
def Ho315 (P : Params) : Obj := ⟨(.type "tuple"), none, .seq #[] 0, #[]⟩
def Ho317 (P : Params) : Obj := ⟨(.type "code"), none, .fields #[(.str "_law_made" 603), (.str "_law_made" 604), (.str "/claim/cut.py" 605), (.int (129) 0), (.int (4) 0), (.int (0) 0), (.int (0) 0), (.int (3) 0), (.ref 312), (.bool true), (.int (181) 0), (.ref 313), .none, (.ref 314), (.ref 315), (.ref 316), (.int (610) 0), (.int (129) 0), (.str "/claim/cut.py" 611)], #[]⟩
def Ho318 (P : Params) : Obj := oFn none (top 31) "_law_made" "_law_made" .none .none .none (.str "law_daysgate_k11_a_rule" 577) none (.ref 317) .none
def Ho319 (P : Params) : Obj := ⟨(.type "tuple"), none, .seq #[] 0, #[]⟩
def Ho321 (P : Params) : Obj := ⟨(.type "tuple"), none, .seq #[(.str "_law_kind" 616), (.str "_law_lands_here" 617), (.str "_law_top" 618), (.str "_law_days" 619), (.str "_law_error" 620), (.str "e" 621), (.str "_law_one" 622), (.str "_law_other" 623), (.str "_law_others" 624)] 0, #[]⟩
def Ho322 (P : Params) : Obj := ⟨(.type "tuple"), none, .seq #[] 0, #[]⟩
def Ho324 (P : Params) : Obj := ⟨(.type "code"), none, .fields #[(.str "_law_refused" 613), (.str "_law_refused" 614), (.str "/claim/cut.py" 615), (.int (137) 0), (.int (4) 0), (.int (0) 0), (.int (0) 0), (.int (3) 0), (.ref 319), (.bool true), (.int (181) 0), (.ref 320), .none, (.ref 321), (.ref 322), (.ref 323), (.int (625) 0), (.int (137) 0), (.str "/claim/cut.py" 626)], #[]⟩
def Ho325 (P : Params) : Obj := oFn none (top 32) "_law_refused" "_law_refused" .none .none .none (.str "law_daysgate_k11_a_rule" 577) none (.ref 324) .none
def Ho326 (P : Params) : Obj := ⟨(.type "tuple"), none, .seq #[] 0, #[]⟩
def Ho329 (P : Params) : Obj := ⟨(.type "code"), none, .fields #[(.str "_law_bad_lands" 628), (.str "_law_bad_lands" 629), (.str "/claim/cut.py" 630), (.int (147) 0), (.int (2) 0), (.int (0) 0), (.int (0) 0), (.int (3) 0), (.ref 326), (.bool true), (.int (181) 0), (.ref 327), .none, .none, .none, (.ref 328), (.int (631) 0), (.int (147) 0), (.str "/claim/cut.py" 632)], #[]⟩
def Ho330 (P : Params) : Obj := oFn none (top 33) "_law_bad_lands" "_law_bad_lands" .none .none .none (.str "law_daysgate_k11_a_rule" 577) none (.ref 329) .none
def Ho331 (P : Params) : Obj := ⟨(.type "tuple"), none, .seq #[] 0, #[]⟩
def Ho333 (P : Params) : Obj := ⟨(.type "tuple"), none, .seq #[(.str "_law_rule" 637)] 0, #[]⟩
def Ho334 (P : Params) : Obj := ⟨(.type "tuple"), none, .seq #[] 0, #[]⟩
def Ho336 (P : Params) : Obj := ⟨(.type "code"), none, .fields #[(.str "_law_kinds" 634), (.str "_law_kinds" 635), (.str "/claim/cut.py" 636), (.int (153) 0), (.int (1) 0), (.int (0) 0), (.int (0) 0), (.int (3) 0), (.ref 331), (.bool true), (.int (181) 0), (.ref 332), .none, (.ref 333), (.ref 334), (.ref 335), (.int (638) 0), (.int (153) 0), (.str "/claim/cut.py" 639)], #[]⟩
def Ho337 (P : Params) : Obj := oFn none (top 34) "_law_kinds" "_law_kinds" .none .none .none (.str "law_daysgate_k11_a_rule" 577) none (.ref 336) .none
def Ho338 (P : Params) : Obj := ⟨(.type "tuple"), none, .seq #[] 0, #[]⟩
def Ho340 (P : Params) : Obj := ⟨(.type "tuple"), none, .seq #[(.str "_law_rule" 644), (.str "_law_lands_here" 645), (.str "_law_names" 646), (.str "_law_name" 647), (.str "_law_due" 648), (.str "_law_land" 649), (.str "_law_weight" 650), (.str "_law_found" 651)] 0, #[]⟩
def Ho341 (P : Params) : Obj := ⟨(.type "tuple"), none, .seq #[] 0, #[]⟩
def Ho343 (P : Params) : Obj := ⟨(.type "code"), none, .fields #[(.str "_law_weights" 641), (.str "_law_weights" 642), (.str "/claim/cut.py" 643), (.int (155) 0), (.int (3) 0), (.int (0) 0), (.int (0) 0), (.int (3) 0), (.ref 338), (.bool true), (.int (181) 0), (.ref 339), .none, (.ref 340), (.ref 341), (.ref 342), (.int (652) 0), (.int (155) 0), (.str "/claim/cut.py" 653)], #[]⟩
def Ho344 (P : Params) : Obj := oFn none (top 35) "_law_weights" "_law_weights" .none .none .none (.str "law_daysgate_k11_a_rule" 577) none (.ref 343) .none
def Ho345 (P : Params) : Obj := ⟨(.type "tuple"), none, .seq #[] 0, #[]⟩
def Ho347 (P : Params) : Obj := ⟨(.type "tuple"), none, .seq #[(.str "_law_cell" 658), (.str "_law_least" 659)] 0, #[]⟩
def Ho348 (P : Params) : Obj := ⟨(.type "tuple"), none, .seq #[] 0, #[]⟩
def Ho350 (P : Params) : Obj := ⟨(.type "code"), none, .fields #[(.str "_law_edge" 655), (.str "_law_edge" 656), (.str "/claim/cut.py" 657), (.int (165) 0), (.int (2) 0), (.int (0) 0), (.int (0) 0), (.int (3) 0), (.ref 345), (.bool true), (.int (181) 0), (.ref 346), .none, (.ref 347), (.ref 348), (.ref 349), (.int (660) 0), (.int (165) 0), (.str "/claim/cut.py" 661)], #[]⟩
def Ho351 (P : Params) : Obj := oFn none (top 36) "_law_edge" "_law_edge" .none .none .none (.str "law_daysgate_k11_a_rule" 577) none (.ref 350) .none
def Ho352 (P : Params) : Obj := ⟨(.type "tuple"), none, .seq #[] 0, #[]⟩
def Ho355 (P : Params) : Obj := ⟨(.type "code"), none, .fields #[(.str "law" 663), (.str "law" 664), (.str "/claim/cut.py" 665), (.int (167) 0), (.int (1) 0), (.int (0) 0), (.int (0) 0), (.int (3) 0), (.ref 352), (.bool true), (.int (181) 0), (.ref 353), .none, .none, .none, (.ref 354), (.int (666) 0), (.int (167) 0), (.str "/claim/cut.py" 667)], #[]⟩
def Ho356 (P : Params) : Obj := oFn none (top 37) "law" "law" .none .none .none (.str "law_daysgate_k11_a_rule" 577) none (.ref 355) .none
def HK (P : Params) : Frag := (nat_lit 2, Ho2 P) :: (nat_lit 3, Ho3 P) :: (nat_lit 15, Ho15 P) :: (nat_lit 17, Ho17 P) :: (nat_lit 18, Ho18 P) :: (nat_lit 20, Ho20 P) :: (nat_lit 21, Ho21 P) :: (nat_lit 22, Ho22 P) :: (nat_lit 24, Ho24 P) :: (nat_lit 25, Ho25 P) :: (nat_lit 27, Ho27 P) :: (nat_lit 28, Ho28 P) :: (nat_lit 29, Ho29 P) :: (nat_lit 31, Ho31 P) :: (nat_lit 32, Ho32 P) :: (nat_lit 34, Ho34 P) :: (nat_lit 35, Ho35 P) :: (nat_lit 36, Ho36 P) :: (nat_lit 38, Ho38 P) :: (nat_lit 39, Ho39 P) :: (nat_lit 41, Ho41 P) :: (nat_lit 42, Ho42 P) :: (nat_lit 43, Ho43 P) :: (nat_lit 50, Ho50 P) :: (nat_lit 51, Ho51 P) :: (nat_lit 52, Ho52 P) :: (nat_lit 53, Ho53 P) :: (nat_lit 56, Ho56 P) :: (nat_lit 63, Ho63 P) :: (nat_lit 64, Ho64 P) :: (nat_lit 65, Ho65 P) :: (nat_lit 68, Ho68 P) :: (nat_lit 75, Ho75 P) :: (nat_lit 77, Ho77 P) :: (nat_lit 78, Ho78 P) :: (nat_lit 80, Ho80 P) :: (nat_lit 81, Ho81 P) :: (nat_lit 82, Ho82 P) :: (nat_lit 83, Ho83 P) :: (nat_lit 84, Ho84 P) :: (nat_lit 87, Ho87 P) :: (nat_lit 94, Ho94 P) :: (nat_lit 96, Ho96 P) :: (nat_lit 97, Ho97 P) :: (nat_lit 99, Ho99 P) :: (nat_lit 100, Ho100 P) :: (nat_lit 101, Ho101 P) :: (nat_lit 102, Ho102 P) :: (nat_lit 103, Ho103 P) :: (nat_lit 106, Ho106 P) :: (nat_lit 113, Ho113 P) :: (nat_lit 115, Ho115 P) :: (nat_lit 116, Ho116 P) :: (nat_lit 118, Ho118 P) :: (nat_lit 119, Ho119 P) :: (nat_lit 120, Ho120 P) :: (nat_lit 121, Ho121 P) :: (nat_lit 122, Ho122 P) :: (nat_lit 125, Ho125 P) :: (nat_lit 132, Ho132 P) :: (nat_lit 133, Ho133 P) :: (nat_lit 134, Ho134 P) :: (nat_lit 137, Ho137 P) :: (nat_lit 144, Ho144 P) :: (nat_lit 145, Ho145 P) :: (nat_lit 146, Ho146 P) :: (nat_lit 149, Ho149 P) :: (nat_lit 156, Ho156 P) :: (nat_lit 157, Ho157 P) :: (nat_lit 158, Ho158 P) :: (nat_lit 161, Ho161 P) :: (nat_lit 168, Ho168 P) :: (nat_lit 169, Ho169 P) :: (nat_lit 170, Ho170 P) :: (nat_lit 173, Ho173 P) :: (nat_lit 175, Ho175 P) :: (nat_lit 176, Ho176 P) :: (nat_lit 178, Ho178 P) :: (nat_lit 179, Ho179 P) :: (nat_lit 180, Ho180 P) :: (nat_lit 182, Ho182 P) :: (nat_lit 183, Ho183 P) :: (nat_lit 185, Ho185 P) :: (nat_lit 186, Ho186 P) :: (nat_lit 194, Ho194 P) :: (nat_lit 196, Ho196 P) :: (nat_lit 197, Ho197 P) :: (nat_lit 199, Ho199 P) :: (nat_lit 200, Ho200 P) :: (nat_lit 201, Ho201 P) :: (nat_lit 203, Ho203 P) :: (nat_lit 204, Ho204 P) :: (nat_lit 206, Ho206 P) :: (nat_lit 207, Ho207 P) :: (nat_lit 208, Ho208 P) :: (nat_lit 209, Ho209 P) :: (nat_lit 210, Ho210 P) :: (nat_lit 211, Ho211 P) :: (nat_lit 212, Ho212 P) :: (nat_lit 215, Ho215 P) :: (nat_lit 222, Ho222 P) :: (nat_lit 224, Ho224 P) :: (nat_lit 225, Ho225 P) :: (nat_lit 227, Ho227 P) :: (nat_lit 228, Ho228 P) :: (nat_lit 229, Ho229 P) :: (nat_lit 231, Ho231 P) :: (nat_lit 232, Ho232 P) :: (nat_lit 234, Ho234 P) :: (nat_lit 235, Ho235 P) :: (nat_lit 236, Ho236 P) :: (nat_lit 237, Ho237 P) :: (nat_lit 238, Ho238 P) :: (nat_lit 241, Ho241 P) :: (nat_lit 248, Ho248 P) :: (nat_lit 250, Ho250 P) :: (nat_lit 251, Ho251 P) :: (nat_lit 253, Ho253 P) :: (nat_lit 254, Ho254 P) :: (nat_lit 255, Ho255 P) :: (nat_lit 257, Ho257 P) :: (nat_lit 258, Ho258 P) :: (nat_lit 260, Ho260 P) :: (nat_lit 261, Ho261 P) :: (nat_lit 262, Ho262 P) :: (nat_lit 263, Ho263 P) :: (nat_lit 264, Ho264 P) :: (nat_lit 267, Ho267 P) :: (nat_lit 274, Ho274 P) :: (nat_lit 276, Ho276 P) :: (nat_lit 277, Ho277 P) :: (nat_lit 279, Ho279 P) :: (nat_lit 280, Ho280 P) :: (nat_lit 281, Ho281 P) :: (nat_lit 283, Ho283 P) :: (nat_lit 284, Ho284 P) :: (nat_lit 286, Ho286 P) :: (nat_lit 287, Ho287 P) :: (nat_lit 288, Ho288 P) :: (nat_lit 289, Ho289 P) :: (nat_lit 290, Ho290 P) :: (nat_lit 293, Ho293 P) :: (nat_lit 296, Ho296 P) :: (nat_lit 297, Ho297 P) :: (nat_lit 298, Ho298 P) :: (nat_lit 300, Ho300 P) :: (nat_lit 301, Ho301 P) :: (nat_lit 303, Ho303 P) :: (nat_lit 304, Ho304 P) :: (nat_lit 305, Ho305 P) :: (nat_lit 307, Ho307 P) :: (nat_lit 308, Ho308 P) :: (nat_lit 310, Ho310 P) :: (nat_lit 311, Ho311 P) :: (nat_lit 312, Ho312 P) :: (nat_lit 314, Ho314 P) :: (nat_lit 315, Ho315 P) :: (nat_lit 317, Ho317 P) :: (nat_lit 318, Ho318 P) :: (nat_lit 319, Ho319 P) :: (nat_lit 321, Ho321 P) :: (nat_lit 322, Ho322 P) :: (nat_lit 324, Ho324 P) :: (nat_lit 325, Ho325 P) :: (nat_lit 326, Ho326 P) :: (nat_lit 329, Ho329 P) :: (nat_lit 330, Ho330 P) :: (nat_lit 331, Ho331 P) :: (nat_lit 333, Ho333 P) :: (nat_lit 334, Ho334 P) :: (nat_lit 336, Ho336 P) :: (nat_lit 337, Ho337 P) :: (nat_lit 338, Ho338 P) :: (nat_lit 340, Ho340 P) :: (nat_lit 341, Ho341 P) :: (nat_lit 343, Ho343 P) :: (nat_lit 344, Ho344 P) :: (nat_lit 345, Ho345 P) :: (nat_lit 347, Ho347 P) :: (nat_lit 348, Ho348 P) :: (nat_lit 350, Ho350 P) :: (nat_lit 351, Ho351 P) :: (nat_lit 352, Ho352 P) :: (nat_lit 355, Ho355 P) :: (nat_lit 356, Ho356 P) :: []
theorem HKe (P : Params) : Has = (HK P).map (·.1) := by kernel_rfl
def Hlk (w : World) (H0 : Heap) (s0 : SharedT) := (topRunT treeTable HP w 11 (some (.ref 6)) 8060 s0 (topStub HP)).map (fun s => lookT HP Hq [] Hx (fun s => Has.map s.heap.get?) true H0 s.abs)
def Hgd := openGood Hq []
theorem Hlk_self : Hlk = Hlk := rfl
theorem Hgd_self : Hgd = Hgd := rfl
end K11
lay_quick K11.Hlk K11.Hgd
name_quick hlkQ for K11.Hlk by K11.Hlk_self
name_quick hgdQ for K11.Hgd by K11.Hgd_self
namespace K11
open PySem PySem.W HD
theorem Hlk_ok (w : World) (os : OsState) : Hlk w (boot_heap w.params) (bootT w.params os) = some (true, Hgd, (HK w.params).map fun p => some p.2) := by
  rw [PySem.W.Fast.hlkQ_eq, PySem.W.Fast.hgdQ_eq]
  kernel_rfl
theorem Hleft : LeftO HP Hq [] Hx (fun s => Has.map s.heap.get?) (fun w => (HK w.params).map fun p => some p.2) 8060 true :=
  left_of (boot_open (by kernel_rfl) (by decide) (fun _ => by kernel_rfl)) boot_size Hlk_ok
end K11
set_option maxHeartbeats 4000000
namespace K11
open PySem L2
section
variable {P : Program} {w : World} {K : PySem.W.Frag} {mg : Str → Option Value} {base : Heap}
variable {fW fB fM fN : Addr} {dW dB dM dN : FuncData}
theorem in_strs (t : Str) (ns : List Str) : inV (.str t) (ns.map V.str) = decide (t ∈ ns) := by
  induction ns with
  | nil => rfl
  | cons n ns ih =>
    have e : inV (.str t) ((n :: ns).map V.str) = (eqV (.str n) (.str t) || inV (.str t) (ns.map V.str)) := rfl
    rw [e, ih]
    have e2 : eqV (.str n) (.str t) = decide (n = t) := by
      show (n == t) = decide (n = t)
      rw [Bool.eq_iff_iff]
      simp
    rw [e2]
    by_cases h : t ∈ ns
    · simp [h]
    · by_cases h2 : n = t
      · simp [h2]
      · have h3 : ¬ t = n := fun z => h2 z.symm
        simp [h, h2, h3]
theorem flat_strs (ns : List Str) : (ns.map V.str).all flatV = true := by
  induction ns with
  | nil => rfl
  | cons n ns ih => simp [List.map_cons, List.all_cons, flatV] at ih ⊢
def spLands : Sp := fun vs H Q _ => ∃ x d, vs = [x] ∧ DX H d x ∧ ∀ H', Same H H' → Q (.bl (areD d)) H'
theorem scLands : FnScope ["things", "names", "thing"] ["things"] (defScope sLands) := ⟨rfl, rfl, rfl, by decide +kernel, rfl, by decide +kernel, by decide +kernel⟩
theorem landD_is {d : PyData} (h : landD d = true) : ∃ t b, d = .tuple [.str t, b] ∧ nmS t = true ∧ betD b 1 9 = true := by
  cases d <;> simp only [landD] at h <;> try (exact absurd h (by decide))
  rename_i ds
  match ds, h with
  | [a, b], h =>
    simp only [landD, Bool.and_eq_true] at h
    cases a <;> simp only [nameD] at h <;> try (exact absurd h.1 (by decide))
    exact ⟨_, _, rfl, h.1, h.2⟩
theorem ok_lands {f fL : Addr} {fd dL : FuncData} (F : Fun K "are_lands" "are_lands" sLands f fd) (L : Low K mg fW fB fM fN dW dB dM dN) (FL : Fun K "is_land" "is_land" sLand fL dL) (bL : Binds K dL ["thing"] []) (mL : mg "is_land" = some (.ref fL)) :
    FnOk P w K mg base CX0 4 f fd ["things"] spLands := by
  refine F.ok scLands (fun vs H Q E h => ?_) (fun cdv A outer s H vs Q E hr h => ?_)
  · obtain ⟨x, d, rfl, _⟩ := h
    rfl
  · obtain ⟨x, d, rfl, hd, k⟩ := h
    have T := L.T
    obtain ⟨t1, g1⟩ := T.gM
    refine ⟨_, pss_cons (ps_if (PW.pt (pw_or (pt_not (pt_val (pe_callB call_isi (by rfl) T.isi PyProof.Rows.boot_isinstance (pa_cons (pv 0) (pa_cons (pe_bltn (v := .ty "list") (by rfl) T.lst PyProof.Rows.boot_list rfl) pa_nil)))))
        (pw_or (pt_cmpR op_lt (pe_callB call_len_seq (by rfl) T.len PySem.boot_len (pa_cons (pv 0) pa_nil)) pe_int (nomark _))
        (pw_or1 (pt_cmpR op_gt (pe_callB call_len_seq (by rfl) T.len PySem.boot_len (pa_cons (pv 0) pa_nil)) (pe_glob (v := .int 6) (by rfl) g1 ⟨_, rfl⟩) (nomark _)))))) (pss_one (ps_ret pe_bl)) pss_nil)
      (pss_cons (ps_set (i := 1) scLands.nd rfl (Or.inl rfl) (pe_lst pa_nil))
      (pss_cons (ps_for PassesOwn.never rfl (pi_list (pv 0)) (pg_name (i := 2) scLands.nd rfl (Or.inl rfl))
        (pss_cons (ps_if (PW.pt (pw_or (pt_not (pt_val (pe_call (ok_land FL L) hr (by rfl) mL FL.kp bL .nil pass0 (pa_cons (pv 2) pa_nil)))) (pw_or1 (pt_cmpR op_in_seq (pe_ix ix_tup (pv 2) pe_int (fun _ _ => rfl)) (pv 1) rfl)))) (pss_one (ps_ret pe_bl)) pss_nil)
        (pss_one (ps_expr (pe_bm PySem.F.plainAttrs_list PySem.F.slot_list_append PySem.F.type_list_append mt_append (pv 1) (pa_cons (pe_ix ix_tup (pv 2) pe_int (fun _ _ => rfl)) pa_nil))))))
      (pss_one (ps_ret pe_bl)))), ?_⟩
    refine ⟨_, rfl, _, _, _, _, rfl, tyD hd, kLst d, _, rfl, ?_⟩
    by_cases hi : isLst d = true
    case neg =>
      have e : areD d = false := by cases d <;> simp_all [isLst, areD]
      rw [Bool.eq_false_iff.mpr hi]
      have k' := k H (Same.refl H)
      rw [e] at k'
      exact k'
    rw [hi]
    cases d <;> simp only [isLst] at hi <;> try (exact absurd hi (by decide))
    rename_i ds
    simp only [DX] at hd
    obtain ⟨a, xs, rfl, ha, hx⟩ := hd
    have hl := DXs.len hx
    refine ⟨_, rfl, a, xs, rfl, .inl (SqL.of ha), _, _, rfl, rfl, _, rfl, ?_⟩
    by_cases h1 : (xs.length : Int) < 1
    case pos =>
      have e : areD (.list ds) = false := by
        have : ¬ 1 ≤ ds.length := by omega
        simp only [areD, decide_eq_false this, Bool.false_and]
      rw [decide_eq_true h1]
      have k' := k H (Same.refl H)
      rw [e] at k'
      exact k'
    rw [decide_eq_false h1]
    refine ⟨_, rfl, a, xs, rfl, .inl (SqL.of ha), _, _, rfl, rfl, _, rfl, ?_⟩
    by_cases h2 : (6 : Int) < (xs.length : Int)
    case pos =>
      have e : areD (.list ds) = false := by
        have : ¬ ds.length ≤ 6 := by omega
        simp only [areD, decide_eq_false this, Bool.and_false, Bool.false_and]
      rw [decide_eq_true h2]
      have k' := k H (Same.refl H)
      rw [e] at k'
      exact k'
    rw [decide_eq_false h2]
    have eA : areD (.list ds) = goD ds [] := by
      have e1 : 1 ≤ ds.length := by omega
      have e2 : ds.length ≤ 6 := by omega
      simp only [areD, decide_eq_true e1, decide_eq_true e2, Bool.true_and]
    rw [eA] at k
    refine ⟨Nat.zero_le _, fun l hl' => ?_⟩
    have s1 : Same H (upd H l (.lst [])) := Same.upd hl'
    refine ⟨_, rfl, a, rfl, ⟨xs, SqL.of (s1 _ _ ha)⟩, for_list (K := K) (a := a) (xs := xs) (fun i σ H2 => ∃ (ns : List Str) (v : Option V), σ = [some (V.ref a), some (V.ref l), v] ∧ H2 l = some (.lst (ns.map V.str)) ∧ Same H H2 ∧ goD (ds.drop i) ns = goD ds [] ∧ ns.length = i)
      ⟨[], none, rfl, upd_same, s1, rfl, rfl⟩ (fun i σ H2 _ h => ?_) (fun i x σ H2 hi h => ?_) (fun σ H2 h => ?_)⟩
    · obtain ⟨ns, v, rfl, h3, h4, _⟩ := h
      exact SqL.of (h4 _ _ ha)
    · obtain ⟨ns, v, rfl, h3, h4, h5, h6⟩ := h
      obtain ⟨d, ed, hdx⟩ := DXs.at hx hi
      have hil : i < ds.length := (List.getElem?_eq_some_iff.mp ed).1
      have dr : ds.drop i = d :: ds.drop (i + 1) := by
        rw [List.drop_eq_getElem_cons hil]
        obtain ⟨_, e⟩ := List.getElem?_eq_some_iff.mp ed
        rw [e]
      rw [dr] at h5
      refine ⟨_, rfl, _, d, rfl, hdx.same h4, _, rfl, ?_⟩
      by_cases hL : landD d = true
      case neg =>
        have e : goD ds [] = false := by rw [← h5]; simp only [goD, Bool.eq_false_iff.mpr hL, Bool.false_and]
        rw [Bool.eq_false_iff.mpr hL]
        have k' := k H2 h4
        rw [e] at k'
        exact k'
      rw [hL]
      obtain ⟨t, b, rfl, hnm, hb⟩ := landD_is hL
      simp only [DX, DXs] at hdx
      obtain ⟨u, ys, rfl, hu, y1, r1, rfl, ⟨rfl, _⟩, y2, r2, rfl, _, rfl⟩ := hdx
      refine ⟨_, rfl, u, _, _, _, rfl, rfl, SqT.of (h4 _ _ hu), atI_nat (j := 0) rfl, _, rfl, l, _, rfl, .inl (SqL.of h3), rfl, flat_strs ns, _, rfl, ?_⟩
      rw [in_strs]
      by_cases hm : t ∈ ns
      case pos =>
        have e : goD ds [] = false := by rw [← h5]; simp only [goD, nmOf, hm, decide_true, Bool.not_true, Bool.and_false, Bool.false_and]
        rw [decide_eq_true hm]
        have k' := k H2 h4
        rw [e] at k'
        exact k'
      rw [decide_eq_false hm]
      refine ⟨_, rfl, .inl ⟨rfl, _, SqL.of h3⟩, _, rfl, u, _, _, _, rfl, rfl, SqT.of (h4 _ _ hu), atI_nat (j := 0) rfl, l, _, _, rfl, rfl, h3, small1000 (by simp; omega), ?_⟩
      refine ⟨ns ++ [t], _, rfl, ?_, fun c o e => ?_, ?_, by simp [h6]⟩
      · rw [upd_same]
        simp
      · rw [upd_ne (ne_of_none e hl')]
        exact h4 c o e
      · rw [← h5]
        simp only [goD, hL, nmOf, Bool.true_and]
        simp [hm]
    · obtain ⟨ns, v, rfl, h3, h4, h5, h6⟩ := h
      have e : goD ds [] = true := by
        rw [← h5, List.drop_eq_nil_of_le (by omega)]
        rfl
      have k' := k H2 h4
      rw [e] at k'
      exact k'
end
def sRuleI : Stmt := mem 23 0
def sRuleW : Stmt := mem 23 1
def sWithinI : Stmt := mem 24 0
def sSinceI : Stmt := mem 25 0
def sInRowI : Stmt := mem 26 0
def Keep (p : Addr) (H H' : Hp) : Prop := ∀ b u, b ≠ p → H b = some u → H' b = some u
theorem Keep.trans {p : Addr} {H H1 H2 : Hp} (a : Keep p H H1) (b : Keep p H1 H2) : Keep p H H2 := fun c u n h => b c u n (a c u n h)
theorem Keep.of {p : Addr} {H H' : Hp} (e : Same H H') : Keep p H H' := fun b u _ h => e b u h
theorem Keep.upd {p : Addr} {H : Hp} {o : HO} : Keep p H (L2.upd H p o) := fun b u n h => by rw [upd_ne n]; exact h
structure Kc (K : PySem.W.Frag) (fw C : Addr) : Prop where
  cls : Cls K C
  nl : NoAttr K C "lands"
  nm : NoAttr K C "most"
  ns : NoAttr K C "span"
  ne : NoAttr K C "leave"
  wt : Meth K C "weight" fw
  t1 : PySem.W.findIn K (.ref C) "__class__" = some (some (.builtin "object.__class__"))
  t4 : PySem.W.mroIn K C (.type "object") = some true
structure Kn (K : PySem.W.Frag) (mg : Str → Option Value) (eR : Addr) : Prop where
  m : mg "NoRule" = some (.ref eR)
  ok : PySem.W.excIn K eR [.type "ValueError", .type "Exception", .type "BaseException", .type "object"] "ValueError.__new__" = true
end K11
set_option maxHeartbeats 4000000
namespace K11
open PySem L2
theorem Keep.lt {p C dx : Addr} {fs : List (Str × V)} {H H' : Hp} (hp : H p = some (.ins C dx fs)) (k : Keep p H H') : LT H H' :=
  ⟨fun b xs h => k b _ (ne_of h hp (by intro z; cases z)) h, fun b xs h => k b _ (ne_of h hp (by intro z; cases z)) h⟩
section
variable {P : Program} {w : World} {K : PySem.W.Frag} {mg : Str → Option Value} {base : Heap}
variable {fW fB fM fN fL fA eR fw : Addr} {dW dB dM dN dL dA : FuncData}
structure Mid (K : PySem.W.Frag) (mg : Str → Option Value) (fW fB fM fN fL fA eR : Addr) (dW dB dM dN dL dA : FuncData) : Prop where
  L : Low K mg fW fB fM fN dW dB dM dN
  FL : Fun K "is_land" "is_land" sLand fL dL
  bL : Binds K dL ["thing"] []
  mL : mg "is_land" = some (.ref fL)
  FA : Fun K "are_lands" "are_lands" sLands fA dA
  bA : Binds K dA ["things"] []
  mA : mg "are_lands" = some (.ref fA)
  N : Kn K mg eR
theorem Mid.are (M : Mid K mg fW fB fM fN fL fA eR dW dB dM dN dL dA) : FnOk P w K mg base CX0 4 fA dA ["things"] spLands := ok_lands M.FA M.L M.FL M.bL M.mL
theorem areD_list {H : Hp} {d : PyData} {x : V} (h : areD d = true) (hd : DX H d x) : ∃ a xs, x = .ref a ∧ H a = some (.lst xs) := by
  cases d <;> simp only [areD] at h <;> try (exact absurd h (by decide))
  simp only [DX] at hd
  obtain ⟨a, xs, e1, e2, _⟩ := hd
  exact ⟨a, xs, e1, e2⟩
theorem one_ok : (1 : Nat) ≤ sizeLine := Nat.le_of_lt (small1000 (by decide))
def spRuleI (K : PySem.W.Frag) (fw eR : Addr) : Sp := fun vs H Q E => ∃ (C p dx : Addr) (x y : V) (dl dm : PyData), vs = [.ref p, x, y] ∧ Kc K fw C ∧ H p = some (.ins C dx []) ∧ DX H dl x ∧ DX H dm y ∧
  ((areD dl && betD dm 0 1000000000) = true → ∀ (a : Addr) (xs : List V) (t : Addr) (H' : Hp), x = .ref a → H a = some (.lst xs) → H' t = some (.tup xs) → H' p = some (.ins C dx [("lands", .ref t), ("most", y)]) → Keep p H H' → Q .non H') ∧
  ((areD dl && betD dm 0 1000000000) = false → ∀ H', Keep p H H' → E (.ref eR) none H')
theorem scRuleI : FnScope ["self", "lands", "most"] ["self", "lands", "most"] (defScope sRuleI) := ⟨rfl, rfl, rfl, by decide +kernel, rfl, by decide +kernel, by decide +kernel⟩
theorem ok_ruleI {f : Addr} {fd : FuncData} (F : Fun K "__init__" "Rule.__init__" sRuleI f fd) (M : Mid K mg fW fB fM fN fL fA eR dW dB dM dN dL dA) : FnOk P w K mg base (CX1 P w) 5 f fd ["self", "lands", "most"] (spRuleI K fw eR) := by
  refine F.okx scRuleI (fun vs H Q E h => ?_) (fun cdv A outer s H vs Q E hr h => ?_)
  · obtain ⟨C, p, dx, x, y, dl, dm, rfl, _⟩ := h
    rfl
  · obtain ⟨C, p, dx, x, y, dl, dm, rfl, c, hp, hl, hm, k1, k2⟩ := h
    have T := M.L.T
    obtain ⟨t1, g1⟩ := T.gG
    refine ⟨_, pss_cons (ps_if (pt_not (pt_val (pe_call M.are hr (by rfl) M.mA M.FA.kp M.bA .nil pass0 (pa_cons (pv 1) pa_nil)))) (pss_one (ps_raise cx_raise rfl (by rfl) M.N.m M.N.ok PySem.F.excBase_ValueError (pa_cons pe_str pa_nil))) pss_nil)
      (pss_cons (ps_if (pt_not (pt_val (pe_call M.L.bet (hr.mono (by decide)) (by rfl) M.L.mB M.L.FB.kp M.L.bB .nil pass0 (pa_cons (pv 2) (pa_cons pe_int (pa_cons (pe_glob (v := .int 1000000000) (by rfl) g1 ⟨_, rfl⟩) pa_nil)))))) (pss_one (ps_raise cx_raise rfl (by rfl) M.N.m M.N.ok PySem.F.excBase_ValueError (pa_cons pe_str pa_nil))) pss_nil)
      (pss_cons (ps_fld (pv 0) (pe_callTy call_tuple_of (by rfl) T.tup PyProof.Rows.boot_tuple (pa_cons (pv 1) pa_nil)) rfl)
      (pss_one (ps_fld (pv 0) (pv 2) rfl)))), ?_⟩
    refine ⟨_, rfl, x, dl, rfl, hl, fun H1 s1 => ⟨_, rfl, ?_⟩⟩
    by_cases ha : areD dl = true
    case neg =>
      rw [Bool.eq_false_iff.mpr ha]
      exact ⟨one_ok, k2 (by rw [Bool.eq_false_iff.mpr ha]; rfl) H1 (Keep.of s1)⟩
    rw [ha]
    refine ⟨_, rfl, y, dm, 0, 1000000000, rfl, hm.same s1, _, rfl, ?_⟩
    by_cases hb : betD dm 0 1000000000 = true
    case neg =>
      rw [Bool.eq_false_iff.mpr hb]
      exact ⟨one_ok, k2 (by rw [ha, Bool.eq_false_iff.mpr hb]; rfl) H1 (Keep.of s1)⟩
    rw [hb]
    obtain ⟨a, xs, rfl, hx⟩ := areD_list ha hl
    refine ⟨_, rfl, a, xs, rfl, .inl ⟨SqL.of (s1 _ _ hx), fun t ht => ?_⟩⟩
    have hp2 : upd H1 t (.tup xs) p = some (.ins C dx []) := Same.upd ht _ _ (s1 _ _ hp)
    refine ⟨_, rfl, p, C, dx, _, rfl, hp2, c.cls, c.nl, by decide, ?_⟩
    refine ⟨_, rfl, _, rfl, p, C, dx, _, rfl, upd_same, c.cls, c.nm, (by show 1 < 1000; decide), ?_⟩
    have ntp : t ≠ p := fun z => by
      rw [z, s1 _ _ hp] at ht
      cases ht
    refine k1 (by rw [ha, hb]; rfl) a xs t _ rfl hx ?_ ?_ ?_
    · rw [upd_ne ntp, upd_ne ntp, upd_same]
    · rw [upd_same]
      rfl
    · exact ((Keep.of (s1.trans (Same.upd ht))).trans Keep.upd).trans Keep.upd
def spKindI (K : PySem.W.Frag) (fw eR : Addr) (nm : Str) : Sp := fun vs H Q E => ∃ (C p dx : Addr) (x y z : V) (dl dm dz : PyData), vs = [.ref p, x, y, z] ∧ Kc K fw C ∧ H p = some (.ins C dx []) ∧ DX H dl x ∧ DX H dm y ∧ DX H dz z ∧
  ((areD dl && betD dm 0 1000000000 && betD dz 1 1000000000) = true → ∀ (a : Addr) (xs : List V) (t : Addr) (H' : Hp), x = .ref a → H a = some (.lst xs) → H' t = some (.tup xs) → H' p = some (.ins C dx [("lands", .ref t), ("most", y), (nm, z)]) → Keep p H H' → Q .non H') ∧
  ((areD dl && betD dm 0 1000000000 && betD dz 1 1000000000) = false → ∀ H', Keep p H H' → E (.ref eR) none H')
theorem scWithinI : FnScope ["self", "lands", "most", "span"] ["self", "lands", "most", "span"] (defScope sWithinI) := ⟨rfl, rfl, rfl, by decide +kernel, rfl, by decide +kernel, by decide +kernel⟩
theorem ok_withinI {f fR cR : Addr} {fd dR : FuncData} (F : Fun K "__init__" "Within.__init__" sWithinI f fd) (M : Mid K mg fW fB fM fN fL fA eR dW dB dM dN dL dA)
    (FR : Fun K "__init__" "Rule.__init__" sRuleI fR dR) (bR : Binds K dR ["self", "lands", "most"] []) (mR : mg "Rule" = some (.ref cR)) (cf : ClsFn K cR "__init__" fR) : FnOk P w K mg base (CX1 P w) 6 f fd ["self", "lands", "most", "span"] (spKindI K fw eR "span") := by
  refine F.okx scWithinI (fun vs H Q E h => ?_) (fun cdv A outer s H vs Q E hr h => ?_)
  · obtain ⟨C, p, dx, x, y, z, dl, dm, dz, rfl, _⟩ := h
    rfl
  · obtain ⟨C, p, dx, x, y, z, dl, dm, dz, rfl, c, hp, hl, hm, hz, k1, k2⟩ := h
    have T := M.L.T
    obtain ⟨t1, g1⟩ := T.gG
    refine ⟨_, pss_cons (ps_expr (pe_clsfn cf (ok_ruleI (fw := fw) FR M) hr (by rfl) mR bR .nil (cx_pass (E2 := E) fun _ _ _ h => h) (pa_cons (pv 0) (pa_cons (pv 1) (pa_cons (pv 2) pa_nil)))))
      (pss_cons (ps_if (pt_not (pt_val (pe_call M.L.bet (hr.mono (by decide)) (by rfl) M.L.mB M.L.FB.kp M.L.bB .nil pass0 (pa_cons (pv 3) (pa_cons pe_int (pa_cons (pe_glob (v := .int 1000000000) (by rfl) g1 ⟨_, rfl⟩) pa_nil)))))) (pss_one (ps_raise cx_raise rfl (by rfl) M.N.m M.N.ok PySem.F.excBase_ValueError (pa_cons pe_str pa_nil))) pss_nil)
      (pss_one (ps_fld (pv 0) (pv 3) rfl))), ?_⟩
    refine ⟨_, rfl, _, rfl, _, rfl, C, p, dx, x, y, dl, dm, rfl, c, hp, hl, hm, fun ok a xs t H1 ex hx ht hp1 kp => ?_, fun no H1 kp => ?_⟩
    case refine_2 => exact k2 (by rw [no]; rfl) H1 kp
    refine ⟨_, rfl, z, dz, 1, 1000000000, rfl, hz.lt (kp.lt hp), _, rfl, ?_⟩
    by_cases hb : betD dz 1 1000000000 = true
    case neg =>
      rw [Bool.eq_false_iff.mpr hb]
      exact ⟨one_ok, k2 (by rw [ok, Bool.eq_false_iff.mpr hb]; rfl) H1 kp⟩
    rw [hb]
    refine ⟨_, rfl, _, rfl, p, C, dx, _, rfl, hp1, c.cls, c.ns, (by show 2 < 1000; decide), ?_⟩
    have ntp : t ≠ p := ne_of ht hp1 (by intro z; cases z)
    refine k1 (by rw [ok, hb]; rfl) a xs t _ ex hx ?_ ?_ (kp.trans Keep.upd)
    · rw [upd_ne ntp, ht]
    · rw [upd_same]
      rfl
theorem scSinceI : FnScope ["self", "lands", "most", "leave"] ["self", "lands", "most", "leave"] (defScope sSinceI) := ⟨rfl, rfl, rfl, by decide +kernel, rfl, by decide +kernel, by decide +kernel⟩
theorem ok_sinceI {f fR cR : Addr} {fd dR : FuncData} (F : Fun K "__init__" "Since.__init__" sSinceI f fd) (M : Mid K mg fW fB fM fN fL fA eR dW dB dM dN dL dA)
    (FR : Fun K "__init__" "Rule.__init__" sRuleI fR dR) (bR : Binds K dR ["self", "lands", "most"] []) (mR : mg "Rule" = some (.ref cR)) (cf : ClsFn K cR "__init__" fR) : FnOk P w K mg base (CX1 P w) 6 f fd ["self", "lands", "most", "leave"] (spKindI K fw eR "leave") := by
  refine F.okx scSinceI (fun vs H Q E h => ?_) (fun cdv A outer s H vs Q E hr h => ?_)
  · obtain ⟨C, p, dx, x, y, z, dl, dm, dz, rfl, _⟩ := h
    rfl
  · obtain ⟨C, p, dx, x, y, z, dl, dm, dz, rfl, c, hp, hl, hm, hz, k1, k2⟩ := h
    have T := M.L.T
    obtain ⟨t1, g1⟩ := T.gG
    refine ⟨_, pss_cons (ps_expr (pe_clsfn cf (ok_ruleI (fw := fw) FR M) hr (by rfl) mR bR .nil (cx_pass (E2 := E) fun _ _ _ h => h) (pa_cons (pv 0) (pa_cons (pv 1) (pa_cons (pv 2) pa_nil)))))
      (pss_cons (ps_if (pt_not (pt_val (pe_call M.L.bet (hr.mono (by decide)) (by rfl) M.L.mB M.L.FB.kp M.L.bB .nil pass0 (pa_cons (pv 3) (pa_cons pe_int (pa_cons (pe_glob (v := .int 1000000000) (by rfl) g1 ⟨_, rfl⟩) pa_nil)))))) (pss_one (ps_raise cx_raise rfl (by rfl) M.N.m M.N.ok PySem.F.excBase_ValueError (pa_cons pe_str pa_nil))) pss_nil)
      (pss_one (ps_fld (pv 0) (pv 3) rfl))), ?_⟩
    refine ⟨_, rfl, _, rfl, _, rfl, C, p, dx, x, y, dl, dm, rfl, c, hp, hl, hm, fun ok a xs t H1 ex hx ht hp1 kp => ?_, fun no H1 kp => ?_⟩
    case refine_2 => exact k2 (by rw [no]; rfl) H1 kp
    refine ⟨_, rfl, z, dz, 1, 1000000000, rfl, hz.lt (kp.lt hp), _, rfl, ?_⟩
    by_cases hb : betD dz 1 1000000000 = true
    case neg =>
      rw [Bool.eq_false_iff.mpr hb]
      exact ⟨one_ok, k2 (by rw [ok, Bool.eq_false_iff.mpr hb]; rfl) H1 kp⟩
    rw [hb]
    refine ⟨_, rfl, _, rfl, p, C, dx, _, rfl, hp1, c.cls, c.ne, (by show 2 < 1000; decide), ?_⟩
    have ntp : t ≠ p := ne_of ht hp1 (by intro z; cases z)
    refine k1 (by rw [ok, hb]; rfl) a xs t _ ex hx ?_ ?_ (kp.trans Keep.upd)
    · rw [upd_ne ntp, ht]
    · rw [upd_same]
      rfl
def spRowI (K : PySem.W.Frag) (fw eR : Addr) : Sp := fun vs H Q E => ∃ (C p dx : Addr) (x y : V) (dl dm : PyData), vs = [.ref p, x, y] ∧ Kc K fw C ∧ H p = some (.ins C dx []) ∧ DX H dl x ∧ DX H dm y ∧
  ((areD dl && betD dm 0 1000000000) = true → ∀ (a : Addr) (xs : List V) (t : Addr) (H' : Hp), x = .ref a → H a = some (.lst xs) → H' t = some (.tup xs) → H' p = some (.ins C dx [("lands", .ref t), ("most", y), ("leave", .int 1)]) → Keep p H H' → Q .non H') ∧
  ((areD dl && betD dm 0 1000000000) = false → ∀ H', Keep p H H' → E (.ref eR) none H')
theorem scInRowI : FnScope ["self", "lands", "most"] ["self", "lands", "most"] (defScope sInRowI) := ⟨rfl, rfl, rfl, by decide +kernel, rfl, by decide +kernel, by decide +kernel⟩
theorem ok_inRowI {f fR cR fS cS : Addr} {fd dR dS : FuncData} (F : Fun K "__init__" "InRow.__init__" sInRowI f fd) (M : Mid K mg fW fB fM fN fL fA eR dW dB dM dN dL dA)
    (FR : Fun K "__init__" "Rule.__init__" sRuleI fR dR) (bR : Binds K dR ["self", "lands", "most"] []) (mR : mg "Rule" = some (.ref cR)) (cf : ClsFn K cR "__init__" fR)
    (FS : Fun K "__init__" "Since.__init__" sSinceI fS dS) (bS : Binds K dS ["self", "lands", "most", "leave"] []) (mS : mg "Since" = some (.ref cS)) (cg : ClsFn K cS "__init__" fS) : FnOk P w K mg base (CX1 P w) 7 f fd ["self", "lands", "most"] (spRowI K fw eR) := by
  refine F.okx scInRowI (fun vs H Q E h => ?_) (fun cdv A outer s H vs Q E hr h => ?_)
  · obtain ⟨C, p, dx, x, y, dl, dm, rfl, _⟩ := h
    rfl
  · obtain ⟨C, p, dx, x, y, dl, dm, rfl, c, hp, hl, hm, k1, k2⟩ := h
    refine ⟨_, pss_one (ps_expr (pe_clsfn cg (ok_sinceI (fw := fw) FS M FR bR mR cf) hr (by rfl) mS bS .nil (cx_pass (E2 := E) fun _ _ _ h => h) (pa_cons (pv 0) (pa_cons (pv 1) (pa_cons (pv 2) (pa_cons pe_int pa_nil)))))), ?_⟩
    have e1 : betD (.int 1) 1 1000000000 = true := by decide
    refine ⟨_, rfl, _, rfl, _, rfl, C, p, dx, x, y, .int 1, dl, dm, .int 1, rfl, c, hp, hl, hm, by simp only [DX], fun ok a xs t H1 ex hx ht hp1 kp => ?_, fun no H1 kp => ?_⟩
    · exact k1 (by rw [e1, Bool.and_true] at ok; exact ok) a xs t H1 ex hx ht hp1 kp
    · exact k2 (by rw [e1, Bool.and_true] at no; exact no) H1 kp
def LP (H : Hp) (v : V) (q : Str × Int) : Prop := ∃ u, v = .ref u ∧ H u = some (.tup [.str q.1, .int q.2])
def wtOf : List (Str × Int) → V → Int
  | [], _ => 0
  | q :: r, y => if V.str q.1 = y then q.2 else wtOf r y
def spWeight (K : PySem.W.Frag) (fw : Addr) : Sp := fun vs H Q _ => ∃ (C p dx t : Addr) (fs : List (Str × V)) (xs : List V) (ls : List (Str × Int)) (y : V), vs = [.ref p, y] ∧ Kc K fw C ∧ H p = some (.ins C dx fs) ∧ fs.lookup ("lands" : Str) = some (.ref t) ∧ H t = some (.tup xs) ∧
  PySem.Paired (LP H) xs ls ∧ (y = .non ∨ ∃ z, y = .str z) ∧ Q (.int (wtOf ls y)) H
theorem scWeight : FnScope ["self", "land", "name", "times"] ["self", "land"] (defScope sRuleW) := ⟨rfl, rfl, rfl, by decide +kernel, rfl, by decide +kernel, by decide +kernel⟩
theorem ok_weight {f : Addr} {fd : FuncData} (F : Fun K "weight" "Rule.weight" sRuleW f fd) : FnOk P w K mg base CX0 1 f fd ["self", "land"] (spWeight K fw) := by
  refine F.ok scWeight (fun vs H Q E h => ?_) (fun cdv A outer s H vs Q E hr h => ?_)
  · obtain ⟨C, p, dx, t, fs, xs, ls, y, rfl, _⟩ := h
    rfl
  · obtain ⟨C, p, dx, t, fs, xs, ls, y, rfl, c, hp, lk, ht, hq, hy, k⟩ := h
    refine ⟨_, pss_cons (ps_for PassesOwn.never rfl (pi_tup (pe_fld (pv 0) rfl)) (pg_tup rfl (pgs_cons (pg_name (i := 2) scWeight.nd rfl (Or.inl rfl)) (pgs_cons (pg_name (i := 3) scWeight.nd rfl (Or.inl rfl)) pgs_nil)))
        (pss_one (ps_if (pt_cmpR op_eq (pv 2) (pv 1) (nomark _)) (pss_one (ps_ret (pv 3))) pss_nil))) (pss_one (ps_ret pe_int)), ?_⟩
    refine ⟨_, rfl, p, C, dx, fs, _, rfl, hp, c.cls, c.nl, lk, t, rfl, ⟨_, SqT.of ht⟩, for_tup (K := K) (a := t) (xs := xs) (fun i σ H2 => ∃ v2 v3, σ = [some (V.ref p), some y, v2, v3] ∧ H2 = H ∧ wtOf (ls.drop i) y = wtOf ls y)
      ⟨none, none, rfl, rfl, rfl⟩ (fun i σ H2 _ h => ?_) (fun i x σ H2 hi h => ?_) (fun σ H2 h => ?_)⟩
    · obtain ⟨v2, v3, rfl, rfl, _⟩ := h
      exact SqT.of ht
    · obtain ⟨v2, v3, rfl, rfl, no⟩ := h
      obtain ⟨q, eq, u, rfl, hu⟩ := Paired.atL hq hi
      have hil : i < ls.length := (List.getElem?_eq_some_iff.mp eq).1
      have dr : ls.drop i = q :: ls.drop (i + 1) := by
        rw [List.drop_eq_getElem_cons hil]
        obtain ⟨_, e⟩ := List.getElem?_eq_some_iff.mp eq
        rw [e]
      rw [dr, wtOf] at no
      refine ⟨u, _, rfl, SqT.of hu, rfl, _, _, rfl, _, _, rfl, rfl, ?_⟩
      have sc : scal (V.str q.1) y = true := by
        rcases hy with rfl | ⟨z, rfl⟩ <;> rfl
      refine ⟨_, rfl, _, rfl, sc, _, rfl, ?_⟩
      by_cases he : V.str q.1 = y
      · rw [decide_eq_true he]
        rw [if_pos he] at no
        rw [← no] at k
        exact ⟨_, rfl, k⟩
      · rw [decide_eq_false he]
        rw [if_neg he] at no
        exact ⟨_, _, rfl, rfl, no⟩
    · obtain ⟨v2, v3, rfl, rfl, no⟩ := h
      have hxl : xs.length = ls.length := Paired.length hq
      rw [hxl, List.drop_length, wtOf] at no
      rw [← no] at k
      exact k
end
end K11
set_option maxHeartbeats 4000000
namespace K11
open PySem L2
abbrev sCell : Stmt := top 29
abbrev sNames : Stmt := top 30
abbrev sEdge : Stmt := top 36
theorem small1000' {n : Nat} (h : n ≤ 1000) : n ≤ sizeLine := Nat.le_of_lt (small1000 h)
def txt (l : List Nat) : Str := ⟨l.toArray⟩
theorem txt_app (l : List Nat) (c : Nat) : txt l ++ (⟨#[c]⟩ : Str) = txt (l ++ [c]) := by
  show (⟨l.toArray ++ #[c]⟩ : Str) = ⟨(l ++ [c]).toArray⟩
  congr 1
  simp
theorem txt_len (l : List Nat) : (txt l).length = l.length := by
  show l.toArray.size = l.length
  simp
def pl (c a k : Int) (j : Nat) : Int := c / 64 + 5 * j * j + 3 * k * (if (j : Int) = a then 1 else 0)
def sg (c a k : Int) (j : Nat) : Nat := 97 + (pl c a k j % 26).toNat
def msn (c : Int) : Int := 1 + c % 8
def atn (c : Int) : Int := c / 8 % msn c
def nmK (c k : Int) : List Nat := (List.range (msn c).toNat).map (sg c (atn c) k)
theorem let_at : ∀ j : Nat, j < 26 → LET.cps.toList[j]? = some (97 + j) := by decide +kernel
theorem let_mem : ∀ j : Nat, j < 26 → 97 + j ∈ LET.cps.toList := by decide +kernel
theorem nmK_len (c k : Int) : (nmK c k).length = (msn c).toNat := by simp [nmK]
theorem nmK_ok (c k : Int) : nmS (txt (nmK c k)) = true := by
  have h1 : 1 ≤ (msn c).toNat ∧ (msn c).toNat ≤ 8 := by
    unfold msn
    omega
  unfold nmS
  rw [txt_len, nmK_len, decide_eq_true (by omega), decide_eq_true (by omega)]
  simp only [Bool.true_and]
  unfold madeD
  rw [List.all_eq_true]
  intro x hx
  have hx2 : x ∈ nmK c k := by simpa [txt] using hx
  obtain ⟨j, _, rfl⟩ := List.mem_map.mp hx2
  exact decide_eq_true (let_mem _ (by omega))
theorem nmK_inj (c : Int) {k k' : Int} (h0 : 0 ≤ k) (h1 : k ≤ 8) (h2 : 0 ≤ k') (h3 : k' ≤ 8) (e : txt (nmK c k) = txt (nmK c k')) : k = k' := by
  have e1 : nmK c k = nmK c k' := by
    have := congrArg (fun s : Str => s.cps.toList) e
    simpa [txt] using this
  have hm : 1 ≤ msn c ∧ msn c ≤ 8 := by
    unfold msn
    omega
  have ha : 0 ≤ atn c ∧ atn c < msn c := by
    unfold atn
    exact ⟨Int.emod_nonneg _ (by omega), Int.emod_lt_of_pos _ (by omega)⟩
  have hj : (atn c).toNat < (msn c).toNat := by omega
  have e2 := congrArg (fun l : List Nat => l[(atn c).toNat]?) e1
  simp only [nmK, List.getElem?_map, List.getElem?_range hj, Option.map_some, Option.some.injEq, sg, pl] at e2
  have ea : (((atn c).toNat : Nat) : Int) = atn c := by omega
  rw [ea] at e2
  simp only [if_true, Int.mul_one] at e2
  generalize 5 * atn c * atn c = q at e2
  omega
section
variable {P : Program} {w : World} {K : PySem.W.Frag} {mg : Str → Option Value} {base : Heap}
def spCell (K : PySem.W.Frag) : Sp := fun vs H Q _ => ∃ (a : Addr) (ns : List Int) (k : Nat), vs = [.ref a, .int k] ∧ SqL K H a (ns.map V.int) ∧ Q (.int (ns.getD k 0)) H
theorem scCell : FnScope ["_law_script", "_law_k"] ["_law_script", "_law_k"] (defScope sCell) := ⟨rfl, rfl, rfl, by decide +kernel, rfl, by decide +kernel, by decide +kernel⟩
theorem ok_cell {f : Addr} {fd : FuncData} (F : Fun K "_law_cell_at" "_law_cell_at" sCell f fd) (T : Txt mg) : FnOk P w K mg base CX0 1 f fd ["_law_script", "_law_k"] (spCell K) := by
  refine F.ok scCell (fun vs H Q E h => ?_) (fun cdv A outer s H vs Q E hr h => ?_)
  · obtain ⟨a, ns, k, rfl, _⟩ := h
    rfl
  · obtain ⟨a, ns, k, rfl, hx, q⟩ := h
    refine ⟨_, pss_cons (ps_if (pt_cmpR op_lt (pv 1) (pe_callB call_len_seq (by rfl) T.len PySem.boot_len (pa_cons (pv 0) pa_nil)) (nomark _)) (pss_one (ps_ret (pe_ix ix_list (pv 0) (pv 1) (fun _ _ => rfl)))) pss_nil) (pss_one (ps_ret pe_int)), ?_⟩
    refine ⟨_, rfl, _, rfl, a, _, rfl, .inl hx, _, _, rfl, rfl, _, rfl, ite2 (fun h => ?_) (fun h => ?_)⟩
    · have hk : k < ns.length := by
        have := of_decide_eq_true h
        simp at this
        omega
      refine ⟨_, rfl, _, rfl, a, _, _, _, rfl, rfl, hx, atI_nat (j := k) (v := V.int (ns.getD k 0)) ?_, q⟩
      rw [List.getElem?_map, List.getD_eq_getElem?_getD, List.getElem?_eq_getElem hk]
      rfl
    · have hk : ns.length ≤ k := by
        have := of_decide_eq_false (Bool.eq_false_iff.mpr h)
        simp at this
        omega
      have e : ns.getD k 0 = 0 := by
        rw [List.getD_eq_getElem?_getD, List.getElem?_eq_none hk]
        rfl
      rw [e] at q
      exact q
def spNames : Sp := fun vs H Q _ => ∃ (c : Int) (m : Nat), vs = [.int c, .int m] ∧ m ≤ 8 ∧ ∀ l H', H l = none → H' l = some (.lst ((List.range m).map fun k : Nat => V.str (txt (nmK c (k : Int))))) → Same H H' → Q (.ref l) H'
theorem scNames : FnScope ["_law_cell", "_law_many", "_law_letters", "_law_many_signs", "_law_at", "_law_names", "_law_k", "_law_name", "_law_j", "_law_place"] ["_law_cell", "_law_many"] (defScope sNames) := ⟨rfl, rfl, rfl, by decide +kernel, rfl, by decide +kernel, by decide +kernel⟩
theorem ok_names {f : Addr} {fd : FuncData} (F : Fun K "_law_lands" "_law_lands" sNames f fd) (T : Txt mg) : FnOk P w K mg base CX0 1 f fd ["_law_cell", "_law_many"] spNames := by
  refine F.ok scNames (fun vs H Q E h => ?_) (fun cdv A outer s H vs Q E hr h => ?_)
  · obtain ⟨c, m, rfl, _⟩ := h
    rfl
  · obtain ⟨c, m, rfl, hm, q⟩ := h
    refine ⟨_, pss_cons (ps_set (i := 2) scNames.nd rfl (Or.inl rfl) pe_str)
      (pss_cons (ps_set (i := 3) scNames.nd rfl (Or.inl rfl) (pe_op op_add pe_int (pe_op op_mod (pv 0) pe_int)))
      (pss_cons (ps_set (i := 4) scNames.nd rfl (Or.inl rfl) (pe_op op_mod (pe_op op_fdiv (pv 0) pe_int) (pv 3)))
      (pss_cons (ps_set (i := 5) scNames.nd rfl (Or.inl rfl) (pe_lst pa_nil))
      (pss_cons (ps_for PassesOwn.never rfl (pi_range1 (by rfl) T.rng (pa_cons (pv 1) pa_nil)) (pg_name (i := 6) scNames.nd rfl (Or.inl rfl))
        (pss_cons (ps_set (i := 7) scNames.nd rfl (Or.inl rfl) pe_str)
        (pss_cons (ps_for PassesOwn.never rfl (pi_range1 (by rfl) T.rng (pa_cons (pv 3) pa_nil)) (pg_name (i := 8) scNames.nd rfl (Or.inl rfl))
          (pss_cons (ps_set (i := 9) scNames.nd rfl (Or.inl rfl) (pe_op op_add (pe_op op_add (pe_op op_fdiv (pv 0) pe_int) (pe_op op_mul (pe_op op_mul pe_int (pv 8)) (pv 8)))
              (pe_op op_mul (pe_op op_mul pe_int (pv 6)) (pe_callTy call_int1 (by rfl) T.int PyProof.Rows.boot_int (pa_cons (pe_cmpR op_eq (pv 8) (pv 4) (nomark _)) pa_nil)))))
          (pss_one (ps_set (i := 7) scNames.nd rfl (Or.inl rfl) (pe_op op_add_str (pv 7) (pe_ix ix_str (pv 2) (pe_op op_mod (pv 9) pe_int) (fun _ _ => rfl)))))))
        (pss_one (ps_expr (pe_bm PySem.F.plainAttrs_list PySem.F.slot_list_append PySem.F.type_list_append mt_append (pv 5) (pa_cons (pv 7) pa_nil)))))))
      (pss_one (ps_ret (pv 5))))))), ?_⟩
    have p8 : (0 : Int) < 8 := by decide
    have d8 : CDiv c 8 := ⟨by decide, by decide⟩
    have d64 : CDiv c 64 := ⟨by decide, by decide⟩
    have hms : 1 ≤ msn c ∧ msn c ≤ 8 := by unfold msn; omega
    have pm : (0 : Int) < 1 + c % 8 := by have := hms.1; unfold msn at this; omega
    refine ⟨_, rfl, _, _, rfl, rfl, p8, _, _, rfl, rfl, ?_⟩
    refine ⟨_, rfl, _, _, rfl, rfl, d8, _, rfl, _, _, rfl, rfl, pm, ?_⟩
    refine ⟨Nat.zero_le _, fun l hl => ?_⟩
    have s1 : Same H (upd H l (.lst [])) := Same.upd hl
    have m1 : -(2 ^ 62 : Int) ≤ m := by omega
    have m2 : (m : Int) < 2 ^ 62 := by omega
    have mm : ((m : Int)).toNat = m := by omega
    have n1 : -(2 ^ 62 : Int) ≤ 1 + c % 8 := by omega
    have n2 : (1 + c % 8 : Int) < 2 ^ 62 := by have := hms.2; unfold msn at this; omega
    refine ⟨_, rfl, _, rfl, m1, m2, for_range (lo := 0) (n := ((m : Int)).toNat) (fun i σ H2 => ∃ v6 v7 v8 v9, σ = [some (V.int c), some (V.int m), some (V.str LET), some (V.int (msn c)), some (V.int (atn c)), some (V.ref l), v6, v7, v8, v9] ∧ H2 l = some (.lst ((List.range i).map fun k : Nat => V.str (txt (nmK c (k : Int))))) ∧ Same H H2)
      ⟨none, none, none, none, rfl, upd_same, s1⟩ (fun i σ H2 hi h => ?_) (fun σ H2 h => ?_)⟩
    · obtain ⟨v6, v7, v8, v9, rfl, h1, h2⟩ := h
      rw [mm] at hi
      rw [Int.zero_add]
      refine ⟨_, rfl, _, rfl, n1, n2, for_range (lo := 0) (n := (msn c).toNat) (fun j σ H3 => ∃ v8 v9, σ = [some (V.int c), some (V.int m), some (V.str LET), some (V.int (msn c)), some (V.int (atn c)), some (V.ref l), some (V.int i), some (V.str (txt ((List.range j).map (sg c (atn c) i)))), v8, v9] ∧ H3 = H2)
        ⟨v8, v9, rfl, rfl⟩ (fun j σ H3 hj h => ?_) (fun σ H3 h => ?_)⟩
      · obtain ⟨v8, v9, rfl, rfl⟩ := h
        rw [Int.zero_add]
        have c1 : CMul 5 (j : Int) := .inl ⟨by decide, by decide⟩
        have c2 : CMul (5 * (j : Int)) (j : Int) := .inr (by omega)
        have c3 : CMul 3 (i : Int) := .inl ⟨by decide, by decide⟩
        have c4 : CMul (3 * (i : Int)) (if decide (V.int (j : Int) = V.int (atn c)) = true then 1 else 0) := .inl (by omega)
        have p26 : (0 : Int) < 26 := by decide
        refine ⟨_, rfl, _, _, rfl, rfl, d64, _, rfl, _, _, rfl, rfl, c1, _, rfl, _, _, rfl, rfl, c2, _, _, rfl, rfl, _, rfl, _, _, rfl, rfl, c3, _, rfl, _, rfl, rfl, .inr ⟨_, rfl, _, _, rfl, rfl, c4, _, _, rfl, rfl, ?_⟩⟩
        have ep : c / 64 + 5 * (j : Int) * j + 3 * (i : Int) * (if decide (V.int (j : Int) = V.int (atn c)) = true then 1 else 0) = pl c (atn c) i j := by
          unfold pl
          by_cases hh : (j : Int) = atn c
          · rw [if_pos hh, hh, if_pos (by simp)]
          · rw [if_neg hh, if_neg]
            simpa using hh
        have hb : 0 ≤ pl c (atn c) i j % 26 ∧ pl c (atn c) i j % 26 < 26 := by omega
        have ei : pl c (atn c) i j % 26 = ((pl c (atn c) i j % 26).toNat : Int) := by omega
        refine ⟨_, rfl, _, rfl, _, rfl, _, _, rfl, rfl, p26, LET, _, sg c (atn c) i j, rfl, rfl, small1000' (by decide), ?_, _, _, rfl, rfl, ?_, ?_⟩
        · show atI LET.cps.toList ((c / 64 + 5 * (j : Int) * j + 3 * (i : Int) * (if decide (V.int (j : Int) = V.int (atn c)) = true then 1 else 0)) % 26) = some (sg c (atn c) i j)
          rw [ep, ei]
          exact atI_nat (let_at _ (by omega))
        · rw [txt_len]
          refine small1000' ?_
          show _ + 1 ≤ 1000
          simp
          omega
        · have est : txt ((List.range (j + 1)).map (sg c (atn c) i)) = txt ((List.range j).map (sg c (atn c) i)) ++ (⟨#[sg c (atn c) i j]⟩ : Str) := by
            rw [txt_app, List.range_succ, List.map_append]
            rfl
          refine ⟨some (V.int (j : Int)), some (V.int (c / 64 + 5 * (j : Int) * j + 3 * (i : Int) * (if decide (V.int (j : Int) = V.int (atn c)) = true then 1 else 0))), ?_, rfl⟩
          rw [est]
          rfl
      · obtain ⟨v8, v9, rfl, rfl⟩ := h
        refine ⟨_, rfl, .inl ⟨rfl, _, SqL.of h1⟩, _, rfl, l, _, _, rfl, rfl, h1, small1000 (by simp; omega), ?_⟩
        refine ⟨_, _, _, _, rfl, ?_, fun b o e => ?_⟩
        · rw [upd_same, List.range_succ, List.map_append]
          rfl
        · rw [upd_ne (ne_of_none e hl)]
          exact h2 b o e
    · obtain ⟨v6, v7, v8, v9, rfl, h1, h2⟩ := h
      rw [mm] at h1
      exact ⟨_, rfl, q l H2 hl h1 h2⟩
def spEdge : Sp := fun vs H Q _ => ∃ (c l : Int), vs = [.int c, .int l] ∧ 0 ≤ l ∧ l ≤ 1 ∧ ∀ n H', l ≤ n → n ≤ 1000000000 → Same H H' → Q (.int n) H'
theorem scEdge : FnScope ["_law_cell", "_law_least"] ["_law_cell", "_law_least"] (defScope sEdge) := ⟨rfl, rfl, rfl, by decide +kernel, rfl, by decide +kernel, by decide +kernel⟩
theorem ok_edge {f : Addr} {fd : FuncData} (F : Fun K "_law_edge" "_law_edge" sEdge f fd) (T : Txt mg) : FnOk P w K mg base CX0 1 f fd ["_law_cell", "_law_least"] spEdge := by
  refine F.ok scEdge (fun vs H Q E h => ?_) (fun cdv A outer s H vs Q E hr h => ?_)
  · obtain ⟨c, l, rfl, _⟩ := h
    rfl
  · obtain ⟨c, l, rfl, l0, l1, q⟩ := h
    refine ⟨_, pss_one (ps_ret (pe_ix ix_list (pe_lst (pa_cons (pe_op op_add (pe_op op_mod (pv 0) (pe_op op_sub (pe_op op_add (pe_op op_pow pe_int pe_int) pe_int) (pv 1))) (pv 1)) (pa_cons (pv 1) (pa_cons (pe_op op_pow pe_int pe_int) (pa_cons (pe_op op_add (pv 1) pe_int) pa_nil)))))
      (pe_op op_mod (pe_op op_fdiv (pv 0) pe_int) pe_int) (fun _ _ => rfl))), ?_⟩
    have cp : CPow 10 9 := ⟨by decide, by decide, by decide⟩
    have ep : (10 : Int) ^ (9 : Int).toNat = 1000000000 := by decide
    have d7 : CDiv c 7 := ⟨by decide, by decide⟩
    have p4 : (0 : Int) < 4 := by decide
    have pp : (0 : Int) < (10 : Int) ^ (9 : Int).toNat + 1 - l := by rw [ep]; omega
    have four : (4 : Nat) ≤ sizeLine := small1000' (by decide)
    refine ⟨_, rfl, _, _, rfl, rfl, cp, _, _, rfl, rfl, _, rfl, _, _, rfl, rfl, _, _, rfl, rfl, pp, _, rfl, _, _, rfl, rfl, _, rfl, _, _, rfl, rfl, cp, _, rfl, _, _, rfl, rfl, four, fun a ha => ?_⟩
    refine ⟨_, rfl, _, _, rfl, rfl, d7, _, _, rfl, rfl, p4, ?_⟩
    dsimp only
    try rw [ep]
    have hq : ∀ n, l ≤ n → n ≤ 1000000000 → Q (.int n) (upd H a (.lst [.int (c % (1000000000 + 1 - l) + l), .int l, .int 1000000000, .int (l + 1)])) := fun n h1 h2 => q n _ h1 h2 (Same.upd ha)
    have hm : 0 ≤ c % (1000000000 + 1 - l) ∧ c % (1000000000 + 1 - l) < 1000000000 + 1 - l := ⟨Int.emod_nonneg _ (by omega), Int.emod_lt_of_pos _ (by omega)⟩
    have h4 : c / 7 % 4 = 0 ∨ c / 7 % 4 = 1 ∨ c / 7 % 4 = 2 ∨ c / 7 % 4 = 3 := by omega
    rcases h4 with e | e | e | e <;> rw [e]
    · exact ⟨a, _, _, _, rfl, rfl, SqL.of upd_same, atI_nat (j := 0) rfl, hq _ (by omega) (by omega)⟩
    · exact ⟨a, _, _, _, rfl, rfl, SqL.of upd_same, atI_nat (j := 1) rfl, hq _ (by omega) (by omega)⟩
    · exact ⟨a, _, _, _, rfl, rfl, SqL.of upd_same, atI_nat (j := 2) rfl, hq _ (by omega) (by omega)⟩
    · exact ⟨a, _, _, _, rfl, rfl, SqL.of upd_same, atI_nat (j := 3) rfl, hq _ (by omega) (by omega)⟩
end
end K11
set_option maxHeartbeats 4000000
namespace K11
open PySem L2
abbrev sMk : Stmt := top 31
abbrev sRef : Stmt := top 32
abbrev sKinds : Stmt := top 34
abbrev sWts : Stmt := top 35
theorem boot_VE : bootBuiltins "ValueError" = some (.type "ValueError") := by decide +kernel
section
variable {X : Cx}
theorem call_isiC : CallR X (.builtin "isinstance") (fun vs H Q => ∃ x c t cv b, vs = [x, c] ∧ TyOf X.K H x t ∧ RelV c cv ∧ (∀ u, RelV c u → u = cv) ∧ PySem.W.kitOne X.K t cv = some b ∧ Q (.bl b) H) := by
  intro pins s σ H xs us Q I r h
  obtain ⟨x, c, t, cv, b, rfl, ty, rc, uq, e, q⟩ := h
  obtain ⟨u, v, rfl, ru, rv⟩ := vals2 r
  obtain rfl : v = cv := uq v rv
  exact isinst_ok I ru ty e fun tk => ⟨.bl b, H, I.tok tk, rfl, q⟩
end
structure High (K : PySem.W.Frag) (mg : Str → Option Value) (fW fB fM fN fL fA eR : Addr) (dW dB dM dN dL dA : FuncData) (fw fR fX fS fI cR cW cS cI : Addr) (dw dR dX dS dI : FuncData) : Prop where
  M : Mid K mg fW fB fM fN fL fA eR dW dB dM dN dL dA
  FR : Fun K "__init__" "Rule.__init__" sRuleI fR dR
  bR : Binds K dR ["self", "lands", "most"] []
  mR : mg "Rule" = some (.ref cR)
  cfR : ClsFn K cR "__init__" fR
  mkR : Mk K cR fR
  FX : Fun K "__init__" "Within.__init__" sWithinI fX dX
  bX : Binds K dX ["self", "lands", "most", "span"] []
  mX : mg "Within" = some (.ref cW)
  mkX : Mk K cW fX
  FS : Fun K "__init__" "Since.__init__" sSinceI fS dS
  bS : Binds K dS ["self", "lands", "most", "leave"] []
  mS : mg "Since" = some (.ref cS)
  cfS : ClsFn K cS "__init__" fS
  mkS : Mk K cS fS
  FI : Fun K "__init__" "InRow.__init__" sInRowI fI dI
  bI : Binds K dI ["self", "lands", "most"] []
  mI : mg "InRow" = some (.ref cI)
  mkI : Mk K cI fI
  Fw : Fun K "weight" "Rule.weight" sRuleW fw dw
  bw : Binds K dw ["self", "land"] []
  kR : Kc K fw cR
  kW : Kc K fw cW
  kS : Kc K fw cS
  kI : Kc K fw cI
def Cof (cR cW cS cI : Addr) (kd : Nat) : Addr := if kd = 0 then cW else if kd = 1 then cS else if kd = 2 then cI else cR
def okK (kd : Nat) (dl dm dz : PyData) : Bool := areD dl && betD dm 0 1000000000 && (decide (2 ≤ kd) || betD dz 1 1000000000)
section
variable {P : Program} {w : World} {K : PySem.W.Frag} {mg : Str → Option Value} {base : Heap}
variable {fW fB fM fN fL fA eR : Addr} {dW dB dM dN dL dA : FuncData} {fw fR fX fS fI cR cW cS cI : Addr} {dw dR dX dS dI : FuncData}
theorem Hk (h : High K mg fW fB fM fN fL fA eR dW dB dM dN dL dA fw fR fX fS fI cR cW cS cI dw dR dX dS dI) (kd : Nat) : Kc K fw (Cof cR cW cS cI kd) := by
  unfold Cof
  split
  · exact h.kW
  split
  · exact h.kS
  split
  · exact h.kI
  exact h.kR
def spMk (cR cW cS cI eR : Addr) : Sp := fun vs H Q E => ∃ (kd : Nat) (x y z : V) (dl dm dz : PyData), vs = [.int kd, x, y, z] ∧ kd ≤ 3 ∧ DX H dl x ∧ DX H dm y ∧ DX H dz z ∧
  (okK kd dl dm dz = true → ∀ (a : Addr) (xs : List V) (p dx t : Addr) (fs : List (Str × V)) (H' : Hp), x = .ref a → H a = some (.lst xs) → H p = none → H' p = some (.ins (Cof cR cW cS cI kd) dx fs) → fs.lookup ("lands" : Str) = some (.ref t) → fs.lookup ("weight" : Str) = none → H' t = some (.tup xs) → Same H H' → Q (.ref p) H') ∧
  (okK kd dl dm dz = false → ∀ H', Same H H' → E (.ref eR) none H')
theorem scMk : FnScope ["_law_kind", "_law_lands_here", "_law_top", "_law_days"] ["_law_kind", "_law_lands_here", "_law_top", "_law_days"] (defScope sMk) := ⟨rfl, rfl, rfl, by decide +kernel, rfl, by decide +kernel, by decide +kernel⟩
theorem fresh {H : Hp} {p dx C : Addr} {fs : List (Str × V)} (hp : H p = none) (hd : H dx = none) : Same H (upd (upd H dx (.own p)) p (.ins C dx fs)) := fun b u e => by
  rw [upd_ne (ne_of_none e hp), upd_ne (ne_of_none e hd)]
  exact e
theorem keep_same {H H0 H' : Hp} {p : Addr} (hp : H p = none) (s : Same H H0) (k : Keep p H0 H') : Same H H' := fun b u e => k b u (ne_of_none e hp) (s b u e)
theorem same_lst {H H0 : Hp} {a : Addr} {xs : List V} {dl : PyData} (s : Same H H0) (ok : areD dl = true) (hl : DX H dl (.ref a)) (h : H0 a = some (.lst xs)) : H a = some (.lst xs) := by
  obtain ⟨b, ys, e, hb⟩ := areD_list ok hl
  cases e
  have := s _ _ hb
  rw [h] at this
  cases this
  exact hb
theorem ok_mk {f : Addr} {fd : FuncData} (F : Fun K "_law_made" "_law_made" sMk f fd) (h : High K mg fW fB fM fN fL fA eR dW dB dM dN dL dA fw fR fX fS fI cR cW cS cI dw dR dX dS dI) :
    FnOk P w K mg base (CX1 P w) 9 f fd ["_law_kind", "_law_lands_here", "_law_top", "_law_days"] (spMk cR cW cS cI eR) := by
  refine F.okx scMk (fun vs H Q E h => ?_) (fun cdv A outer s H vs Q E hr hh => ?_)
  · obtain ⟨kd, x, y, z, dl, dm, dz, rfl, _⟩ := h
    rfl
  · obtain ⟨kd, x, y, z, dl, dm, dz, rfl, hkd, hl, hm, hz, k1, k2⟩ := hh
    refine ⟨_, pss_cons (ps_if (pt_cmpR op_eq (pv 0) pe_int (nomark _)) (pss_one (ps_ret (pe_make h.mkX (ok_withinI (fw := fw) h.FX h.M h.FR h.bR h.mR h.cfR) (hr.mono (by decide)) (by rfl) h.mX h.bX .nil (cx_pass (E2 := E) fun _ _ _ h => h) (pa_cons (pv 1) (pa_cons (pv 2) (pa_cons (pv 3) pa_nil)))))) pss_nil)
      (pss_cons (ps_if (pt_cmpR op_eq (pv 0) pe_int (nomark _)) (pss_one (ps_ret (pe_make h.mkS (ok_sinceI (fw := fw) h.FS h.M h.FR h.bR h.mR h.cfR) (hr.mono (by decide)) (by rfl) h.mS h.bS .nil (cx_pass (E2 := E) fun _ _ _ h => h) (pa_cons (pv 1) (pa_cons (pv 2) (pa_cons (pv 3) pa_nil)))))) pss_nil)
      (pss_cons (ps_if (pt_cmpR op_eq (pv 0) pe_int (nomark _)) (pss_one (ps_ret (pe_make h.mkI (ok_inRowI (fw := fw) h.FI h.M h.FR h.bR h.mR h.cfR h.FS h.bS h.mS h.cfS) (hr.mono (by decide)) (by rfl) h.mI h.bI .nil (cx_pass (E2 := E) fun _ _ _ h => h) (pa_cons (pv 1) (pa_cons (pv 2) pa_nil))))) pss_nil)
      (pss_one (ps_ret (pe_make h.mkR (ok_ruleI (fw := fw) h.FR h.M) (hr.mono (by decide)) (by rfl) h.mR h.bR .nil (cx_pass (E2 := E) fun _ _ _ h => h) (pa_cons (pv 1) (pa_cons (pv 2) pa_nil))))))), ?_⟩
    have ne : ∀ n : Nat, decide (V.int (kd : Int) = V.int (n : Int)) = true → kd = n := fun n e => by
      have e1 := of_decide_eq_true e
      injection e1 with e2
      omega
    have nn : ∀ n : Nat, ¬ decide (V.int (kd : Int) = V.int (n : Int)) = true → kd ≠ n := fun n e z => by
      subst z
      exact e (decide_eq_true rfl)
    refine ⟨_, rfl, rfl, _, rfl, ite2 (fun h0 => ?_) (fun h0 => ?_)⟩
    · have e0 := ne 0 h0
      subst e0
      refine ⟨_, rfl, _, rfl, _, rfl, fun p dx hp hdx hne => ?_⟩
      have sm : Same H (upd (upd H dx (.own p)) p (.ins cW dx [])) := fresh hp hdx
      refine ⟨cW, p, dx, x, y, z, dl, dm, dz, rfl, h.kW, upd_same, hl.same sm, hm.same sm, hz.same sm, fun ok a xs t H1 ex hx ht hp1 kp => ⟨rfl, ?_⟩, fun no H1 kp => ?_⟩
      · have oa : areD dl = true := by simp only [Bool.and_eq_true] at ok; exact ok.1.1
        subst ex
        exact k1 (by simpa [okK] using ok) a xs p dx t _ H1 rfl (same_lst sm oa hl hx) hp hp1 rfl rfl ht (keep_same hp sm kp)
      · exact k2 (by simpa [okK] using no) H1 (keep_same hp sm kp)
    have n0 := nn 0 h0
    refine ⟨_, rfl, rfl, _, rfl, ite2 (fun h1 => ?_) (fun h1 => ?_)⟩
    · have e0 := ne 1 h1
      subst e0
      refine ⟨_, rfl, _, rfl, _, rfl, fun p dx hp hdx hne => ?_⟩
      have sm : Same H (upd (upd H dx (.own p)) p (.ins cS dx [])) := fresh hp hdx
      refine ⟨cS, p, dx, x, y, z, dl, dm, dz, rfl, h.kS, upd_same, hl.same sm, hm.same sm, hz.same sm, fun ok a xs t H1 ex hx ht hp1 kp => ⟨rfl, ?_⟩, fun no H1 kp => ?_⟩
      · have oa : areD dl = true := by simp only [Bool.and_eq_true] at ok; exact ok.1.1
        subst ex
        exact k1 (by simpa [okK] using ok) a xs p dx t _ H1 rfl (same_lst sm oa hl hx) hp hp1 rfl rfl ht (keep_same hp sm kp)
      · exact k2 (by simpa [okK] using no) H1 (keep_same hp sm kp)
    have n1 := nn 1 h1
    have e2 : decide (2 ≤ kd) = true := decide_eq_true (by omega)
    have eok : okK kd dl dm dz = (areD dl && betD dm 0 1000000000) := by unfold okK; rw [e2]; simp
    refine ⟨_, rfl, rfl, _, rfl, ite2 (fun h2 => ?_) (fun h2 => ?_)⟩
    · have e0 := ne 2 h2
      subst e0
      refine ⟨_, rfl, _, rfl, fun p dx hp hdx hne => ?_⟩
      have sm : Same H (upd (upd H dx (.own p)) p (.ins cI dx [])) := fresh hp hdx
      refine ⟨cI, p, dx, x, y, dl, dm, rfl, h.kI, upd_same, hl.same sm, hm.same sm, fun ok a xs t H1 ex hx ht hp1 kp => ⟨rfl, ?_⟩, fun no H1 kp => ?_⟩
      · have oa : areD dl = true := by simp only [Bool.and_eq_true] at ok; exact ok.1
        subst ex
        exact k1 (eok.trans ok) a xs p dx t _ H1 rfl (same_lst sm oa hl hx) hp hp1 rfl rfl ht (keep_same hp sm kp)
      · exact k2 (eok.trans no) H1 (keep_same hp sm kp)
    have n2 := nn 2 h2
    have eC : Cof cR cW cS cI kd = cR := by unfold Cof; rw [if_neg n0, if_neg n1, if_neg n2]
    rw [eC] at k1
    refine ⟨_, rfl, _, rfl, fun p dx hp hdx hne => ?_⟩
    have sm : Same H (upd (upd H dx (.own p)) p (.ins cR dx [])) := fresh hp hdx
    refine ⟨cR, p, dx, x, y, dl, dm, rfl, h.kR, upd_same, hl.same sm, hm.same sm, fun ok a xs t H1 ex hx ht hp1 kp => ⟨rfl, ?_⟩, fun no H1 kp => ?_⟩
    · have oa : areD dl = true := by simp only [Bool.and_eq_true] at ok; exact ok.1
      subst ex
      exact k1 (eok.trans ok) a xs p dx t _ H1 rfl (same_lst sm oa hl hx) hp hp1 rfl rfl ht (keep_same hp sm kp)
    · exact k2 (eok.trans no) H1 (keep_same hp sm kp)
structure Er (K : PySem.W.Frag) (mg : Str → Option Value) (eR eD eP eS eL eW eE eT eO : Addr) : Prop where
  is : ExcIs K eR
  exm : PySem.W.exmOne K (.ref eR) (.ref eR) = some true
  mD : mg "DayError" = some (.ref eD)
  mP : mg "NoPaper" = some (.ref eP)
  mS : mg "NoStay" = some (.ref eS)
  mL : mg "NotLet" = some (.ref eL)
  mW : mg "NoWish" = some (.ref eW)
  mE : mg "NoDeed" = some (.ref eE)
  mT : mg "NoText" = some (.ref eT)
  mO : mg "NoRow" = some (.ref eO)
  kD : PySem.W.kitOne K (.ref eR) (.ref eD) = some true
  kV : PySem.W.kitOne K (.ref eR) (.type "ValueError") = some true
  kP : PySem.W.kitOne K (.ref eR) (.ref eP) = some false
  kS : PySem.W.kitOne K (.ref eR) (.ref eS) = some false
  kL : PySem.W.kitOne K (.ref eR) (.ref eL) = some false
  kW : PySem.W.kitOne K (.ref eR) (.ref eW) = some false
  kE : PySem.W.kitOne K (.ref eR) (.ref eE) = some false
  kT : PySem.W.kitOne K (.ref eR) (.ref eT) = some false
  kO : PySem.W.kitOne K (.ref eR) (.ref eO) = some false
def spRef : Sp := fun vs H Q _ => ∃ (kd : Nat) (x y z : V) (dl dm dz : PyData), vs = [.int kd, x, y, z] ∧ kd ≤ 3 ∧ DX H dl x ∧ DX H dm y ∧ DX H dz z ∧ okK kd dl dm dz = false ∧ ∀ H', Same H H' → Q (.bl true) H'
theorem scRef : FnScope ["_law_kind", "_law_lands_here", "_law_top", "_law_days", "_law_error", "e", "_law_one", "_law_other", "_law_others"] ["_law_kind", "_law_lands_here", "_law_top", "_law_days"] (defScope sRef) := ⟨rfl, rfl, rfl, by decide +kernel, rfl, by decide +kernel, by decide +kernel⟩
theorem ok_ref {f fK eD eP eS eL eW eE eT eO : Addr} {fd dK : FuncData} (F : Fun K "_law_refused" "_law_refused" sRef f fd) (h : High K mg fW fB fM fN fL fA eR dW dB dM dN dL dA fw fR fX fS fI cR cW cS cI dw dR dX dS dI)
    (FK : Fun K "_law_made" "_law_made" sMk fK dK) (bK : Binds K dK ["_law_kind", "_law_lands_here", "_law_top", "_law_days"] []) (mK : mg "_law_made" = some (.ref fK)) (e : Er K mg eR eD eP eS eL eW eE eT eO) :
    FnOk P w K mg base CX0 10 f fd ["_law_kind", "_law_lands_here", "_law_top", "_law_days"] spRef := by
  refine F.ok scRef (fun vs H Q E h => ?_) (fun cdv A outer s H vs Q E hr hh => ?_)
  · obtain ⟨kd, x, y, z, dl, dm, dz, rfl, _⟩ := h
    rfl
  · obtain ⟨kd, x, y, z, dl, dm, dz, rfl, hkd, hl, hm, hz, no, q⟩ := hh
    have T := h.M.L.T
    refine ⟨_, pss_cons (ps_set (i := 4) scRef.nd rfl (Or.inl rfl) pe_non)
      (pss_cons (ps_try1 (i := 5) (pex_call (ok_mk FK h) hr (by rfl) mK FK.kp bK .nil (pa_cons (pv 0) (pa_cons (pv 1) (pa_cons (pv 2) (pa_cons (pv 3) pa_nil))))) ⟨rfl, rfl⟩ rfl (by rfl) h.M.N.m scRef.nd rfl rfl (fun x => pss_one (ps_set (i := 4) scRef.nd rfl (Or.inl rfl) (pv 5))))
      (pss_cons (ps_set (i := 6) scRef.nd rfl (Or.inl rfl) (pe_or (pe_callB call_isiE (by rfl) T.isi PyProof.Rows.boot_isinstance (pa_cons (pv 4) (pa_cons (pe_glob (v := .ref eP) (by rfl) e.mP rfl) pa_nil)))
        (pe_or (pe_callB call_isiE (by rfl) T.isi PyProof.Rows.boot_isinstance (pa_cons (pv 4) (pa_cons (pe_glob (v := .ref eS) (by rfl) e.mS rfl) pa_nil)))
        (pe_one (pe_callB call_isiE (by rfl) T.isi PyProof.Rows.boot_isinstance (pa_cons (pv 4) (pa_cons (pe_glob (v := .ref eL) (by rfl) e.mL rfl) pa_nil)))))))
      (pss_cons (ps_set (i := 7) scRef.nd rfl (Or.inl rfl) (pe_or (pe_callB call_isiE (by rfl) T.isi PyProof.Rows.boot_isinstance (pa_cons (pv 4) (pa_cons (pe_glob (v := .ref eW) (by rfl) e.mW rfl) pa_nil)))
        (pe_or (pe_callB call_isiE (by rfl) T.isi PyProof.Rows.boot_isinstance (pa_cons (pv 4) (pa_cons (pe_glob (v := .ref eE) (by rfl) e.mE rfl) pa_nil)))
        (pe_one (pe_callB call_isiE (by rfl) T.isi PyProof.Rows.boot_isinstance (pa_cons (pv 4) (pa_cons (pe_glob (v := .ref eT) (by rfl) e.mT rfl) pa_nil)))))))
      (pss_cons (ps_set (i := 8) scRef.nd rfl (Or.inl rfl) (pe_or (pv 6) (pe_or (pv 7) (pe_one (pe_callB call_isiE (by rfl) T.isi PyProof.Rows.boot_isinstance (pa_cons (pv 4) (pa_cons (pe_glob (v := .ref eO) (by rfl) e.mO rfl) pa_nil)))))))
      (pss_one (ps_ret (pe_and (pe_callB call_isiE (by rfl) T.isi PyProof.Rows.boot_isinstance (pa_cons (pv 4) (pa_cons (pe_glob (v := .ref eD) (by rfl) e.mD rfl) pa_nil)))
        (pe_and (pe_callB call_isiE (by rfl) T.isi PyProof.Rows.boot_isinstance (pa_cons (pv 4) (pa_cons (pe_bltn (v := .ty "ValueError") (by rfl) T.ve boot_VE rfl) pa_nil)))
        (pe_one (pe_not (pv 8))))))))))), ?_⟩
    refine ⟨_, rfl, _, rfl, _, rfl, _, rfl, kd, x, y, z, dl, dm, dz, rfl, hkd, hl, hm, hz, (fun ok => by rw [no] at ok; cases ok), fun _ H1 sm => ?_⟩
    refine ⟨eR, rfl, e.exm, fun ex hex => ⟨_, rfl, ?_⟩⟩
    have hX : upd H1 ex (excN ex eR) ex = some (excN ex eR) := upd_same
    have sm2 : Same H (upd H1 ex (excN ex eR)) := sm.trans (Same.upd hex)
    generalize upd H1 ex (excN ex eR) = H2 at hX sm2
    have uR : ∀ (c : Addr) (u : Value), RelV (.ref c) u → u = .ref c := fun c u r => r
    have uT : ∀ (n : String) (u : Value), RelV (.ty n) u → u = .type n := fun c u r => r
    refine ⟨_, rfl, ex, eR, .ref eP, .ref eP, false, rfl, hX, e.is, rfl, uR _, e.kP, _, rfl, ?_⟩
    refine ⟨_, rfl, ex, eR, .ref eS, .ref eS, false, rfl, hX, e.is, rfl, uR _, e.kS, _, rfl, ?_⟩
    refine ⟨_, rfl, ex, eR, .ref eL, .ref eL, false, rfl, hX, e.is, rfl, uR _, e.kL, ?_⟩
    refine ⟨_, rfl, ex, eR, .ref eW, .ref eW, false, rfl, hX, e.is, rfl, uR _, e.kW, _, rfl, ?_⟩
    refine ⟨_, rfl, ex, eR, .ref eE, .ref eE, false, rfl, hX, e.is, rfl, uR _, e.kE, _, rfl, ?_⟩
    refine ⟨_, rfl, ex, eR, .ref eT, .ref eT, false, rfl, hX, e.is, rfl, uR _, e.kT, ?_⟩
    refine ⟨_, rfl, _, rfl, ?_⟩
    refine ⟨_, rfl, _, rfl, ?_⟩
    refine ⟨_, rfl, ex, eR, .ref eO, .ref eO, false, rfl, hX, e.is, rfl, uR _, e.kO, ?_⟩
    refine ⟨_, rfl, ex, eR, .ref eD, .ref eD, true, rfl, hX, e.is, rfl, uR _, e.kD, _, rfl, ?_⟩
    refine ⟨_, rfl, ex, eR, .ty "ValueError", .type "ValueError", true, rfl, hX, e.is, rfl, uT _, e.kV, _, rfl, ?_⟩
    exact ⟨_, rfl, _, rfl, q _ sm2⟩
structure Kt (K : PySem.W.Frag) (C cR cW cS cI : Addr) (b1 b2 b3 b4 : Bool) : Prop where
  r : PySem.W.kitOne K (.ref C) (.ref cR) = some b1
  w : PySem.W.kitOne K (.ref C) (.ref cW) = some b2
  s : PySem.W.kitOne K (.ref C) (.ref cS) = some b3
  i : PySem.W.kitOne K (.ref C) (.ref cI) = some b4
structure Kall (K : PySem.W.Frag) (cR cW cS cI : Addr) : Prop where
  R : Kt K cR cR cW cS cI true false false false
  W : Kt K cW cR cW cS cI true true false false
  S : Kt K cS cR cW cS cI true false true false
  I : Kt K cI cR cW cS cI true false true true
  n : PySem.W.specialIn K (.builtin "object.__class__") "__get__" = some (some (.builtin "getset_descriptor.__get__"))
  tk : PySem.W.takesIn K (.builtin "object.__class__") = some true
def bK (kd i : Nat) : Bool := i == 0 || (kd == 0 && i == 1) || (kd == 1 && i == 2) || (kd == 2 && (i == 2 || i == 3))
theorem Kall.at {cR cW cS cI : Addr} (k : Kall K cR cW cS cI) (kd : Nat) (h : kd ≤ 3) : Kt K (Cof cR cW cS cI kd) cR cW cS cI (bK kd 0) (bK kd 1) (bK kd 2) (bK kd 3) := by
  match kd, h with
  | 0, _ => exact k.W
  | 1, _ => exact k.S
  | 2, _ => exact k.I
  | 3, _ => exact k.R
def spKinds (cR cW cS cI : Addr) : Sp := fun vs H Q _ => ∃ (kd : Nat) (p dx : Addr) (fs : List (Str × V)), vs = [.ref p] ∧ kd ≤ 3 ∧ H p = some (.ins (Cof cR cW cS cI kd) dx fs) ∧ ∀ l H', H' l = some (.lst [.bl (bK kd 0), .bl (bK kd 1), .bl (bK kd 2), .bl (bK kd 3)]) → Same H H' → Q (.ref l) H'
theorem scKinds : FnScope ["_law_rule"] ["_law_rule"] (defScope sKinds) := ⟨rfl, rfl, rfl, by decide +kernel, rfl, by decide +kernel, by decide +kernel⟩
theorem ok_kinds {f : Addr} {fd : FuncData} (F : Fun K "_law_kinds" "_law_kinds" sKinds f fd) (h : High K mg fW fB fM fN fL fA eR dW dB dM dN dL dA fw fR fX fS fI cR cW cS cI dw dR dX dS dI) (ka : Kall K cR cW cS cI) :
    FnOk P w K mg base CX0 1 f fd ["_law_rule"] (spKinds cR cW cS cI) := by
  refine F.ok scKinds (fun vs H Q E h => ?_) (fun cdv A outer s H vs Q E hr hh => ?_)
  · obtain ⟨kd, p, dx, fs, rfl, _⟩ := h
    rfl
  · obtain ⟨kd, p, dx, fs, rfl, hkd, hp, q⟩ := hh
    have T := h.M.L.T
    refine ⟨_, pss_one (ps_ret (pe_lst (pa_cons (pe_callB call_isiC (by rfl) T.isi PyProof.Rows.boot_isinstance (pa_cons (pv 0) (pa_cons (pe_glob (v := .ref cR) (by rfl) h.mR rfl) pa_nil)))
      (pa_cons (pe_callB call_isiC (by rfl) T.isi PyProof.Rows.boot_isinstance (pa_cons (pv 0) (pa_cons (pe_glob (v := .ref cW) (by rfl) h.mX rfl) pa_nil)))
      (pa_cons (pe_callB call_isiC (by rfl) T.isi PyProof.Rows.boot_isinstance (pa_cons (pv 0) (pa_cons (pe_glob (v := .ref cS) (by rfl) h.mS rfl) pa_nil)))
      (pa_cons (pe_callB call_isiC (by rfl) T.isi PyProof.Rows.boot_isinstance (pa_cons (pv 0) (pa_cons (pe_glob (v := .ref cI) (by rfl) h.mI rfl) pa_nil))) pa_nil)))))), ?_⟩
    have kc := Hk h kd
    have kt := ka.at kd hkd
    have ty : TyOf K H (.ref p) (.ref (Cof cR cW cS cI kd)) := .ins hp kc.cls kc.t1 ka.n ka.tk kc.t4
    have uR : ∀ (c : Addr) (u : Value), RelV (.ref c) u → u = .ref c := fun c u r => r
    refine ⟨_, rfl, _, .ref cR, _, .ref cR, _, rfl, ty, rfl, uR _, kt.r, _, rfl, _, .ref cW, _, .ref cW, _, rfl, ty, rfl, uR _, kt.w, _, rfl, _, .ref cS, _, .ref cS, _, rfl, ty, rfl, uR _, kt.s, _, rfl, _, .ref cI, _, .ref cI, _, rfl, ty, rfl, uR _, kt.i, small1000' (by show 4 ≤ 1000; decide), fun l hl => ?_⟩
    exact q l _ upd_same (Same.upd hl)
theorem wtOf_is (y : V) : ∀ ls : List (Str × Int), (∃ q ∈ ls, V.str q.1 = y ∧ wtOf ls y = q.2) ∨ ((∀ q ∈ ls, V.str q.1 ≠ y) ∧ wtOf ls y = 0)
  | [] => .inr ⟨(fun _ h => nomatch h), rfl⟩
  | q :: ls => by
    by_cases h : V.str q.1 = y
    · exact .inl ⟨q, List.mem_cons_self, h, by rw [wtOf, if_pos h]⟩
    · rcases wtOf_is y ls with ⟨p, hp, e1, e2⟩ | ⟨n, e⟩
      · exact .inl ⟨p, List.mem_cons_of_mem _ hp, e1, by rw [wtOf, if_neg h, e2]⟩
      · exact .inr ⟨fun p hp => by rcases List.mem_cons.mp hp with rfl | hp; exact h; exact n p hp, by rw [wtOf, if_neg h, e]⟩
def spWts (K : PySem.W.Frag) (fw : Addr) : Sp := fun vs H Q _ => ∃ (C p dx t a n : Addr) (fs : List (Str × V)) (xs ys : List V) (ls : List (Str × Int)), vs = [.ref p, .ref a, .ref n] ∧ Kc K fw C ∧ H p = some (.ins C dx fs) ∧ fs.lookup ("lands" : Str) = some (.ref t) ∧ fs.lookup ("weight" : Str) = none ∧ H t = some (.tup xs) ∧
  PySem.Paired (LP H) xs ls ∧ H a = some (.lst xs) ∧ (ls.map (·.1)).Nodup ∧ H n = some (.lst ys) ∧ (∀ y ∈ ys, y = .non ∨ ∃ z, y = .str z) ∧ Q (.bl true) H
theorem scWts : FnScope ["_law_rule", "_law_lands_here", "_law_names", "_law_name", "_law_due", "_law_land", "_law_weight", "_law_found"] ["_law_rule", "_law_lands_here", "_law_names"] (defScope sWts) := ⟨rfl, rfl, rfl, by decide +kernel, rfl, by decide +kernel, by decide +kernel⟩
theorem nodup_at {ls : List (Str × Int)} (h : (ls.map (·.1)).Nodup) {i j : Nat} {p q : Str × Int} (hi : ls[i]? = some p) (hj : ls[j]? = some q) (e : p.1 = q.1) : i = j := by
  obtain ⟨li, e1⟩ := List.getElem?_eq_some_iff.mp hi
  obtain ⟨lj, e2⟩ := List.getElem?_eq_some_iff.mp hj
  have h2 := List.pairwise_iff_getElem.mp (List.pairwise_map.mp h)
  rcases Nat.lt_trichotomy i j with hl | hl | hl
  · exact absurd (by rw [e1, e2, e]) (h2 i j li lj hl)
  · exact hl
  · exact absurd (by rw [e1, e2, e]) (h2 j i lj li hl)
theorem ok_wts {f : Addr} {fd : FuncData} (F : Fun K "_law_weights" "_law_weights" sWts f fd) (h : High K mg fW fB fM fN fL fA eR dW dB dM dN dL dA fw fR fX fS fI cR cW cS cI dw dR dX dS dI) :
    FnOk P w K mg base CX0 3 f fd ["_law_rule", "_law_lands_here", "_law_names"] (spWts K fw) := by
  refine F.ok scWts (fun vs H Q E h => ?_) (fun cdv A outer s H vs Q E hr hh => ?_)
  · obtain ⟨C, p, dx, t, a, n, fs, xs, ys, ls, rfl, _⟩ := h
    rfl
  · obtain ⟨C, p, dx, t, a, n, fs, xs, ys, ls, rfl, c, hp, lk, lw, ht, hq, ha, nd, hn, hy, q⟩ := hh
    have T := h.M.L.T
    refine ⟨_, pss_cons (ps_for PassesOwn.never rfl (pi_list (pv 2)) (pg_name (i := 3) scWts.nd rfl (Or.inl rfl))
        (pss_cons (ps_set (i := 4) scWts.nd rfl (Or.inl rfl) pe_int)
        (pss_cons (ps_for PassesOwn.never rfl (pi_list (pv 1)) (pg_tup rfl (pgs_cons (pg_name (i := 5) scWts.nd rfl (Or.inl rfl)) (pgs_cons (pg_name (i := 6) scWts.nd rfl (Or.inl rfl)) pgs_nil)))
          (pss_one (ps_if (pt_cmpR op_eq (pv 5) (pv 3) (nomark _)) (pss_one (ps_set (i := 4) scWts.nd rfl (Or.inl rfl) (pv 6))) pss_nil)))
        (pss_cons (ps_set (i := 7) scWts.nd rfl (Or.inl rfl) (pe_meth (pv 0) c.cls c.wt (ok_weight (fw := fw) h.Fw) (hr.mono (by decide)) h.bw .nil pass0 (pa_cons (pv 3) pa_nil)))
        (pss_one (ps_if (PW.pt (pw_or (pt_not (pt_val (pe_callB call_isi (by rfl) T.isi PyProof.Rows.boot_isinstance (pa_cons (pv 7) (pa_cons (pe_bltn (v := .ty "int") (by rfl) T.int PyProof.Rows.boot_int rfl) pa_nil)))))
          (pw_or (pt_val (pe_callB call_isi (by rfl) T.isi PyProof.Rows.boot_isinstance (pa_cons (pv 7) (pa_cons (pe_bltn (v := .ty "bool") (by rfl) T.bool PyProof.Rows.boot_bool rfl) pa_nil))))
          (pw_or1 (pt_cmpR op_ne (pv 7) (pv 4) (nomark _)))))) (pss_one (ps_ret pe_bl)) pss_nil))))))
      (pss_one (ps_ret pe_bl)), ?_⟩
    have hxl : xs.length = ls.length := Paired.length hq
    refine ⟨_, rfl, n, rfl, ⟨_, SqL.of hn⟩, for_list (K := K) (a := n) (xs := ys) (fun i σ H2 => ∃ v3 v4 v5 v6 v7, σ = [some (V.ref p), some (V.ref a), some (V.ref n), v3, v4, v5, v6, v7] ∧ H2 = H)
      ⟨none, none, none, none, none, rfl, rfl⟩ (fun i σ H2 _ h => ?_) (fun i y σ H2 hi h => ?_) (fun σ H2 h => ?_)⟩
    · obtain ⟨v3, v4, v5, v6, v7, rfl, rfl⟩ := h
      exact SqL.of hn
    · obtain ⟨v3, v4, v5, v6, v7, rfl, rfl⟩ := h
      have hy1 := hy y (List.mem_of_getElem? hi)
      refine ⟨_, rfl, a, rfl, ⟨_, SqL.of ha⟩, for_list (K := K) (a := a) (xs := xs) (fun j σ H3 => ∃ (g : Int) (v5 v6 : Option V), σ = [some (V.ref p), some (V.ref a), some (V.ref n), some y, some (V.int g), v5, v6, v7] ∧ H3 = H2 ∧
          (∀ (k : Nat) (q : Str × Int), k < j → ls[k]? = some q → V.str q.1 = y → g = q.2) ∧ ((∀ (k : Nat) (q : Str × Int), k < j → ls[k]? = some q → V.str q.1 ≠ y) → g = 0))
        ⟨0, v5, v6, rfl, rfl, (fun k q h => by omega), fun _ => rfl⟩ (fun j σ H3 _ h => ?_) (fun j x σ H3 hj h => ?_) (fun σ H3 h => ?_)⟩
      · obtain ⟨g, v5, v6, rfl, rfl, _⟩ := h
        exact SqL.of ha
      · obtain ⟨g, v5, v6, rfl, rfl, g1, g2⟩ := h
        obtain ⟨r, er, u, rfl, hu⟩ := Paired.atL hq hj
        refine ⟨u, _, rfl, SqT.of hu, rfl, _, _, rfl, _, _, rfl, rfl, ?_⟩
        have sc : scal (V.str r.1) y = true := by
          rcases hy1 with rfl | ⟨z, rfl⟩ <;> rfl
        refine ⟨_, rfl, _, rfl, sc, _, rfl, ite2 (fun he => ?_) (fun he => ?_)⟩
        · have he := of_decide_eq_true he
          refine ⟨_, rfl, _, _, _, rfl, rfl, fun k q hk ek eq => ?_, fun hno => absurd he (hno j r (by omega) er)⟩
          have e1 : r.1 = q.1 := by
            rw [← eq] at he
            injection he
          have := nodup_at nd er ek e1
          subst this
          rw [er] at ek
          cases ek
          rfl
        · have he : ¬ V.str r.1 = y := fun z => he (decide_eq_true z)
          refine ⟨_, _, _, rfl, rfl, fun k q hk ek eq => ?_, fun hno => g2 fun k q hk ek => hno k q (by omega) ek⟩
          by_cases hkj : k = j
          · subst hkj
            rw [er] at ek
            cases ek
            exact absurd eq he
          · exact g1 k q (by omega) ek eq
      · obtain ⟨g, v5, v6, rfl, rfl, g1, g2⟩ := h
        have eg : wtOf ls y = g := by
          rcases wtOf_is y ls with ⟨q, hq1, e1, e2⟩ | ⟨no, e2⟩
          · obtain ⟨k, hk, ek⟩ := List.mem_iff_getElem.mp hq1
            rw [e2]
            exact (g1 k q (by omega) (by rw [List.getElem?_eq_getElem hk, ek]) e1).symm
          · rw [e2]
            exact (g2 fun k q hk ek => no q (List.mem_of_getElem? ek)).symm
        refine ⟨_, rfl, p, dx, fs, rfl, hp, lw, _, rfl, C, p, dx, t, fs, xs, ls, y, rfl, c, hp, lk, ht, hq, hy1, ?_⟩
        refine ⟨_, rfl, _, _, _, _, rfl, .int _, rfl, _, rfl, ?_⟩
        refine ⟨_, rfl, _, _, _, _, rfl, .int _, rfl, _, rfl, ?_⟩
        refine ⟨_, rfl, _, rfl, rfl, _, rfl, ?_⟩
        rw [eg, decide_eq_true rfl]
        exact ⟨_, _, _, _, _, rfl, rfl⟩
    · obtain ⟨v3, v4, v5, v6, v7, rfl, rfl⟩ := h
      exact q
end
end K11
set_option maxHeartbeats 4000000
namespace K11
open PySem L2
abbrev sBad : Stmt := top 33
theorem dx_tup {H : Hp} {t : Addr} {ds : List PyData} {xs : List V} (ht : H t = none) (h : DXs H ds xs) : DX (upd H t (.tup xs)) (.tuple ds) (.ref t) := by
  simp only [DX]
  exact ⟨t, xs, rfl, upd_same, h.same (Same.upd ht)⟩
theorem dx_lst {H : Hp} {t : Addr} {ds : List PyData} {xs : List V} (ht : H t = none) (h : DXs H ds xs) : DX (upd H t (.lst xs)) (.list ds) (.ref t) := by
  simp only [DX]
  exact ⟨t, xs, rfl, upd_same, h.same (Same.upd ht)⟩
theorem dxs_snoc {H : Hp} : ∀ {ds : List PyData} {xs : List V} {d : PyData} {x : V}, DXs H ds xs → DX H d x → DXs H (ds ++ [d]) (xs ++ [x])
  | [], xs, d, x, h, hd => by
    simp only [DXs] at h
    subst h
    simp only [List.nil_append, DXs]
    exact ⟨x, [], rfl, hd, rfl⟩
  | e :: ds, xs, d, x, h, hd => by
    simp only [DXs] at h
    obtain ⟨y, r, rfl, h1, h2⟩ := h
    simp only [List.cons_append, DXs]
    exact ⟨y, _, rfl, h1, dxs_snoc h2 hd⟩
theorem dxs_app {H : Hp} : ∀ {ds es : List PyData} {xs ys : List V}, DXs H ds xs → DXs H es ys → DXs H (ds ++ es) (xs ++ ys)
  | [], es, xs, ys, h, h2 => by
    simp only [DXs] at h
    subst h
    exact h2
  | e :: ds, es, xs, ys, h, h2 => by
    simp only [DXs] at h
    obtain ⟨y, r, rfl, h1, h3⟩ := h
    simp only [List.cons_append, DXs]
    exact ⟨y, _, rfl, h1, dxs_app h3 h2⟩
theorem dx_int {H : Hp} (n : Int) : DX H (.int n) (.int n) := by simp only [DX]
theorem dx_bl {H : Hp} (n : Bool) : DX H (.bool n) (.bl n) := by simp only [DX]
theorem dx_str {H : Hp} {n : Str} (h : n.length ≤ 1000) : DX H (.str n) (.str n) := by simp only [DX]; exact ⟨trivial, h⟩
theorem dxs1 {H : Hp} {d : PyData} {x : V} (h : DX H d x) : DXs H [d] [x] := by simp only [DXs]; exact ⟨x, [], rfl, h, rfl⟩
theorem dxs2 {H : Hp} {d e : PyData} {x y : V} (h : DX H d x) (h2 : DX H e y) : DXs H [d, e] [x, y] := by simp only [DXs]; exact ⟨x, _, rfl, h, y, [], rfl, h2, rfl⟩
theorem dxs3 {H : Hp} {d e f : PyData} {x y z : V} (h : DX H d x) (h2 : DX H e y) (h3 : DX H f z) : DXs H [d, e, f] [x, y, z] := by simp only [DXs]; exact ⟨x, _, rfl, h, y, _, rfl, h2, z, [], rfl, h3, rfl⟩
theorem dxs0 {H : Hp} : DXs H [] [] := by simp only [DXs]
theorem goD_nodup : ∀ (ds : List PyData) (ns : List Str), goD ds ns = true → ns.Nodup → (ns ++ ds.map nmOf).Nodup
  | [], ns, _, h => by simpa using h
  | d :: ds, ns, g, h => by
    simp only [goD, Bool.and_eq_true, Bool.not_eq_true', decide_eq_false_iff_not] at g
    have h2 : (ns ++ [nmOf d]).Nodup := by
      rw [List.nodup_append]
      refine ⟨h, by simp, fun a ha b hb => ?_⟩
      rw [List.mem_singleton.mp hb]
      intro e
      exact g.1.2 (e ▸ ha)
    have := goD_nodup ds _ g.2 h2
    simpa using this
def lnD (q : Str × Int) : PyData := .tuple [.str q.1, .int q.2]
structure Gd (ls : List (Str × Int)) : Prop where
  n1 : 1 ≤ ls.length
  n6 : ls.length ≤ 6
  nm : ∀ q ∈ ls, nmS q.1 = true
  wt : ∀ q ∈ ls, 1 ≤ q.2 ∧ q.2 ≤ 9
  nd : (ls.map (·.1)).Nodup
theorem nmS_len {t : Str} (h : nmS t = true) : t.length ≤ 1000 := by
  simp only [nmS, Bool.and_eq_true, decide_eq_true_eq] at h
  omega
theorem Gd.go : ∀ (ls : List (Str × Int)) (ns : List Str), (∀ q ∈ ls, nmS q.1 = true) → (∀ q ∈ ls, 1 ≤ q.2 ∧ q.2 ≤ 9) → (ns ++ ls.map (·.1)).Nodup → goD (ls.map lnD) ns = true
  | [], ns, _, _, _ => rfl
  | q :: ls, ns, h1, h2, h3 => by
    have a1 := h1 q List.mem_cons_self
    have a2 := h2 q List.mem_cons_self
    have n3 : q.1 ∉ ns := fun hm => by
      rw [List.nodup_append] at h3
      exact h3.2.2 _ hm q.1 (by simp) rfl
    have ih := Gd.go ls (ns ++ [q.1]) (fun p hp => h1 p (List.mem_cons_of_mem _ hp)) (fun p hp => h2 p (List.mem_cons_of_mem _ hp)) (by simpa using h3)
    simp only [List.map_cons, goD]
    have e1 : landD (lnD q) = true := by
      simp only [lnD, landD, nameD, betD, a1, decide_eq_true a2.1, decide_eq_true a2.2, Bool.true_and]
    have e2 : nmOf (lnD q) = q.1 := rfl
    rw [e1, e2, decide_eq_false n3, ih]
    rfl
theorem Gd.ok {ls : List (Str × Int)} (g : Gd ls) : areD (.list (ls.map lnD)) = true := by
  simp only [areD, List.length_map, decide_eq_true g.n1, decide_eq_true g.n6, Bool.true_and]
  exact Gd.go ls [] g.nm g.wt (by simpa using g.nd)
theorem lp_dxs {H : Hp} : ∀ {xs : List V} {ls : List (Str × Int)}, PySem.Paired (LP H) xs ls → (∀ q ∈ ls, nmS q.1 = true) → DXs H (ls.map lnD) xs
  | _, _, .nil, _ => dxs0
  | _, _, .cons r t, h => by
    rename_i x q xs ls
    obtain ⟨u, rfl, hu⟩ := r
    simp only [List.map_cons, DXs]
    refine ⟨_, _, rfl, ?_, lp_dxs t fun p hp => h p (List.mem_cons_of_mem _ hp)⟩
    simp only [lnD, DX]
    exact ⟨u, _, rfl, hu, dxs2 (dx_str (nmS_len (h q List.mem_cons_self))) (dx_int _)⟩
section
variable {P : Program} {w : World} {K : PySem.W.Frag} {mg : Str → Option Value} {base : Heap}
def spBad : Sp := fun vs H Q _ => ∃ (a : Addr) (xs : List V) (ls : List (Str × Int)) (c : Int), vs = [.ref a, .int c] ∧ H a = some (.lst xs) ∧ PySem.Paired (LP H) xs ls ∧ Gd ls ∧ ∀ x d H', DX H' d x → areD d = false → Same H H' → Q x H'
theorem scBad : FnScope ["_law_lands_here", "_law_cell", "_law_name", "_law_weight", "_law_some"] ["_law_lands_here", "_law_cell"] (defScope sBad) := ⟨rfl, rfl, rfl, by decide +kernel, rfl, by decide +kernel, by decide +kernel⟩
theorem ndB : (["_law_k"] : List Str).Nodup := by decide +kernel
theorem mul9 : MulOk "x" 9 := by
  refine ⟨by decide, fun _ _ => by decide, fun _ _ => by decide⟩
theorem ok_bad {f : Addr} {fd : FuncData} (F : Fun K "_law_bad_lands" "_law_bad_lands" sBad f fd) (T : Txt mg) : FnOk P w K mg base CX0 1 f fd ["_law_lands_here", "_law_cell"] spBad := by
  refine F.ok scBad (fun vs H Q E h => ?_) (fun cdv A outer s H vs Q E hr h => ?_)
  · obtain ⟨a, xs, ls, c, rfl, _⟩ := h
    rfl
  · obtain ⟨a, xs, ls, c, rfl, ha, hq, g, k⟩ := h
    refine ⟨_, pss_cons (ps_asg (pe_ix ix_list (pv 0) pe_int (fun _ _ => rfl)) (pg_tup rfl (pgs_cons (pg_name (i := 2) scBad.nd rfl (Or.inl rfl)) (pgs_cons (pg_name (i := 3) scBad.nd rfl (Or.inl rfl)) pgs_nil))))
      (pss_cons (ps_set (i := 4) scBad.nd rfl (Or.inl rfl) (pe_lst (pa_cons pe_non (pa_cons (pe_tup (pa_cons (pv 2) (pa_cons pe_int pa_nil))) (pa_cons (pe_lst pa_nil)
        (pa_cons (pe_op op_cat (pv 0) (pe_lst (pa_cons (pe_ix ix_list (pv 0) (pe_op op_sub (pe_callB call_len_seq (by rfl) T.len PySem.boot_len (pa_cons (pv 0) pa_nil)) pe_int) (fun _ _ => rfl)) pa_nil)))
        (pa_cons (pe_lst (pa_cons (pe_tup (pa_cons (pe_op op_mulS pe_str pe_int) (pa_cons pe_int pa_nil))) pa_nil))
        (pa_cons (pe_lst (pa_cons (pe_tup (pa_cons pe_str (pa_cons pe_int pa_nil))) pa_nil))
        (pa_cons (pe_lst (pa_cons (pe_tup (pa_cons pe_str (pa_cons pe_int pa_nil))) pa_nil))
        (pa_cons (pe_lst (pa_cons (pe_tup (pa_cons (pv 2) (pa_cons pe_int pa_nil))) pa_nil)) pa_nil))))))))))
      (pss_cons (ps_set (i := 4) scBad.nd rfl (Or.inl rfl) (pe_op op_cat (pv 4) (pe_lst
        (pa_cons (pe_lst (pa_cons (pe_tup (pa_cons (pv 2) (pa_cons pe_int pa_nil))) pa_nil))
        (pa_cons (pe_lst (pa_cons (pe_tup (pa_cons (pv 2) (pa_cons pe_bl pa_nil))) pa_nil))
        (pa_cons (pe_lst (pa_cons (pe_tup (pa_cons (pv 2) (pa_cons pe_str pa_nil))) pa_nil))
        (pa_cons (pe_lst (pa_cons (pe_tup (pa_cons (pv 2) pa_nil)) pa_nil))
        (pa_cons (pe_lst (pa_cons (pe_tup (pa_cons (pv 2) (pa_cons pe_int (pa_cons pe_int pa_nil)))) pa_nil))
        (pa_cons (pe_lst (pa_cons (pe_lst (pa_cons (pv 2) (pa_cons pe_int pa_nil))) pa_nil))
        (pa_cons (pe_lst (pa_cons (pv 2) pa_nil)) pa_nil))))))))))
      (pss_cons (ps_set (i := 4) scBad.nd rfl (Or.inl rfl) (pe_op op_cat (pv 4) (pe_lst
        (pa_cons (pe_lst (pa_cons (pe_tup (pa_cons (pe_lst (pa_cons (pv 2) pa_nil)) (pa_cons pe_int pa_nil))) pa_nil))
        (pa_cons (pe_lst (pa_cons (pe_tup (pa_cons pe_int (pa_cons pe_int pa_nil))) pa_nil))
        (pa_cons (pe_comp ["_law_k"] [] rfl (blkS (defScope sBad) ["_law_lands_here", "_law_cell", "_law_name", "_law_weight", "_law_some"] (by decide +kernel)) (pi_range1 (by rfl) T.rng (pa_cons pe_int pa_nil))
          (fun _ _ _ _ _ => pg_name (i := 0) ndB rfl (Or.inl rfl)) (fun _ _ _ _ _ => pif_nil)
          (fun _ _ _ _ _ => pe_tup (pa_cons (pe_slice sl_str pe_str (po_some (pv 0)) po_none) (pa_cons pe_int pa_nil)))) pa_nil))))))
      (pss_one (ps_ret (pe_ix ix_list (pv 4) (pe_op op_mod (pv 1) pe_int) (fun _ _ => rfl))))))), ?_⟩
    have hxl : xs.length = ls.length := Paired.length hq
    have g1 := g.n1
    have g6 := g.n6
    have one : (1 : Nat) ≤ sizeLine := small1000' (by decide)
    have two : (2 : Nat) ≤ sizeLine := small1000' (by decide)
    have three : (3 : Nat) ≤ sizeLine := small1000' (by decide)
    have zz : (0 : Nat) ≤ sizeLine := Nat.zero_le _
    -- the first land
    obtain ⟨q0, e0⟩ : ∃ q, ls[0]? = some q := ⟨ls[0], List.getElem?_eq_getElem (by omega)⟩
    obtain ⟨x0, ex0, u0, rfl, hu0⟩ := Paired.atR hq e0
    refine ⟨_, rfl, a, _, _, _, rfl, rfl, SqL.of ha, atI_nat (j := 0) ex0, u0, _, rfl, SqT.of hu0, rfl, _, _, rfl, _, _, rfl, rfl, ?_⟩
    have hnm := g.nm q0 (List.mem_of_getElem? e0)
    obtain ⟨nm, wt⟩ := q0
    simp only at hnm
    have hl0 := nmS_len hnm
    have DL : DXs H (ls.map lnD) xs := lp_dxs hq g.nm
    -- the last land
    obtain ⟨qz, ez⟩ : ∃ q, ls[ls.length - 1]? = some q := ⟨ls[ls.length - 1]'(by omega), List.getElem?_eq_getElem (by omega)⟩
    obtain ⟨xz, exz, _⟩ := Paired.atR hq ez
    obtain ⟨dz, edz, hdz⟩ := DXs.at DL exz
    have edz2 : dz = lnD qz := by
      rw [List.getElem?_map, ez] at edz
      cases edz
      rfl
    -- eight things
    have A0 : DXs H [.none] [.non] := dxs1 (by simp only [DX])
    have S0 : Same H H := Same.refl H
    refine ⟨_, rfl, two, fun t1 h1 => ?_⟩
    have A1 := dxs_snoc (A0.same (Same.upd h1)) (dx_tup h1 (dxs2 (dx_str hl0) (dx_int 1)))
    have S1 := S0.trans (Same.upd (o := HO.tup [V.str nm, V.int 1]) h1)
    generalize upd H t1 (HO.tup [V.str nm, V.int 1]) = H1 at A1 S1 ⊢
    refine ⟨zz, fun t2 h2 => ?_⟩
    have A2 := dxs_snoc (A1.same (Same.upd h2)) (dx_lst h2 dxs0)
    have S2 := S1.trans (Same.upd (o := HO.lst []) h2)
    generalize upd H1 t2 (HO.lst []) = H2 at A2 S2 ⊢
    refine ⟨_, rfl, _, rfl, _, rfl, a, _, rfl, .inl (SqL.of (S2 _ _ ha)), _, _, rfl, rfl, a, _, _, xz, rfl, rfl, SqL.of (S2 _ _ ha), ?_, one, fun t3 h3 => ?_⟩
    · have : ((xs.length : Int) - 1) = ((ls.length - 1 : Nat) : Int) := by omega
      rw [this]
      exact atI_nat exz
    have A3 := A2.same (Same.upd (o := HO.lst [xz]) h3)
    have S3 := S2.trans (Same.upd (o := HO.lst [xz]) h3)
    have L3 : upd H2 t3 (HO.lst [xz]) t3 = some (.lst [xz]) := upd_same
    generalize upd H2 t3 (HO.lst [xz]) = H3 at A3 S3 L3 ⊢
    refine ⟨a, t3, _, _, rfl, rfl, S3 _ _ ha, L3, small1000' (by simp; omega), fun t4 h4 => ?_⟩
    have A4 := dxs_snoc (A3.same (Same.upd h4)) (dx_lst h4 (dxs_snoc (DL.same S3) (hdz.same S3)))
    have S4 := S3.trans (Same.upd (o := HO.lst (xs ++ [xz])) h4)
    generalize upd H3 t4 (HO.lst (xs ++ [xz])) = H4 at A4 S4 ⊢
    refine ⟨_, _, rfl, rfl, mul9, two, fun t5 h5 => ?_⟩
    have B5 := dx_tup h5 (dxs2 (dx_str (n := Txt.mul "x" 9) (by decide)) (dx_int 1))
    have A5 := A4.same (Same.upd (o := HO.tup [V.str (Txt.mul "x" 9), V.int 1]) h5)
    have S5 := S4.trans (Same.upd (o := HO.tup [V.str (Txt.mul "x" 9), V.int 1]) h5)
    generalize upd H4 t5 (HO.tup [V.str (Txt.mul "x" 9), V.int 1]) = H5 at A5 B5 S5 ⊢
    refine ⟨one, fun t6 h6 => ?_⟩
    have A6 := dxs_snoc (A5.same (Same.upd h6)) (dx_lst h6 (dxs1 B5))
    have S6 := S5.trans (Same.upd (o := HO.lst [V.ref t5]) h6)
    generalize upd H5 t6 (HO.lst [V.ref t5]) = H6 at A6 S6 ⊢
    refine ⟨two, fun t7 h7 => ?_⟩
    have B7 := dx_tup h7 (dxs2 (dx_str (n := "A") (by decide)) (dx_int 1))
    have A7 := A6.same (Same.upd (o := HO.tup [V.str "A", V.int 1]) h7)
    have S7 := S6.trans (Same.upd (o := HO.tup [V.str "A", V.int 1]) h7)
    generalize upd H6 t7 (HO.tup [V.str "A", V.int 1]) = H7 at A7 B7 S7 ⊢
    refine ⟨one, fun t8 h8 => ?_⟩
    have A8 := dxs_snoc (A7.same (Same.upd h8)) (dx_lst h8 (dxs1 B7))
    have S8 := S7.trans (Same.upd (o := HO.lst [V.ref t7]) h8)
    generalize upd H7 t8 (HO.lst [V.ref t7]) = H8 at A8 S8 ⊢
    refine ⟨two, fun t9 h9 => ?_⟩
    have B9 := dx_tup h9 (dxs2 (dx_str (n := "") (by decide)) (dx_int 1))
    have A9 := A8.same (Same.upd (o := HO.tup [V.str "", V.int 1]) h9)
    have S9 := S8.trans (Same.upd (o := HO.tup [V.str "", V.int 1]) h9)
    generalize upd H8 t9 (HO.tup [V.str "", V.int 1]) = H9 at A9 B9 S9 ⊢
    refine ⟨one, fun t10 h10 => ?_⟩
    have A10 := dxs_snoc (A9.same (Same.upd h10)) (dx_lst h10 (dxs1 B9))
    have S10 := S9.trans (Same.upd (o := HO.lst [V.ref t9]) h10)
    generalize upd H9 t10 (HO.lst [V.ref t9]) = H10 at A10 S10 ⊢
    refine ⟨_, rfl, two, fun t11 h11 => ?_⟩
    have B11 := dx_tup h11 (dxs2 (dx_str hl0) (dx_int 0))
    have A11 := A10.same (Same.upd (o := HO.tup [V.str nm, V.int 0]) h11)
    have S11 := S10.trans (Same.upd (o := HO.tup [V.str nm, V.int 0]) h11)
    generalize upd H10 t11 (HO.tup [V.str nm, V.int 0]) = H11 at A11 B11 S11 ⊢
    refine ⟨one, fun t12 h12 => ?_⟩
    have A12 := dxs_snoc (A11.same (Same.upd h12)) (dx_lst h12 (dxs1 B11))
    have S12 := S11.trans (Same.upd (o := HO.lst [V.ref t11]) h12)
    generalize upd H11 t12 (HO.lst [V.ref t11]) = H12 at A12 S12 ⊢
    refine ⟨small1000' (by show 8 ≤ 1000; decide), fun m1 k1 => ?_⟩
    have A13 := A12.same (Same.upd (o := HO.lst [V.non, V.ref t1, V.ref t2, V.ref t4, V.ref t6, V.ref t8, V.ref t10, V.ref t12]) k1)
    have S13 := S12.trans (Same.upd (o := HO.lst [V.non, V.ref t1, V.ref t2, V.ref t4, V.ref t6, V.ref t8, V.ref t10, V.ref t12]) k1)
    have L13 : upd H12 m1 (HO.lst [V.non, V.ref t1, V.ref t2, V.ref t4, V.ref t6, V.ref t8, V.ref t10, V.ref t12]) m1 = some (.lst [V.non, V.ref t1, V.ref t2, V.ref t4, V.ref t6, V.ref t8, V.ref t10, V.ref t12]) := upd_same
    generalize upd H12 m1 (HO.lst [V.non, V.ref t1, V.ref t2, V.ref t4, V.ref t6, V.ref t8, V.ref t10, V.ref t12]) = H13 at A13 S13 L13 ⊢
    simp only [List.cons_append, List.nil_append] at A13
    generalize [V.non, V.ref t1, V.ref t2, V.ref t4, V.ref t6, V.ref t8, V.ref t10, V.ref t12] = ys at A13 L13 ⊢
    clear A0 A1 A2 A3 A4 A5 A6 A7 A8 A9 A10 A11 A12 B5 B7 B9 B11 S0 S1 S2 S3 S4 S5 S6 S7 S8 S9 S10 S11 S12 h1 h2 h3 h4 h5 h6 h7 h8 h9 h10 h11 h12
    -- seven things
    refine ⟨_, rfl, _, rfl, two, fun t1 h1 => ?_⟩
    have B1 := dx_tup h1 (dxs2 (dx_str hl0) (dx_int 10))
    have S1 := Same.upd (o := HO.tup [V.str nm, V.int 10]) h1
    generalize upd H13 t1 (HO.tup [V.str nm, V.int 10]) = H1 at B1 S1 ⊢
    refine ⟨one, fun t2 h2 => ?_⟩
    have A2 := dxs1 (dx_lst h2 (dxs1 B1))
    have S2 := S1.trans (Same.upd (o := HO.lst [V.ref t1]) h2)
    generalize upd H1 t2 (HO.lst [V.ref t1]) = H2 at A2 S2 ⊢
    refine ⟨_, rfl, two, fun t3 h3 => ?_⟩
    have B3 := dx_tup h3 (dxs2 (dx_str hl0) (dx_bl true))
    have A3 := A2.same (Same.upd (o := HO.tup [V.str nm, V.bl true]) h3)
    have S3 := S2.trans (Same.upd (o := HO.tup [V.str nm, V.bl true]) h3)
    generalize upd H2 t3 (HO.tup [V.str nm, V.bl true]) = H3 at A3 B3 S3 ⊢
    refine ⟨one, fun t4 h4 => ?_⟩
    have A4 := dxs_snoc (A3.same (Same.upd h4)) (dx_lst h4 (dxs1 B3))
    have S4 := S3.trans (Same.upd (o := HO.lst [V.ref t3]) h4)
    generalize upd H3 t4 (HO.lst [V.ref t3]) = H4 at A4 S4 ⊢
    refine ⟨_, rfl, two, fun t5 h5 => ?_⟩
    have B5 := dx_tup h5 (dxs2 (dx_str hl0) (dx_str (n := "1") (by decide)))
    have A5 := A4.same (Same.upd (o := HO.tup [V.str nm, V.str "1"]) h5)
    have S5 := S4.trans (Same.upd (o := HO.tup [V.str nm, V.str "1"]) h5)
    generalize upd H4 t5 (HO.tup [V.str nm, V.str "1"]) = H5 at A5 B5 S5 ⊢
    refine ⟨one, fun t6 h6 => ?_⟩
    have A6 := dxs_snoc (A5.same (Same.upd h6)) (dx_lst h6 (dxs1 B5))
    have S6 := S5.trans (Same.upd (o := HO.lst [V.ref t5]) h6)
    generalize upd H5 t6 (HO.lst [V.ref t5]) = H6 at A6 S6 ⊢
    refine ⟨_, rfl, one, fun t7 h7 => ?_⟩
    have B7 := dx_tup h7 (dxs1 (dx_str hl0))
    have A7 := A6.same (Same.upd (o := HO.tup [V.str nm]) h7)
    have S7 := S6.trans (Same.upd (o := HO.tup [V.str nm]) h7)
    generalize upd H6 t7 (HO.tup [V.str nm]) = H7 at A7 B7 S7 ⊢
    refine ⟨one, fun t8 h8 => ?_⟩
    have A8 := dxs_snoc (A7.same (Same.upd h8)) (dx_lst h8 (dxs1 B7))
    have S8 := S7.trans (Same.upd (o := HO.lst [V.ref t7]) h8)
    generalize upd H7 t8 (HO.lst [V.ref t7]) = H8 at A8 S8 ⊢
    refine ⟨_, rfl, three, fun t9 h9 => ?_⟩
    have B9 := dx_tup h9 (dxs3 (dx_str hl0) (dx_int 1) (dx_int 1))
    have A9 := A8.same (Same.upd (o := HO.tup [V.str nm, V.int 1, V.int 1]) h9)
    have S9 := S8.trans (Same.upd (o := HO.tup [V.str nm, V.int 1, V.int 1]) h9)
    generalize upd H8 t9 (HO.tup [V.str nm, V.int 1, V.int 1]) = H9 at A9 B9 S9 ⊢
    refine ⟨one, fun t10 h10 => ?_⟩
    have A10 := dxs_snoc (A9.same (Same.upd h10)) (dx_lst h10 (dxs1 B9))
    have S10 := S9.trans (Same.upd (o := HO.lst [V.ref t9]) h10)
    generalize upd H9 t10 (HO.lst [V.ref t9]) = H10 at A10 S10 ⊢
    refine ⟨_, rfl, two, fun t11 h11 => ?_⟩
    have B11 := dx_lst h11 (dxs2 (dx_str hl0) (dx_int 1))
    have A11 := A10.same (Same.upd (o := HO.lst [V.str nm, V.int 1]) h11)
    have S11 := S10.trans (Same.upd (o := HO.lst [V.str nm, V.int 1]) h11)
    generalize upd H10 t11 (HO.lst [V.str nm, V.int 1]) = H11 at A11 B11 S11 ⊢
    refine ⟨one, fun t12 h12 => ?_⟩
    have A12 := dxs_snoc (A11.same (Same.upd h12)) (dx_lst h12 (dxs1 B11))
    have S12 := S11.trans (Same.upd (o := HO.lst [V.ref t11]) h12)
    generalize upd H11 t12 (HO.lst [V.ref t11]) = H12 at A12 S12 ⊢
    refine ⟨_, rfl, one, fun t13 h13 => ?_⟩
    have A14 := dxs_snoc (A12.same (Same.upd h13)) (dx_lst h13 (dxs1 (dx_str hl0)))
    have S14 := S12.trans (Same.upd (o := HO.lst [V.str nm]) h13)
    generalize upd H12 t13 (HO.lst [V.str nm]) = H14 at A14 S14 ⊢
    refine ⟨small1000' (by show 7 ≤ 1000; decide), fun m2 k2 => ?_⟩
    have A15 := A14.same (Same.upd (o := HO.lst [V.ref t2, V.ref t4, V.ref t6, V.ref t8, V.ref t10, V.ref t12, V.ref t13]) k2)
    have S15 := S14.trans (Same.upd (o := HO.lst [V.ref t2, V.ref t4, V.ref t6, V.ref t8, V.ref t10, V.ref t12, V.ref t13]) k2)
    have L15 : upd H14 m2 (HO.lst [V.ref t2, V.ref t4, V.ref t6, V.ref t8, V.ref t10, V.ref t12, V.ref t13]) m2 = some (.lst [V.ref t2, V.ref t4, V.ref t6, V.ref t8, V.ref t10, V.ref t12, V.ref t13]) := upd_same
    generalize upd H14 m2 (HO.lst [V.ref t2, V.ref t4, V.ref t6, V.ref t8, V.ref t10, V.ref t12, V.ref t13]) = H15 at A15 S15 L15 ⊢
    simp only [List.cons_append, List.nil_append] at A15
    generalize [V.ref t2, V.ref t4, V.ref t6, V.ref t8, V.ref t10, V.ref t12, V.ref t13] = zs at A15 L15 ⊢
    have hyl := DXs.len A13
    have hzl := DXs.len A15
    refine ⟨m1, m2, _, _, rfl, rfl, S15 _ _ L13, L15, small1000' (by simp at hyl hzl; omega), fun m3 k3 => ?_⟩
    have A16 := (dxs_app (A13.same S15) A15).same (Same.upd (o := HO.lst (ys ++ zs)) k3)
    have S16 := S13.trans (S15.trans (Same.upd (o := HO.lst (ys ++ zs)) k3))
    have L16 : upd H15 m3 (HO.lst (ys ++ zs)) m3 = some (.lst (ys ++ zs)) := upd_same
    generalize upd H15 m3 (HO.lst (ys ++ zs)) = H16 at A16 S16 L16 ⊢
    generalize ys ++ zs = ws at A16 L16 ⊢
    clear A2 A3 A4 A5 A6 A7 A8 A9 A10 A11 A12 A14 B1 B3 B5 B7 B9 B11 S1 S2 S3 S4 S5 S6 S7 S8 S9 S10 S11 S12 S14 h1 h2 h3 h4 h5 h6 h7 h8 h9 h10 h11 h12 h13
    -- three things
    refine ⟨_, rfl, _, rfl, one, fun t1 h1 => ?_⟩
    have B1 := dx_lst h1 (dxs1 (dx_str hl0))
    have S1 := Same.upd (o := HO.lst [V.str nm]) h1
    generalize upd H16 t1 (HO.lst [V.str nm]) = H1 at B1 S1 ⊢
    refine ⟨two, fun t2 h2 => ?_⟩
    have B2 := dx_tup h2 (dxs2 B1 (dx_int 1))
    have S2 := S1.trans (Same.upd (o := HO.tup [V.ref t1, V.int 1]) h2)
    generalize upd H1 t2 (HO.tup [V.ref t1, V.int 1]) = H2 at B2 S2 ⊢
    refine ⟨one, fun t3 h3 => ?_⟩
    have A3 := dxs1 (dx_lst h3 (dxs1 B2))
    have S3 := S2.trans (Same.upd (o := HO.lst [V.ref t2]) h3)
    generalize upd H2 t3 (HO.lst [V.ref t2]) = H3 at A3 S3 ⊢
    refine ⟨two, fun t4 h4 => ?_⟩
    have B4 := dx_tup h4 (dxs2 (dx_int 1) (dx_int 1))
    have A4 := A3.same (Same.upd (o := HO.tup [V.int 1, V.int 1]) h4)
    have S4 := S3.trans (Same.upd (o := HO.tup [V.int 1, V.int 1]) h4)
    generalize upd H3 t4 (HO.tup [V.int 1, V.int 1]) = H4 at A4 B4 S4 ⊢
    refine ⟨one, fun t5 h5 => ?_⟩
    have A5 := dxs_snoc (A4.same (Same.upd h5)) (dx_lst h5 (dxs1 B4))
    have S5 := S4.trans (Same.upd (o := HO.lst [V.ref t4]) h5)
    generalize upd H4 t5 (HO.lst [V.ref t4]) = H5 at A5 S5 ⊢
    refine ⟨7, rfl, by decide, by decide, comp_range (lo := 0) (n := 7) (fun i vs σ H' => ∃ v0, σ = [v0] ∧ Same H5 H' ∧ ∃ ds, DXs H' ds vs ∧ ds.length = i) ⟨none, rfl, Same.refl _, [], dxs0, rfl⟩ (small1000' (by decide)) (fun i vs σ H' hi h => ?_) (fun i vs σ H' hi h => ?_) (fun vs σ H' h => ?_)⟩
    · obtain ⟨v0, rfl, sm, ds, hd, e⟩ := h
      rw [← DXs.len hd]
      omega
    · obtain ⟨v0, rfl, sm, ds, hd, e⟩ := h
      refine ⟨_, rfl, _, rfl, _, rfl, small1000' (by decide), two, fun t6 h6 => ⟨_, rfl, sm.trans (Same.upd h6), _, dxs_snoc (hd.same (Same.upd h6)) (dx_tup h6 (dxs2 (dx_str ?_) (dx_int 1))), by simp [e]⟩⟩
      exact Nat.le_trans (Txt.slice_le _ _ _) (by decide)
    · obtain ⟨v0, rfl, sm, ds, hd, e⟩ := h
      intro t6 h6
      have A6 := dxs_snoc ((A5.same sm).same (Same.upd h6)) (dx_lst h6 hd)
      have S6 := (S5.trans sm).trans (Same.upd (o := HO.lst vs) h6)
      generalize upd H' t6 (HO.lst vs) = H6 at A6 S6 ⊢
      refine ⟨small1000' (by show 3 ≤ 1000; decide), fun m4 k4 => ?_⟩
      have A7 := A6.same (Same.upd (o := HO.lst [V.ref t3, V.ref t5, V.ref t6]) k4)
      have S7 := S6.trans (Same.upd (o := HO.lst [V.ref t3, V.ref t5, V.ref t6]) k4)
      have L7 : upd H6 m4 (HO.lst [V.ref t3, V.ref t5, V.ref t6]) m4 = some (.lst [V.ref t3, V.ref t5, V.ref t6]) := upd_same
      generalize upd H6 m4 (HO.lst [V.ref t3, V.ref t5, V.ref t6]) = H7 at A7 S7 L7 ⊢
      simp only [List.cons_append, List.nil_append] at A7
      generalize [V.ref t3, V.ref t5, V.ref t6] = us at A7 L7 ⊢
      have hwl := DXs.len A16
      have hul := DXs.len A7
      refine ⟨m3, m4, _, _, rfl, rfl, S7 _ _ L16, L7, small1000' (by simp at hwl hul; omega), fun m5 k5 => ?_⟩
      have A8 := (dxs_app (A16.same S7) A7).same (Same.upd (o := HO.lst (ws ++ us)) k5)
      have S8 := S16.trans (S7.trans (Same.upd (o := HO.lst (ws ++ us)) k5))
      have L8 : upd H7 m5 (HO.lst (ws ++ us)) m5 = some (.lst (ws ++ us)) := upd_same
      generalize upd H7 m5 (HO.lst (ws ++ us)) = H8 at A8 S8 L8 ⊢
      have hlen : (ws ++ us).length = 18 := by
        rw [← DXs.len A8]
        rfl
      generalize ws ++ us = vs8 at A8 L8 hlen ⊢
      have p18 : (0 : Int) < 18 := by decide
      have hc : 0 ≤ c % 18 ∧ c % 18 < 18 := by omega
      have hlt : (c % 18).toNat < vs8.length := by omega
      have ec : c % 18 = ((c % 18).toNat : Int) := by omega
      obtain ⟨vv, evv⟩ : ∃ v, vs8[(c % 18).toNat]? = some v := ⟨_, List.getElem?_eq_getElem hlt⟩
      obtain ⟨d, ed, hdx⟩ := DXs.at A8 evv
      refine ⟨_, rfl, _, rfl, _, _, rfl, rfl, p18, m5, _, _, _, rfl, rfl, SqL.of L8, ?_, k _ d H8 hdx ?_ S8⟩
      · rw [ec]
        exact atI_nat evv
      have hmem := List.mem_of_getElem? ed
      have dup : areD (.list (ls.map lnD ++ [dz])) = false := by
        rw [Bool.eq_false_iff]
        intro z
        simp only [areD, Bool.and_eq_true] at z
        have nd := goD_nodup _ _ z.2 List.nodup_nil
        rw [List.nil_append, List.map_append, List.nodup_append] at nd
        refine nd.2.2 (nmOf dz) ?_ (nmOf dz) (by simp) rfl
        rw [edz2]
        exact List.mem_map_of_mem (List.mem_map_of_mem (List.mem_of_getElem? ez))
      have seven : areD (.list ds) = false := by
        simp only [areD]
        rw [decide_eq_false (by omega : ¬ ds.length ≤ 6)]
        simp
      simp only [List.cons_append, List.nil_append, List.mem_cons, List.not_mem_nil, or_false] at hmem
      rcases hmem with h | h | h | h | h | h | h | h | h | h | h | h | h | h | h | h | h | h <;> subst h
      · rfl
      · rfl
      · rfl
      · exact dup
      · decide
      · decide
      · decide
      · simp [areD, goD, landD, betD]
      · simp [areD, goD, landD, betD]
      · simp [areD, goD, landD, betD]
      · simp [areD, goD, landD, betD]
      · rfl
      · rfl
      · rfl
      · rfl
      · rfl
      · rfl
      · exact seven
end
end K11
set_option maxHeartbeats 4000000
namespace K11
open PySem L2
abbrev sLaw : Stmt := top 37
theorem pass1 {P : Program} {w : World} {X : Cx} : Passes (CX1 P w) X (fun _ _ _ => False) := fun _ _ _ _ _ _ _ h => by
  obtain ⟨x, T, C, H', _, _, _, _, _, _, _, _, _, _, z⟩ := h
  exact z.elim
theorem let_lt : ∀ c ∈ LET.cps.toList, c < 1114112 := by decide +kernel
theorem nmS_ok {t : Str} (h : nmS t = true) : PyData.strOk t = true := by
  simp only [nmS, madeD, Bool.and_eq_true, List.all_eq_true, decide_eq_true_eq] at h
  unfold PyData.strOk
  rw [Array.all_eq_true_iff_forall_mem]
  intro c hc
  exact decide_eq_true (let_lt c (h.2.2 c (Array.mem_toList_iff.mpr hc)))
theorem lnD_shaped (ls : List (Str × Int)) (hn : ∀ q ∈ ls, nmS q.1 = true) : SeqAt.shaped (.list (ls.map lnD)) = true := by
  have h : ∀ ls : List (Str × Int), (∀ q ∈ ls, nmS q.1 = true) → PyData.canLayAll0 (ls.map lnD) = true ∧ PyData.depthAll (ls.map lnD) ≤ 2 := by
    intro ls
    induction ls with
    | nil => intro _; simp [PyData.canLayAll0, PyData.depthAll]
    | cons p ps ih =>
      intro hn
      have i0 := ih fun q hq => hn q (List.mem_cons_of_mem _ hq)
      have i1 := nmS_ok (hn p List.mem_cons_self)
      simp [PyData.canLayAll0, PyData.depthAll, PyData.canLay0, PyData.depth, lnD, i0, i1]
      omega
  obtain ⟨h1, h2⟩ := h ls hn
  simp [SeqAt.shaped, PyData.canLay0, PyData.depth, h1]
  omega
theorem lnD_eqv (ls : List (Str × Int)) : PyData.eqv (.list (ls.map lnD)) (.list (ls.map lnD)) = true := by
  have h : ∀ ls : List (Str × Int), PyData.eqvAll (ls.map lnD) (ls.map lnD) = true := by
    intro ls
    induction ls with
    | nil => simp [PyData.eqvAll]
    | cons p ps ih => simp [PyData.eqvAll, PyData.eqv, lnD, ih]
  simp [PyData.eqv, h ls]
def dueD (kd : Nat) : PyData := .list [.bool (bK kd 0), .bool (bK kd 1), .bool (bK kd 2), .bool (bK kd 3)]
theorem due_shaped (kd : Nat) : SeqAt.shaped (dueD kd) = true := by
  unfold dueD
  generalize bK kd 0 = a
  generalize bK kd 1 = b
  generalize bK kd 2 = c
  generalize bK kd 3 = d
  simp [SeqAt.shaped, PyData.canLay0, PyData.canLayAll0, PyData.depth, PyData.depthAll]
theorem due_eqv (kd : Nat) : PyData.eqv (dueD kd) (dueD kd) = true := by simp [dueD, PyData.eqv, PyData.eqvAll]
theorem dxs4 {H : Hp} {d e f g : PyData} {x y z u : V} (h : DX H d x) (h2 : DX H e y) (h3 : DX H f z) (h4 : DX H g u) : DXs H [d, e, f, g] [x, y, z, u] := by simp only [DXs]; exact ⟨x, _, rfl, h, y, _, rfl, h2, z, _, rfl, h3, u, [], rfl, h4, rfl⟩
theorem due_at {H : Hp} {du : Addr} {i : Nat} (h : DX H (.list [dueD 0, dueD 1, dueD 2, dueD 3]) (.ref du)) (hi : i < 4) : ∃ vs v, H du = some (.lst vs) ∧ vs[i]? = some v ∧ DX H (dueD i) v := by
  simp only [DX] at h
  obtain ⟨b, xs, e, h1, h2⟩ := h
  cases e
  have hl := DXs.len h2
  have hlt : i < xs.length := by
    simp at hl
    omega
  obtain ⟨d, ed, hd⟩ := DXs.at h2 (List.getElem?_eq_getElem hlt)
  refine ⟨xs, _, h1, List.getElem?_eq_getElem hlt, ?_⟩
  have : d = dueD i := by
    match i, hi, ed with
    | 0, _, ed => cases ed; rfl
    | 1, _, ed => cases ed; rfl
    | 2, _, ed => cases ed; rfl
    | 3, _, ed => cases ed; rfl
  rw [← this]
  exact hd
theorem six_at {H : Hp} {ds : List PyData} {vs : List V} (h : DXs H ds vs) (hl : vs.length = 6) (z : Int) : ∃ v d, atI vs (z % 6) = some v ∧ DX H d v ∧ d ∈ ds := by
  have hlt : (z % 6).toNat < vs.length := by omega
  obtain ⟨v, ev⟩ : ∃ v, vs[(z % 6).toNat]? = some v := ⟨_, List.getElem?_eq_getElem hlt⟩
  obtain ⟨d, ed, hd⟩ := DXs.at h ev
  have e : z % 6 = ((z % 6).toNat : Int) := by omega
  refine ⟨v, d, ?_, hd, List.mem_of_getElem? ed⟩
  rw [e]
  exact atI_nat ev
structure Bx (H : Hp) (n l du bt bd : Addr) (nv xs : List V) (ls : List (Str × Int)) (tv dv : List V) (tD dD : List PyData) : Prop where
  n : H n = some (.lst nv)
  l : H l = some (.lst xs)
  lp : PySem.Paired (LP H) xs ls
  du : DX H (.list [dueD 0, dueD 1, dueD 2, dueD 3]) (.ref du)
  bt : H bt = some (.lst tv)
  tD : DXs H tD tv
  bd : H bd = some (.lst dv)
  dD : DXs H dD dv
theorem LP.same {H H' : Hp} (e : Same H H') {v : V} {q : Str × Int} (h : LP H v q) : LP H' v q := by
  obtain ⟨u, rfl, hu⟩ := h
  exact ⟨u, rfl, e _ _ hu⟩
theorem Bx.same {H H' : Hp} {n l du bt bd : Addr} {nv xs : List V} {ls : List (Str × Int)} {tv dv : List V} {tD dD : List PyData} (b : Bx H n l du bt bd nv xs ls tv dv tD dD) (e : Same H H') : Bx H' n l du bt bd nv xs ls tv dv tD dD :=
  ⟨e _ _ b.n, e _ _ b.l, Paired.mapP b.lp fun _ _ r => r.same e, b.du.same e, e _ _ b.bt, b.tD.same e, e _ _ b.bd, b.dD.same e⟩
theorem cut5 (ns : List Int) : ∃ cs : List Int, cutV (ns.map V.int) (some 4) (some 9) = cs.map V.int ∧ cs.length ≤ 5 := by
  refine ⟨(ns.drop (HT.sIx (ns.map V.int).length 0 (some 4))).take (HT.sIx (ns.map V.int).length (ns.map V.int).length (some 9) - HT.sIx (ns.map V.int).length 0 (some 4)), ?_, ?_⟩
  · unfold cutV
    rw [List.map_take, List.map_drop]
  · have e1 := HT.sIx_nat (ns.map V.int).length 0 4
    have e2 := HT.sIx_nat (ns.map V.int).length (ns.map V.int).length 9
    have e1' : HT.sIx (ns.map V.int).length 0 (some 4) = min 4 (ns.map V.int).length := e1
    have e2' : HT.sIx (ns.map V.int).length (ns.map V.int).length (some 9) = min 9 (ns.map V.int).length := e2
    rw [e1', e2', List.length_take]
    omega
def nms (c : Int) : List Str := (List.range 7).map fun k : Nat => txt (nmK c (k : Int))
def lds (c : Int) (cs : List Int) : List (Str × Int) := ((nms c).zip cs).map fun p => (p.1, 1 + p.2 % 9)
theorem nms_nodup (c : Int) : (nms c).Nodup := by
  unfold nms List.Nodup
  rw [List.pairwise_map]
  refine List.Pairwise.imp_of_mem (fun {x y} hx hy h e => ?_) (List.pairwise_lt_range (n := 7))
  have h1 := List.mem_range.mp hx
  have h2 := List.mem_range.mp hy
  have := nmK_inj c (by omega) (by omega) (by omega) (by omega) e
  omega
theorem lds_gd (c : Int) (cs : List Int) (h1 : 1 ≤ cs.length) (h6 : cs.length ≤ 6) : Gd (lds c cs) := by
  have nl : (nms c).length = 7 := by simp [nms]
  have ln : (lds c cs).length = min 7 cs.length := by simp [lds, nl]
  refine ⟨by omega, by omega, fun q hq => ?_, fun q hq => ?_, ?_⟩
  · obtain ⟨p, hp, rfl⟩ := List.mem_map.mp hq
    have hm := (List.of_mem_zip (a := p.1) (b := p.2) hp).1
    obtain ⟨k, _, e⟩ := List.mem_map.mp hm
    show nmS p.1 = true
    rw [← e]
    exact nmK_ok c k
  · obtain ⟨p, hp, rfl⟩ := List.mem_map.mp hq
    show 1 ≤ 1 + p.2 % 9 ∧ 1 + p.2 % 9 ≤ 9
    omega
  · have e : (lds c cs).map (·.1) = ((nms c).zip cs).map (·.1) := by simp [lds]
    rw [e]
    have h : ∀ (l : List Str) (cs : List Int), l.Nodup → ((l.zip cs).map (·.1)).Nodup := by
      intro l
      induction l with
      | nil => intro cs _; simp
      | cons x l ih =>
        intro cs hn
        cases cs with
        | nil => simp
        | cons z cs =>
          rw [List.nodup_cons] at hn
          simp only [List.zip_cons_cons, List.map_cons, List.nodup_cons]
          refine ⟨fun hm => hn.1 ?_, ih cs hn.2⟩
          obtain ⟨p, hp, e⟩ := List.mem_map.mp hm
          rw [← e]
          exact (List.of_mem_zip (a := p.1) (b := p.2) hp).1
    exact h _ _ (nms_nodup c)
section
variable {P : Program} {w : World} {K : PySem.W.Frag} {mg : Str → Option Value} {base : Heap}
variable {fW fB fM fN fL fA eR : Addr} {dW dB dM dN dL dA : FuncData} {fw fR fX fS fI cR cW cS cI : Addr} {dw dR dX dS dI : FuncData}
def spLaw (K : PySem.W.Frag) : Sp := fun vs H Q _ => ∃ (a : Addr) (ns : List Int), vs = [.ref a] ∧ SqL K H a (ns.map V.int) ∧ ns.length ≤ 63 ∧ ∀ H', Q (.bl true) H'
abbrev nL : List Str := ["_law_script", "_law_cell", "_law_names", "_law_cells", "_law_lands_here", "_law_top", "_law_days", "_law_due", "_law_far", "_law_bad_tops", "_law_bad_days", "_law_at", "_law_kind", "_law_handed", "_law_rule"]
theorem scLaw : FnScope nL ["_law_script"] (defScope sLaw) := ⟨rfl, rfl, rfl, by decide +kernel, rfl, by decide +kernel, by decide +kernel⟩
theorem ndZ : (["_law_name", "_law_one"] : List Str).Nodup := by decide +kernel
theorem ok_law {f fC fY fG fK fQ fV fZ fJ eD eP eS eL eW eE eT eO : Addr} {fd dC dY dG dK dQ dV dZ dJ : FuncData} (F : Fun K "law" "law" sLaw f fd) (h : High K mg fW fB fM fN fL fA eR dW dB dM dN dL dA fw fR fX fS fI cR cW cS cI dw dR dX dS dI) (ka : Kall K cR cW cS cI) (e : Er K mg eR eD eP eS eL eW eE eT eO)
    (FC : Fun K "_law_cell_at" "_law_cell_at" sCell fC dC) (bC : Binds K dC ["_law_script", "_law_k"] []) (mC : mg "_law_cell_at" = some (.ref fC))
    (FY : Fun K "_law_lands" "_law_lands" sNames fY dY) (bY : Binds K dY ["_law_cell", "_law_many"] []) (mY : mg "_law_lands" = some (.ref fY))
    (FG : Fun K "_law_edge" "_law_edge" sEdge fG dG) (bG : Binds K dG ["_law_cell", "_law_least"] []) (mG : mg "_law_edge" = some (.ref fG))
    (FK : Fun K "_law_made" "_law_made" sMk fK dK) (bK' : Binds K dK ["_law_kind", "_law_lands_here", "_law_top", "_law_days"] []) (mK : mg "_law_made" = some (.ref fK))
    (FQ : Fun K "_law_refused" "_law_refused" sRef fQ dQ) (bQ : Binds K dQ ["_law_kind", "_law_lands_here", "_law_top", "_law_days"] []) (mQ : mg "_law_refused" = some (.ref fQ))
    (FV : Fun K "_law_bad_lands" "_law_bad_lands" sBad fV dV) (bV : Binds K dV ["_law_lands_here", "_law_cell"] []) (mV : mg "_law_bad_lands" = some (.ref fV))
    (FZ : Fun K "_law_kinds" "_law_kinds" sKinds fZ dZ) (bZ : Binds K dZ ["_law_rule"] []) (mZ : mg "_law_kinds" = some (.ref fZ))
    (FJ : Fun K "_law_weights" "_law_weights" sWts fJ dJ) (bJ : Binds K dJ ["_law_rule", "_law_lands_here", "_law_names"] []) (mJ : mg "_law_weights" = some (.ref fJ)) :
    FnOk P w K mg base CX0 11 f fd ["_law_script"] (spLaw K) := by
  have T := h.M.L.T
  have GC : FnOk P w K mg base CX0 1 fC dC ["_law_script", "_law_k"] (spCell K) := ok_cell FC T
  have GY : FnOk P w K mg base CX0 1 fY dY ["_law_cell", "_law_many"] spNames := ok_names FY T
  have GG : FnOk P w K mg base CX0 1 fG dG ["_law_cell", "_law_least"] spEdge := ok_edge FG T
  have GK : FnOk P w K mg base (CX1 P w) 9 fK dK ["_law_kind", "_law_lands_here", "_law_top", "_law_days"] (spMk cR cW cS cI eR) := ok_mk FK h
  have GQ : FnOk P w K mg base CX0 10 fQ dQ ["_law_kind", "_law_lands_here", "_law_top", "_law_days"] spRef := ok_ref FQ h FK bK' mK e
  have GV : FnOk P w K mg base CX0 1 fV dV ["_law_lands_here", "_law_cell"] spBad := ok_bad FV T
  have GZ : FnOk P w K mg base CX0 1 fZ dZ ["_law_rule"] (spKinds cR cW cS cI) := ok_kinds FZ h ka
  have GJ : FnOk P w K mg base CX0 3 fJ dJ ["_law_rule", "_law_lands_here", "_law_names"] (spWts K fw) := ok_wts FJ h
  refine F.ok scLaw (fun vs H Q E h => ?_) (fun cdv A outer s H vs Q E hr hh => ?_)
  · obtain ⟨a, ns, rfl, _⟩ := h
    rfl
  · obtain ⟨a, ns, rfl, hS, hlen, k⟩ := hh
    have hr1 : Room 1 _ := hr.mono (by decide)
    have hu : _ + 64 < cLine := hr.units
    refine ⟨_, pss_cons (ps_set (i := 1) scLaw.nd rfl (Or.inl rfl) (pe_call GC hr1 (by rfl) mC FC.kp bC .nil pass0 (pa_cons (pv 0) (pa_cons pe_int pa_nil))))
      (pss_cons (ps_set (i := 2) scLaw.nd rfl (Or.inl rfl) (pe_call GY hr1 (by rfl) mY FY.kp bY .nil pass0 (pa_cons (pv 1) (pa_cons pe_int pa_nil))))
      (pss_cons (ps_set (i := 3) scLaw.nd rfl (Or.inl rfl) (pe_op op_cat (pe_lst (pa_cons (pe_call GC hr1 (by rfl) mC FC.kp bC .nil pass0 (pa_cons (pv 0) (pa_cons pe_int pa_nil))) pa_nil)) (pe_slice sl_list (pv 0) (po_some pe_int) (po_some pe_int))))
      (pss_cons (ps_setC (i := 4) ["_law_name", "_law_one"] [] scLaw.nd rfl rfl rfl (blkS (defScope sLaw) nL (by decide +kernel)) (pi_zip (by rfl) T.zip (pa_cons (pv 2) (pa_cons (pv 3) pa_nil)))
        (fun _ _ _ _ _ => pg_tupK (n := 2) K rfl rfl (pgs_cons (pg_name (i := 0) ndZ rfl (Or.inl rfl)) (pgs_cons (pg_name (i := 1) ndZ rfl (Or.inl rfl)) pgs_nil))) (fun _ _ _ _ _ => pif_nil)
        (fun _ _ _ _ _ => pe_tup (pa_cons (pv 0) (pa_cons (pe_op op_add pe_int (pe_op op_mod (pv 1) pe_int)) pa_nil))))
      (pss_cons (ps_set (i := 5) scLaw.nd rfl (Or.inl rfl) (pe_call GG hr1 (by rfl) mG FG.kp bG .nil pass0 (pa_cons (pe_call GC hr1 (by rfl) mC FC.kp bC .nil pass0 (pa_cons (pv 0) (pa_cons pe_int pa_nil))) (pa_cons pe_int pa_nil))))
      (pss_cons (ps_set (i := 6) scLaw.nd rfl (Or.inl rfl) (pe_call GG hr1 (by rfl) mG FG.kp bG .nil pass0 (pa_cons (pe_call GC hr1 (by rfl) mC FC.kp bC .nil pass0 (pa_cons (pv 0) (pa_cons pe_int pa_nil))) (pa_cons pe_int pa_nil))))
      (pss_cons (ps_set (i := 7) scLaw.nd rfl (Or.inl rfl) (pe_lst (pa_cons (pe_lst (pa_cons pe_bl (pa_cons pe_bl (pa_cons pe_bl (pa_cons pe_bl pa_nil))))) (pa_cons (pe_lst (pa_cons pe_bl (pa_cons pe_bl (pa_cons pe_bl (pa_cons pe_bl pa_nil))))) (pa_cons (pe_lst (pa_cons pe_bl (pa_cons pe_bl (pa_cons pe_bl (pa_cons pe_bl pa_nil))))) pa_nil)))))
      (pss_cons (ps_set (i := 7) scLaw.nd rfl (Or.inl rfl) (pe_op op_cat (pv 7) (pe_lst (pa_cons (pe_lst (pa_cons pe_bl (pa_cons pe_bl (pa_cons pe_bl (pa_cons pe_bl pa_nil))))) pa_nil))))
      (pss_cons (ps_set (i := 8) scLaw.nd rfl (Or.inl rfl) (pe_op op_mod (pe_op op_fdiv (pe_call GC hr1 (by rfl) mC FC.kp bC .nil pass0 (pa_cons (pv 0) (pa_cons pe_int pa_nil))) pe_int) (pe_op op_pow pe_int pe_int)))
      (pss_cons (ps_set (i := 9) scLaw.nd rfl (Or.inl rfl) (pe_lst (pa_cons (pe_op op_sub (pe_un un_neg pe_int) (pv 8)) (pa_cons (pe_op op_add (pe_op op_add (pe_op op_pow pe_int pe_int) pe_int) (pv 8)) (pa_cons pe_bl (pa_cons pe_non (pa_cons pe_str (pa_cons (pe_lst (pa_cons pe_int pa_nil)) pa_nil))))))))
      (pss_cons (ps_set (i := 10) scLaw.nd rfl (Or.inl rfl) (pe_lst (pa_cons pe_int (pa_cons (pe_un un_neg (pv 8)) (pa_cons (pe_op op_add (pe_op op_add (pe_op op_pow pe_int pe_int) pe_int) (pv 8)) (pa_cons pe_bl (pa_cons pe_non (pa_cons pe_str pa_nil))))))))
      (pss_cons (ps_set (i := 11) scLaw.nd rfl (Or.inl rfl) (pe_op op_fdiv (pe_call GC hr1 (by rfl) mC FC.kp bC .nil pass0 (pa_cons (pv 0) (pa_cons pe_int pa_nil))) pe_int))
      (pss_cons (ps_for PassesOwn.never rfl (pi_range1 (by rfl) T.rng (pa_cons pe_int pa_nil)) (pg_name (i := 12) scLaw.nd rfl (Or.inl rfl))
        (pss_cons (ps_set (i := 13) scLaw.nd rfl (Or.inl rfl) (pe_callTy call_list_of (by rfl) T.lst PyProof.Rows.boot_list (pa_cons (pv 4) pa_nil)))
        (pss_cons (ps_set (i := 14) scLaw.nd rfl (Or.inl rfl) (pe_call GK (hr.mono (by decide)) (by rfl) mK FK.kp bK' .nil pass1 (pa_cons (pv 12) (pa_cons (pv 13) (pa_cons (pv 5) (pa_cons (pv 6) pa_nil))))))
        (pss_cons (ps_if (PW.pt (pw_or (pt_cmpR (op_neD hu) (pv 13) (pv 4) (nomark _)) (pw_or1 (pt_cmpR (op_neD hu) (pe_call GZ hr1 (by rfl) mZ FZ.kp bZ .nil pass0 (pa_cons (pv 14) pa_nil)) (pe_ix ix_list (pv 7) (pv 12) (fun _ _ => rfl)) (nomark _))))) (pss_one (ps_ret pe_bl)) pss_nil)
        (pss_cons (ps_expr (pe_bm0 PySem.F.plainAttrs_list PySem.F.slot_list_clear PySem.F.type_list_clear mt_clear (pv 13)))
        (pss_cons (ps_if (pt_not (pt_val (pe_call GJ (hr.mono (by decide)) (by rfl) mJ FJ.kp bJ .nil pass0 (pa_cons (pv 14) (pa_cons (pv 4) (pa_cons (pe_op op_cat (pv 2) (pe_lst (pa_cons pe_non (pa_cons pe_str pa_nil)))) pa_nil)))))) (pss_one (ps_ret pe_bl)) pss_nil)
        (pss_cons (ps_if (pt_not (pt_val (pe_call GQ (hr.mono (by decide)) (by rfl) mQ FQ.kp bQ .nil pass0 (pa_cons (pv 12) (pa_cons (pe_call GV hr1 (by rfl) mV FV.kp bV .nil pass0 (pa_cons (pv 4) (pa_cons (pe_op op_add (pv 11) (pv 12)) pa_nil))) (pa_cons (pv 5) (pa_cons (pv 6) pa_nil))))))) (pss_one (ps_ret pe_bl)) pss_nil)
        (pss_cons (ps_if (pt_not (pt_val (pe_call GQ (hr.mono (by decide)) (by rfl) mQ FQ.kp bQ .nil pass0 (pa_cons (pv 12) (pa_cons (pv 4) (pa_cons (pe_ix ix_list (pv 9) (pe_op op_mod (pe_op op_add (pv 11) (pv 12)) pe_int) (fun _ _ => rfl)) (pa_cons (pv 6) pa_nil))))))) (pss_one (ps_ret pe_bl)) pss_nil)
        (pss_one (ps_if (PW.pt (pw_and (pt_cmpR op_lt (pv 12) pe_int (nomark _)) (pw_and1 (pt_not (pt_val (pe_call GQ (hr.mono (by decide)) (by rfl) mQ FQ.kp bQ .nil pass0 (pa_cons (pv 12) (pa_cons (pv 4) (pa_cons (pv 5) (pa_cons (pe_ix ix_list (pv 10) (pe_op op_mod (pe_op op_add (pv 11) (pv 12)) pe_int) (fun _ _ => rfl)) pa_nil)))))))))) (pss_one (ps_ret pe_bl)) pss_nil))))))))))
      (pss_one (ps_ret pe_bl)))))))))))))), ?_⟩
    have one : (1 : Nat) ≤ sizeLine := small1000' (by decide)
    have two : (2 : Nat) ≤ sizeLine := small1000' (by decide)
    have four : (4 : Nat) ≤ sizeLine := small1000' (by decide)
    have six : (6 : Nat) ≤ sizeLine := small1000' (by decide)
    have p9 : (0 : Int) < 9 := by decide
    have p6 : (0 : Int) < 6 := by decide
    have d7 : ∀ z : Int, CDiv z 7 := fun z => ⟨by decide, by decide⟩
    have cp : CPow 10 9 := ⟨by decide, by decide, by decide⟩
    have ep : (10 : Int) ^ (9 : Int).toNat = 1000000000 := by decide
    have pp : (0 : Int) < (10 : Int) ^ (9 : Int).toNat := by rw [ep]; decide
    -- cell, names
    refine ⟨_, rfl, a, ns, 0, rfl, hS, ?_⟩
    generalize ns.getD 0 0 = c0
    refine ⟨_, rfl, c0, 7, rfl, by decide, fun n H1 hn hN S1 => ?_⟩
    -- cells
    refine ⟨_, rfl, a, ns, 1, rfl, S1.seq hS, one, fun t1 h1 => ?_⟩
    generalize ns.getD 1 0 = c1
    have S2 := S1.trans (Same.upd (o := HO.lst [V.int c1]) h1)
    have N2 := Same.upd (o := HO.lst [V.int c1]) h1 _ _ hN
    have Q2 : upd H1 t1 (HO.lst [V.int c1]) t1 = some (.lst [V.int c1]) := upd_same
    generalize upd H1 t1 (HO.lst [V.int c1]) = H2 at S2 N2 Q2 ⊢
    obtain ⟨cs, ecs, hcs⟩ := cut5 ns
    refine ⟨_, rfl, _, rfl, _, rfl, a, _, rfl, S2.seq hS, fun t2 h2 => ?_⟩
    rw [ecs]
    have S3 := S2.trans (Same.upd (o := HO.lst (cs.map V.int)) h2)
    have N3 := Same.upd (o := HO.lst (cs.map V.int)) h2 _ _ N2
    have Q3 := Same.upd (o := HO.lst (cs.map V.int)) h2 _ _ Q2
    have M3 : upd H2 t2 (HO.lst (cs.map V.int)) t2 = some (.lst (cs.map V.int)) := upd_same
    generalize upd H2 t2 (HO.lst (cs.map V.int)) = H3 at S3 N3 Q3 M3 ⊢
    refine ⟨t1, t2, _, _, rfl, rfl, Q3, M3, small1000' (by simp; omega), fun ce h3 => ?_⟩
    have S4 := S3.trans (Same.upd (o := HO.lst ([V.int c1] ++ cs.map V.int)) h3)
    have N4 := Same.upd (o := HO.lst ([V.int c1] ++ cs.map V.int)) h3 _ _ N3
    have C4 : upd H3 ce (HO.lst ([V.int c1] ++ cs.map V.int)) ce = some (.lst ((c1 :: cs).map V.int)) := upd_same
    generalize upd H3 ce (HO.lst ([V.int c1] ++ cs.map V.int)) = H4 at S4 N4 C4 ⊢
    clear S3 N3 Q3 M3 h3 S2 N2 Q2 h2 h1 H3 H2
    -- lands
    have eN : ((List.range 7).map fun k : Nat => V.str (txt (nmK c0 (k : Int)))) = (nms c0).map V.str := by simp [nms]
    rw [eN] at N4
    have nl : (nms c0).length = 7 := by simp [nms]
    have gd := lds_gd c0 (c1 :: cs) (by simp) (by simp; omega)
    have ll : (lds c0 (c1 :: cs)).length = min 7 (cs.length + 1) := by simp [lds, nl]
    refine ⟨_, rfl, _, rfl, n, ce, rfl, ⟨_, SqL.of N4⟩, ⟨_, SqL.of C4⟩, comp_zip (K := K) (a := n) (b := ce) (xs := (nms c0).map V.str) (ys := (c1 :: cs).map V.int) (fun i zs σ H' => ∃ v0 v1, σ = [v0, v1] ∧ Same H4 H' ∧ PySem.Paired (LP H') zs ((lds c0 (c1 :: cs)).take i))
      ⟨none, none, rfl, Same.refl _, .nil⟩ (small1000' (by simp [nl])) (fun i zs σ H' hi h => ?_) (fun i x y zs σ H' T' hx hy hT h => ?_) (fun zs σ H5 h => ?_)⟩
    · obtain ⟨v0, v1, rfl, sm, hp⟩ := h
      refine ⟨SqL.of (sm _ _ N4), SqL.of (sm _ _ C4), ?_⟩
      rw [Paired.length hp, List.length_take]
      omega
    · obtain ⟨v0, v1, rfl, sm, hp⟩ := h
      rw [List.getElem?_map] at hx hy
      obtain ⟨s0, e1, rfl⟩ := Option.map_eq_some_iff.mp hx
      obtain ⟨z0, e2, rfl⟩ := Option.map_eq_some_iff.mp hy
      refine ⟨T', _, rfl, SqT.of upd_same, rfl, _, _, rfl, _, _, rfl, rfl, ?_⟩
      refine ⟨_, rfl, _, rfl, _, _, rfl, rfl, p9, _, _, rfl, rfl, two, fun t5 h5 => ?_⟩
      have s5 : Same H' (upd (upd H' T' (.tup [V.str s0, V.int z0])) t5 (.tup [V.str s0, V.int (1 + z0 % 9)])) := (Same.upd hT).trans (Same.upd h5)
      refine ⟨_, _, rfl, sm.trans s5, ?_⟩
      have st : (lds c0 (c1 :: cs)).take (i + 1) = (lds c0 (c1 :: cs)).take i ++ [(s0, 1 + z0 % 9)] := by
        have hg : (lds c0 (c1 :: cs))[i]? = some (s0, 1 + z0 % 9) := by
          have hz : ((nms c0).zip (c1 :: cs))[i]? = some (s0, z0) := (List.getElem?_zip_eq_some (z := (s0, z0))).mpr ⟨e1, e2⟩
          simp only [lds, List.getElem?_map, hz, Option.map_some]
        rw [List.take_add_one, hg]
        rfl
      rw [st]
      exact L2.Paired.snoc (Paired.mapP hp fun _ _ r => r.same s5) ⟨t5, rfl, upd_same⟩
    obtain ⟨_, _, rfl, sm5, hp5⟩ := h
    have ln7 : min ((nms c0).map V.str).length ((c1 :: cs).map V.int).length = (lds c0 (c1 :: cs)).length := by simp [ll, nl]
    rw [ln7, List.take_length] at hp5
    generalize lds c0 (c1 :: cs) = ls at hp5 gd
    intro la hla
    have S6 := (S4.trans sm5).trans (Same.upd (o := HO.lst zs) hla)
    have N6 := Same.upd (o := HO.lst zs) hla _ _ (sm5 _ _ N4)
    have P6 : PySem.Paired (LP (upd H5 la (HO.lst zs))) zs ls := Paired.mapP hp5 fun _ _ r => r.same (Same.upd hla)
    have Q6 : upd H5 la (HO.lst zs) la = some (.lst zs) := upd_same
    generalize upd H5 la (HO.lst zs) = H6 at S6 N6 P6 Q6 ⊢
    clear sm5 hp5 S4 N4 C4 hla H5 H4
    -- top, days
    refine ⟨_, rfl, a, ns, 2, rfl, S6.seq hS, _, 0, rfl, by decide, by decide, fun tp H7 tp1 tp2 S7 => ?_⟩
    refine ⟨_, rfl, a, ns, 3, rfl, (S6.trans S7).seq hS, _, 1, rfl, by decide, by decide, fun dy H8 dy1 dy2 S8 => ?_⟩
    have S9 := S7.trans S8
    -- due
    refine ⟨four, fun u1 k1 => ?_⟩
    have D1 := dx_lst k1 (dxs4 (dx_bl true) (dx_bl true) (dx_bl false) (dx_bl false))
    have R1 := S9.trans (Same.upd (o := HO.lst [V.bl true, V.bl true, V.bl false, V.bl false]) k1)
    generalize upd H8 u1 (HO.lst [V.bl true, V.bl true, V.bl false, V.bl false]) = G1 at D1 R1 ⊢
    refine ⟨four, fun u2 k2 => ?_⟩
    have D2 := dx_lst k2 (dxs4 (dx_bl true) (dx_bl false) (dx_bl true) (dx_bl false))
    have E2 := D1.same (Same.upd (o := HO.lst [V.bl true, V.bl false, V.bl true, V.bl false]) k2)
    have R2 := R1.trans (Same.upd (o := HO.lst [V.bl true, V.bl false, V.bl true, V.bl false]) k2)
    generalize upd G1 u2 (HO.lst [V.bl true, V.bl false, V.bl true, V.bl false]) = G2 at D2 E2 R2 ⊢
    refine ⟨four, fun u3 k3 => ?_⟩
    have D3 := dxs3 (E2.same (Same.upd k3)) (D2.same (Same.upd k3)) (dx_lst k3 (dxs4 (dx_bl true) (dx_bl false) (dx_bl true) (dx_bl true)))
    have R3 := R2.trans (Same.upd (o := HO.lst [V.bl true, V.bl false, V.bl true, V.bl true]) k3)
    generalize upd G2 u3 (HO.lst [V.bl true, V.bl false, V.bl true, V.bl true]) = G3 at D3 R3 ⊢
    refine ⟨small1000' (by show 3 ≤ 1000; decide), fun u4 k4 => ?_⟩
    have D4 := D3.same (Same.upd (o := HO.lst [V.ref u1, V.ref u2, V.ref u3]) k4)
    have R4 := R3.trans (Same.upd (o := HO.lst [V.ref u1, V.ref u2, V.ref u3]) k4)
    have Q4 : upd G3 u4 (HO.lst [V.ref u1, V.ref u2, V.ref u3]) u4 = some (.lst [V.ref u1, V.ref u2, V.ref u3]) := upd_same
    generalize upd G3 u4 (HO.lst [V.ref u1, V.ref u2, V.ref u3]) = G4 at D4 R4 Q4 ⊢
    refine ⟨_, rfl, four, fun u5 k5 => ?_⟩
    have D5 := dxs_snoc (D4.same (Same.upd k5)) (dx_lst k5 (dxs4 (dx_bl true) (dx_bl false) (dx_bl false) (dx_bl false)))
    have R5 := R4.trans (Same.upd (o := HO.lst [V.bl true, V.bl false, V.bl false, V.bl false]) k5)
    have Q5 := Same.upd (o := HO.lst [V.bl true, V.bl false, V.bl false, V.bl false]) k5 _ _ Q4
    generalize upd G4 u5 (HO.lst [V.bl true, V.bl false, V.bl false, V.bl false]) = G5 at D5 R5 Q5 ⊢
    refine ⟨one, fun u6 k6 => ?_⟩
    have D6 := D5.same (Same.upd (o := HO.lst [V.ref u5]) k6)
    have R6 := R5.trans (Same.upd (o := HO.lst [V.ref u5]) k6)
    have Q6' := Same.upd (o := HO.lst [V.ref u5]) k6 _ _ Q5
    have Z6 : upd G5 u6 (HO.lst [V.ref u5]) u6 = some (.lst [V.ref u5]) := upd_same
    generalize upd G5 u6 (HO.lst [V.ref u5]) = G6 at D6 R6 Q6' Z6 ⊢
    refine ⟨u4, u6, _, _, rfl, rfl, Q6', Z6, small1000' (by show 4 ≤ 1000; decide), fun du k7 => ?_⟩
    have D7 : DX (upd G6 du (HO.lst ([V.ref u1, V.ref u2, V.ref u3] ++ [V.ref u5]))) (.list [dueD 0, dueD 1, dueD 2, dueD 3]) (.ref du) := dx_lst k7 D6
    have R7 := R6.trans (Same.upd (o := HO.lst ([V.ref u1, V.ref u2, V.ref u3] ++ [V.ref u5])) k7)
    generalize upd G6 du (HO.lst ([V.ref u1, V.ref u2, V.ref u3] ++ [V.ref u5])) = G7 at D7 R7 ⊢
    clear D1 D2 D3 D4 D5 D6 E2 R1 R2 R3 R4 R5 R6 Q4 Q5 Q6' Z6 k1 k2 k3 k4 k5 k6 k7 G6 G5 G4 G3 G2 G1
    -- far
    refine ⟨_, rfl, a, ns, 3, rfl, (S6.trans R7).seq hS, _, _, rfl, rfl, d7 _, _, _, rfl, rfl, cp, _, _, rfl, rfl, pp, ?_⟩
    dsimp only
    try rw [ep]
    have hfar : 0 ≤ ns.getD 3 0 / 7 % 1000000000 := Int.emod_nonneg _ (by decide)
    generalize ns.getD 3 0 / 7 % 1000000000 = far at hfar ⊢
    -- bad tops
    refine ⟨_, rfl, _, rfl, _, _, rfl, rfl, _, _, rfl, rfl, cp, _, _, rfl, rfl, _, rfl, _, _, rfl, rfl, one, fun b1 j1 => ?_⟩
    rw [ep]
    have W1 := dx_lst j1 (dxs1 (dx_int 1))
    have V1 := R7.trans (Same.upd (o := HO.lst [V.int 1]) j1)
    have D8 := D7.same (Same.upd (o := HO.lst [V.int 1]) j1)
    generalize upd G7 b1 (HO.lst [V.int 1]) = G8 at W1 V1 D8 ⊢
    refine ⟨six, fun bt j2 => ?_⟩
    have W2 : DXs (upd G8 bt (HO.lst [V.int (-1 - far), V.int (1000000000 + 1 + far), V.bl true, V.non, V.str "3", V.ref b1])) [.int (-1 - far), .int (1000000000 + 1 + far), .bool true, .none, .str "3", .list [.int 1]] [V.int (-1 - far), V.int (1000000000 + 1 + far), V.bl true, V.non, V.str "3", V.ref b1] :=
      dxs_app (dxs3 (dx_int _) (dx_int _) (dx_bl _)) (dxs3 (by simp only [DX]) (dx_str (by decide)) (W1.same (Same.upd j2)))
    have V2 := V1.trans (Same.upd (o := HO.lst [V.int (-1 - far), V.int (1000000000 + 1 + far), V.bl true, V.non, V.str "3", V.ref b1]) j2)
    have D9 := D8.same (Same.upd (o := HO.lst [V.int (-1 - far), V.int (1000000000 + 1 + far), V.bl true, V.non, V.str "3", V.ref b1]) j2)
    have X2 : upd G8 bt (HO.lst [V.int (-1 - far), V.int (1000000000 + 1 + far), V.bl true, V.non, V.str "3", V.ref b1]) bt = some (.lst [V.int (-1 - far), V.int (1000000000 + 1 + far), V.bl true, V.non, V.str "3", V.ref b1]) := upd_same
    generalize upd G8 bt (HO.lst [V.int (-1 - far), V.int (1000000000 + 1 + far), V.bl true, V.non, V.str "3", V.ref b1]) = G9 at W2 V2 D9 X2 ⊢
    have hT : ∀ d ∈ ([.int (-1 - far), .int (1000000000 + 1 + far), .bool true, .none, .str "3", .list [.int 1]] : List PyData), betD d 0 1000000000 = false := by
      intro d hd
      simp only [List.mem_cons, List.not_mem_nil, or_false] at hd
      rcases hd with rfl | rfl | rfl | rfl | rfl | rfl
      · simp only [betD, decide_eq_false (by omega : ¬ (0 : Int) ≤ -1 - far), Bool.false_and]
      · simp only [betD, decide_eq_false (by omega : ¬ 1000000000 + 1 + far ≤ 1000000000), Bool.and_false]
      all_goals rfl
    have lT : ([.int (-1 - far), .int (1000000000 + 1 + far), .bool true, .none, .str "3", .list [.int 1]] : List PyData).length = 6 := rfl
    generalize ([.int (-1 - far), .int (1000000000 + 1 + far), .bool true, .none, .str "3", .list [.int 1]] : List PyData) = tD at W2 hT lT
    generalize [V.int (-1 - far), V.int (1000000000 + 1 + far), V.bl true, V.non, V.str "3", V.ref b1] = tv at W2 X2
    -- bad days
    refine ⟨_, rfl, _, rfl, _, _, rfl, rfl, cp, _, _, rfl, rfl, _, rfl, _, _, rfl, rfl, six, fun bd j3 => ?_⟩
    rw [ep]
    have W3 : DXs (upd G9 bd (HO.lst [V.int 0, V.int (-far), V.int (1000000000 + 1 + far), V.bl false, V.non, V.str "3"])) [.int 0, .int (-far), .int (1000000000 + 1 + far), .bool false, .none, .str "3"] [V.int 0, V.int (-far), V.int (1000000000 + 1 + far), V.bl false, V.non, V.str "3"] :=
      dxs_app (dxs3 (dx_int _) (dx_int _) (dx_int _)) (dxs3 (dx_bl _) (by simp only [DX]) (dx_str (by decide)))
    have V3 := V2.trans (Same.upd (o := HO.lst [V.int 0, V.int (-far), V.int (1000000000 + 1 + far), V.bl false, V.non, V.str "3"]) j3)
    have D10 := D9.same (Same.upd (o := HO.lst [V.int 0, V.int (-far), V.int (1000000000 + 1 + far), V.bl false, V.non, V.str "3"]) j3)
    have W2' := W2.same (Same.upd (o := HO.lst [V.int 0, V.int (-far), V.int (1000000000 + 1 + far), V.bl false, V.non, V.str "3"]) j3)
    have X2' := Same.upd (o := HO.lst [V.int 0, V.int (-far), V.int (1000000000 + 1 + far), V.bl false, V.non, V.str "3"]) j3 _ _ X2
    have X3 : upd G9 bd (HO.lst [V.int 0, V.int (-far), V.int (1000000000 + 1 + far), V.bl false, V.non, V.str "3"]) bd = some (.lst [V.int 0, V.int (-far), V.int (1000000000 + 1 + far), V.bl false, V.non, V.str "3"]) := upd_same
    generalize upd G9 bd (HO.lst [V.int 0, V.int (-far), V.int (1000000000 + 1 + far), V.bl false, V.non, V.str "3"]) = G10 at W3 V3 D10 W2' X2' X3 ⊢
    have hD : ∀ d ∈ ([.int 0, .int (-far), .int (1000000000 + 1 + far), .bool false, .none, .str "3"] : List PyData), betD d 1 1000000000 = false := by
      intro d hd
      simp only [List.mem_cons, List.not_mem_nil, or_false] at hd
      rcases hd with rfl | rfl | rfl | rfl | rfl | rfl
      · rfl
      · simp only [betD, decide_eq_false (by omega : ¬ (1 : Int) ≤ -far), Bool.false_and]
      · simp only [betD, decide_eq_false (by omega : ¬ 1000000000 + 1 + far ≤ 1000000000), Bool.and_false]
      all_goals rfl
    have lD : ([.int 0, .int (-far), .int (1000000000 + 1 + far), .bool false, .none, .str "3"] : List PyData).length = 6 := rfl
    generalize ([.int 0, .int (-far), .int (1000000000 + 1 + far), .bool false, .none, .str "3"] : List PyData) = dD at W3 hD lD
    generalize [V.int 0, V.int (-far), V.int (1000000000 + 1 + far), V.bl false, V.non, V.str "3"] = dv at W3 X3
    -- at
    refine ⟨_, rfl, a, ns, 2, rfl, (S6.trans V3).seq hS, _, _, rfl, rfl, d7 _, ?_⟩
    obtain ⟨at0, hat⟩ : ∃ z : Int, z = ns.getD 2 0 / 7 := ⟨_, rfl⟩
    have B0 : Bx G10 n la du bt bd ((nms c0).map V.str) zs ls tv dv tD dD := ⟨V3 _ _ N6, V3 _ _ Q6, Paired.mapP P6 fun _ _ r => r.same V3, D10, X2', W2', X3, W3⟩
    have ltv : tv.length = 6 := by rw [← DXs.len W2', lT]
    have ldv : dv.length = 6 := by rw [← DXs.len W3, lD]
    have hnv : ∀ y ∈ (nms c0).map V.str, y = V.non ∨ ∃ z, y = V.str z := fun y hy => by
      obtain ⟨z, _, rfl⟩ := List.mem_map.mp hy
      exact .inr ⟨z, rfl⟩
    have hnl : ((nms c0).map V.str).length = 7 := by simp [nl]
    generalize (nms c0).map V.str = nv0 at B0 hnv hnl
    refine ⟨4, rfl, by decide, by decide, for_range (lo := 0) (n := 4) (fun i σ H2 => ∃ v12 v13 v14, σ = [some (V.ref a), some (V.int c0), some (V.ref n), some (V.ref ce), some (V.ref la), some (V.int tp), some (V.int dy), some (V.ref du), some (V.int far), some (V.ref bt), some (V.ref bd), some (V.int at0), v12, v13, v14] ∧ Bx H2 n la du bt bd nv0 zs ls tv dv tD dD)
      ⟨none, none, none, by rw [hat]; rfl, B0⟩ (fun i σ H2 hi h => ?_) (fun σ H2 h => ?_)⟩
    case refine_2 =>
      obtain ⟨v12, v13, v14, rfl, B⟩ := h
      exact k H2
    obtain ⟨v12, v13, v14, rfl, B⟩ := h
    rw [Int.zero_add]
    refine ⟨_, rfl, la, _, rfl, .inl (SqL.of B.l), fun hd hh => ?_⟩
    have s3 := Same.upd (o := HO.lst zs) hh
    have B3 := B.same s3
    have q3 : upd H2 hd (HO.lst zs) hd = some (.lst zs) := upd_same
    generalize upd H2 hd (HO.lst zs) = H3 at s3 B3 q3 ⊢
    have dl3 : DX H3 (.list (ls.map lnD)) (.ref hd) := by
      simp only [DX]
      exact ⟨hd, zs, rfl, q3, lp_dxs B3.lp gd.nm⟩
    have okT : okK i (.list (ls.map lnD)) (.int tp) (.int dy) = true := by
      simp only [okK, gd.ok, betD, decide_eq_true tp1, decide_eq_true tp2, decide_eq_true dy1, decide_eq_true dy2, Bool.true_and, Bool.and_true, Bool.or_true]
    refine ⟨_, rfl, _, rfl, _, rfl, _, rfl, i, .ref hd, .int tp, .int dy, _, .int tp, .int dy, rfl, by omega, dl3, dx_int _, dx_int _, fun _ a' xs' p dx t fs H4 ea ha' hp hp4 lk lw ht4 s4 => ?_, fun no => by rw [okT] at no; cases no⟩
    cases ea
    rw [q3] at ha'
    cases ha'
    have B4 := B3.same s4
    have q4 := s4 _ _ q3
    have dl4 := dl3.same s4
    have dlL : DX H4 (.list (ls.map lnD)) (.ref la) := by
      simp only [DX]
      exact ⟨la, zs, rfl, B4.l, lp_dxs B4.lp gd.nm⟩
    refine ⟨_, rfl, _, rfl, _, _, dl4.dv, dlL.dv, lnD_shaped ls gd.nm, lnD_shaped ls gd.nm, _, rfl, ?_⟩
    rw [lnD_eqv]
    refine ⟨_, rfl, i, p, dx, fs, rfl, by omega, hp4, fun kl H5 hk s5 => ?_⟩
    obtain ⟨vd, v, hdu, hv, hdd⟩ := due_at (B4.du.same s5) hi
    have dk : DX H5 (dueD i) (.ref kl) := by
      simp only [dueD, DX]
      exact ⟨kl, _, rfl, hk, dxs4 (dx_bl _) (dx_bl _) (dx_bl _) (dx_bl _)⟩
    refine ⟨_, rfl, _, rfl, du, _, _, _, rfl, rfl, SqL.of hdu, atI_nat hv, dueD i, dueD i, dk.dv, hdd.dv, due_shaped i, due_shaped i, _, rfl, ?_⟩
    rw [due_eqv]
    refine ⟨_, rfl, .inl ⟨rfl, _, SqL.of (s5 _ _ q4)⟩, hd, _, rfl, rfl, s5 _ _ q4, ?_⟩
    have s6 : Same H2 (upd H5 hd (HO.lst [])) := fun b u e => by
      rw [upd_ne (ne_of_none e hh)]
      exact s5 _ _ (s4 _ _ (s3 _ _ e))
    have hp6 : upd H5 hd (HO.lst []) p = some (.ins (Cof cR cW cS cI i) dx fs) := by
      rw [upd_ne (ne_of (s5 _ _ hp4) (s5 _ _ q4) (by intro z; cases z))]
      exact s5 _ _ hp4
    have ht6 : upd H5 hd (HO.lst []) t = some (.tup zs) := by
      rw [upd_ne (ne_of (s5 _ _ ht4) (s5 _ _ q4) (by intro z; cases z))]
      exact s5 _ _ ht4
    have B6 := B.same s6
    generalize upd H5 hd (HO.lst []) = H6 at s6 hp6 ht6 B6 ⊢
    refine ⟨_, rfl, _, rfl, _, rfl, two, fun t7 h7 => ?_⟩
    have s7 := Same.upd (o := HO.lst [V.non, V.str "q"]) h7
    have q7 : upd H6 t7 (HO.lst [V.non, V.str "q"]) t7 = some (.lst [V.non, V.str "q"]) := upd_same
    generalize upd H6 t7 (HO.lst [V.non, V.str "q"]) = H7 at s7 q7 ⊢
    refine ⟨n, t7, _, _, rfl, rfl, s7 _ _ B6.n, q7, small1000' (by simp [hnl]), fun t8 h8 => ?_⟩
    have s8 := s7.trans (Same.upd (o := HO.lst (nv0 ++ [V.non, V.str "q"])) h8)
    have q8 : upd H7 t8 (HO.lst (nv0 ++ [V.non, V.str "q"])) t8 = some (.lst (nv0 ++ [V.non, V.str "q"])) := upd_same
    generalize upd H7 t8 (HO.lst (nv0 ++ [V.non, V.str "q"])) = H8 at s8 q8 ⊢
    have B8 := B6.same s8
    refine ⟨Cof cR cW cS cI i, p, dx, t, la, t8, fs, zs, _, ls, rfl, Hk h i, s8 _ _ hp6, lk, lw, s8 _ _ ht6, B8.lp, B8.l, gd.nd, q8, fun y hy => ?_, _, rfl, ?_⟩
    · rcases List.mem_append.mp hy with hy | hy
      · exact hnv y hy
      · simp only [List.mem_cons, List.not_mem_nil, or_false] at hy
        rcases hy with rfl | rfl
        · exact .inl rfl
        · exact .inr ⟨_, rfl⟩
    refine ⟨_, rfl, _, rfl, _, rfl, _, rfl, _, _, rfl, rfl, la, zs, ls, _, rfl, B8.l, B8.lp, gd, fun x d H9 hx hn s9 => ?_⟩
    refine ⟨_, rfl, _, rfl, i, x, .int tp, .int dy, d, .int tp, .int dy, rfl, by omega, hx, dx_int _, dx_int _, by simp only [okK, hn, Bool.false_and], fun H10 s10 => ⟨_, rfl, ?_⟩⟩
    have B10 := (B8.same s9).same s10
    have dl10 : DX H10 (.list (ls.map lnD)) (.ref la) := by
      simp only [DX]
      exact ⟨la, zs, rfl, B10.l, lp_dxs B10.lp gd.nm⟩
    obtain ⟨v1, d1, ev1, hd1, hm1⟩ := six_at B10.tD ltv (at0 + i)
    refine ⟨_, rfl, _, rfl, _, rfl, _, rfl, _, rfl, _, _, rfl, rfl, _, _, rfl, rfl, p6, bt, _, _, _, rfl, rfl, SqL.of B10.bt, ev1, _, rfl, i, .ref la, v1, .int dy, .list (ls.map lnD), d1, .int dy, rfl, by omega, dl10, hd1, dx_int _, by simp only [okK, hT d1 hm1, Bool.and_false, Bool.false_and], fun H11 s11 => ⟨_, rfl, ?_⟩⟩
    have B11 := B10.same s11
    have dl11 := dl10.same s11
    refine ⟨_, rfl, _, _, rfl, rfl, _, rfl, ite2 (fun hk2 => ?_) (fun hk2 => ?_)⟩
    · have hi2 : ¬ 2 ≤ i := by
        have := of_decide_eq_true hk2
        omega
      obtain ⟨v2, d2, ev2, hd2, hm2⟩ := six_at B11.dD ldv (at0 + i)
      refine ⟨_, rfl, _, rfl, _, rfl, _, rfl, _, rfl, _, rfl, _, _, rfl, rfl, _, _, rfl, rfl, p6, bd, _, _, _, rfl, rfl, SqL.of B11.bd, ev2, i, .ref la, .int tp, v2, .list (ls.map lnD), .int tp, d2, rfl, by omega, dl11, dx_int _, hd2, by simp only [okK, hD d2 hm2, decide_eq_false hi2, Bool.or_false, Bool.and_false], fun H12 s12 => ⟨_, rfl, ?_⟩⟩
      exact ⟨_, _, _, rfl, B11.same s12⟩
    · exact ⟨_, _, _, rfl, B11⟩
end
end K11
set_option maxHeartbeats 4000000
namespace K11
open PySem L2
theorem exm_of {K : PySem.W.Frag} {C : Addr} (h1 : PySem.W.subIn K (.ref C) (.type "BaseException") = some true) (h2 : PySem.W.isClsIn K C = true) (h3 : PySem.W.typeIn K (.ref C) = some (.type "type")) (h4 : PySem.W.subIn K (.ref C) (.ref C) = some true) : PySem.W.exmOne K (.ref C) (.ref C) = some true := by
  unfold PySem.W.isClsIn at h2
  unfold PySem.W.exmOne PySem.W.kitCls
  simp only [h1, h2, h3, h4]
  rfl
theorem all_mk {l : PySem.W.OpenLaw} {w : World} {K : PySem.W.Frag} {h : Heap} {mg : Str → Option Value} {fa fW fB fM fN fL fA fC fY fG fK fQ fV fZ fJ fLw fR fw fX fS fI cR cW cS cI eR eD eP eS eL eW eE eT eO : Addr} (X : K.In h) (G : h.Ns mainGlobals mg) (hfa : mg "law" = some (.ref fa))
    {odW anW odB anB odM anM odN anN odL anL odA anA odC anC odY anY odG anG odK anK odQ anQ odV anV odZ anZ odJ anJ odLw anLw odR anR odw anw odX anX odS anS odI anI : Option Addr} {slW slB slM slN slL slA slC slY slG slK slQ slV slZ slJ slLw slR slw slX slS slI : Array (Option Value)} {ocW kVW dcW pmW cdW ctW ocB kVB dcB pmB cdB ctB ocM kVM dcM pmM cdM ctM ocN kVN dcN pmN cdN ctN ocL kVL dcL pmL cdL ctL ocA kVA dcA pmA cdA ctA ocC kVC dcC pmC cdC ctC ocY kVY dcY pmY cdY ctY ocG kVG dcG pmG cdG ctG ocK kVK dcK pmK cdK ctK ocQ kVQ dcQ pmQ cdQ ctQ ocV kVV dcV pmV cdV ctV ocZ kVZ dcZ pmZ cdZ ctZ ocJ kVJ dcJ pmJ cdJ ctJ ocLw kVLw dcLw pmLw cdLw ctLw ocR kVR dcR pmR cdR ctR ocw kVw dcw pmw cdw ctw ocX kVX dcX pmX cdX ctX ocS kVS dcS pmS cdS ctS ocI kVI dcI pmI cdI ctI : Value} {tG tL tN tM tW : Tok}
    (aW : PySem.W.nsIn K mainGlobals "is_whole" = some (some (.ref fW)))
    (lW : K.lookup fW = some ⟨ocW, odW, .func (PySem.W.fnOf "is_whole" "is_whole" (defArgs sWhole) (defBody sWhole) (defScope sWhole) .none kVW dcW pmW anW cdW ctW), slW⟩)
    (ccW : PySem.W.codeIn K cdW "is_whole" = true)
    (kW : PySem.W.keepIn K (.ref fW) = true)
    (aB : PySem.W.nsIn K mainGlobals "is_between" = some (some (.ref fB)))
    (lB : K.lookup fB = some ⟨ocB, odB, .func (PySem.W.fnOf "is_between" "is_between" (defArgs sBetween) (defBody sBetween) (defScope sBetween) .none kVB dcB pmB anB cdB ctB), slB⟩)
    (ccB : PySem.W.codeIn K cdB "is_between" = true)
    (kB : PySem.W.keepIn K (.ref fB) = true)
    (aM : PySem.W.nsIn K mainGlobals "is_made_of" = some (some (.ref fM)))
    (lM : K.lookup fM = some ⟨ocM, odM, .func (PySem.W.fnOf "is_made_of" "is_made_of" (defArgs sMade) (defBody sMade) (defScope sMade) .none kVM dcM pmM anM cdM ctM), slM⟩)
    (ccM : PySem.W.codeIn K cdM "is_made_of" = true)
    (kM : PySem.W.keepIn K (.ref fM) = true)
    (aN : PySem.W.nsIn K mainGlobals "is_name" = some (some (.ref fN)))
    (lN : K.lookup fN = some ⟨ocN, odN, .func (PySem.W.fnOf "is_name" "is_name" (defArgs sName) (defBody sName) (defScope sName) .none kVN dcN pmN anN cdN ctN), slN⟩)
    (ccN : PySem.W.codeIn K cdN "is_name" = true)
    (kN : PySem.W.keepIn K (.ref fN) = true)
    (aL : PySem.W.nsIn K mainGlobals "is_land" = some (some (.ref fL)))
    (lL : K.lookup fL = some ⟨ocL, odL, .func (PySem.W.fnOf "is_land" "is_land" (defArgs sLand) (defBody sLand) (defScope sLand) .none kVL dcL pmL anL cdL ctL), slL⟩)
    (ccL : PySem.W.codeIn K cdL "is_land" = true)
    (kL : PySem.W.keepIn K (.ref fL) = true)
    (aA : PySem.W.nsIn K mainGlobals "are_lands" = some (some (.ref fA)))
    (lA : K.lookup fA = some ⟨ocA, odA, .func (PySem.W.fnOf "are_lands" "are_lands" (defArgs sLands) (defBody sLands) (defScope sLands) .none kVA dcA pmA anA cdA ctA), slA⟩)
    (ccA : PySem.W.codeIn K cdA "are_lands" = true)
    (kA : PySem.W.keepIn K (.ref fA) = true)
    (aC : PySem.W.nsIn K mainGlobals "_law_cell_at" = some (some (.ref fC)))
    (lC : K.lookup fC = some ⟨ocC, odC, .func (PySem.W.fnOf "_law_cell_at" "_law_cell_at" (defArgs sCell) (defBody sCell) (defScope sCell) .none kVC dcC pmC anC cdC ctC), slC⟩)
    (ccC : PySem.W.codeIn K cdC "_law_cell_at" = true)
    (kC : PySem.W.keepIn K (.ref fC) = true)
    (aY : PySem.W.nsIn K mainGlobals "_law_lands" = some (some (.ref fY)))
    (lY : K.lookup fY = some ⟨ocY, odY, .func (PySem.W.fnOf "_law_lands" "_law_lands" (defArgs sNames) (defBody sNames) (defScope sNames) .none kVY dcY pmY anY cdY ctY), slY⟩)
    (ccY : PySem.W.codeIn K cdY "_law_lands" = true)
    (kY : PySem.W.keepIn K (.ref fY) = true)
    (aG : PySem.W.nsIn K mainGlobals "_law_edge" = some (some (.ref fG)))
    (lG : K.lookup fG = some ⟨ocG, odG, .func (PySem.W.fnOf "_law_edge" "_law_edge" (defArgs sEdge) (defBody sEdge) (defScope sEdge) .none kVG dcG pmG anG cdG ctG), slG⟩)
    (ccG : PySem.W.codeIn K cdG "_law_edge" = true)
    (kG : PySem.W.keepIn K (.ref fG) = true)
    (aK : PySem.W.nsIn K mainGlobals "_law_made" = some (some (.ref fK)))
    (lK : K.lookup fK = some ⟨ocK, odK, .func (PySem.W.fnOf "_law_made" "_law_made" (defArgs sMk) (defBody sMk) (defScope sMk) .none kVK dcK pmK anK cdK ctK), slK⟩)
    (ccK : PySem.W.codeIn K cdK "_law_made" = true)
    (kK : PySem.W.keepIn K (.ref fK) = true)
    (aQ : PySem.W.nsIn K mainGlobals "_law_refused" = some (some (.ref fQ)))
    (lQ : K.lookup fQ = some ⟨ocQ, odQ, .func (PySem.W.fnOf "_law_refused" "_law_refused" (defArgs sRef) (defBody sRef) (defScope sRef) .none kVQ dcQ pmQ anQ cdQ ctQ), slQ⟩)
    (ccQ : PySem.W.codeIn K cdQ "_law_refused" = true)
    (kQ : PySem.W.keepIn K (.ref fQ) = true)
    (aV : PySem.W.nsIn K mainGlobals "_law_bad_lands" = some (some (.ref fV)))
    (lV : K.lookup fV = some ⟨ocV, odV, .func (PySem.W.fnOf "_law_bad_lands" "_law_bad_lands" (defArgs sBad) (defBody sBad) (defScope sBad) .none kVV dcV pmV anV cdV ctV), slV⟩)
    (ccV : PySem.W.codeIn K cdV "_law_bad_lands" = true)
    (kV : PySem.W.keepIn K (.ref fV) = true)
    (aZ : PySem.W.nsIn K mainGlobals "_law_kinds" = some (some (.ref fZ)))
    (lZ : K.lookup fZ = some ⟨ocZ, odZ, .func (PySem.W.fnOf "_law_kinds" "_law_kinds" (defArgs sKinds) (defBody sKinds) (defScope sKinds) .none kVZ dcZ pmZ anZ cdZ ctZ), slZ⟩)
    (ccZ : PySem.W.codeIn K cdZ "_law_kinds" = true)
    (kZ : PySem.W.keepIn K (.ref fZ) = true)
    (aJ : PySem.W.nsIn K mainGlobals "_law_weights" = some (some (.ref fJ)))
    (lJ : K.lookup fJ = some ⟨ocJ, odJ, .func (PySem.W.fnOf "_law_weights" "_law_weights" (defArgs sWts) (defBody sWts) (defScope sWts) .none kVJ dcJ pmJ anJ cdJ ctJ), slJ⟩)
    (ccJ : PySem.W.codeIn K cdJ "_law_weights" = true)
    (kJ : PySem.W.keepIn K (.ref fJ) = true)
    (aLw : PySem.W.nsIn K mainGlobals "law" = some (some (.ref fLw)))
    (lLw : K.lookup fLw = some ⟨ocLw, odLw, .func (PySem.W.fnOf "law" "law" (defArgs sLaw) (defBody sLaw) (defScope sLaw) .none kVLw dcLw pmLw anLw cdLw ctLw), slLw⟩)
    (ccLw : PySem.W.codeIn K cdLw "law" = true)
    (kLw : PySem.W.keepIn K (.ref fLw) = true)
    (ncR : PySem.W.nsIn K mainGlobals "Rule" = some (some (.ref cR)))
    (ncW : PySem.W.nsIn K mainGlobals "Within" = some (some (.ref cW)))
    (ncS : PySem.W.nsIn K mainGlobals "Since" = some (some (.ref cS)))
    (ncI : PySem.W.nsIn K mainGlobals "InRow" = some (some (.ref cI)))
    (iR : PySem.W.findIn K (.ref cR) "__init__" = some (some (.ref fR)))
    (lR : K.lookup fR = some ⟨ocR, odR, .func (PySem.W.fnOf "__init__" "Rule.__init__" (defArgs sRuleI) (defBody sRuleI) (defScope sRuleI) .none kVR dcR pmR anR cdR ctR), slR⟩)
    (ccR : PySem.W.codeIn K cdR "Rule.__init__" = true)
    (kR : PySem.W.keepIn K (.ref fR) = true)
    (fnR : PySem.W.isFn K (.ref fR) = true)
    (iw : PySem.W.findIn K (.ref cR) "weight" = some (some (.ref fw)))
    (lw : K.lookup fw = some ⟨ocw, odw, .func (PySem.W.fnOf "weight" "Rule.weight" (defArgs sRuleW) (defBody sRuleW) (defScope sRuleW) .none kVw dcw pmw anw cdw ctw), slw⟩)
    (ccw : PySem.W.codeIn K cdw "Rule.weight" = true)
    (kw : PySem.W.keepIn K (.ref fw) = true)
    (fnw : PySem.W.isFn K (.ref fw) = true)
    (iX : PySem.W.findIn K (.ref cW) "__init__" = some (some (.ref fX)))
    (lX : K.lookup fX = some ⟨ocX, odX, .func (PySem.W.fnOf "__init__" "Within.__init__" (defArgs sWithinI) (defBody sWithinI) (defScope sWithinI) .none kVX dcX pmX anX cdX ctX), slX⟩)
    (ccX : PySem.W.codeIn K cdX "Within.__init__" = true)
    (kX : PySem.W.keepIn K (.ref fX) = true)
    (fnX : PySem.W.isFn K (.ref fX) = true)
    (iS : PySem.W.findIn K (.ref cS) "__init__" = some (some (.ref fS)))
    (lS : K.lookup fS = some ⟨ocS, odS, .func (PySem.W.fnOf "__init__" "Since.__init__" (defArgs sSinceI) (defBody sSinceI) (defScope sSinceI) .none kVS dcS pmS anS cdS ctS), slS⟩)
    (ccS : PySem.W.codeIn K cdS "Since.__init__" = true)
    (kS : PySem.W.keepIn K (.ref fS) = true)
    (fnS : PySem.W.isFn K (.ref fS) = true)
    (iI : PySem.W.findIn K (.ref cI) "__init__" = some (some (.ref fI)))
    (lI : K.lookup fI = some ⟨ocI, odI, .func (PySem.W.fnOf "__init__" "InRow.__init__" (defArgs sInRowI) (defBody sInRowI) (defScope sInRowI) .none kVI dcI pmI anI cdI ctI), slI⟩)
    (ccI : PySem.W.codeIn K cdI "InRow.__init__" = true)
    (kI : PySem.W.keepIn K (.ref fI) = true)
    (fnI : PySem.W.isFn K (.ref fI) = true)
    (mkR : PySem.W.makesIn K cR = true)
    (kcR : PySem.W.keepIn K (.ref cR) = true)
    (pgR : PySem.W.plainGet K cR Str.empty = true)
    (hdR : PySem.W.hasDictIn K cR = true)
    (poR : PySem.W.plainOver K cR = true)
    (saR : PySem.W.findIn K (.ref cR) "__setattr__" = some (some (.builtin "object.__setattr__")))
    (nalaR : PySem.W.findIn K (.ref cR) "lands" = some none)
    (namoR : PySem.W.findIn K (.ref cR) "most" = some none)
    (naspR : PySem.W.findIn K (.ref cR) "span" = some none)
    (naleR : PySem.W.findIn K (.ref cR) "leave" = some none)
    (wtR : PySem.W.findIn K (.ref cR) "weight" = some (some (.ref fw)))
    (tcR : PySem.W.findIn K (.ref cR) "__class__" = some (some (.builtin "object.__class__")))
    (moR : PySem.W.mroIn K cR (.type "object") = some true)
    (mkW : PySem.W.makesIn K cW = true)
    (kcW : PySem.W.keepIn K (.ref cW) = true)
    (pgW : PySem.W.plainGet K cW Str.empty = true)
    (hdW : PySem.W.hasDictIn K cW = true)
    (poW : PySem.W.plainOver K cW = true)
    (saW : PySem.W.findIn K (.ref cW) "__setattr__" = some (some (.builtin "object.__setattr__")))
    (nalaW : PySem.W.findIn K (.ref cW) "lands" = some none)
    (namoW : PySem.W.findIn K (.ref cW) "most" = some none)
    (naspW : PySem.W.findIn K (.ref cW) "span" = some none)
    (naleW : PySem.W.findIn K (.ref cW) "leave" = some none)
    (wtW : PySem.W.findIn K (.ref cW) "weight" = some (some (.ref fw)))
    (tcW : PySem.W.findIn K (.ref cW) "__class__" = some (some (.builtin "object.__class__")))
    (moW : PySem.W.mroIn K cW (.type "object") = some true)
    (mkS : PySem.W.makesIn K cS = true)
    (kcS : PySem.W.keepIn K (.ref cS) = true)
    (pgS : PySem.W.plainGet K cS Str.empty = true)
    (hdS : PySem.W.hasDictIn K cS = true)
    (poS : PySem.W.plainOver K cS = true)
    (saS : PySem.W.findIn K (.ref cS) "__setattr__" = some (some (.builtin "object.__setattr__")))
    (nalaS : PySem.W.findIn K (.ref cS) "lands" = some none)
    (namoS : PySem.W.findIn K (.ref cS) "most" = some none)
    (naspS : PySem.W.findIn K (.ref cS) "span" = some none)
    (naleS : PySem.W.findIn K (.ref cS) "leave" = some none)
    (wtS : PySem.W.findIn K (.ref cS) "weight" = some (some (.ref fw)))
    (tcS : PySem.W.findIn K (.ref cS) "__class__" = some (some (.builtin "object.__class__")))
    (moS : PySem.W.mroIn K cS (.type "object") = some true)
    (mkI : PySem.W.makesIn K cI = true)
    (kcI : PySem.W.keepIn K (.ref cI) = true)
    (pgI : PySem.W.plainGet K cI Str.empty = true)
    (hdI : PySem.W.hasDictIn K cI = true)
    (poI : PySem.W.plainOver K cI = true)
    (saI : PySem.W.findIn K (.ref cI) "__setattr__" = some (some (.builtin "object.__setattr__")))
    (nalaI : PySem.W.findIn K (.ref cI) "lands" = some none)
    (namoI : PySem.W.findIn K (.ref cI) "most" = some none)
    (naspI : PySem.W.findIn K (.ref cI) "span" = some none)
    (naleI : PySem.W.findIn K (.ref cI) "leave" = some none)
    (wtI : PySem.W.findIn K (.ref cI) "weight" = some (some (.ref fw)))
    (tcI : PySem.W.findIn K (.ref cI) "__class__" = some (some (.builtin "object.__class__")))
    (moI : PySem.W.mroIn K cI (.type "object") = some true)
    (ktRR : PySem.W.kitOne K (.ref cR) (.ref cR) = some true)
    (ktRW : PySem.W.kitOne K (.ref cR) (.ref cW) = some false)
    (ktRS : PySem.W.kitOne K (.ref cR) (.ref cS) = some false)
    (ktRI : PySem.W.kitOne K (.ref cR) (.ref cI) = some false)
    (ktWR : PySem.W.kitOne K (.ref cW) (.ref cR) = some true)
    (ktWW : PySem.W.kitOne K (.ref cW) (.ref cW) = some true)
    (ktWS : PySem.W.kitOne K (.ref cW) (.ref cS) = some false)
    (ktWI : PySem.W.kitOne K (.ref cW) (.ref cI) = some false)
    (ktSR : PySem.W.kitOne K (.ref cS) (.ref cR) = some true)
    (ktSW : PySem.W.kitOne K (.ref cS) (.ref cW) = some false)
    (ktSS : PySem.W.kitOne K (.ref cS) (.ref cS) = some true)
    (ktSI : PySem.W.kitOne K (.ref cS) (.ref cI) = some false)
    (ktIR : PySem.W.kitOne K (.ref cI) (.ref cR) = some true)
    (ktIW : PySem.W.kitOne K (.ref cI) (.ref cW) = some false)
    (ktIS : PySem.W.kitOne K (.ref cI) (.ref cS) = some true)
    (ktII : PySem.W.kitOne K (.ref cI) (.ref cI) = some true)
    (rdR : PySem.W.readsIn K cR (.type "type") = true)
    (gsR : PySem.W.specialIn K (.ref cR) "__getattribute__" = some (some (.builtin "type.__getattribute__")))
    (fcR : PySem.W.findCls K (.ref cR) (.type "type") "__init__" = some (.val (.ref fR)))
    (rdS : PySem.W.readsIn K cS (.type "type") = true)
    (gsS : PySem.W.specialIn K (.ref cS) "__getattribute__" = some (some (.builtin "type.__getattribute__")))
    (fcS : PySem.W.findCls K (.ref cS) (.type "type") "__init__" = some (.val (.ref fS)))
    (oget : PySem.W.specialIn K (.builtin "object.__class__") "__get__" = some (some (.builtin "getset_descriptor.__get__")))
    (otk : PySem.W.takesIn K (.builtin "object.__class__") = some true)
    (neR : PySem.W.nsIn K mainGlobals "NoRule" = some (some (.ref eR)))
    (neD : PySem.W.nsIn K mainGlobals "DayError" = some (some (.ref eD)))
    (neP : PySem.W.nsIn K mainGlobals "NoPaper" = some (some (.ref eP)))
    (neS : PySem.W.nsIn K mainGlobals "NoStay" = some (some (.ref eS)))
    (neL : PySem.W.nsIn K mainGlobals "NotLet" = some (some (.ref eL)))
    (neW : PySem.W.nsIn K mainGlobals "NoWish" = some (some (.ref eW)))
    (neE : PySem.W.nsIn K mainGlobals "NoDeed" = some (some (.ref eE)))
    (neT : PySem.W.nsIn K mainGlobals "NoText" = some (some (.ref eT)))
    (neO : PySem.W.nsIn K mainGlobals "NoRow" = some (some (.ref eO)))
    (xin : PySem.W.excIn K eR [.type "ValueError", .type "Exception", .type "BaseException", .type "object"] "ValueError.__new__" = true)
    (xc : PySem.W.isClsIn K eR = true)
    (xga : PySem.W.findIn K (.ref eR) "__getattribute__" = some (some (.builtin "BaseException.__getattribute__")))
    (xgh : PySem.W.findIn K (.ref eR) "__getattr__" = some none)
    (xat : PySem.W.findIn K (.ref eR) "__class__" = some (some (.builtin "object.__class__")))
    (xob : PySem.W.mroIn K eR (.type "object") = some true)
    (xba : PySem.W.mroIn K eR (.type "BaseException") = some true)
    (xs1 : PySem.W.subIn K (.ref eR) (.type "BaseException") = some true)
    (xs2 : PySem.W.subIn K (.ref eR) (.ref eR) = some true)
    (xty : PySem.W.typeIn K (.ref eR) = some (.type "type"))
    (keD : PySem.W.kitOne K (.ref eR) (.ref eD) = some true)
    (keP : PySem.W.kitOne K (.ref eR) (.ref eP) = some false)
    (keS : PySem.W.kitOne K (.ref eR) (.ref eS) = some false)
    (keL : PySem.W.kitOne K (.ref eR) (.ref eL) = some false)
    (keW : PySem.W.kitOne K (.ref eR) (.ref eW) = some false)
    (keE : PySem.W.kitOne K (.ref eR) (.ref eE) = some false)
    (keT : PySem.W.kitOne K (.ref eR) (.ref eT) = some false)
    (keO : PySem.W.kitOne K (.ref eR) (.ref eO) = some false)
    (kve : PySem.W.kitOne K (.ref eR) (.type "ValueError") = some true)
    (zisi : PySem.W.nsIn K mainGlobals "isinstance" = some none)
    (zint : PySem.W.nsIn K mainGlobals "int" = some none)
    (zbool : PySem.W.nsIn K mainGlobals "bool" = some none)
    (zstr : PySem.W.nsIn K mainGlobals "str" = some none)
    (ztup : PySem.W.nsIn K mainGlobals "tuple" = some none)
    (zlst : PySem.W.nsIn K mainGlobals "list" = some none)
    (zlen : PySem.W.nsIn K mainGlobals "len" = some none)
    (zrng : PySem.W.nsIn K mainGlobals "range" = some none)
    (zzip : PySem.W.nsIn K mainGlobals "zip" = some none)
    (zve : PySem.W.nsIn K mainGlobals "ValueError" = some none)
    (gG : PySem.W.nsIn K mainGlobals "GREATEST" = some (some (.int 1000000000 tG)))
    (gL : PySem.W.nsIn K mainGlobals "LETTERS" = some (some (.str "abcdefghijklmnopqrstuvwxyz" tL)))
    (gN : PySem.W.nsIn K mainGlobals "LONGEST_NAME" = some (some (.int 8 tN)))
    (gM : PySem.W.nsIn K mainGlobals "MOST_LANDS" = some (some (.int 6 tM)))
    (gW : PySem.W.nsIn K mainGlobals "GREATEST_WEIGHT" = some (some (.int 9 tW)))
    :
    ∃ fd : FuncData, (∀ (s : Shared) (v : Value), BindsTo s fd ⟨[v], []⟩ [("_law_script", v)]) ∧ ∀ base : Heap, K.In base → base.Ns mainGlobals mg → FnOk l.prog w K mg base CX0 11 fa fd ["_law_script"] (spLaw K) := by
  have e := hfa.symm.trans (PySem.W.mg_of X G aLw)
  cases e
  have T : Txt mg := ⟨PySem.W.mg_none_of X G zisi, PySem.W.mg_none_of X G zint, PySem.W.mg_none_of X G zbool, PySem.W.mg_none_of X G zstr, PySem.W.mg_none_of X G ztup, PySem.W.mg_none_of X G zlst, PySem.W.mg_none_of X G zlen, PySem.W.mg_none_of X G zrng, PySem.W.mg_none_of X G zzip, PySem.W.mg_none_of X G zve, ⟨_, PySem.W.mg_of X G gG⟩, ⟨_, PySem.W.mg_of X G gL⟩, ⟨_, PySem.W.mg_of X G gN⟩, ⟨_, PySem.W.mg_of X G gM⟩, ⟨_, PySem.W.mg_of X G gW⟩⟩
  have FW := fun_mk (st := sWhole) lW ccW kW
  have bW := FW.binds (ps := ["thing"]) fun _ _ _ _ _ _ us hl => match us, hl with | [_], _ => rfl
  have mW := PySem.W.mg_of X G aW
  have FB := fun_mk (st := sBetween) lB ccB kB
  have bB := FB.binds (ps := ["thing", "least", "greatest"]) fun _ _ _ _ _ _ us hl => match us, hl with | [_, _, _], _ => rfl
  have mB := PySem.W.mg_of X G aB
  have FM := fun_mk (st := sMade) lM ccM kM
  have bM := FM.binds (ps := ["text", "signs"]) fun _ _ _ _ _ _ us hl => match us, hl with | [_, _], _ => rfl
  have mM := PySem.W.mg_of X G aM
  have FN := fun_mk (st := sName) lN ccN kN
  have bN := FN.binds (ps := ["thing"]) fun _ _ _ _ _ _ us hl => match us, hl with | [_], _ => rfl
  have mN := PySem.W.mg_of X G aN
  have FL := fun_mk (st := sLand) lL ccL kL
  have bL := FL.binds (ps := ["thing"]) fun _ _ _ _ _ _ us hl => match us, hl with | [_], _ => rfl
  have mL := PySem.W.mg_of X G aL
  have FA := fun_mk (st := sLands) lA ccA kA
  have bA := FA.binds (ps := ["things"]) fun _ _ _ _ _ _ us hl => match us, hl with | [_], _ => rfl
  have mA := PySem.W.mg_of X G aA
  have FC := fun_mk (st := sCell) lC ccC kC
  have bC := FC.binds (ps := ["_law_script", "_law_k"]) fun _ _ _ _ _ _ us hl => match us, hl with | [_, _], _ => rfl
  have mC := PySem.W.mg_of X G aC
  have FY := fun_mk (st := sNames) lY ccY kY
  have bY := FY.binds (ps := ["_law_cell", "_law_many"]) fun _ _ _ _ _ _ us hl => match us, hl with | [_, _], _ => rfl
  have mY := PySem.W.mg_of X G aY
  have FG := fun_mk (st := sEdge) lG ccG kG
  have bG := FG.binds (ps := ["_law_cell", "_law_least"]) fun _ _ _ _ _ _ us hl => match us, hl with | [_, _], _ => rfl
  have mG := PySem.W.mg_of X G aG
  have FK := fun_mk (st := sMk) lK ccK kK
  have bK := FK.binds (ps := ["_law_kind", "_law_lands_here", "_law_top", "_law_days"]) fun _ _ _ _ _ _ us hl => match us, hl with | [_, _, _, _], _ => rfl
  have mK := PySem.W.mg_of X G aK
  have FQ := fun_mk (st := sRef) lQ ccQ kQ
  have bQ := FQ.binds (ps := ["_law_kind", "_law_lands_here", "_law_top", "_law_days"]) fun _ _ _ _ _ _ us hl => match us, hl with | [_, _, _, _], _ => rfl
  have mQ := PySem.W.mg_of X G aQ
  have FV := fun_mk (st := sBad) lV ccV kV
  have bV := FV.binds (ps := ["_law_lands_here", "_law_cell"]) fun _ _ _ _ _ _ us hl => match us, hl with | [_, _], _ => rfl
  have mV := PySem.W.mg_of X G aV
  have FZ := fun_mk (st := sKinds) lZ ccZ kZ
  have bZ := FZ.binds (ps := ["_law_rule"]) fun _ _ _ _ _ _ us hl => match us, hl with | [_], _ => rfl
  have mZ := PySem.W.mg_of X G aZ
  have FJ := fun_mk (st := sWts) lJ ccJ kJ
  have bJ := FJ.binds (ps := ["_law_rule", "_law_lands_here", "_law_names"]) fun _ _ _ _ _ _ us hl => match us, hl with | [_, _, _], _ => rfl
  have mJ := PySem.W.mg_of X G aJ
  have FLw := fun_mk (st := sLaw) lLw ccLw kLw
  have FR := fun_mk (st := sRuleI) lR ccR kR
  have bR := FR.binds (ps := ["self", "lands", "most"]) fun _ _ _ _ _ _ us hl => match us, hl with | [_, _, _], _ => rfl
  have Fw := fun_mk (st := sRuleW) lw ccw kw
  have bw := Fw.binds (ps := ["self", "land"]) fun _ _ _ _ _ _ us hl => match us, hl with | [_, _], _ => rfl
  have FX := fun_mk (st := sWithinI) lX ccX kX
  have bX := FX.binds (ps := ["self", "lands", "most", "span"]) fun _ _ _ _ _ _ us hl => match us, hl with | [_, _, _, _], _ => rfl
  have FS := fun_mk (st := sSinceI) lS ccS kS
  have bS := FS.binds (ps := ["self", "lands", "most", "leave"]) fun _ _ _ _ _ _ us hl => match us, hl with | [_, _, _, _], _ => rfl
  have FI := fun_mk (st := sInRowI) lI ccI kI
  have bI := FI.binds (ps := ["self", "lands", "most"]) fun _ _ _ _ _ _ us hl => match us, hl with | [_, _, _], _ => rfl
  have mcR := PySem.W.mg_of X G ncR
  have KcR : Kc K fw cR := ⟨⟨pgR, hdR, poR, saR⟩, nalaR, namoR, naspR, naleR, ⟨wtR, fnw, kw⟩, tcR, moR⟩
  have mcW := PySem.W.mg_of X G ncW
  have KcW : Kc K fw cW := ⟨⟨pgW, hdW, poW, saW⟩, nalaW, namoW, naspW, naleW, ⟨wtW, fnw, kw⟩, tcW, moW⟩
  have mcS := PySem.W.mg_of X G ncS
  have KcS : Kc K fw cS := ⟨⟨pgS, hdS, poS, saS⟩, nalaS, namoS, naspS, naleS, ⟨wtS, fnw, kw⟩, tcS, moS⟩
  have mcI := PySem.W.mg_of X G ncI
  have KcI : Kc K fw cI := ⟨⟨pgI, hdI, poI, saI⟩, nalaI, namoI, naspI, naleI, ⟨wtI, fnw, kw⟩, tcI, moI⟩
  have Lo : Low K mg fW fB fM fN _ _ _ _ := ⟨T, FW, bW, mW, FB, bB, mB, FM, bM, mM, FN, bN, mN⟩
  have Mi : Mid K mg fW fB fM fN fL fA eR _ _ _ _ _ _ := ⟨Lo, FL, bL, mL, FA, bA, mA, ⟨PySem.W.mg_of X G neR, xin⟩⟩
  have Hi : High K mg fW fB fM fN fL fA eR _ _ _ _ _ _ fw fR fX fS fI cR cW cS cI _ _ _ _ _ := ⟨Mi, FR, bR, mcR, ⟨rdR, gsR, fcR, kR⟩, ⟨mkR, iR, fnR, kcR⟩, FX, bX, mcW, ⟨mkW, iX, fnX, kcW⟩, FS, bS, mcS, ⟨rdS, gsS, fcS, kS⟩, ⟨mkS, iS, fnS, kcS⟩, FI, bI, mcI, ⟨mkI, iI, fnI, kcI⟩, Fw, bw, KcR, KcW, KcS, KcI⟩
  have Ka : Kall K cR cW cS cI := ⟨⟨ktRR, ktRW, ktRS, ktRI⟩, ⟨ktWR, ktWW, ktWS, ktWI⟩, ⟨ktSR, ktSW, ktSS, ktSI⟩, ⟨ktIR, ktIW, ktIS, ktII⟩, oget, otk⟩
  have ex : PySem.W.exmOne K (.ref eR) (.ref eR) = some true := exm_of xs1 xc xty xs2
  have Ee : Er K mg eR eD eP eS eL eW eE eT eO := ⟨⟨xc, xga, xgh, xat, oget, otk, xob, xba⟩, ex, PySem.W.mg_of X G neD, PySem.W.mg_of X G neP, PySem.W.mg_of X G neS, PySem.W.mg_of X G neL, PySem.W.mg_of X G neW, PySem.W.mg_of X G neE, PySem.W.mg_of X G neT, PySem.W.mg_of X G neO, keD, kve, keP, keS, keL, keW, keE, keT, keO⟩
  exact ⟨PySem.W.fnOf "law" "law" (defArgs sLaw) (defBody sLaw) (defScope sLaw) .none kVLw dcLw pmLw anLw cdLw ctLw, fun s v => .of_eq rfl, fun base _ _ => ok_law FLw Hi Ka Ee FC bC mC FY bY mY FG bG mG FK bK mK FQ bQ mQ FV bV mV FZ bZ mZ FJ bJ mJ⟩
theorem walk {l : PySem.W.OpenLaw} {q : Program} {loose : List Str} {XP : (Str → Option Value) → Heap → Prop} {YP : World → Heap → Prop} {d : DefRec} {K : Params → PySem.W.Frag} (hn : l.most = some 63) (hdf : d.params.defaults = [])
    (hY : ∀ (w : World) (h : Heap), YP w h → (K w.params).In h)
    (F : ∀ (w : World) (mg : Str → Option Value) (fa : Addr) (h : Heap), (K w.params).In h → h.Ns mainGlobals mg → mg d.name = some (.ref fa) →
      ∃ fd : FuncData, (∀ (s : Shared) (u : Value), BindsTo s fd ⟨[u], []⟩ [("_law_script", u)]) ∧ ∀ base : Heap, (K w.params).In base → base.Ns mainGlobals mg → FnOk l.prog w (K w.params) mg base CX0 11 fa fd ["_law_script"] (spLaw (K w.params))) :
    PySem.W.WalkO q loose XP YP l.row.toRowW d [] (fun f vs => PySem.call f vs) :=
  L2.walk_of (n := 63) (k := 11) (x := "_law_script") (CX := fun _ => CX0) (sp := fun w => spLaw (K w.params)) hn (by decide) hdf ⟨rfl, by decide, by decide⟩ hY F (fun _ _ a ns hl _ hS => ⟨a, ns, rfl, hS, hl, fun _ => rfl⟩) fun _ _ _ _ _ z => z
end K11
open PySem PySem.W PyProof.Rows
set_option maxRecDepth 100000 in
set_option maxHeartbeats 0 in
theorem PySem.Challenge.cw_daysgate_k11_a_rule_holds : PySem.Challenge.rw_daysgate_k11_a_rule.Holds := by
  w_on; o_law
  refine holds_open (q := K11.Hq) (loose := []) (Xt := K11.Hx) (XP := XL K11.Hq []) (Yf := fun s => K11.Has.map s.heap.get?) (Ya := fun w => (K11.HK w.params).map fun p => some p.2) (YP := InK K11.HK) (N := 8060) K11.Hleft (InK.of K11.HKe) InK.keeps (fun s e => xl_of s (Bool.and_eq_true_iff.mp e).1) XL.keeps (by rfl) (by rfl) (by rfl) (fun s e => recFacts_of (Bool.and_eq_true_iff.mp e).2) (by rfl) (by first | assumption | decide +kernel) (by decide +kernel) ⟨rfl, rfl, rfl, rfl, rfl, by decide +kernel⟩ ?hw ?hc
  (case hw => w_witness2)
  k_fill
  refine K11.walk (l := PySem.Challenge.rw_daysgate_k11_a_rule) rfl rfl (fun w h Y => Y) ?F
  case F =>
    intro w mg fa h KX G hmg
    refine' K11.all_mk KX G hmg ?aW ?lW ?ccW ?kW ?aB ?lB ?ccB ?kB ?aM ?lM ?ccM ?kM ?aN ?lN ?ccN ?kN ?aL ?lL ?ccL ?kL ?aA ?lA ?ccA ?kA ?aC ?lC ?ccC ?kC ?aY ?lY ?ccY ?kY ?aG ?lG ?ccG ?kG ?aK ?lK ?ccK ?kK ?aQ ?lQ ?ccQ ?kQ ?aV ?lV ?ccV ?kV ?aZ ?lZ ?ccZ ?kZ ?aJ ?lJ ?ccJ ?kJ ?aLw ?lLw ?ccLw ?kLw ?ncR ?ncW ?ncS ?ncI ?iR ?lR ?ccR ?kR ?fnR ?iw ?lw ?ccw ?kw ?fnw ?iX ?lX ?ccX ?kX ?fnX ?iS ?lS ?ccS ?kS ?fnS ?iI ?lI ?ccI ?kI ?fnI ?mkR ?kcR ?pgR ?hdR ?poR ?saR ?nalaR ?namoR ?naspR ?naleR ?wtR ?tcR ?moR ?mkW ?kcW ?pgW ?hdW ?poW ?saW ?nalaW ?namoW ?naspW ?naleW ?wtW ?tcW ?moW ?mkS ?kcS ?pgS ?hdS ?poS ?saS ?nalaS ?namoS ?naspS ?naleS ?wtS ?tcS ?moS ?mkI ?kcI ?pgI ?hdI ?poI ?saI ?nalaI ?namoI ?naspI ?naleI ?wtI ?tcI ?moI ?ktRR ?ktRW ?ktRS ?ktRI ?ktWR ?ktWW ?ktWS ?ktWI ?ktSR ?ktSW ?ktSS ?ktSI ?ktIR ?ktIW ?ktIS ?ktII ?rdR ?gsR ?fcR ?rdS ?gsS ?fcS ?oget ?otk ?neR ?neD ?neP ?neS ?neL ?neW ?neE ?neT ?neO ?xin ?xc ?xga ?xgh ?xat ?xob ?xba ?xs1 ?xs2 ?xty ?keD ?keP ?keS ?keL ?keW ?keE ?keT ?keO ?kve ?zisi ?zint ?zbool ?zstr ?ztup ?zlst ?zlen ?zrng ?zzip ?zve ?gG ?gL ?gN ?gM ?gW
    (case aW => k_is)
    (case lW => k_is)
    (case ccW => k_is)
    (case kW => k_is)
    (case aB => k_is)
    (case lB => k_is)
    (case ccB => k_is)
    (case kB => k_is)
    (case aM => k_is)
    (case lM => k_is)
    (case ccM => k_is)
    (case kM => k_is)
    (case aN => k_is)
    (case lN => k_is)
    (case ccN => k_is)
    (case kN => k_is)
    (case aL => k_is)
    (case lL => k_is)
    (case ccL => k_is)
    (case kL => k_is)
    (case aA => k_is)
    (case lA => k_is)
    (case ccA => k_is)
    (case kA => k_is)
    (case aC => k_is)
    (case lC => k_is)
    (case ccC => k_is)
    (case kC => k_is)
    (case aY => k_is)
    (case lY => k_is)
    (case ccY => k_is)
    (case kY => k_is)
    (case aG => k_is)
    (case lG => k_is)
    (case ccG => k_is)
    (case kG => k_is)
    (case aK => k_is)
    (case lK => k_is)
    (case ccK => k_is)
    (case kK => k_is)
    (case aQ => k_is)
    (case lQ => k_is)
    (case ccQ => k_is)
    (case kQ => k_is)
    (case aV => k_is)
    (case lV => k_is)
    (case ccV => k_is)
    (case kV => k_is)
    (case aZ => k_is)
    (case lZ => k_is)
    (case ccZ => k_is)
    (case kZ => k_is)
    (case aJ => k_is)
    (case lJ => k_is)
    (case ccJ => k_is)
    (case kJ => k_is)
    (case aLw => k_is)
    (case lLw => k_is)
    (case ccLw => k_is)
    (case kLw => k_is)
    (case ncR => k_is)
    (case ncW => k_is)
    (case ncS => k_is)
    (case ncI => k_is)
    (case iR => k_is)
    (case lR => k_is)
    (case ccR => k_is)
    (case kR => k_is)
    (case fnR => k_is)
    (case iw => k_is)
    (case lw => k_is)
    (case ccw => k_is)
    (case kw => k_is)
    (case fnw => k_is)
    (case iX => k_is)
    (case lX => k_is)
    (case ccX => k_is)
    (case kX => k_is)
    (case fnX => k_is)
    (case iS => k_is)
    (case lS => k_is)
    (case ccS => k_is)
    (case kS => k_is)
    (case fnS => k_is)
    (case iI => k_is)
    (case lI => k_is)
    (case ccI => k_is)
    (case kI => k_is)
    (case fnI => k_is)
    (case mkR => k_is)
    (case kcR => k_is)
    (case pgR => k_is)
    (case hdR => k_is)
    (case poR => k_is)
    (case saR => k_is)
    (case nalaR => k_is)
    (case namoR => k_is)
    (case naspR => k_is)
    (case naleR => k_is)
    (case wtR => k_is)
    (case tcR => k_is)
    (case moR => k_is)
    (case mkW => k_is)
    (case kcW => k_is)
    (case pgW => k_is)
    (case hdW => k_is)
    (case poW => k_is)
    (case saW => k_is)
    (case nalaW => k_is)
    (case namoW => k_is)
    (case naspW => k_is)
    (case naleW => k_is)
    (case wtW => k_is)
    (case tcW => k_is)
    (case moW => k_is)
    (case mkS => k_is)
    (case kcS => k_is)
    (case pgS => k_is)
    (case hdS => k_is)
    (case poS => k_is)
    (case saS => k_is)
    (case nalaS => k_is)
    (case namoS => k_is)
    (case naspS => k_is)
    (case naleS => k_is)
    (case wtS => k_is)
    (case tcS => k_is)
    (case moS => k_is)
    (case mkI => k_is)
    (case kcI => k_is)
    (case pgI => k_is)
    (case hdI => k_is)
    (case poI => k_is)
    (case saI => k_is)
    (case nalaI => k_is)
    (case namoI => k_is)
    (case naspI => k_is)
    (case naleI => k_is)
    (case wtI => k_is)
    (case tcI => k_is)
    (case moI => k_is)
    (case ktRR => kit_is)
    (case ktRW => kit_is)
    (case ktRS => kit_is)
    (case ktRI => kit_is)
    (case ktWR => kit_is)
    (case ktWW => kit_is)
    (case ktWS => kit_is)
    (case ktWI => kit_is)
    (case ktSR => kit_is)
    (case ktSW => kit_is)
    (case ktSS => kit_is)
    (case ktSI => kit_is)
    (case ktIR => kit_is)
    (case ktIW => kit_is)
    (case ktIS => kit_is)
    (case ktII => kit_is)
    (case rdR => k_is)
    (case gsR => k_is)
    (case fcR => k_is)
    (case rdS => k_is)
    (case gsS => k_is)
    (case fcS => k_is)
    (case oget => k_is)
    (case otk => k_is)
    (case neR => k_is)
    (case neD => k_is)
    (case neP => k_is)
    (case neS => k_is)
    (case neL => k_is)
    (case neW => k_is)
    (case neE => k_is)
    (case neT => k_is)
    (case neO => k_is)
    (case xin => k_exc)
    (case xc => k_is)
    (case xga => k_is)
    (case xgh => k_is)
    (case xat => k_is)
    (case xob => k_is)
    (case xba => k_is)
    (case xs1 => k_is)
    (case xs2 => k_is)
    (case xty => k_is)
    (case keD => kit_is)
    (case keP => kit_is)
    (case keS => kit_is)
    (case keL => kit_is)
    (case keW => kit_is)
    (case keE => kit_is)
    (case keT => kit_is)
    (case keO => kit_is)
    (case kve => kit_is)
    (case zisi => k_is)
    (case zint => k_is)
    (case zbool => k_is)
    (case zstr => k_is)
    (case ztup => k_is)
    (case zlst => k_is)
    (case zlen => k_is)
    (case zrng => k_is)
    (case zzip => k_is)
    (case zve => k_is)
    (case gG => k_is)
    (case gL => k_is)
    (case gN => k_is)
    (case gM => k_is)
    (case gW => k_is)
#print axioms PySem.Challenge.cw_daysgate_k11_a_rule_holds
