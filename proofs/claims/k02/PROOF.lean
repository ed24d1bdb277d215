import PyProof.Rows.All
import Wide.All
import OpenK.AllK
import Wide.FinOn
import Lean
import PyProof.EqAt
import PyProof.EqKinds
import PyProof.TupleCall
import PySem.Challenge.RW_daysgate_k02_spreads_of_two
set_option Elab.async false
set_option linter.all false
set_option maxRecDepth 100000
/-! THE HAND LAYER, for ints, bools, texts, own classes, LISTS and tuples (index, slices, in, append, pop ..), calls, loops. Paste it whole ahead of your own text; what your proof does not reach may be deleted. -/
namespace L2
open PySem PySem.Spec PyProof.Rows

/-- a key: an int or a str -/
abbrev Key := Sum Int Str
def keyIs : Key → Value → Bool
  | .inl k, v => Value.isInt k v
  | .inr x, v => Value.isStrOf x v
def keyH (w : World) : Key → Int
  | .inl k => hashInt k
  | .inr x => hashStr w x
theorem keyIs_shape : ∀ {k : Key} {v : Value}, keyIs k v = true → (∃ i t, k = Sum.inl i ∧ v = Value.int i t) ∨ (∃ x t, k = Sum.inr x ∧ v = Value.str x t)
  | .inl i, v, h => by
    obtain ⟨t, e⟩ := Value.isInt_shape (k := i) (v := v) h
    exact .inl ⟨i, t, rfl, e⟩
  | .inr x, v, h => by
    obtain ⟨t, e⟩ := Value.isStrOf_shape (x := x) (v := v) h
    exact .inr ⟨x, t, rfl, e⟩
theorem keyIs_int (i : Int) (t : Tok) : keyIs (.inl i) (.int i t) = true := by simp [keyIs, Value.isInt]
theorem keyIs_str (x : Str) (t : Tok) : keyIs (.inr x) (.str x t) = true := by simp [keyIs, Value.isStrOf]
theorem key_ll (a b : Int) : decide ((Sum.inl a : Key) = Sum.inl b) = (a == b) := by
  by_cases e : a = b
  · subst e; simp
  · have h : ¬ (Sum.inl a : Key) = Sum.inl b := fun q => e (Sum.inl.inj q)
    rw [decide_eq_false h]
    exact (beq_eq_false_iff_ne.mpr e).symm
theorem key_rr (a b : Str) : decide ((Sum.inr a : Key) = Sum.inr b) = decide (a = b) := by
  by_cases e : a = b
  · subst e; simp
  · have h : ¬ (Sum.inr a : Key) = Sum.inr b := fun q => e (Sum.inr.inj q)
    rw [decide_eq_false h, decide_eq_false e]
theorem key_lr (a : Int) (b : Str) : decide ((Sum.inl a : Key) = Sum.inr b) = false := decide_eq_false (fun q => nomatch q)
theorem key_rl (a : Str) (b : Int) : decide ((Sum.inr a : Key) = Sum.inl b) = false := decide_eq_false (fun q => nomatch q)

def mixKind (prog : Program) (w : World) : PySem.KeyKind prog w Key where
  is := keyIs
  hash := keyH w
  inj := fun v a b ha hb => by
    rcases keyIs_shape ha with ⟨i, t, rfl, rfl⟩ | ⟨x, t, rfl, rfl⟩
    · rcases keyIs_shape hb with ⟨j, u, rfl, e⟩ | ⟨y, u, rfl, e⟩
      · injection e with e1 _; rw [e1]
      · exact nomatch e
    · rcases keyIs_shape hb with ⟨j, u, rfl, e⟩ | ⟨y, u, rfl, e⟩
      · exact nomatch e
      · injection e with e1 _; rw [e1]
  byValue := fun k v h => by
    rcases keyIs_shape h with ⟨i, t, rfl, rfl⟩ | ⟨x, t, rfl, rfl⟩ <;> rfl
  pyHash := fun hv h => by
    rcases keyIs_shape hv with ⟨i, t, rfl, rfl⟩ | ⟨x, t, rfl, rfl⟩
    · exact wpAny_pyHash_int h
    · exact wpAny_pyHash_str h
  eqBool := fun hu hv h => by
    rcases keyIs_shape hu with ⟨i, t, rfl, rfl⟩ | ⟨x, t, rfl, rfl⟩
    · rcases keyIs_shape hv with ⟨j, u, rfl, rfl⟩ | ⟨y, u, rfl, rfl⟩
      · rw [key_ll] at h; exact wpAny_eqBool_int h
      · rw [key_lr] at h; exact SeqAt.EqAt.int_str i t y u _ _ _ _ h
    · rcases keyIs_shape hv with ⟨j, u, rfl, rfl⟩ | ⟨y, u, rfl, rfl⟩
      · rw [key_rl] at h; exact SeqAt.EqAt.str_int x t j u _ _ _ _ h
      · rw [key_rr] at h; exact wpAny_eqBool_str h
  «strs» := fun k x t v h => by
    rcases keyIs_shape h with ⟨i, u, rfl, e⟩ | ⟨y, u, rfl, e⟩
    · exact nomatch e
    · injection e with e1 _
      subst e1
      cases v <;> rfl

theorem mixKind_is (prog : Program) (w : World) (k : Key) (v : Value) : (mixKind prog w).is k v = keyIs k v := rfl
theorem mixKind_int (prog : Program) (w : World) (i : Int) (t : Tok) : (mixKind prog w).is (.inl i) (.int i t) = true := keyIs_int i t
theorem mixKind_str (prog : Program) (w : World) (x : Str) (t : Tok) : (mixKind prog w).is (.inr x) (.str x t) = true := keyIs_str x t
end L2

namespace L2
open PySem PySem.Spec PyProof.Rows

/-- a value, without the heap -/
inductive V where
  | non | bl (b : Bool) | int (i : Int) | str (x : Str) | byt (b : Array UInt8) | flt (b : UInt64) | ref (a : Addr) | ty (n : String)
  deriving DecidableEq

def RelV : V → Value → Prop
  | .non, u => u = Value.none
  | .bl b, u => u = Value.bool b
  | .int i, u => ∃ t, u = Value.int i t
  | .str x, u => ∃ t, u = Value.str x t
  | .byt b, u => ∃ t, u = Value.bytes b t
  | .flt b, u => ∃ t, u = Value.float b t
  | .ref a, u => u = Value.ref a
  | .ty n, u => u = Value.type n

abbrev Vals : List V → List Value → Prop := Paired RelV
theorem Vals.length {xs : List V} {us : List Value} (r : Vals xs us) : xs.length = us.length := Paired.length r
theorem Vals.get : ∀ {xs : List V} {us : List Value} {i : Nat} {x : V}, Vals xs us → xs[i]? = some x → ∃ u, us[i]? = some u ∧ RelV x u
  | _, _, _, _, .nil, e => by simp at e
  | _, _, 0, _, .cons r _, e => by simp at e; subst e; exact ⟨_, rfl, r⟩
  | _, _, i + 1, x, .cons _ t, e => by
    obtain ⟨u, h1, h2⟩ := Vals.get (i := i) (x := x) t (by simpa using e)
    exact ⟨u, by simpa using h1, h2⟩
theorem Vals.set {x : V} {u : Value} (r : RelV x u) : ∀ {xs : List V} {us : List Value} (i : Nat), Vals xs us → Vals (xs.set i x) (us.set i u)
  | _, _, _, .nil => .nil
  | _, _, 0, .cons _ t => .cons r t
  | _, _, i + 1, .cons q t => .cons q (Vals.set r i t)
theorem Vals.append : ∀ {xs ys : List V} {us ws : List Value}, Vals xs us → Vals ys ws → Vals (xs ++ ys) (us ++ ws)
  | _, _, _, _, .nil, s => s
  | _, _, _, _, .cons r t, s => .cons r (Vals.append t s)
theorem Vals.take : ∀ {xs : List V} {us : List Value} (n : Nat), Vals xs us → Vals (xs.take n) (us.take n)
  | _, _, 0, _ => .nil
  | _, _, _ + 1, .nil => .nil
  | _, _, n + 1, .cons r t => .cons r (Vals.take n t)
theorem Vals.drop : ∀ {xs : List V} {us : List Value} (n : Nat), Vals xs us → Vals (xs.drop n) (us.drop n)
  | _, _, 0, r => r
  | _, _, _ + 1, .nil => .nil
  | _, _, n + 1, .cons _ t => Vals.drop n t
theorem Vals.none_of : ∀ {xs : List V} {us : List Value} {i : Nat}, Vals xs us → xs[i]? = none → us[i]? = none := fun {xs us i} r e => by
  have h1 := r.length
  have h2 : xs.length ≤ i := List.getElem?_eq_none_iff.mp e
  exact List.getElem?_eq_none_iff.mpr (by omega)

def RelO : Option V → Option Value → Prop
  | some v, some u => RelV v u
  | none, none => True
  | _, _ => False
def KV {κ : Type} : List (κ × V) → List (κ × Value) → Prop := Paired fun (p : κ × V) (q : κ × Value) => p.1 = q.1 ∧ RelV p.2 q.2

/-- a key of a dict (00_mix): an int or a text -/
def kV : Key → V
  | .inl i => .int i
  | .inr x => .str x

/-- what stands at a tracked address -/
inductive HO where
  /-- a list -/
  | lst (xs : List V)
  /-- a tuple (never changes) -/
  | tup (xs : List V)
  /-- a dict whose keys are ints and texts; one whose keys are tuples of ints and texts (the empty one is both) -/
  | dK (kvs : List (Key × V)) | dT (kvs : List (List Key × V))
  /-- a set of ints: its members, its size -/
  | set (S : Int → Bool) (n : Nat)
  /-- an instance of the class at C, its dict at dx, its attributes -/
  | ins (C dx : Addr) (fs : List (Str × V))
  /-- the dict of the instance at x -/
  | own (x : Addr)
  /-- the dict of an exception -/
  | xd (fs : List (Str × V))
  /-- a bound method, f of x -/
  | met (f x : Addr)
  /-- a range object lo, lo + 1, .. below hi -/
  | rng (lo hi : Int)
  /-- a thing that is known to the object (the script; a dict while a loop walks it): read, never written while it is so -/
  | frz (o : Obj) (u : HO)
  /-- a code object's table -/
  | tbl (ps : Array Value)
  /-- any other thing, by what is true of its one object (a def of one's own: SetO a S n := HO.ext fun h => ..) -/
  | ext (φ : Heap → Prop)

abbrev Hp := Addr → Option HO
def upd (H : Hp) (a : Addr) (o : HO) : Hp := fun b => if b = a then some o else H b
theorem upd_same {H : Hp} {a : Addr} {o : HO} : upd H a o a = some o := by unfold upd; rw [if_pos rfl]
theorem upd_ne {H : Hp} {a b : Addr} {o : HO} (h : b ≠ a) : upd H a o b = H b := by unfold upd; rw [if_neg h]
theorem upd_upd {H : Hp} {a : Addr} {o u : HO} : upd (upd H a o) a u = upd H a u := by
  funext b; unfold upd; split <;> rfl
/-- two objects of different content stand apart -/
theorem ne_of {H : Hp} {a b : Addr} {o u : HO} (h : H a = some o) (h' : H b = some u) (d : o ≠ u) : a ≠ b := by
  intro e; subst e; rw [h] at h'; exact d (Option.some.inj h')
theorem ne_of_none {H : Hp} {a b : Addr} {o : HO} (h : H a = some o) (h' : H b = none) : a ≠ b := by
  intro e; subst e; rw [h] at h'; cases h'

section
variable (P : Program) (w : World)
def ObjOk (H : Hp) (h : Heap) (a : Addr) : HO → Prop
  | .lst xs => xs.length ≤ sizeLine ∧ ∃ (its : List Value) (n : Nat), Vals xs its ∧ h.get? a = some { cls := .type "list", data := .seq its.toArray n }
  | .tup xs => xs.length ≤ sizeLine ∧ ∃ its : List Value, Vals xs its ∧ IsTup h a its.toArray
  | .dK kvs => kvs.length ≤ sizeLine ∧ (a == sysModules) = false ∧ ∃ vs, KV kvs vs ∧ h.DictOf (mixKind P w) a vs
  | .dT kvs => kvs.length ≤ sizeLine ∧ (a == sysModules) = false ∧ ∃ xs : List (List Key × Addr × Value),
      Paired (fun (p : List Key × V) (q : List Key × Addr × Value) => p.1 = q.1 ∧ H q.2.1 = some (.tup (p.1.map kV)) ∧ RelV p.2 q.2.2) kvs xs ∧
      ∃ o es ep, h.get? a = some o ∧ o.ExactDict ∧ o.data = .dict es ep ∧ es.toList = xs.map (entryOfKey (tupleKind (mixKind P w))) ∧ (xs.map (·.1)).Nodup
  | .set S n => h.SetOf (intKind P w) a S n
  | .ins C dx fs => H dx = some (.own a) ∧ fs.length ≤ 1000 ∧ dx ≠ a ∧ h.get? a = some (PySem.W.instObj C dx) ∧
      ∃ mA, h.Ns1 dx mA ∧ (∀ f, RelO (fs.lookup f) (mA f)) ∧ PySem.Within mA (fs.map (·.1))
  | .own _ => ∃ o, h.get? a = some o
  | .xd fs => ∃ mA, h.Ns1 a mA ∧ ∀ f, RelO (fs.lookup f) (mA f)
  | .rng lo hi => ∃ t u v, h.get? a = some { cls := .type "range", data := .fields #[.int lo t, .int hi u, .int 1 v] }
  | .frz o u => h.get? a = some o ∧ ObjOk H h a u
  | .tbl ps => h.get? a = some { cls := .none, data := .fields ps }
  | .met f x => h.get? a = some (PySem.W.methodObj (.ref f) (.ref x))
  | .ext φ => φ h ∧ (∃ o, h.get? a = some o) ∧ ∀ h1 h2 : Heap, φ h1 → (∀ o, h1.get? a = some o → h2.get? a = some o) → φ h2
/-- the abstract heap is held -/
def HOk (H : Hp) (h : Heap) : Prop := ∀ a o, H a = some o → ObjOk P w H h a o
end

section
variable {P : Program} {w : World} {H H' : Hp} {h h' : Heap} {a : Addr} {o : HO}
theorem ObjOk.lt (x : ObjOk P w H h a o) : a < h.objs.size := by
  cases o with
  | lst xs => obtain ⟨_, _, _, _, e⟩ := x; exact Heap.lt_size e
  | tup xs => obtain ⟨_, _, _, p⟩ := x; exact p.lt
  | dK kvs => obtain ⟨_, _, _, _, o, _, _, e, _⟩ := x; exact Heap.lt_size e
  | dT kvs => obtain ⟨_, _, _, _, o, _, _, e, _⟩ := x; exact Heap.lt_size e
  | set S n => obtain ⟨o, _, _, _, e, _⟩ := x; exact Heap.lt_size e
  | ins C dx fs => obtain ⟨_, _, _, e, _⟩ := x; exact Heap.lt_size e
  | own y => obtain ⟨_, e⟩ := x; exact Heap.lt_size e
  | xd fs => obtain ⟨_, ⟨_, _, _, e, _⟩, _⟩ := x; exact Heap.lt_size e
  | rng lo hi => obtain ⟨_, _, _, e⟩ := x; exact Heap.lt_size e
  | frz ob u => obtain ⟨e, _⟩ := x; exact Heap.lt_size e
  | tbl ps => exact Heap.lt_size (show h.get? a = some _ from x)
  | met f y => exact Heap.lt_size (show h.get? a = some _ from x)
  | ext φ => obtain ⟨_, ⟨_, e⟩, _⟩ := x; exact Heap.lt_size e
theorem Paired.mapP {α β : Type} {F G : α → β → Prop} : ∀ {l₁ : List α} {l₂ : List β}, Paired F l₁ l₂ → (∀ a b, F a b → G a b) → Paired G l₁ l₂
  | _, _, .nil, _ => .nil
  | _, _, .cons r t, f => .cons (f _ _ r) (Paired.mapP t f)
theorem Paired.imp' {α β : Type} {F G : α → β → Prop} (f : ∀ a b, F a b → G a b) {l₁ : List α} {l₂ : List β} (r : Paired F l₁ l₂) : Paired G l₁ l₂ := Paired.mapP r f
/-- what an object's description leans on: its own object, its own dict, the tuples -/
theorem ObjOk.stay (x : ObjOk P w H h a o) (k : ∀ b u, (b = a ∨ H b = some (.own a)) → h.get? b = some u → h'.get? b = some u)
    (ho : ∀ b, H b = some (.own a) → H' b = some (.own a)) (ht : ∀ b xs, H b = some (.tup xs) → H' b = some (.tup xs)) : ObjOk P w H' h' a o := by
  induction o with
  | lst xs => obtain ⟨z, its, n, r, e⟩ := x; exact ⟨z, its, n, r, k _ _ (.inl rfl) e⟩
  | tup xs => obtain ⟨z, its, r, ob, e, c⟩ := x; exact ⟨z, its, r, ob, k _ _ (.inl rfl) e, c⟩
  | dK kvs => obtain ⟨z, y, vs, r, ob, es, ep, e, c⟩ := x; exact ⟨z, y, vs, r, ob, es, ep, k _ _ (.inl rfl) e, c⟩
  | dT kvs =>
    obtain ⟨z, y, xs, r, ob, es, ep, e, c⟩ := x
    exact ⟨z, y, xs, Paired.mapP r fun p q z => ⟨z.1, ht _ _ z.2.1, z.2.2⟩, ob, es, ep, k _ _ (.inl rfl) e, c⟩
  | set S n => obtain ⟨ob, es, ep, t, e, c⟩ := x; exact ⟨ob, es, ep, t, k _ _ (.inl rfl) e, c⟩
  | ins C dx fs =>
    obtain ⟨d, z, ne, e, mA, ⟨od, es, ep, e2, c⟩, r⟩ := x
    exact ⟨ho _ d, z, ne, k _ _ (.inl rfl) e, mA, ⟨od, es, ep, k _ _ (.inr d) e2, c⟩, r⟩
  | own y => obtain ⟨ob, e⟩ := x; exact ⟨ob, k _ _ (.inl rfl) e⟩
  | xd fs => obtain ⟨mA, ⟨od, es, ep, e, c⟩, r⟩ := x; exact ⟨mA, ⟨od, es, ep, k _ _ (.inl rfl) e, c⟩, r⟩
  | rng lo hi => obtain ⟨t, u, v, e⟩ := x; exact ⟨t, u, v, k _ _ (.inl rfl) e⟩
  | frz ob u ih => obtain ⟨e, q⟩ := x; exact ⟨k _ _ (.inl rfl) e, ih q⟩
  | tbl ps =>
    have e : h.get? a = some { cls := .none, data := .fields ps } := x
    show h'.get? a = some { cls := .none, data := .fields ps }
    exact k a _ (.inl rfl) e
  | met f y =>
    have e : h.get? a = some (PySem.W.methodObj (.ref f) (.ref y)) := x
    show h'.get? a = some (PySem.W.methodObj (.ref f) (.ref y))
    exact k a _ (.inl rfl) e
  | ext φ => obtain ⟨p, ⟨o, e⟩, st⟩ := x; exact ⟨st _ _ p fun o q => k _ _ (.inl rfl) q, ⟨o, k _ _ (.inl rfl) e⟩, st⟩
theorem HOk.lt (x : HOk P w H h) (e : H a = some o) : a < h.objs.size := (x a o e).lt
theorem HOk.fresh (x : HOk P w H h) (e : h.objs.size ≤ a) : H a = none := by
  cases q : H a with
  | none => rfl
  | some u => exact absurd (Nat.lt_of_lt_of_le (x.lt q) e) (Nat.lt_irrefl _)
/-- every object of the heap is kept -/
theorem HOk.kept (x : HOk P w H h) (k : ∀ b u, h.get? b = some u → h'.get? b = some u) : HOk P w H h' := fun a o e =>
  (x a o e).stay (fun b u _ q => k b u q) (fun _ q => q) fun _ _ q => q
/-- a new object is laid and tracked -/
theorem HOk.laid (x : HOk P w H h) (k : ∀ b u, h.get? b = some u → h'.get? b = some u) (hp : h.objs.size ≤ a) (new : ObjOk P w (upd H a o) h' a o) : HOk P w (upd H a o) h' := fun b u e => by
  have hn := x.fresh hp
  by_cases hb : b = a
  · subst hb; rw [upd_same] at e; cases e; exact new
  · rw [upd_ne hb] at e
    exact (x b u e).stay (fun c v _ q => k c v q) (fun c q => by rw [upd_ne (ne_of_none q hn)]; exact q) fun c xs q => by rw [upd_ne (ne_of_none q hn)]; exact q
end

/-- what may be read as u: it is u, or a known u -/
def Rd (H : Hp) (a : Addr) (u : HO) : Prop := H a = some u ∨ ∃ o, H a = some (.frz o u)
theorem Rd.of {H : Hp} {a : Addr} {u : HO} (h : H a = some u) : Rd H a u := .inl h
theorem Rd.ok {P : Program} {w : World} {H : Hp} {h : Heap} {a : Addr} {u : HO} (r : Rd H a u) (x : HOk P w H h) : ObjOk P w H h a u := by
  rcases r with r | ⟨o, r⟩
  · exact x a u r
  · obtain ⟨_, q⟩ := x a _ r
    exact q
/-- what may be written -/
def Mut : Option HO → Prop
  | some (.lst _) => True
  | some (.dK _) => True
  | some (.dT _) => True
  | some (.set _ _) => True
  | some (.ins _ _ _) => True
  | some (.ext _) => True
  | _ => False
section
variable {P : Program} {w : World} {H : Hp} {h h' : Heap} {x e : Addr} {o' : HO}
/-- the object at e is changed: x itself, or the dict of the instance x -/
theorem HOk.write (ok : HOk P w H h) (mu : Mut (H x)) (he : e = x ∨ H e = some (.own x)) (k : ∀ b u, b ≠ e → h.get? b = some u → h'.get? b = some u) (heo : ∃ u, h'.get? e = some u)
    (new : ObjOk P w (upd H x o') h' x o') : HOk P w (upd H x o') h' := fun b u q => by
  have nown : ∀ c y, H c = some (.own y) → c ≠ x := fun c y r z => by subst z; rw [r] at mu; exact mu
  have ntup : ∀ c xs, H c = some (.tup xs) → c ≠ x := fun c xs r z => by subst z; rw [r] at mu; exact mu
  by_cases hb : b = x
  · subst hb; rw [upd_same] at q; cases q; exact new
  · rw [upd_ne hb] at q
    by_cases hbe : b = e
    · have q' : H b = some (.own x) := by
        rcases he with z | z
        · exact absurd (hbe.trans z) hb
        · rw [hbe]; exact z
      rw [q] at q'; cases q'
      obtain ⟨v, hv⟩ := heo
      exact ⟨v, by rw [hbe]; exact hv⟩
    · refine (ok b u q).stay (fun c v hc r => k c v ?_ r) (fun c r => by rw [upd_ne (nown c b r)]; exact r) fun c xs r => by rw [upd_ne (ntup c xs r)]; exact r
      rcases hc with rfl | hc
      · exact hbe
      · rintro rfl
        rcases he with z | z
        · exact nown c b hc z
        · rw [hc] at z; cases z; exact hb rfl
end

/-! ### kept unless tracked; of the frames at fs (the callers') the slots may change (an exception that passes writes there); of the records at ex (iterators) nothing is said -/
structure Un (fs ex : List Addr) (H H' : Hp) (h h' : Heap) : Prop where
  keep : ∀ b o, h.get? b = some o → H b = none → b ∉ fs → b ∉ ex → h'.get? b = some o
  slot : ∀ b o, h.get? b = some o → H b = none → b ∈ fs → b ∉ ex → ∃ sl, h'.get? b = some { o with slots := sl }
  free : ∀ b o, h.get? b = some o → H b = none → b ∉ ex → H' b = none
  there : ∀ b o, h.get? b = some o → b ∉ ex → ∃ o', h'.get? b = some o'
  tups : ∀ b xs, H b = some (.tup xs) → H' b = some (.tup xs)
  frzs : ∀ b o u, H b = some (.frz o u) → H' b = some (.frz o u)
  tbls : ∀ b ps, H b = some (.tbl ps) → ∃ more, H' b = some (.tbl (ps ++ more))
section
variable {fs fs' ex ex' : List Addr} {H H1 H2 : Hp} {h h1 h2 h' : Heap} {a x e : Addr} {o : HO}
theorem Un.any (u : Un fs ex H H1 h h1) {b : Addr} {ob : Obj} (q : h.get? b = some ob) (n : H b = none) (hx : b ∉ ex) : ∃ sl, h1.get? b = some { ob with slots := sl } := by
  by_cases hb : b ∈ fs
  · exact u.slot b ob q n hb hx
  · exact ⟨ob.slots, u.keep b ob q n hb hx⟩
theorem Un.trans (a : Un fs ex H H1 h h1) (b : Un fs ex H1 H2 h1 h2) : Un fs ex H H2 h h2 where
  keep := fun c ob q n hc hx => b.keep c ob (a.keep c ob q n hc hx) (a.free c ob q n hx) hc hx
  slot := fun c ob q n hc hx => by
    obtain ⟨sl, e1⟩ := a.slot c ob q n hc hx
    obtain ⟨sl', e2⟩ := b.slot c _ e1 (a.free c ob q n hx) hc hx
    exact ⟨sl', e2⟩
  free := fun c ob q n hx => by
    obtain ⟨o', e1⟩ := a.there c ob q hx
    exact b.free c o' e1 (a.free c ob q n hx) hx
  there := fun c ob q hx => by
    obtain ⟨o', e1⟩ := a.there c ob q hx
    exact b.there c o' e1 hx
  tups := fun c xs q => b.tups c xs (a.tups c xs q)
  frzs := fun c ob xs q => b.frzs c ob xs (a.frzs c ob xs q)
  tbls := fun c ps q => by
    obtain ⟨m1, e1⟩ := a.tbls c ps q
    obtain ⟨m2, e2⟩ := b.tbls c _ e1
    exact ⟨m1 ++ m2, by rw [e2, Array.append_assoc]⟩
theorem Un.kept (k : ∀ b u, h.get? b = some u → h'.get? b = some u) : Un fs ex H H h h' :=
  ⟨fun b ob q _ _ _ => k b ob q, fun b ob q _ _ _ => ⟨ob.slots, k b ob q⟩, fun _ _ _ n _ => n, fun b ob q _ => ⟨ob, k b ob q⟩, fun _ _ q => q, fun _ _ _ q => q, fun _ ps q => ⟨#[], by rw [q]; simp⟩⟩
theorem Un.refl : Un fs ex H H h h := Un.kept fun _ _ q => q
theorem Un.laid (k : ∀ b u, h.get? b = some u → h'.get? b = some u) (hp : h.objs.size ≤ a) (hn : H a = none) : Un fs ex H (upd H a o) h h' where
  keep := fun b u q _ _ _ => k b u q
  slot := fun b u q _ _ _ => ⟨u.slots, k b u q⟩
  free := fun b u q n _ => by rw [upd_ne (Nat.ne_of_lt (Nat.lt_of_lt_of_le (Heap.lt_size q) hp))]; exact n
  there := fun b u q _ => ⟨u, k b u q⟩
  tups := fun b xs q => by rw [upd_ne (ne_of_none q hn)]; exact q
  frzs := fun b u xs q => by rw [upd_ne (ne_of_none q hn)]; exact q
  tbls := fun b ps q => ⟨#[], by rw [upd_ne (ne_of_none q hn), q]; simp⟩
theorem Un.write (mu : Mut (H x)) (he : e = x ∨ H e = some (.own x)) (k : ∀ b u, b ≠ e → h.get? b = some u → h'.get? b = some u) (heo : ∃ u, h'.get? e = some u) : Un fs ex H (upd H x o) h h' := by
  have hx : ∀ b, H b = none → b ≠ x := fun b n z => by subst z; rw [n] at mu; exact mu
  have hb : ∀ b, H b = none → b ≠ e := fun b n z => by
    subst z
    rcases he with r | r
    · exact hx b n r
    · rw [n] at r; cases r
  have hm : ∀ b u, H b = some u → ¬ Mut (some u) → b ≠ x := fun b u q nm z => by subst z; rw [q] at mu; exact nm mu
  refine ⟨fun b u q n _ _ => k b u (hb b n) q, fun b u q n _ _ => ⟨u.slots, k b u (hb b n) q⟩, fun b u q n _ => by rw [upd_ne (hx b n)]; exact n, fun b u q _ => ?_,
    fun b xs q => by rw [upd_ne (hm b _ q fun z => z)]; exact q, fun b u xs q => by rw [upd_ne (hm b _ q fun z => z)]; exact q, fun b ps q => ⟨#[], by rw [upd_ne (hm b _ q fun z => z), q]; simp⟩⟩
  by_cases hbe : b = e
  · subst hbe; exact heo
  · exact ⟨u, k b u hbe q⟩
theorem Un.mono (u : Un fs ex H H1 h h1) (hs : ∀ b ∈ fs, b ∈ fs') (hx : ∀ b ∈ ex, b ∈ ex') : Un fs' ex' H H1 h h1 :=
  ⟨fun b ob q n hb he => u.keep b ob q n (fun z => hb (hs b z)) fun z => he (hx b z), fun _ _ q n _ he => u.any q n fun z => he (hx _ z), fun b ob q n he => u.free b ob q n fun z => he (hx b z), fun b ob q he => u.there b ob q fun z => he (hx b z), u.tups, u.frzs, u.tbls⟩
end

/-! ### the heap without what is tracked -/
def trk (h : Heap) (H : Hp) : List Addr := (List.range h.objs.size).filter fun a => (H a).isSome
def hidT (h : Heap) (H : Hp) : Heap := PySem.W.hideAll h (trk h H)
theorem hidT_size (h : Heap) (H : Hp) : (hidT h H).objs.size = h.objs.size := PySem.W.hideAll_size _ _
theorem hidT_get {h : Heap} {H : Hp} {b : Addr} {o : Obj} (e : h.get? b = some o) (n : H b = none) : (hidT h H).get? b = some o :=
  PySem.W.hideAll_get _ e fun hm => by
    have q : (H b).isSome = true := (List.mem_filter.mp hm).2
    rw [n] at q; simp at q
theorem of_hidT {h : Heap} {H : Hp} {b : Addr} {o : Obj} (e : (hidT h H).get? b = some o) : h.get? b = some o ∧ H b = none := by
  have e' : h.get? b = some o := PySem.W.of_hideAll (trk h H) e
  refine ⟨e', ?_⟩
  cases q : H b with
  | none => rfl
  | some x =>
    have hm : b ∈ trk h H := List.mem_filter.mpr ⟨List.mem_range.mpr (Heap.lt_size e'), by simp [q]⟩
    have z : (hidT h H).get? b = none := PySem.W.hideAll_none (trk h H) hm
    rw [z] at e; cases e

/-! ### OpenK's ledger, filled with every new object but one -/
def allNews (g h : Heap) (L : Addr) : List (Addr × Obj) := (List.range h.objs.size).filterMap fun a => if a = L ∨ (g.get? a).isSome = true then none else (h.get? a).map fun o => (a, o)
theorem mem_allNews {g h : Heap} {L a : Addr} {o : Obj} (h1 : a ≠ L) (h2 : g.get? a = none) (h3 : h.get? a = some o) : (a, o) ∈ allNews g h L :=
  List.mem_filterMap.mpr ⟨a, List.mem_range.mpr (Heap.lt_size h3), by simp [h1, h2, h3]⟩
theorem of_mem_allNews {g h : Heap} {L : Addr} {p : Addr × Obj} (hp : p ∈ allNews g h L) : p.1 ≠ L ∧ g.get? p.1 = none ∧ h.get? p.1 = some p.2 := by
  obtain ⟨b, _, e⟩ := List.mem_filterMap.mp hp
  split at e
  · cases e
  · rename_i hn
    cases q : h.get? b with
    | none => rw [q] at e; simp at e
    | some u =>
      rw [q] at e
      simp only [Option.map_some, Option.some.injEq] at e
      subst e
      refine ⟨fun z => hn (.inl z), ?_, q⟩
      show g.get? b = none
      cases r : g.get? b with
      | none => rfl
      | some v => exact (hn (.inr (by simp [r]))).elim
def rest (g h : Heap) (L d : Addr) : List (Addr × Obj) := (allNews g h L).filter fun p => decide (p.1 ≠ d)
theorem rest_ne {g h : Heap} {L d : Addr} : ∀ p ∈ rest g h L d, p.1 ≠ d := fun p hp => of_decide_eq_true (List.mem_filter.mp hp).2
theorem mem_rest {g h : Heap} {L d a : Addr} {o : Obj} (h1 : a ≠ L) (h2 : g.get? a = none) (h3 : h.get? a = some o) (h4 : a ≠ d) : (a, o) ∈ rest g h L d :=
  List.mem_filter.mpr ⟨mem_allNews h1 h2 h3, decide_eq_true h4⟩
theorem news_all {g h : Heap} {L : Addr} : News g L h (allNews g h L) := fun p hp => let ⟨a, b, c⟩ := of_mem_allNews hp; ⟨c, a, b⟩
theorem news_at {g h : Heap} {L d : Addr} {o : Obj} (h1 : d ≠ L) (h2 : g.get? d = none) (h3 : h.get? d = some o) : News g L h ((d, o) :: rest g h L d) := fun p hp => by
  rcases List.mem_cons.mp hp with rfl | hp
  · exact ⟨h3, h1, h2⟩
  · exact news_all p (List.mem_filter.mp hp).1
/-- behind a rule that changed d alone: all else but the frame is kept -/
theorem kept_of_news {g h h' : Heap} {L d : Addr} {m : Str → Option Value} (k : ∀ b o, g.get? b = some o → h.get? b = some o) (F : Fr g L h' m) (N : News g L h' (rest g h L d)) :
    ∀ b o, b ≠ L → b ≠ d → h.get? b = some o → h'.get? b = some o := fun b o h1 h2 e => by
  cases q : g.get? b with
  | some u =>
    have := k b u q
    rw [e] at this; cases this
    exact F.keep b _ q
  | none => exact (N (b, o) (mem_rest h1 q e h2)).1
end L2

namespace L2
open PySem PySem.Spec PyProof.Rows

/-- the module's facts, over the base: the heap at the law's entry without what is tracked there -/
structure Mod (K : PySem.W.Frag) (mg : Str → Option Value) (base : Heap) : Prop where
  kin : K.In base
  glob : base.Ns mainGlobals mg
  blt : ∃ mb, base.Ns builtinsNs mb ∧ ∀ x : Str, x ≠ "__name__" → mb x = bootBuiltins x
  nolimit : base.NoLimit

/-- the context: a def's body (or a comprehension's block) running. base: fixed through the whole law; s₀, H₀: the entry; outer: the frames whose slots others may change (a def's callers); stack: all frames that run;
   ex: iterators that were made ahead of the entry and are walked here (a comprehension's); fn: the names whose cells were made at the entry (a def: all; a comprehension's block: its own); calm: not within an except suite; pn: pins that every state bears; xe: what is wanted of an exception that leaves the code -/
structure Cx where
  prog : Program
  w : World
  K : PySem.W.Frag
  mg : Str → Option Value
  base : Heap
  A : Around
  N : List Str
  s₀ : Shared
  H₀ : Hp
  env : Env
  outer : List Env
  stack : List Env
  ex : List Addr
  fn : Str → Bool
  calm : Bool
  pn : List (Addr × Obj)
  xe : Value → Shared → Prop
/-- the callers' frames -/
def frs (l : List Env) : List Addr := l.filterMap (·.frame)
abbrev Cx.fs (X : Cx) : List Addr := frs X.outer

def Vis (sc : Scope) (x : Str) : Prop := sc.names.lookup x = some .local ∨ sc.names.lookup x = some .cell ∨ sc.names.lookup x = some .free
def Loc (sc : Scope) (x : Str) : Prop := sc.names.lookup x = some .local ∨ sc.names.lookup x = some .cell
def Look (env : Env) (h : Heap) (m : Str → Option Value) (x : Str) (u : Value) : Prop :=
  (env.kindOf x = some .local ∧ m x = some u) ∨ ((env.kindOf x = some .cell ∨ env.kindOf x = some .free) ∧ ∃ c, env.cells.lookup x = some c ∧ h.IsCell c (some u))

structure Cx.Ok (X : Cx) : Prop where
  mod : Mod X.K X.mg X.base
  kind : X.env.scope.kind = .function
  glob : X.env.globals = mainGlobals
  blt : X.env.builtins = builtinsNs
  above : X.s₀.heap.objs.size ≤ X.env.locals
  inj : ∀ x y c, X.env.cells.lookup x = some c → X.env.cells.lookup y = some c → x = y
  has : ∀ x, (X.env.kindOf x = some .cell ∨ X.env.kindOf x = some .free) → ∃ c, X.env.cells.lookup x = some c
  cab : ∀ x c, X.fn x = true → X.env.cells.lookup x = some c → X.s₀.heap.objs.size ≤ c
  hd : X.calm = true → X.A.handled = none
  frames : X.A.frames = some X.stack
  stk : X.stack = X.outer ∨ (X.stack = X.env :: X.outer ∧ X.env.frame = some X.env.locals)
  exf : ∀ b ∈ X.ex, b ≠ X.env.locals ∧ ∀ x c, X.env.cells.lookup x = some c → c ≠ b
  bs : ∀ b o, X.base.get? b = some o → X.s₀.heap.get? b = some o ∧ X.H₀ b = none
  bsz : X.base.objs.size ≤ X.s₀.heap.objs.size
  noex : ∀ b o, X.base.get? b = some o → b ∉ X.ex
  exfs : ∀ b ∈ X.ex, b ∉ X.fs
  funs : X.s₀.heap.FunFrames X.base X.outer
  frf : ∀ b ∈ X.fs, X.H₀ b = none

structure Inv (X : Cx) (pins : List (Addr × Obj)) (σ : List (Option V)) (H : Hp) (s : Shared) : Prop where
  ok : X.Ok
  os : s.os = X.s₀.os
  bare : AllBare s.gens
  base : Un X.fs X.ex X.H₀ H X.s₀.heap s.heap
  loc : ∃ m, s.heap.Ns X.env.locals m ∧ ∀ (i : Nat) (x : Str) (v : V), X.N[i]? = some x → σ[i]? = some (some v) → Vis X.env.scope x → ∃ u, RelV v u ∧ Look X.env s.heap m x u
  cell : ∀ x c, X.env.cells.lookup x = some c → ∃ v, s.heap.IsCell c v
  free : H X.env.locals = none
  freeC : ∀ x c, X.env.cells.lookup x = some c → H c = none
  pin : ∀ p ∈ X.pn ++ pins, s.heap.get? p.1 = some p.2 ∧ H p.1 = none ∧ p.1 ≠ X.env.locals ∧ p.1 ∉ X.fs ∧ ∀ v, p.2.data ≠ .cell v
  hok : HOk X.prog X.w H s.heap
  len : σ.length = X.N.length

section
variable {X : Cx} {pins : List (Addr × Obj)} {σ : List (Option V)} {H H' : Hp} {s : Shared} {h' : Heap}

theorem Cx.Ok.nofr (ok : X.Ok) {b : Addr} {o : Obj} (e : X.base.get? b = some o) : b ∉ X.fs := fun hb => by
  have := (ok.funs.mem hb).1
  rw [e] at this; cases this
theorem Inv.bs (I : Inv X pins σ H s) : ∀ b o, X.base.get? b = some o → s.heap.get? b = some o ∧ H b = none := fun b o e =>
  ⟨I.base.keep b o (I.ok.bs b o e).1 (I.ok.bs b o e).2 (I.ok.nofr e) (I.ok.noex b o e), I.base.free b o (I.ok.bs b o e).1 (I.ok.bs b o e).2 (I.ok.noex b o e)⟩
theorem Inv.bk (I : Inv X pins σ H s) : ∀ b o, X.base.get? b = some o → s.heap.get? b = some o := fun b o e => (I.bs b o e).1
theorem Inv.mod (I : Inv X pins σ H s) : Mod X.K X.mg X.base := I.ok.mod
theorem Inv.kIn (I : Inv X pins σ H s) : X.K.In s.heap := I.ok.mod.kin.keeps I.bk
theorem Inv.nolimit (I : Inv X pins σ H s) : s.heap.NoLimit := I.ok.mod.nolimit.keeps I.bk
/-- the frame over the base: for OpenK's rules (K.In X.base is I.mod.kin) -/
theorem Inv.fr (I : Inv X pins σ H s) : ∃ m, Fr X.base X.env.locals s.heap m :=
  let ⟨m, hn, _⟩ := I.loc
  ⟨m, hn, I.bk, Nat.le_trans I.ok.bsz I.ok.above⟩
theorem Inv.lt (I : Inv X pins σ H s) : X.env.locals < s.heap.objs.size := let ⟨_, hn, _⟩ := I.loc; hn.lt
theorem Inv.sz (I : Inv X pins σ H s) : X.s₀.heap.objs.size ≤ s.heap.objs.size := Nat.le_trans I.ok.above (Nat.le_of_lt I.lt)
theorem Inv.nofs (I : Inv X pins σ H s) {a : Addr} (h : s.heap.objs.size ≤ a) : a ∉ X.fs := fun hb => by
  obtain ⟨_, o, ho, _⟩ := I.ok.funs.mem hb
  exact absurd (Nat.lt_of_lt_of_le (Heap.lt_size ho) (Nat.le_trans I.sz h)) (Nat.lt_irrefl _)
theorem Inv.cne (I : Inv X pins σ H s) : ∀ x c, X.env.cells.lookup x = some c → c ≠ X.env.locals := fun x c e z => by
  obtain ⟨v, o, ho, hd⟩ := I.cell x c e
  obtain ⟨m, ⟨o', es, ep, ho', hd', _⟩, _⟩ := I.loc
  rw [z, ho'] at ho; cases ho; rw [hd'] at hd; cases hd
theorem Inv.funs (I : Inv X pins σ H s) : s.heap.FunFrames X.base X.outer := by
  have all : ∀ (l : List Env), (∀ b ∈ frs l, b ∈ X.fs) → X.s₀.heap.FunFrames X.base l → s.heap.FunFrames X.base l := by
    intro l
    induction l with
    | nil => intro _ _; trivial
    | cons env r ih =>
      intro hs hl
      obtain ⟨hk, ⟨L, o, hf, hn, ho, hd⟩, hr⟩ := hl
      have hL : L ∈ X.fs := hs L (by unfold frs; rw [List.filterMap_cons, hf]; exact List.mem_cons_self)
      obtain ⟨sl, e⟩ := I.base.slot L o ho (I.ok.frf L hL) hL fun z => I.ok.exfs L z hL
      exact ⟨hk, ⟨L, _, hf, hn, e, hd⟩, ih (fun b hb => hs b (by unfold frs; rw [List.filterMap_cons, hf]; exact List.mem_cons_of_mem _ hb)) hr⟩
  exact all X.outer (fun _ hb => hb) I.ok.funs

/-- the frames that run, for a call -/
theorem Inv.stack (I : Inv X pins σ H s) : s.heap.FunFrames X.base X.stack := by
  rcases I.ok.stk with e | ⟨e, hf⟩
  · rw [e]; exact I.funs
  · rw [e]
    obtain ⟨m, hn, _⟩ := I.loc
    refine .cons (by rw [I.ok.kind]; decide) hf hn ?_ I.funs
    exact Heap.get?_none_of_le (Nat.le_trans I.ok.bsz I.ok.above)
theorem Inv.stkSub (I : Inv X pins σ H s) : ∀ b ∈ frs X.stack, b ∈ X.env.locals :: X.fs := fun b hb => by
  rcases I.ok.stk with e | ⟨e, hf⟩
  · rw [e] at hb; exact List.mem_cons_of_mem _ hb
  · rw [e] at hb
    unfold frs at hb
    rw [List.filterMap_cons, hf] at hb
    exact hb
theorem Inv.stkFree (I : Inv X pins σ H s) : ∀ b ∈ frs X.stack, H b = none := fun b hb => by
  rcases List.mem_cons.mp (I.stkSub b hb) with e | hb
  · rw [e]; exact I.free
  · obtain ⟨_, o, ho, _⟩ := I.ok.funs.mem hb
    exact I.base.free b o ho (I.ok.frf b hb) fun z => I.ok.exfs b z hb

/-- THE STEP: the untracked objects but the frame and the records at ch are kept (the callers' frames up to slots), the frame's map is kept, the new abstract heap is held -/
theorem Inv.step {g' : Array GenState} {t' : Nat} {d' : Drawn} {ch : List Addr} (I : Inv X pins σ H s)
    (hch : ∀ b ∈ ch, (b ∈ X.ex ∨ X.s₀.heap.objs.size ≤ b) ∧ b ≠ X.env.locals ∧ (∀ x c, X.env.cells.lookup x = some c → c ≠ b) ∧ ∀ p ∈ X.pn ++ pins, p.1 ≠ b)
    (keep : ∀ b o, b ≠ X.env.locals → b ∉ X.fs → b ∉ ch → s.heap.get? b = some o → H b = none → h'.get? b = some o)
    (slot : ∀ b o, b ≠ X.env.locals → b ∈ X.fs → b ∉ ch → s.heap.get? b = some o → H b = none → ∃ sl, h'.get? b = some { o with slots := sl }) (free : ∀ b o, b ∉ ch → s.heap.get? b = some o → H b = none → H' b = none)
    (there : ∀ b o, b ∉ ch → s.heap.get? b = some o → ∃ o', h'.get? b = some o')
    (tups : ∀ b xs, H b = some (.tup xs) → H' b = some (.tup xs)) (frzs : ∀ b o u, H b = some (.frz o u) → H' b = some (.frz o u)) (tbls : ∀ b ps, H b = some (.tbl ps) → ∃ more, H' b = some (.tbl (ps ++ more)))
    (ns : ∀ m, s.heap.Ns X.env.locals m → h'.Ns X.env.locals m) (hok : HOk X.prog X.w H' h') (hg : AllBare g') :
    Inv X pins σ H' { s with heap := h', gens := g', drawn := d', toks := t' } := by
  have neL : ∀ b o, X.s₀.heap.get? b = some o → b ≠ X.env.locals := fun b o e => Nat.ne_of_lt (Nat.lt_of_lt_of_le (Heap.lt_size e) I.ok.above)
  have neC : ∀ b o, X.s₀.heap.get? b = some o → b ∉ X.ex → b ∉ ch := fun b o e hx hb => by
    rcases (hch b hb).1 with z | z
    · exact hx z
    · exact absurd (Nat.lt_of_lt_of_le (Heap.lt_size e) z) (Nat.lt_irrefl _)
  have cellK : ∀ x c, X.env.cells.lookup x = some c → ∀ v, s.heap.IsCell c v → h'.IsCell c v := fun x c e v ⟨o, ho, hd⟩ => by
    have nch : c ∉ ch := fun z => (hch c z).2.2.1 x c e rfl
    by_cases hc : c ∈ X.fs
    · obtain ⟨sl, q⟩ := slot c o (I.cne x c e) hc nch ho (I.freeC x c e)
      exact ⟨_, q, hd⟩
    · exact ⟨o, keep c o (I.cne x c e) hc nch ho (I.freeC x c e), hd⟩
  refine ⟨I.ok, I.os, hg, ⟨fun b o e n hb hx => ?_, fun b o e n hb hx => ?_, fun b o e n hx => ?_, fun b o e hx => ?_, fun b xs e => tups b xs (I.base.tups b xs e), fun b o xs e => frzs b o xs (I.base.frzs b o xs e), fun b ps e => ?_⟩, ?_, fun x c e => ?_, ?_, fun x c e => ?_, fun p hp => ?_, hok, I.len⟩
  · exact keep b o (neL b o e) hb (neC b o e hx) (I.base.keep b o e n hb hx) (I.base.free b o e n hx)
  · obtain ⟨sl, e1⟩ := I.base.slot b o e n hb hx
    obtain ⟨sl', e2⟩ := slot b _ (neL b o e) hb (neC b o e hx) e1 (I.base.free b o e n hx)
    exact ⟨sl', e2⟩
  · obtain ⟨o', e1⟩ := I.base.there b o e hx
    exact free b o' (neC b o e hx) e1 (I.base.free b o e n hx)
  · obtain ⟨o', e1⟩ := I.base.there b o e hx
    exact there b o' (neC b o e hx) e1
  · obtain ⟨m1, e1⟩ := I.base.tbls b ps e
    obtain ⟨m2, e2⟩ := tbls b _ e1
    exact ⟨m1 ++ m2, by rw [e2, Array.append_assoc]⟩
  · obtain ⟨m, hn, hl⟩ := I.loc
    refine ⟨m, ns m hn, fun i x v e1 e2 e3 => ?_⟩
    obtain ⟨u, r, l⟩ := hl i x v e1 e2 e3
    refine ⟨u, r, ?_⟩
    rcases l with l | ⟨k, c, e, z⟩
    · exact .inl l
    · exact .inr ⟨k, c, e, cellK x c e _ z⟩
  · obtain ⟨v, z⟩ := I.cell x c e
    exact ⟨v, cellK x c e v z⟩
  · obtain ⟨m, ⟨o, _, _, ho, _⟩, _⟩ := I.loc
    exact free _ o (fun z => (hch _ z).2.1 rfl) ho I.free
  · obtain ⟨v, o, ho, hd⟩ := I.cell x c e
    exact free c o (fun z => (hch c z).2.2.1 x c e rfl) ho (I.freeC x c e)
  · obtain ⟨e, n, ne, nf, d⟩ := I.pin p hp
    have nch : p.1 ∉ ch := fun z => (hch p.1 z).2.2.2 p hp rfl
    exact ⟨keep p.1 p.2 ne nf nch e n, free p.1 p.2 nch e n, ne, nf, d⟩
/-- .. where the frame's own object is kept too -/
theorem Inv.un {t' : Nat} (I : Inv X pins σ H s) (u : Un X.fs [] H H' s.heap h') (hok : HOk X.prog X.w H' h') : Inv X pins σ H' { s with heap := h', toks := t' } := by
  obtain ⟨m, ⟨o, es, ep, ho, r⟩, _⟩ := id I.loc
  obtain ⟨sl, hL⟩ := u.any ho I.free (by simp)
  exact I.step (g' := s.gens) (d' := s.drawn) (ch := []) (fun _ z => nomatch z) (fun b o _ hb _ e n => u.keep b o e n hb (by simp)) (fun b o _ hb _ e n => u.slot b o e n hb (by simp)) (fun b o _ e n => u.free b o e n (by simp)) (fun b o _ e => u.there b o e (by simp)) u.tups u.frzs u.tbls (fun m' hm => by
    obtain ⟨o', es', ep', ho', r'⟩ := hm
    rw [ho] at ho'; cases ho'
    exact ⟨_, es', ep', hL, r'⟩) hok I.bare
/-- behind a call (or a comprehension's block): the slots of this frame may have changed too, the records at ch may have turned -/
theorem Inv.call {g' : Array GenState} {t' : Nat} {d' : Drawn} {ch : List Addr} (I : Inv X pins σ H s) (u : Un (frs X.stack) ch H H' s.heap h') (hok : HOk X.prog X.w H' h') (hg : AllBare g')
    (hch : ∀ b ∈ ch, (b ∈ X.ex ∨ X.s₀.heap.objs.size ≤ b) ∧ b ≠ X.env.locals ∧ (∀ x c, X.env.cells.lookup x = some c → c ≠ b) ∧ ∀ p ∈ X.pn ++ pins, p.1 ≠ b) :
    Inv X pins σ H' { s with heap := h', gens := g', drawn := d', toks := t' } := by
  obtain ⟨m, ⟨o, es, ep, ho, r⟩, _⟩ := id I.loc
  obtain ⟨sl, hL⟩ := u.any ho I.free fun z => (hch _ z).2.1 rfl
  exact I.step (ch := ch) hch (fun b o hL hb hc e n => u.keep b o e n (fun z => (List.mem_cons.mp (I.stkSub b z)).elim hL hb) hc) (fun b o _ _ hc e n => u.any e n hc) (fun b o hc e n => u.free b o e n hc) (fun b o hc e => u.there b o e hc) u.tups u.frzs u.tbls (fun m' hm => by
    obtain ⟨o', es', ep', ho', r'⟩ := hm
    rw [ho] at ho'; cases ho'
    exact ⟨_, es', ep', hL, r'⟩) hok hg
/-- an untracked record of ours (an iterator) has turned -/
theorem Inv.turned {t' : Nat} {it : Addr} (I : Inv X pins σ H s) (k : ∀ b o, b ≠ it → s.heap.get? b = some o → h'.get? b = some o) (hn : H it = none) (hL : it ≠ X.env.locals)
    (h1 : it ∈ X.ex ∨ X.s₀.heap.objs.size ≤ it) (h2 : ∀ x c, X.env.cells.lookup x = some c → c ≠ it) (h3 : ∀ p ∈ X.pn ++ pins, p.1 ≠ it) : Inv X pins σ H { s with heap := h', toks := t' } := by
  have nit : ∀ b u, H b = some u → b ≠ it := fun b u e z => by rw [z, hn] at e; cases e
  refine I.step (g' := s.gens) (d' := s.drawn) (ch := [it]) (fun b hb => ?_) (fun b o _ _ hc e _ => k b o (fun z => hc (by simp [z])) e) (fun b o _ _ hc e _ => ⟨o.slots, k b o (fun z => hc (by simp [z])) e⟩) (fun _ _ _ _ n => n)
    (fun b o hc e => ⟨o, k b o (fun z => hc (by simp [z])) e⟩) (fun _ _ e => e) (fun _ _ _ e => e) (fun b ps e => ⟨#[], by rw [e]; simp⟩) (fun m hm => ?_) (fun b u e => ?_) I.bare
  · have e : b = it := by simpa using hb
    subst e
    exact ⟨h1, hL, h2, h3⟩
  · obtain ⟨o, es, ep, ho, r⟩ := hm
    exact ⟨o, es, ep, k _ o (Ne.symm hL) ho, r⟩
  · refine (I.hok b u e).stay (fun c v hc q => k c v ?_ q) (fun _ q => q) fun _ _ q => q
    rcases hc with z | z
    · rw [z]; exact nit b u e
    · exact nit c _ z
theorem Inv.tok (I : Inv X pins σ H s) (t : Nat) : Inv X pins σ H { s with toks := t } := I.un (h' := s.heap) (t' := t) Un.refl I.hok
/-- all objects kept -/
theorem Inv.kept {t' : Nat} (I : Inv X pins σ H s) (k : ∀ b u, s.heap.get? b = some u → h'.get? b = some u) : Inv X pins σ H { s with heap := h', toks := t' } := I.un (Un.kept k) (I.hok.kept k)
/-- a new object laid and tracked -/
theorem Inv.laid {a : Addr} {o : HO} {t' : Nat} (I : Inv X pins σ H s) (k : ∀ b u, s.heap.get? b = some u → h'.get? b = some u) (hp : s.heap.objs.size ≤ a) (new : ObjOk X.prog X.w (upd H a o) h' a o) :
    Inv X pins σ (upd H a o) { s with heap := h', toks := t' } := I.un (Un.laid k hp (I.hok.fresh hp)) (I.hok.laid k hp new)
/-- an object written -/
theorem Inv.write {x e : Addr} {o : HO} {t' : Nat} (I : Inv X pins σ H s) (mu : Mut (H x)) (he : e = x ∨ H e = some (.own x)) (k : ∀ b u, b ≠ e → s.heap.get? b = some u → h'.get? b = some u) (heo : ∃ u, h'.get? e = some u)
    (new : ObjOk X.prog X.w (upd H x o) h' x o) : Inv X pins σ (upd H x o) { s with heap := h', toks := t' } := I.un (Un.write mu he k heo) (I.hok.write mu he k heo new)
/-- forgetting slots, pins -/
theorem Inv.weak {σ' : List (Option V)} (I : Inv X pins σ H s) (hl : σ'.length = σ.length) (w : ∀ (i : Nat) v, σ'[i]? = some (some v) → σ[i]? = some (some v)) : Inv X pins σ' H s :=
  ⟨I.ok, I.os, I.bare, I.base, let ⟨m, hn, hl'⟩ := I.loc; ⟨m, hn, fun i x v e1 e2 e3 => hl' i x v e1 (w i v e2) e3⟩, I.cell, I.free, I.freeC, I.pin, I.hok, hl.trans I.len⟩
theorem Inv.pins_of {pins' : List (Addr × Obj)} (I : Inv X pins σ H s) (h : ∀ p ∈ pins', s.heap.get? p.1 = some p.2 ∧ H p.1 = none ∧ p.1 ≠ X.env.locals ∧ p.1 ∉ X.fs ∧ ∀ v, p.2.data ≠ .cell v) : Inv X pins' σ H s :=
  ⟨I.ok, I.os, I.bare, I.base, I.loc, I.cell, I.free, I.freeC, fun p hp => (List.mem_append.mp hp).elim (fun z => I.pin p (List.mem_append_left _ z)) (h p), I.hok, I.len⟩

theorem nodup_ix {N : List Str} (hN : N.Nodup) {i j : Nat} {x : Str} (a : N[i]? = some x) (b : N[j]? = some x) : i = j := by
  obtain ⟨h1, e1⟩ := List.getElem?_eq_some_iff.mp a
  obtain ⟨h2, e2⟩ := List.getElem?_eq_some_iff.mp b
  exact (List.getElem_inj hN).mp (e1.trans e2.symm)

/-- a name is stored; what changed -/
theorem store_ok2 {M : Model} {A : Around} {E : Value → Shared → Prop} {i : Nat} {x : Str} {v : V} {u : Value} {Q : Unit → Shared → Prop} (I : Inv X pins σ H s) (hN : X.N.Nodup) (hi : X.N[i]? = some x) (hx : Loc X.env.scope x) (r : RelV v u)
    (h : ∀ s', Inv X pins (σ.set i (some v)) H s' → (∃ a, Heap.SameBut a s.heap s'.heap ∧ (a = X.env.locals ∨ X.env.cells.lookup x = some a)) → Q () s') (hf : X.fn x = true ∨ X.env.scope.names.lookup x = some .local := by first | exact .inl rfl | exact .inr rfl | assumption) : wpAny M A (storeName X.env x u) Q E s := by
  obtain ⟨m, hn, hl⟩ := id I.loc
  have hcls : (X.env.scope.kind == .class || (X.env.scope.kind == .module && X.env.locals != X.env.globals)) = false := by rw [I.ok.kind]; rfl
  have hiσ : i < σ.length := by rw [I.len]; exact (List.getElem?_eq_some_iff.mp hi).1
  have cne := I.cne
  have tracked : ∀ {a : Addr} {h' : Heap}, (∃ o, s.heap.get? a = some o ∧ H a = none) → Heap.SameBut a s.heap h' → HOk X.prog X.w H h' := fun {a h'} ha hs b ob e => by
    obtain ⟨_, _, hfree⟩ := ha
    refine (I.hok b ob e).stay (fun c w' hc q => (hs.2 c ?_).trans q) (fun _ q => q) fun _ _ q => q
    rintro rfl
    rcases hc with rfl | hc
    · rw [hfree] at e; cases e
    · rw [hfree] at hc; cases hc
  rcases hx with hk | hk
  · refine wpAny_storeName_local hk hn (fun h' hn' hs => ?_) hcls
    obtain ⟨oL, _, _, hoL, _⟩ := id hn
    refine h _ ⟨I.ok, I.os, I.bare, ⟨fun b o e n hb hx => ?_, fun b o e n hb hx => ?_, I.base.free, fun b o e hx => ?_, I.base.tups, I.base.frzs, I.base.tbls⟩, ⟨_, hn', fun j y v' e1 e2 e3 => ?_⟩, fun y c e => ?_, I.free, I.freeC, fun p hp => ?_, tracked ⟨oL, hoL, I.free⟩ hs, by simpa using I.len⟩ ⟨_, hs, .inl rfl⟩
    · exact (hs.2 b (Nat.ne_of_lt (Nat.lt_of_lt_of_le (Heap.lt_size e) I.ok.above))).trans (I.base.keep b o e n hb hx)
    · obtain ⟨sl, e1⟩ := I.base.slot b o e n hb hx
      exact ⟨sl, (hs.2 b (Nat.ne_of_lt (Nat.lt_of_lt_of_le (Heap.lt_size e) I.ok.above))).trans e1⟩
    · obtain ⟨o', e1⟩ := I.base.there b o e hx
      exact ⟨o', (hs.2 b (Nat.ne_of_lt (Nat.lt_of_lt_of_le (Heap.lt_size e) I.ok.above))).trans e1⟩
    · by_cases hj : j = i
      · subst hj
        rw [hi] at e1; cases e1
        rw [List.getElem?_set_self hiσ] at e2
        cases e2
        exact ⟨u, r, .inl ⟨hk, by simp⟩⟩
      · rw [List.getElem?_set_ne (Ne.symm hj)] at e2
        obtain ⟨u', r', q⟩ := hl j y v' e1 e2 e3
        refine ⟨u', r', ?_⟩
        rcases q with ⟨k, e⟩ | ⟨k, c, e, z⟩
        · refine .inl ⟨k, ?_⟩
          have : y ≠ x := fun e => hj (nodup_ix hN e1 (e ▸ hi))
          simp [this, e]
        · exact .inr ⟨k, c, e, z.sameBut hs (cne y c e)⟩
    · obtain ⟨w', z⟩ := I.cell y c e
      exact ⟨w', z.sameBut hs (cne y c e)⟩
    · obtain ⟨e, n, ne, nf, d⟩ := I.pin p hp
      exact ⟨(hs.2 p.1 ne).trans e, n, ne, nf, d⟩
  · have hfn : X.fn x = true := by
      rcases hf with z | z
      · exact z
      · rw [z] at hk; cases hk
    obtain ⟨c, hc⟩ := I.ok.has x (.inl hk)
    obtain ⟨w', z⟩ := I.cell x c hc
    refine wpAny_storeName_cell I.ok.kind hk hc z (fun h' hc' hs => ?_)
    obtain ⟨oc, hoc, hocd⟩ := id z
    refine h { s with heap := h' } ⟨I.ok, I.os, I.bare, ⟨fun b o e n hb hx => ?_, fun b o e n hb hx => ?_, I.base.free, fun b o e hx => ?_, I.base.tups, I.base.frzs, I.base.tbls⟩, ⟨m, hn.sameBut hs (Ne.symm (cne x c hc)), fun j y v' e1 e2 e3 => ?_⟩, fun y c' e => ?_, I.free, I.freeC, fun p hp => ?_, tracked ⟨oc, hoc, I.freeC x c hc⟩ hs, by simpa using I.len⟩ ⟨c, hs, .inr hc⟩
    · exact (hs.2 b (Nat.ne_of_lt (Nat.lt_of_lt_of_le (Heap.lt_size e) (I.ok.cab x c hfn hc)))).trans (I.base.keep b o e n hb hx)
    · obtain ⟨sl, e1⟩ := I.base.slot b o e n hb hx
      exact ⟨sl, (hs.2 b (Nat.ne_of_lt (Nat.lt_of_lt_of_le (Heap.lt_size e) (I.ok.cab x c hfn hc)))).trans e1⟩
    · obtain ⟨o', e1⟩ := I.base.there b o e hx
      exact ⟨o', (hs.2 b (Nat.ne_of_lt (Nat.lt_of_lt_of_le (Heap.lt_size e) (I.ok.cab x c hfn hc)))).trans e1⟩
    · by_cases hj : j = i
      · subst hj
        rw [hi] at e1; cases e1
        rw [List.getElem?_set_self hiσ] at e2
        cases e2
        exact ⟨u, r, .inr ⟨.inl hk, c, hc, hc'⟩⟩
      · rw [List.getElem?_set_ne (Ne.symm hj)] at e2
        obtain ⟨u', r', q⟩ := hl j y v' e1 e2 e3
        refine ⟨u', r', ?_⟩
        rcases q with q | ⟨k, c', e, z'⟩
        · exact .inl q
        · refine .inr ⟨k, c', e, z'.sameBut hs ?_⟩
          rintro rfl
          exact hj (nodup_ix hN e1 (I.ok.inj _ _ _ e hc ▸ hi))
    · by_cases hcc : c' = c
      · subst hcc; exact ⟨_, hc'⟩
      · obtain ⟨w2, z2⟩ := I.cell y c' e
        exact ⟨w2, z2.sameBut hs hcc⟩
    · obtain ⟨e, n, ne, nf, d⟩ := I.pin p hp
      refine ⟨(hs.2 p.1 ?_).trans e, n, ne, nf, d⟩
      intro q
      rw [q, hoc] at e
      have q' : oc = p.2 := Option.some.inj e
      exact d w' (by rw [← q']; exact hocd)
theorem store_ok {M : Model} {A : Around} {E : Value → Shared → Prop} {i : Nat} {x : Str} {v : V} {u : Value} {Q : Unit → Shared → Prop} (I : Inv X pins σ H s) (hN : X.N.Nodup) (hi : X.N[i]? = some x) (hx : Loc X.env.scope x) (r : RelV v u)
    (h : ∀ s', Inv X pins (σ.set i (some v)) H s' → Q () s') (hf : X.fn x = true ∨ X.env.scope.names.lookup x = some .local := by first | exact .inl rfl | exact .inr rfl | assumption) : wpAny M A (storeName X.env x u) Q E s :=
  store_ok2 I hN hi hx r (fun s' I' _ => h s' I') hf
/-- behind a call or a block, the state as it is -/
theorem Inv.call' {s' : Shared} {ch : List Addr} (I : Inv X pins σ H s) (ho : s'.os = s.os) (u : Un (frs X.stack) ch H H' s.heap s'.heap) (hok : HOk X.prog X.w H' s'.heap) (hg : AllBare s'.gens)
    (hch : ∀ b ∈ ch, (b ∈ X.ex ∨ X.s₀.heap.objs.size ≤ b) ∧ b ≠ X.env.locals ∧ (∀ x c, X.env.cells.lookup x = some c → c ≠ b) ∧ ∀ p ∈ X.pn ++ pins, p.1 ≠ b) : Inv X pins σ H' s' := by
  obtain ⟨h', g', d', t', o'⟩ := s'
  have e : o' = s.os := ho
  subst e
  exact I.call (g' := g') (t' := t') (d' := d') u hok hg hch
end

/-! ### the judgements -/
/-- an exception: its class, its own dict's address (where it has one), the abstract heap behind it -/
abbrev XK := Value → Option Addr → Hp → Prop
abbrev St := List (Option V)
abbrev VK := V → Hp → Prop
/-- an expression's reading; a test's; an argument list's -/
abbrev TE := St → Hp → VK → Prop
abbrev TT := St → Hp → (Bool → Hp → Prop) → Prop
abbrev TA := St → Hp → (List V → Hp → Prop) → Prop
/-- what is wanted behind a statement -/
structure Ends where
  nx : St → Hp → Prop
  rt : VK
  bk : St → Hp → Prop := fun _ _ => False
  ct : St → Hp → Prop := fun _ _ => False
abbrev TS := Ends → St → Hp → Prop

def EP (X : Cx) (pins : List (Addr × Obj)) (σ : St) (Q : VK) (u : Value) (s' : Shared) : Prop := ∃ v H', Inv X pins σ H' s' ∧ RelV v u ∧ Q v H'
def TP (X : Cx) (pins : List (Addr × Obj)) (σ : St) (Q : Bool → Hp → Prop) (b : Bool) (s' : Shared) : Prop := ∃ H', Inv X pins σ H' s' ∧ Q b H'
def AP (X : Cx) (pins : List (Addr × Obj)) (σ : St) (Q : List V → Hp → Prop) (us : List Value) (s' : Shared) : Prop := ∃ vs H', Inv X pins σ H' s' ∧ Vals vs us ∧ Q vs H'
def SP (X : Cx) (pins : List (Addr × Obj)) (D : Ends) (f : Flow) (s' : Shared) : Prop :=
  match f with
  | .next => ∃ σ' H', Inv X pins σ' H' s' ∧ D.nx σ' H'
  | .brk => ∃ σ' H', Inv X pins σ' H' s' ∧ D.bk σ' H'
  | .cont => ∃ σ' H', Inv X pins σ' H' s' ∧ D.ct σ' H'
  | .ret u => ∃ v σ' H', Inv X pins σ' H' s' ∧ RelV v u ∧ D.rt v H'

def PE (X : Cx) (e : Expr) (t : TE) : Prop :=
  ∀ (pins : List (Addr × Obj)) (s : Shared) (σ : St) (H : Hp) (Q : VK), Inv X pins σ H s → t σ H Q → wpAny (model X.prog X.w) X.A (eval e X.env) (EP X pins σ Q) X.xe s
def PT (X : Cx) (e : Expr) (t : TT) : Prop :=
  ∀ (pins : List (Addr × Obj)) (s : Shared) (σ : St) (H : Hp) (Q : Bool → Hp → Prop), Inv X pins σ H s → t σ H Q → wpAny (model X.prog X.w) X.A (isTrue e X.env (eval e X.env)) (TP X pins σ Q) X.xe s
/-- a test whatever its 'whole' is (and, or) -/
def PW (X : Cx) (e : Expr) (t : TT) : Prop :=
  ∀ (whole : Sem Value) (pins : List (Addr × Obj)) (s : Shared) (σ : St) (H : Hp) (Q : Bool → Hp → Prop), Inv X pins σ H s → t σ H Q → wpAny (model X.prog X.w) X.A (isTrue e X.env whole) (TP X pins σ Q) X.xe s
theorem PW.pt {X : Cx} {e : Expr} {t : TT} (h : PW X e t) : PT X e t := h _
/-- an argument list (no star), from the left -/
def PA (X : Cx) (es : List Expr) (t : TA) : Prop :=
  ∀ (pos : Pos) (pins : List (Addr × Obj)) (s : Shared) (σ : St) (H : Hp) (Q : List V → Hp → Prop), Inv X pins σ H s → t σ H Q → wpAny (model X.prog X.w) X.A (spliced (backTo pos (starEach es X.env))) (AP X pins σ Q) X.xe s
def PS (X : Cx) (st : Stmt) (t : TS) : Prop :=
  ∀ (pins : List (Addr × Obj)) (s : Shared) (σ : St) (H : Hp) (D : Ends), Inv X pins σ H s → t D σ H → wpAny (model X.prog X.w) X.A (exec st X.env) (SP X pins D) X.xe s
def PSs (X : Cx) (st : List Stmt) (t : TS) : Prop :=
  ∀ (pins : List (Addr × Obj)) (s : Shared) (σ : St) (H : Hp) (D : Ends), Inv X pins σ H s → t D σ H → wpAny (model X.prog X.w) X.A (execs st X.env) (SP X pins D) X.xe s
/-- weaken the end -/
theorem thn {α : Type} {t : Sem α} {Q Q' : α → Shared → Prop} {M : Model} {A : Around} {E : Value → Shared → Prop} {s : Shared} (h : wpAny M A t Q E s) (hQ : ∀ a s, Q a s → Q' a s) : wpAny M A t Q' E s := wpAny_mono h hQ fun _ _ x => x
end L2

namespace L2
open PySem PySem.Spec PyProof.Rows
section
variable {X : Cx}

/-- two expressions in a row -/
theorem bin {a b : Expr} {ta tb : TE} (ha : PE X a ta) (hb : PE X b tb) {pins : List (Addr × Obj)} {s : Shared} {σ : St} {H : Hp} {R : V → V → Hp → Prop} (I : Inv X pins σ H s) (h : ta σ H fun x H1 => tb σ H1 fun y H2 => R x y H2)
    {α : Type} {Q : α → Shared → Prop} {f : Value → Value → Sem α}
    (hf : ∀ v u s2 x y H2, Inv X pins σ H2 s2 → RelV x v → RelV y u → R x y H2 → wpAny (model X.prog X.w) X.A (f v u) Q X.xe s2) :
    wpAny (model X.prog X.w) X.A (eval a X.env) (fun v s₁ => wpAny (model X.prog X.w) X.A (eval b X.env) (fun u s₂ => wpAny (model X.prog X.w) X.A (f v u) Q X.xe s₂) X.xe s₁) X.xe s := by
  refine thn (ha pins s σ H _ I h) fun v s1 ⟨x, H1, I1, r1, q1⟩ => ?_
  refine thn (hb pins s1 σ H1 _ I1 q1) fun u s2 ⟨y, H2, I2, r2, q2⟩ => ?_
  exact hf v u s2 x y H2 I2 r1 r2 q2

/-! ### names and constants -/
def tVar (i : Nat) : TE := fun σ H Q => ∃ v, σ[i]? = some (some v) ∧ Q v H
def tC (v : V) : TE := fun _ H Q => Q v H
theorem pe_var {i : Nat} {x : Str} {pos : Pos} (hN : X.N[i]? = some x) (hv : Vis X.env.scope x) (hd : (x == ("__debug__" : Str)) = false := by decide) (hcd : (x == ("__classdict__" : Str)) = false := by decide) : PE X (.Name x pos) (tVar i) := by
  intro pins s σ H Q I h
  obtain ⟨v, e, h⟩ := h
  obtain ⟨m, hn, hl⟩ := I.loc
  obtain ⟨u, r, l⟩ := hl i x v hN e hv
  have fin : EP X pins σ Q u s := ⟨v, H, I, r, h⟩
  rcases l with ⟨hk, hm⟩ | ⟨hk, c, hc, hcell⟩
  · exact wpAny_Name (wpAny_loadName_local I.ok.kind hk hn hm fin) hd
  · rcases hk with hk | hk
    · exact wpAny_Name (wpAny_loadName_cell I.ok.kind hk hc hcell fin) hd
    · exact wpAny_Name (wpAny_loadName_free I.ok.kind hk hc hcell fin hcd) hd
theorem pe_int {i j pos} : PE X (.Constant (.int i) j pos) (tC (.int i)) := fun _ _ _ H _ I h => wpAny_Constant_int ⟨.int i, H, I.tok _, ⟨_, rfl⟩, h⟩
theorem pe_bl {b j pos} : PE X (.Constant (.bool b) j pos) (tC (.bl b)) := fun _ _ _ H _ I h => Constant_bool ⟨.bl b, H, I, rfl, h⟩
theorem pe_non {j pos} : PE X (.Constant .none j pos) (tC .non) := fun _ _ _ H _ I h => Constant_none ⟨.non, H, I, rfl, h⟩
theorem pe_str {x j pos} : PE X (.Constant (.str x) j pos) (tC (.str x)) := fun _ _ _ H _ I h => Calls.Constant_str ⟨.str x, H, I.tok _, ⟨_, rfl⟩, h⟩

/-- a global name of the def -/
def Gl (X : Cx) (x : Str) : Prop := X.env.kindOf x = some .globalImplicit
theorem ld_glob {E : Value → Shared → Prop} {pins : List (Addr × Obj)} {s : Shared} {σ : St} {H : Hp} {x : Str} {u : Value} {pos : Pos} {Q : Value → Shared → Prop} (I : Inv X pins σ H s) (hg : Gl X x) (hm : X.mg x = some u) (h : Q u s)
    (hd : (x == ("__debug__" : Str)) = false := by decide) : wpAny (model X.prog X.w) X.A (eval (.Name x pos) X.env) Q E s :=
  Calls.Name_function_global I.ok.kind hg (Calls.loadGlobal_global (by rw [I.ok.glob]; exact I.mod.glob.keeps I.bk) hm h) hd
theorem ld_blt {E : Value → Shared → Prop} {pins : List (Addr × Obj)} {s : Shared} {σ : St} {H : Hp} {x : Str} {u : Value} {pos : Pos} {Q : Value → Shared → Prop} (I : Inv X pins σ H s) (hg : Gl X x) (hm : X.mg x = none) (hv : bootBuiltins x = some u) (h : Q u s)
    (hn : x ≠ "__name__" := by decide) (hd : (x == ("__debug__" : Str)) = false := by decide) : wpAny (model X.prog X.w) X.A (eval (.Name x pos) X.env) Q E s := by
  obtain ⟨mb, h1, h2⟩ := I.mod.blt
  exact Calls.Name_function_global I.ok.kind hg (Calls.loadGlobal_builtin (by rw [I.ok.glob]; exact I.mod.glob.keeps I.bk) hm (by rw [I.ok.blt]; exact h1.keeps I.bk) ((h2 x hn).trans hv) h) hd
/-- a module's constant, a class, a function, as a value -/
theorem pe_glob {x : Str} {v : V} {u : Value} {pos : Pos} (hg : Gl X x) (hm : X.mg x = some u) (r : RelV v u) (hd : (x == ("__debug__" : Str)) = false := by decide) : PE X (.Name x pos) (tC v) :=
  fun _ _ _ H _ I h => ld_glob I hg hm ⟨v, H, I, r, h⟩ hd
theorem pe_bltn {x : Str} {v : V} {u : Value} {pos : Pos} (hg : Gl X x) (hm : X.mg x = none) (hv : bootBuiltins x = some u) (r : RelV v u) (hn : x ≠ "__name__" := by decide) (hd : (x == ("__debug__" : Str)) = false := by decide) : PE X (.Name x pos) (tC v) :=
  fun _ _ _ H _ I h => ld_blt I hg hm hv ⟨v, H, I, r, h⟩ hn hd

/-! ### arithmetic -/
/-- two ints -/
def t2I (ta tb : TE) (k : Int → Int → Hp → Prop) : St → Hp → Prop := fun σ H => ta σ H fun x H1 => tb σ H1 fun y H2 => ∃ i j, x = .int i ∧ y = .int j ∧ k i j H2
def tAdd (ta tb : TE) : TE := fun σ H Q => t2I ta tb (fun i j H2 => Q (.int (i + j)) H2) σ H
def tSub (ta tb : TE) : TE := fun σ H Q => t2I ta tb (fun i j H2 => Q (.int (i - j)) H2) σ H
/-- the left factor below 2^64 -/
def tMul (ta tb : TE) : TE := fun σ H Q => t2I ta tb (fun i j H2 => (-(2 ^ 64) < i ∧ i < 2 ^ 64) ∧ Q (.int (i * j)) H2) σ H
variable {a b : Expr} {ta tb : TE} {pos : Pos}
theorem pe_add (ha : PE X a ta) (hb : PE X b tb) : PE X (.BinOp a .Add b pos) (tAdd ta tb) := by
  intro pins s σ H Q I h
  refine wpAny_BinOp (bin ha hb I h fun v u s2 x y H2 I2 rx ry q => ?_)
  obtain ⟨i, j, rfl, rfl, q⟩ := q
  obtain ⟨t, rfl⟩ := rx
  obtain ⟨t', rfl⟩ := ry
  exact add_int ⟨.int _, H2, I2.tok _, ⟨_, rfl⟩, q⟩
theorem pe_sub (ha : PE X a ta) (hb : PE X b tb) : PE X (.BinOp a .Sub b pos) (tSub ta tb) := by
  intro pins s σ H Q I h
  refine wpAny_BinOp (bin ha hb I h fun v u s2 x y H2 I2 rx ry q => ?_)
  obtain ⟨i, j, rfl, rfl, q⟩ := q
  obtain ⟨t, rfl⟩ := rx
  obtain ⟨t', rfl⟩ := ry
  exact sub_int ⟨.int _, H2, I2.tok _, ⟨_, rfl⟩, q⟩
theorem pe_mul (ha : PE X a ta) (hb : PE X b tb) : PE X (.BinOp a .Mult b pos) (tMul ta tb) := by
  intro pins s σ H Q I h
  refine wpAny_BinOp (bin ha hb I h fun v u s2 x y H2 I2 rx ry q => ?_)
  obtain ⟨i, j, rfl, rfl, ⟨q1, q2⟩, q⟩ := q
  obtain ⟨t, rfl⟩ := rx
  obtain ⟨t', rfl⟩ := ry
  exact mul_int ⟨.int _, H2, I2.tok _, ⟨_, rfl⟩, q⟩ (.of_left (intBits_le_64 q1 q2))

/-! ### comparisons -/
def PC (X : Cx) (op : CmpOp) (a b : Expr) (t : TE) : Prop :=
  ∀ (pins : List (Addr × Obj)) (s : Shared) (σ : St) (H : Hp) (Q : VK), Inv X pins σ H s → t σ H Q →
    wpAny (model X.prog X.w) X.A (eval a X.env) (fun v s₁ => wpAny (model X.prog X.w) X.A (eval b X.env) (fun u s₂ => wpAny (model X.prog X.w) X.A (compareOp op v u) (EP X pins σ Q) X.xe s₂) X.xe s₁) X.xe s
theorem nobehind (b : Expr) {op : CmpOp} (h : op ≠ .In) (h2 : op ≠ .NotIn) : behindInMarks op b = false := by
  have e1 : (op == CmpOp.In) = false := by cases op <;> first | rfl | exact absurd rfl h
  have e2 : (op == CmpOp.NotIn) = false := by cases op <;> first | rfl | exact absurd rfl h2
  cases b <;> simp [behindInMarks, e1, e2]
def tCmp (p : Int → Int → Bool) (ta tb : TE) : TE := fun σ H Q => t2I ta tb (fun i j H2 => Q (.bl (p i j)) H2) σ H
abbrev tLt : TE → TE → TE := tCmp fun i j => decide (i < j)
abbrev tLe : TE → TE → TE := tCmp fun i j => decide (i ≤ j)
abbrev tGt : TE → TE → TE := tCmp fun i j => decide (j < i)
abbrev tGe : TE → TE → TE := tCmp fun i j => decide (j ≤ i)
abbrev tEqI : TE → TE → TE := tCmp fun i j => decide (i = j)
abbrev tNeI : TE → TE → TE := tCmp fun i j => !decide (i = j)
/-- a comparison of two ints, by its rule -/
theorem pc_int {op : CmpOp} {p : Int → Int → Bool} (ha : PE X a ta) (hb : PE X b tb)
    (rule : ∀ (i j : Int) (t u : Tok) (Q : Value → Shared → Prop) (s : Shared), Q (.bool (p i j)) s → wpAny (model X.prog X.w) X.A (compareOp op (.int i t) (.int j u)) Q X.xe s) : PC X op a b (tCmp p ta tb) := by
  intro pins s σ H Q I h
  refine bin ha hb I h fun v u s2 x y H2 I2 rx ry q => ?_
  obtain ⟨i, j, rfl, rfl, q⟩ := q
  obtain ⟨t, rfl⟩ := rx
  obtain ⟨t', rfl⟩ := ry
  exact rule i j t t' _ s2 ⟨.bl _, H2, I2, rfl, q⟩
theorem pc_lt (ha : PE X a ta) (hb : PE X b tb) : PC X .Lt a b (tLt ta tb) := pc_int ha hb fun _ _ _ _ _ _ h => lt_int h
theorem pc_le (ha : PE X a ta) (hb : PE X b tb) : PC X .LtE a b (tLe ta tb) := pc_int ha hb fun _ _ _ _ _ _ h => le_int h
theorem pc_gt (ha : PE X a ta) (hb : PE X b tb) : PC X .Gt a b (tGt ta tb) := pc_int ha hb fun _ _ _ _ _ _ h => gt_int h
theorem pc_ge (ha : PE X a ta) (hb : PE X b tb) : PC X .GtE a b (tGe ta tb) := pc_int ha hb fun _ _ _ _ _ _ h => ge_int h
theorem pc_eqI (ha : PE X a ta) (hb : PE X b tb) : PC X .Eq a b (tEqI ta tb) := pc_int ha hb fun _ _ _ _ _ _ h => eq_int (by rw [Bool.beq_eq_decide_eq]; exact h)
theorem pc_neI (ha : PE X a ta) (hb : PE X b tb) : PC X .NotEq a b (tNeI ta tb) := pc_int ha hb fun _ _ _ _ _ _ h => ne_int (by rw [bne, Bool.beq_eq_decide_eq]; exact h)
/-- is None -/
def tIsN (ta : TE) : TE := fun σ H Q => ta σ H fun x H1 => Q (.bl (decide (x = .non))) H1
def tNotN (ta : TE) : TE := fun σ H Q => ta σ H fun x H1 => Q (.bl (!decide (x = .non))) H1
theorem RelV.none_iff {x : V} {v : Value} (r : RelV x v) : (v == Value.none) = decide (x = .non) := by
  cases x with
  | non => cases r; rfl
  | bl _ => cases r; rfl
  | int _ => obtain ⟨t, rfl⟩ := r; rfl
  | str _ => obtain ⟨t, rfl⟩ := r; rfl
  | byt _ => obtain ⟨t, rfl⟩ := r; rfl
  | flt _ => obtain ⟨t, rfl⟩ := r; rfl
  | ref _ => cases r; rfl
  | ty _ => cases r; rfl
theorem pc_isN {j pos'} (ha : PE X a ta) : PC X .Is a (.Constant .none j pos') (tIsN ta) := by
  intro pins s σ H Q I h
  refine thn (ha pins s σ H _ I h) fun v s1 ⟨x, H1, I1, r1, q1⟩ => ?_
  exact Constant_none (is_none_gen ⟨.bl _, H1, I1, by rw [r1.none_iff]; rfl, q1⟩)
theorem pc_notN {j pos'} (ha : PE X a ta) : PC X .IsNot a (.Constant .none j pos') (tNotN ta) := by
  intro pins s σ H Q I h
  refine thn (ha pins s σ H _ I h) fun v s1 ⟨x, H1, I1, r1, q1⟩ => ?_
  exact Constant_none (isnot_none_gen ⟨.bl _, H1, I1, by rw [r1.none_iff]; rfl, q1⟩)
/-- a comparison as a value, as a test -/
def tB (t : TE) : TT := fun σ H Q => t σ H fun x H1 => ∃ c, x = .bl c ∧ Q c H1
theorem pe_cmp {op : CmpOp} {t : TE} (h : PC X op a b t) (h1 : behindInMarks op b = false := by first | exact nobehind _ (by decide) (by decide) | rfl) : PE X (.Compare a [op] [b] pos) t := fun pins s σ H Q I hw => wpAny_Compare1 (h pins s σ H Q I hw) h1
theorem pt_cmp {op : CmpOp} {t : TE} (h : PC X op a b t) (h1 : behindInMarks op b = false := by first | exact nobehind _ (by decide) (by decide) | rfl) : PT X (.Compare a [op] [b] pos) (tB t) := by
  intro pins s σ H Q I hw
  refine wpAny_isTrue_Compare1 (thn (h pins s σ H _ I hw) fun v s1 h1 => thn h1 fun u s2 h2 => thn h2 fun c s3 ⟨x, H1, I1, r1, q1⟩ => ?_) h1
  obtain ⟨d, rfl, q⟩ := q1
  cases r1
  exact wpAny_truthy_bool ⟨H1, I1, q⟩
/-- an expression whose value is a bool, as a test -/
theorem pt_val {e : Expr} {t : TE} (h : PE X e t) (he : ∀ whole, isTrue e X.env whole = (do let v ← whole; standAt e.pos; holding [v] (truthy v)) := by intro _; rfl) : PT X e (tB t) := by
  intro pins s σ H Q I hw
  refine isTrue_plain (thn (h pins s σ H _ I hw) fun v s1 ⟨x, H1, I1, r1, q1⟩ => ?_) (he _)
  obtain ⟨d, rfl, q⟩ := q1
  cases r1
  exact wpAny_truthy_bool ⟨H1, I1, q⟩

/-! ### and, or, not -/
variable {tA tB' : TT} {rest : List Expr}
def tAnd (t u : TT) : TT := fun σ H Q => t σ H fun c H1 => if c = true then u σ H1 Q else Q false H1
def tOr (t u : TT) : TT := fun σ H Q => t σ H fun c H1 => if c = true then Q true H1 else u σ H1 Q
def tNot (t : TT) : TT := fun σ H Q => t σ H fun c H1 => Q (!c) H1
theorem pw_and1 (ha : PT X a tA) : PW X (.BoolOp .And [a] pos) tA := by
  intro wh pins s σ H Q I h
  refine isTrue_and (thn (ha pins s σ H Q I h) fun c s1 e => ?_)
  cases c with
  | true => exact isTrue_and_nil e
  | false => exact e
theorem pw_or1 (ha : PT X a tA) : PW X (.BoolOp .Or [a] pos) tA := by
  intro wh pins s σ H Q I h
  refine isTrue_or (thn (ha pins s σ H Q I h) fun c s1 e => ?_)
  cases c with
  | false => exact isTrue_or_nil e
  | true => exact e
theorem pw_and (ha : PT X a tA) (hb : PW X (.BoolOp .And (b :: rest) pos) tB') : PW X (.BoolOp .And (a :: b :: rest) pos) (tAnd tA tB') := by
  intro wh pins s σ H Q I h
  refine isTrue_and (thn (ha pins s σ H _ I h) fun c s1 ⟨H1, I1, q1⟩ => ?_)
  cases c with
  | true => exact hb wh pins s1 σ H1 Q I1 q1
  | false => exact ⟨H1, I1, q1⟩
theorem pw_or (ha : PT X a tA) (hb : PW X (.BoolOp .Or (b :: rest) pos) tB') : PW X (.BoolOp .Or (a :: b :: rest) pos) (tOr tA tB') := by
  intro wh pins s σ H Q I h
  refine isTrue_or (thn (ha pins s σ H _ I h) fun c s1 ⟨H1, I1, q1⟩ => ?_)
  cases c with
  | true => exact ⟨H1, I1, q1⟩
  | false => exact hb wh pins s1 σ H1 Q I1 q1
theorem pt_not (ha : PT X a tA) : PT X (.UnaryOp .Not a pos) (tNot tA) := by
  intro pins s σ H Q I h
  exact isTrue_not (ha pins s σ H (fun c H1 => Q (!c) H1) I h)
/-- .. as values (bools) -/
def tAndV (ta tb : TE) : TE := fun σ H Q => ta σ H fun x H1 => ∃ c, x = .bl c ∧ if c = true then tb σ H1 Q else Q (.bl false) H1
def tOrV (ta tb : TE) : TE := fun σ H Q => ta σ H fun x H1 => ∃ c, x = .bl c ∧ if c = true then Q (.bl true) H1 else tb σ H1 Q
def tNotV (ta : TE) : TE := fun σ H Q => ta σ H fun x H1 => ∃ c, x = .bl c ∧ Q (.bl (!c)) H1
theorem pe_one {op} {t : TE} (h : PE X a t) : PE X (.BoolOp op [a] pos) t := fun pins s σ H Q I hw => BoolOp_one (h pins s σ H Q I hw)
theorem pe_and (ha : PE X a ta) (hb : PE X (.BoolOp .And (b :: rest) pos) tb) : PE X (.BoolOp .And (a :: b :: rest) pos) (tAndV ta tb) := by
  intro pins s σ H Q I h
  refine BoolOp_and (thn (ha pins s σ H _ I h) fun v s1 ⟨x, H1, I1, r1, q1⟩ => ?_)
  obtain ⟨c, rfl, q1⟩ := q1
  cases r1
  refine wpAny_truthy_bool ?_
  cases c with
  | true => exact hb pins s1 σ H1 Q I1 q1
  | false => exact ⟨.bl false, H1, I1, rfl, q1⟩
theorem pe_or (ha : PE X a ta) (hb : PE X (.BoolOp .Or (b :: rest) pos) tb) : PE X (.BoolOp .Or (a :: b :: rest) pos) (tOrV ta tb) := by
  intro pins s σ H Q I h
  refine BoolOp_or (thn (ha pins s σ H _ I h) fun v s1 ⟨x, H1, I1, r1, q1⟩ => ?_)
  obtain ⟨c, rfl, q1⟩ := q1
  cases r1
  refine wpAny_truthy_bool ?_
  cases c with
  | false => exact hb pins s1 σ H1 Q I1 q1
  | true => exact ⟨.bl true, H1, I1, rfl, q1⟩
theorem pe_not (ha : PE X a ta) : PE X (.UnaryOp .Not a pos) (tNotV ta) := by
  intro pins s σ H Q I h
  refine UnaryOp_ (thn (ha pins s σ H _ I h) fun v s1 ⟨x, H1, I1, r1, q1⟩ => ?_)
  obtain ⟨c, rfl, q1⟩ := q1
  cases r1
  exact not_of (wpAny_truthy_bool ⟨.bl (!c), H1, I1, rfl, q1⟩)
/-- a if t else b -/
def tIf (t : TT) (ta tb : TE) : TE := fun σ H Q => t σ H fun c H1 => if c = true then ta σ H1 Q else tb σ H1 Q
theorem pe_ifExp {c : Expr} (hc : PT X c tA) (ha : PE X a ta) (hb : PE X b tb) : PE X (.IfExp c a b pos) (tIf tA ta tb) := by
  intro pins s σ H Q I h
  refine wpAny_IfExp (thn (hc pins s σ H _ I h) fun d s1 ⟨H1, I1, q1⟩ => ?_)
  cases d with
  | true => exact ha pins s1 σ H1 Q I1 q1
  | false => exact hb pins s1 σ H1 Q I1 q1
end
end L2

namespace L2
open PySem PySem.Spec PyProof.Rows

/-! ### a list, a tuple that is read: tracked, frozen, or an object of the module -/
def SqL (K : PySem.W.Frag) (H : Hp) (a : Addr) (xs : List V) : Prop :=
  Rd H a (.lst xs) ∨
    ∃ (o : Obj) (its : Array Value) (n : Nat), K.lookup a = some o ∧ o.cls = .type "list" ∧ o.dict = none ∧ o.data = .seq its n ∧ its.size ≤ sizeLine ∧ Vals xs its.toList
def SqT (K : PySem.W.Frag) (H : Hp) (a : Addr) (xs : List V) : Prop :=
  Rd H a (.tup xs) ∨
    ∃ (o : Obj) (its : Array Value) (n : Nat), K.lookup a = some o ∧ o.cls = .type "tuple" ∧ o.data = .seq its n ∧ its.size ≤ sizeLine ∧ Vals xs its.toList
def absV : Value → Option V
  | .none => some .non
  | .bool b => some (.bl b)
  | .int i _ => some (.int i)
  | .str x _ => some (.str x)
  | .bytes b _ => some (.byt b)
  | .float b _ => some (.flt b)
  | .ref a => some (.ref a)
  | .type n => some (.ty n)
  | _ => none
theorem RelV.abs {x : V} {u : Value} (r : RelV x u) : absV u = some x := by
  cases x with
  | non => cases r; rfl
  | bl _ => cases r; rfl
  | int _ => obtain ⟨t, rfl⟩ := r; rfl
  | str _ => obtain ⟨t, rfl⟩ := r; rfl
  | byt _ => obtain ⟨t, rfl⟩ := r; rfl
  | flt _ => obtain ⟨t, rfl⟩ := r; rfl
  | ref _ => cases r; rfl
  | ty _ => cases r; rfl
theorem RelV.inj {x y : V} {u : Value} (r : RelV x u) (q : RelV y u) : x = y := Option.some.inj (r.abs.symm.trans q.abs)
theorem Vals.inj : ∀ {xs ys : List V} {us : List Value}, Vals xs us → Vals ys us → xs = ys
  | _, _, _, .nil, .nil => rfl
  | _, _, _, .cons r t, .cons r' t' => by rw [r.inj r', Vals.inj t t']
section
variable {X : Cx} {pins : List (Addr × Obj)} {σ : St} {H : Hp} {s : Shared} {a : Addr} {xs ys : List V}
theorem SqL.of {K : PySem.W.Frag} (h : H a = some (.lst xs)) : SqL K H a xs := .inl (.inl h)
theorem SqT.of {K : PySem.W.Frag} (h : H a = some (.tup xs)) : SqT K H a xs := .inl (.inl h)
theorem Inv.list (I : Inv X pins σ H s) (h : SqL X.K H a xs) : ∃ its : List Value, Vals xs its ∧ PlainL s.heap a its.toArray ∧ xs.length ≤ sizeLine := by
  rcases h with h | ⟨o, its, n, hk, hc, hd, hs, hz, r⟩
  · obtain ⟨z, its, n, r, e⟩ := h.ok I.hok
    exact ⟨its, r, ⟨_, n, e, rfl, rfl, rfl⟩, z⟩
  · refine ⟨its.toList, r, ⟨o, n, I.kIn a o hk, hc, hd, by simpa using hs⟩, ?_⟩
    have e := r.length
    simp only [Array.length_toList] at e
    omega
theorem Inv.tuple (I : Inv X pins σ H s) (h : SqT X.K H a xs) : ∃ its : List Value, Vals xs its ∧ IsTup s.heap a its.toArray ∧ xs.length ≤ sizeLine := by
  rcases h with h | ⟨o, its, n, hk, hc, hs, hz, r⟩
  · obtain ⟨z, its, r, p⟩ := h.ok I.hok
    exact ⟨its, r, p, z⟩
  · refine ⟨its.toList, r, ⟨o, I.kIn a o hk, hc, n, by simpa using hs⟩, ?_⟩
    have e := r.length
    simp only [Array.length_toList] at e
    omega
theorem Inv.list_inj (I : Inv X pins σ H s) (h : SqL X.K H a xs) (h' : SqL X.K H a ys) : xs = ys := by
  obtain ⟨its, r, ⟨o, n, e, _, _, d⟩, _⟩ := I.list h
  obtain ⟨its', r', ⟨o', n', e', _, _, d'⟩, _⟩ := I.list h'
  rw [e] at e'; cases e'
  rw [d] at d'
  injection d' with d1 _
  have : its = its' := by simpa using congrArg Array.toList d1
  subst this
  exact r.inj r'
theorem Inv.tuple_inj (I : Inv X pins σ H s) (h : SqT X.K H a xs) (h' : SqT X.K H a ys) : xs = ys := by
  obtain ⟨its, r, ⟨o, e, _, n, d⟩, _⟩ := I.tuple h
  obtain ⟨its', r', ⟨o', e', _, n', d'⟩, _⟩ := I.tuple h'
  rw [e] at e'; cases e'
  rw [d] at d'
  injection d' with d1 _
  have : its = its' := by simpa using congrArg Array.toList d1
  subst this
  exact r.inj r'
end

/-! ### another wish about exceptions -/
abbrev Cx.wish (X : Cx) (E : Value → Shared → Prop) : Cx := { X with xe := E }
/-- no exception leaves -/
abbrev Cx.nox (X : Cx) : Cx := X.wish fun _ _ => False
theorem Cx.Ok.wish {X : Cx} (ok : X.Ok) (E : Value → Shared → Prop) : (X.wish E).Ok :=
  ⟨ok.mod, ok.kind, ok.glob, ok.blt, ok.above, ok.inj, ok.has, ok.cab, ok.hd, ok.frames, ok.stk, ok.exf, ok.bs, ok.bsz, ok.noex, ok.exfs, ok.funs, ok.frf⟩
theorem Cx.Ok.unwish {X : Cx} {E : Value → Shared → Prop} (ok : (X.wish E).Ok) : X.Ok :=
  ⟨ok.mod, ok.kind, ok.glob, ok.blt, ok.above, ok.inj, ok.has, ok.cab, ok.hd, ok.frames, ok.stk, ok.exf, ok.bs, ok.bsz, ok.noex, ok.exfs, ok.funs, ok.frf⟩
section
variable {X : Cx} {pins : List (Addr × Obj)} {σ : St} {H : Hp} {s : Shared} {E : Value → Shared → Prop}
theorem Inv.wish (I : Inv X pins σ H s) (E : Value → Shared → Prop) : Inv (X.wish E) pins σ H s := ⟨I.ok.wish E, I.os, I.bare, I.base, I.loc, I.cell, I.free, I.freeC, I.pin, I.hok, I.len⟩
theorem Inv.unwish (I : Inv (X.wish E) pins σ H s) : Inv X pins σ H s := ⟨I.ok.unwish, I.os, I.bare, I.base, I.loc, I.cell, I.free, I.freeC, I.pin, I.hok, I.len⟩
theorem SP.unwish {D : Ends} {f : Flow} {s' : Shared} (h : SP (X.wish E) pins D f s') : SP X pins D f s' := by
  cases f with
  | next => obtain ⟨σ', H', I, q⟩ := h; exact ⟨σ', H', I.unwish, q⟩
  | brk => obtain ⟨σ', H', I, q⟩ := h; exact ⟨σ', H', I.unwish, q⟩
  | cont => obtain ⟨σ', H', I, q⟩ := h; exact ⟨σ', H', I.unwish, q⟩
  | ret u => obtain ⟨v, σ', H', I, r, q⟩ := h; exact ⟨v, σ', H', I.unwish, r, q⟩
theorem PE.nox {e : Expr} {t : TE} (h : PE X.nox e t) : PE X e t := fun pins s σ H Q I hw =>
  wpAny_mono (h pins s σ H Q (I.wish _) hw) (fun _ _ ⟨v, H', I', r, q⟩ => ⟨v, H', I'.unwish, r, q⟩) fun _ _ z => False.elim z
theorem PT.nox {e : Expr} {t : TT} (h : PT X.nox e t) : PT X e t := fun pins s σ H Q I hw =>
  wpAny_mono (h pins s σ H Q (I.wish _) hw) (fun _ _ ⟨H', I', q⟩ => ⟨H', I'.unwish, q⟩) fun _ _ z => False.elim z
theorem PSs.nox {st : List Stmt} {t : TS} (h : PSs X.nox st t) : PSs X st t := fun pins s σ H D I hw =>
  wpAny_mono (h pins s σ H D (I.wish _) hw) (fun _ _ q => q.unwish) fun _ _ z => False.elim z
end

/-! ### blocks and small statements -/
section
variable {X : Cx} {st : Stmt} {rest : List Stmt} {t u : TS} {e : Expr} {te : TE} {pos : Pos}
def tNext : TS := fun D σ H => D.nx σ H
def tSeq (t u : TS) : TS := fun D σ H => t { D with nx := u D } σ H
theorem pss_nil : PSs X [] tNext := fun _ _ σ H _ I h => wpAny_execs_nil ⟨σ, H, I, h⟩
theorem pss_cons (h1 : PS X st t) (h2 : PSs X rest u) : PSs X (st :: rest) (tSeq t u) := by
  intro pins s σ H D I h
  refine wpAny_execs_cons (thn (h1 pins s σ H { D with nx := u D } I h) fun f s1 q => ?_)
  cases f with
  | next =>
    obtain ⟨σ', H', I', q⟩ := q
    exact h2 pins s1 σ' H' D I' q
  | ret v => exact q
  | brk => exact q
  | cont => exact q
theorem pss_one (h1 : PS X st t) : PSs X [st] t := by
  intro pins s σ H D I h
  refine wpAny_execs_cons (thn (h1 pins s σ H D I h) fun f s1 q => ?_)
  cases f with
  | next => exact wpAny_execs_nil q
  | ret v => exact q
  | brk => exact q
  | cont => exact q
def tBreak : TS := fun D σ H => D.bk σ H
def tCont : TS := fun D σ H => D.ct σ H
theorem ps_pass : PS X (.Pass pos) tNext := fun _ _ σ H _ I h => wpAny_Pass ⟨σ, H, I, h⟩
theorem ps_break : PS X (.Break pos) tBreak := fun _ _ σ H _ I h => wpAny_Break ⟨σ, H, I, h⟩
theorem ps_continue : PS X (.Continue pos) tCont := fun _ _ σ H _ I h => wpAny_Continue ⟨σ, H, I, h⟩
/-- in a def's body nothing is shown -/
theorem Inv.quiet {pins : List (Addr × Obj)} {σ : St} {H : Hp} {s : Shared} (I : Inv X pins σ H s) : interactive X.env = false := by simp [interactive, I.ok.kind]
/-- a docstring -/
theorem ps_doc {x j pos pos'} : PS X (.Expr (.Constant (.str x) j pos) pos') tNext := fun _ s σ H _ I h => wpAny_Expr (Calls.Constant_str (show SP X _ _ .next { s with toks := s.toks + 1 } from ⟨σ, H, I.tok _, h⟩)) I.quiet
/-- an expression whose value is dropped -/
def tDrop (te : TE) : TS := fun D σ H => te σ H fun _ H1 => D.nx σ H1
theorem ps_expr (he : PE X e te) (hs : swapsWith e none pos.line X.env = pure false := by rfl) : PS X (.Expr e pos) (tDrop te) := by
  intro pins s σ H D I h
  exact wpAny_Expr_any (thn (he pins s σ H _ I h) fun v s1 ⟨x, H1, I1, r1, q1⟩ => ⟨σ, H1, I1, q1⟩) I.quiet hs
def tRet (te : TE) : TS := fun D σ H => te σ H D.rt
theorem ps_ret (he : PE X e te) : PS X (.Return (some e) pos) (tRet te) := by
  intro pins s σ H D I h
  exact wpAny_Return_some (thn (he pins s σ H _ I h) fun v s1 ⟨x, H1, I1, r1, q1⟩ => ⟨x, σ, H1, I1, r1, q1⟩)
def tRetN : TS := fun D _ H => D.rt .non H
theorem ps_retN : PS X (.Return none pos) tRetN := fun _ _ σ H _ I h => wpAny_Return_none ⟨.non, σ, H, I, rfl, h⟩
def tIfS (c : TT) (t u : TS) : TS := fun D σ H => c σ H fun b H1 => if b = true then t D σ H1 else u D σ H1
theorem ps_if {c : Expr} {a b : List Stmt} {tc : TT} (hc : PT X c tc) (ha : PSs X a t) (hb : PSs X b u) : PS X (.If c a b pos) (tIfS tc t u) := by
  intro pins s σ H D I h
  refine wpAny_If (thn (hc pins s σ H _ I h) fun d s1 ⟨H1, I1, q1⟩ => ?_)
  cases d with
  | true => exact ha pins s1 σ H1 D I1 q1
  | false => exact hb pins s1 σ H1 D I1 q1
/-- code that the proof never comes to -/
def tNever : TS := fun _ _ _ => False
theorem ps_never : PS X st tNever := fun _ _ _ _ _ _ h => h.elim
theorem pss_never {sts : List Stmt} : PSs X sts tNever := fun _ _ _ _ _ _ h => h.elim
end

/-! ### targets -/
abbrev TG := V → St → Hp → (St → Hp → Prop) → Prop
abbrev TGs := List V → St → Hp → (St → Hp → Prop) → Prop
def PG (X : Cx) (target : Expr) (t : TG) : Prop :=
  ∀ (pins : List (Addr × Obj)) (s : Shared) (σ : St) (H : Hp) (v : V) (u : Value) (Q : St → Hp → Prop), Inv X pins σ H s → RelV v u → t v σ H Q →
    wpAny (model X.prog X.w) X.A (assign target X.env u) (fun _ s' => ∃ σ' H', Inv X pins σ' H' s' ∧ Q σ' H') X.xe s
/-- several targets, one after another -/
def PGs (X : Cx) (ts : List Expr) (t : TGs) : Prop :=
  ∀ (pins : List (Addr × Obj)) (s : Shared) (σ : St) (H : Hp) (vs : List V) (us : List Value) (Q : St → Hp → Prop), Inv X pins σ H s → Vals vs us → t vs σ H Q →
    wpAny (model X.prog X.w) X.A (assignInOrder ((assignEach ts X.env).map (·.2)) us) (fun _ s' => ∃ σ' H', Inv X pins σ' H' s' ∧ Q σ' H') X.xe s
/-- o[i] = v, by values -/
abbrev TSet := V → V → V → Hp → (Hp → Prop) → Prop
def PSet (X : Cx) (t : TSet) : Prop :=
  ∀ (pins : List (Addr × Obj)) (s : Shared) (σ : St) (H : Hp) (o i v : V) (ov iv u : Value) (Q : Hp → Prop), Inv X pins σ H s → RelV o ov → RelV i iv → RelV v u → t o i v H Q →
    wpAny (model X.prog X.w) X.A (setItem ov iv u) (fun _ s' => ∃ H', Inv X pins σ H' s' ∧ Q H') X.xe s
/-- a op= b, by values -/
abbrev TIp := V → V → Hp → VK → Prop
def PIp (X : Cx) (op : Operator) (t : TIp) : Prop :=
  ∀ (pins : List (Addr × Obj)) (s : Shared) (σ : St) (H : Hp) (x y : V) (v u : Value) (Q : VK), Inv X pins σ H s → RelV x v → RelV y u → t x y H Q →
    wpAny (model X.prog X.w) X.A (inplaceOp op v u) (EP X pins σ Q) X.xe s
section
variable {X : Cx} {pos : Pos}
def gName (i : Nat) : TG := fun v σ H Q => Q (σ.set i (some v)) H
theorem pg_name {i : Nat} {x : Str} (hN : X.N.Nodup) (hi : X.N[i]? = some x) (hx : Loc X.env.scope x) (hf : X.fn x = true ∨ X.env.scope.names.lookup x = some .local := by first | exact .inl rfl | exact .inr rfl | assumption) : PG X (.Name x pos) (gName i) := by
  intro pins s σ H v u Q I r h
  exact wpAny_assign_Name (store_ok I hN hi hx r (fun s' I' => ⟨_, H, I', h⟩) hf)
def gNil : TGs := fun vs σ H Q => vs = [] ∧ Q σ H
def gCons (t : TG) (u : TGs) : TGs := fun vs σ H Q => ∃ v r, vs = v :: r ∧ t v σ H fun σ' H' => u r σ' H' Q
theorem pgs_nil : PGs X [] gNil := by
  intro pins s σ H vs us Q I r h
  obtain ⟨e, h⟩ := h
  subst e
  cases r
  exact assignInOrder_nil ⟨σ, H, I, h⟩
theorem pgs_cons {e : Expr} {es : List Expr} {t : TG} {u : TGs} (h1 : PG X e t) (h2 : PGs X es u)
    (hs : (assignEach (e :: es) X.env).map (·.2) = assign e X.env :: (assignEach es X.env).map (·.2) := by rfl) : PGs X (e :: es) (gCons t u) := by
  intro pins s σ H vs us Q I r h
  obtain ⟨v, vr, e1, h⟩ := h
  subst e1
  cases r with
  | cons r rr =>
    rw [hs]
    refine assignInOrder_cons (thn (h1 pins s σ H _ _ _ I r h) fun _ s1 ⟨σ1, H1, I1, q1⟩ => ?_)
    exact h2 pins s1 σ1 H1 _ _ Q I1 rr q1
/-- (a, b, ..) = a tuple of that length -/
def gTup (K : PySem.W.Frag) (n : Nat) (t : TGs) : TG := fun v σ H Q => ∃ a xs, v = .ref a ∧ SqT K H a xs ∧ xs.length = n ∧ t xs σ H Q
theorem pg_tup {es : List Expr} {k : Nat} {t : TGs} {n : Nat} (hc : X.calm = true) (h : PGs X es t)
    (hn : (assignEach es X.env).length = n := by rfl) (hst : (assignEach es X.env).findIdx? (·.1) = none := by rfl) : PG X (.Tuple es k pos) (gTup X.K n t) := by
  intro pins s σ H v u Q I r hw
  obtain ⟨a, xs, e1, hq, hl, hw⟩ := hw
  subst e1
  cases r
  obtain ⟨its, rv, ht, hz⟩ := I.tuple hq
  refine assign_Tuple_tuple (I.ok.hd hc) ht (by simp [hn, ← hl, rv.length]) hst fun h' hx => ?_
  have I1 : Inv X pins σ H { s with heap := h' } := I.kept (t' := s.toks) fun b o e => hx b o (Nat.ne_of_lt (Heap.lt_size e)) e
  exact h pins _ σ H xs _ Q I1 (by simpa using rv) hw
/-- o[i] = .. -/
def gSub (to ti : TE) (t : TSet) : TG := fun v σ H Q => to σ H fun o H1 => ti σ H1 fun i H2 => t o i v H2 fun H3 => Q σ H3
theorem pg_sub {o i : Expr} {to ti : TE} {t : TSet} (ho : PE X o to) (hi : PE X i ti) (hs : PSet X t)
    (ha : ∀ v, assign (.Subscript o i pos) X.env v = (do
      let ov ← holding [v] (eval o X.env)
      let iv ← holding [v, ov] (eval i X.env)
      standAt pos
      holding [v, ov, iv] (setItem ov iv v)
      release [v, ov, iv] []) := by intro _; rfl) : PG X (.Subscript o i pos) (gSub to ti t) := by
  intro pins s σ H v u Q I r h
  rw [ha]
  refine wpAny_bind (wpAny_holding (thn (ho pins s σ H _ I h) fun ov s1 ⟨x, H1, I1, r1, q1⟩ => ?_))
  refine wpAny_bind (wpAny_holding (thn (hi pins s1 σ H1 _ I1 q1) fun iv s2 ⟨y, H2, I2, r2, q2⟩ => ?_))
  refine wpAny_bind (wpAny_standAt (wpAny_bind (wpAny_holding (thn (hs pins s2 σ H2 x y v ov iv u _ I2 r1 r2 r q2) fun _ s3 ⟨H3, I3, q3⟩ => ?_))))
  exact wpAny_release ⟨σ, H3, I3, q3⟩
/-- target = value -/
def tAsg (te : TE) (g : TG) : TS := fun D σ H => te σ H fun x H1 => g x σ H1 D.nx
theorem ps_asg {tg e : Expr} {te : TE} {g : TG} (he : PE X e te) (hg : PG X tg g) (hs : swapsWithSole [tg] e pos.line X.env = pure false := by rfl) (hw : swappedStores [tg] e X.env = pure none := by rfl)
    (h1 : (assignEach [tg] X.env).map (·.2) = [assign tg X.env] := by rfl) : PS X (.Assign [tg] e pos) (tAsg te g) := by
  intro pins s σ H D I h
  refine wpAny_Assign_stores (thn (he pins s σ H _ I h) fun v s1 ⟨x, H1, I1, r1, q1⟩ => ?_) hs hw
  rw [h1]
  exact thn (hg pins s1 σ H1 x v _ I1 r1 q1) fun _ s2 q => q
/-- name = value -/
theorem ps_set {i : Nat} {x : Str} {e : Expr} {te : TE} {pos' : Pos} (hN : X.N.Nodup) (hi : X.N[i]? = some x) (hx : Loc X.env.scope x) (he : PE X e te) (hs : swapsWith e (some (.Name x pos')) pos.line X.env = pure false := by rfl) (hf : X.fn x = true ∨ X.env.scope.names.lookup x = some .local := by first | exact .inl rfl | exact .inr rfl | assumption) :
    PS X (.Assign [.Name x pos'] e pos) (tAsg te (gName i)) := by
  intro pins s σ H D I h
  refine wpAny_Assign_Name (thn (he pins s σ H _ I h) fun v s1 ⟨y, H1, I1, r1, q1⟩ => ?_) hs
  exact store_ok I1 hN hi hx r1 (fun s2 I2 => ⟨_, H1, I2, q1⟩) hf
/-- a, b = x, y with plain local names: stored from the right; the pair itself is not tracked (the opening rows as in PyProof/Rows/TupAssign.lean:23) -/
def tPar (i j : Nat) (ta : TA) : TS := fun D σ H => ta σ H fun vs H1 => ∃ v w, vs = [v, w] ∧ D.nx ((σ.set i (some v)).set j (some w)) H1
theorem ps_par {i j : Nat} {x y : Str} {a b : Expr} {ta : TA} {px py pt : Pos} {kt k2 pt2} (hc : X.calm = true) (hN : X.N.Nodup) (hi : X.N[i]? = some x) (hj : X.N[j]? = some y) (hij : i ≠ j)
    (hx : X.env.scope.names.lookup x = some .local) (hy : X.env.scope.names.lookup y = some .local) (ha : PA X [a, b] ta)
    (hw : swappedStores [.Tuple [.Name x px, .Name y py] kt pt] (.Tuple [a, b] k2 pt2) X.env = pure (some [x, y]))
    (hs : swapsWithSole [.Tuple [.Name x px, .Name y py] kt pt] (.Tuple [a, b] k2 pt2) pos.line X.env = pure false := by rfl) :
    PS X (.Assign [.Tuple [.Name x px, .Name y py] kt pt] (.Tuple [a, b] k2 pt2) pos) (tPar i j ta) := by
  intro pins s σ H D I h
  rw [exec_Assign_arm]
  refine wpAny_bind (wpAny_standAt ?_)
  rw [hs]
  refine wpAny_bind (wpAny_pure ?_)
  rw [if_neg (by decide)]
  refine wpAny_bind (Tuple_ (thn (ha _ pins s σ H _ I h) fun us s1 ⟨vs, H1, I1, r1, q1⟩ => ?_))
  obtain ⟨v, w, e1, q1⟩ := q1
  subst e1
  obtain ⟨u1, u2, rfl, rv, rw'⟩ : ∃ u1 u2, us = [u1, u2] ∧ RelV v u1 ∧ RelV w u2 := by
    cases r1 with
    | cons p q =>
      cases q with
      | cons p' q' =>
        cases q'
        exact ⟨_, _, rfl, p, p'⟩
  refine wpAny_newObj_type ?_ (by show 2 ≤ sizeLine; decide)
  have I2 : Inv X pins σ H1 { s1 with heap := s1.heap.push { cls := .type "tuple", data := .seq [u1, u2].toArray } } := I1.kept (t' := s1.toks) fun b o e => Heap.get?_push_of_some _ e
  rw [hw]
  refine wpAny_bind (wpAny_pure ?_)
  show wpAny (model X.prog X.w) X.A (do rule "assign.swapped-stores"; let items ← unpackItems (.ref s1.heap.objs.size) 2 none; assignInOrder [fun v => bindName X.env y v, fun v => bindName X.env x v] items.reverse; pure Flow.next) _ _ _
  refine wpAny_bind (wpAny_rule (wpAny_bind (unpackItems_tuple (items := #[u1, u2]) (I.ok.hd hc) (IsTup.new s1.heap _) fun h' hx' => ?_)))
  have I3 := I2.kept (h' := h') (t' := s1.toks) fun b o e => hx' b o (Nat.ne_of_lt (Heap.lt_size e)) e
  show wpAny _ _ (assignInOrder [fun v => bindName X.env y v, fun v => bindName X.env x v] [u2, u1] >>= fun _ => pure Flow.next) _ _ _
  refine wpAny_bind (assignInOrder_cons (wpAny_bindName (store_ok I3 hN hj (.inl hy) rw' (fun s2 I4 => ?_) (.inr hy))))
  refine assignInOrder_cons (wpAny_bindName (store_ok I4 hN hi (.inl hx) rv (fun s3 I5 => assignInOrder_nil (wpAny_pure ?_)) (.inr hx)))
  rw [List.set_comm _ _ (Ne.symm hij)] at I5
  exact ⟨_, H1, I5, q1⟩
/-- name op= e -/
def tAug (i : Nat) (te : TE) (ti : TIp) : TS := fun D σ H => ∃ x, σ[i]? = some (some x) ∧ te σ H fun y H1 => ti x y H1 fun z H2 => D.nx (σ.set i (some z)) H2
theorem ps_aug {i : Nat} {x : Str} {e : Expr} {te : TE} {op : Operator} {ti : TIp} {pos' : Pos} (hN : X.N.Nodup) (hi : X.N[i]? = some x) (hx : Loc X.env.scope x) (he : PE X e te) (ho : PIp X op ti) (hf : X.fn x = true ∨ X.env.scope.names.lookup x = some .local := by first | exact .inl rfl | exact .inr rfl | assumption) :
    PS X (.AugAssign (.Name x pos') op e pos) (tAug i te ti) := by
  intro pins s σ H D I h
  obtain ⟨v, e1, h⟩ := h
  obtain ⟨m, hn, hl⟩ := I.loc
  have vis : Vis X.env.scope x := by rcases hx with k | k; exact .inl k; exact .inr (.inl k)
  obtain ⟨u, r, l⟩ := hl i x v hi e1 vis
  refine wpAny_AugAssign_Name ?_
  have go : wpAny (model X.prog X.w) X.A (eval e X.env) (fun w s₂ => wpAny (model X.prog X.w) X.A (inplaceOp op u w) (fun r s₃ => wpAny (model X.prog X.w) X.A (storeName X.env x r) (fun _ => SP X pins D .next) X.xe s₃) X.xe s₂) X.xe s := by
    refine thn (he pins s σ H _ I h) fun w s1 ⟨y, H1, I1, r1, q1⟩ => ?_
    refine thn (ho pins s1 σ H1 v y u w _ I1 r r1 q1) fun z s2 ⟨zv, H2, I2, r2, q2⟩ => ?_
    exact store_ok I2 hN hi hx r2 (fun s3 I3 => ⟨_, H2, I3, q2⟩) hf
  rcases l with ⟨hk, hm⟩ | ⟨hk, c, hc, hcell⟩
  · exact wpAny_loadName_local I.ok.kind hk hn hm go
  · rcases hk with hk | hk
    · exact wpAny_loadName_cell I.ok.kind hk hc hcell go
    · rcases hx with k | k
      · have : X.env.scope.names.lookup x = some .free := hk
        rw [k] at this; cases this
      · have : X.env.scope.names.lookup x = some .free := hk
        rw [k] at this; cases this
/-- o[i] op= e -/
def tAugS (to ti te : TE) (tget : V → V → Hp → VK → Prop) (tip : TIp) (tset : TSet) : TS := fun D σ H => to σ H fun o H1 => ti σ H1 fun i H2 => tget o i H2 fun x H3 => te σ H3 fun y H4 => tip x y H4 fun z H5 => tset o i z H5 fun H6 => D.nx σ H6
/-- o[i], by values -/
def PGet (X : Cx) (t : V → V → Hp → VK → Prop) : Prop :=
  ∀ (pins : List (Addr × Obj)) (s : Shared) (σ : St) (H : Hp) (o i : V) (ov iv : Value) (Q : VK), Inv X pins σ H s → RelV o ov → RelV i iv → t o i H Q →
    wpAny (model X.prog X.w) X.A (getItem ov iv) (EP X pins σ Q) X.xe s
theorem ps_augS {o i e : Expr} {to ti te : TE} {tget : V → V → Hp → VK → Prop} {tip : TIp} {tset : TSet} {op : Operator} {tpos : Pos} (ho : PE X o to) (hi : PE X i ti) (hg : PGet X tget) (he : PE X e te) (hp : PIp X op tip) (hs : PSet X tset)
    (ha : ∀ ov iv new, augStore i ov iv new = (do holding [new, ov, iv] (setItem ov iv new); release [new, ov, iv] []; pure .next) := by intros; rfl) : PS X (.AugAssign (.Subscript o i tpos) op e pos) (tAugS to ti te tget tip tset) := by
  intro pins s σ H D I h
  refine wpAny_AugAssign_SubscriptAny (thn (ho pins s σ H _ I h) fun ov s1 ⟨x1, H1, I1, r1, q1⟩ => ?_) ha
  refine thn (hi pins s1 σ H1 _ I1 q1) fun iv s2 ⟨x2, H2, I2, r2, q2⟩ => ?_
  refine thn (hg pins s2 σ H2 x1 x2 ov iv _ I2 r1 r2 q2) fun old s3 ⟨x3, H3, I3, r3, q3⟩ => ?_
  refine thn (he pins s3 σ H3 _ I3 q3) fun v s4 ⟨x4, H4, I4, r4, q4⟩ => ?_
  refine thn (hp pins s4 σ H4 x3 x4 old v _ I4 r3 r4 q4) fun new s5 ⟨x5, H5, I5, r5, q5⟩ => ?_
  exact thn (hs pins s5 σ H5 x1 x2 x5 ov iv new _ I5 r1 r2 r5 q5) fun _ s6 ⟨H6, I6, q6⟩ => ⟨σ, H6, I6, q6⟩
/-- ints -/
def ipI (f : Int → Int → Int) : TIp := fun x y H Q => ∃ i j, x = .int i ∧ y = .int j ∧ Q (.int (f i j)) H
theorem ip_add : PIp X .Add (ipI fun i j => i + j) := by
  intro pins s σ H x y v u Q I r1 r2 h
  obtain ⟨i, j, e1, e2, q⟩ := h
  subst e1; subst e2
  obtain ⟨t, rfl⟩ := r1
  obtain ⟨t', rfl⟩ := r2
  exact iadd_int ⟨.int _, H, I.tok _, ⟨_, rfl⟩, q⟩
theorem ip_sub : PIp X .Sub (ipI fun i j => i - j) := by
  intro pins s σ H x y v u Q I r1 r2 h
  obtain ⟨i, j, e1, e2, q⟩ := h
  subst e1; subst e2
  obtain ⟨t, rfl⟩ := r1
  obtain ⟨t', rfl⟩ := r2
  exact isub_int ⟨.int _, H, I.tok _, ⟨_, rfl⟩, q⟩
end

/-! ### while -/
section
variable {X : Cx} {pos : Pos}
/-- the invariant W with its measure -/
def tWhile (c : TT) (tb : TS) : TS := fun D σ H => ∃ W : Nat → St → Hp → Prop, (∃ m, W m σ H) ∧ ∀ m σ H, W m σ H →
  c σ H fun b H1 => if b = true then ∃ N : St → Hp → Prop, (∀ σ' H', N σ' H' → ∃ m', m' < m ∧ W m' σ' H') ∧ tb { D with nx := N, ct := N, bk := D.nx } σ H1 else D.nx σ H1
theorem ps_while {c : Expr} {body : List Stmt} {tc : TT} {tb : TS} (hp : PassesOwn (model X.prog X.w) X.A X.env X.xe) (hc : PT X c tc) (hb : PSs X body tb) : PS X (.While c body [] pos) (tWhile tc tb) := by
  intro pins s σ H D I h
  obtain ⟨W, ⟨m0, w0⟩, turn⟩ := h
  refine wpAny_While (codeAny_whileLoop (fun n s' => ∃ σ' H', Inv X pins σ' H' s' ∧ W n σ' H') ?_ m0 ⟨σ, H, I, w0⟩)
  rintro n s1 ⟨σ1, H1, I1, w1⟩
  refine wpAny_passesOwn hp (thn (hc pins s1 σ1 H1 _ I1 (turn n σ1 H1 w1)) fun b s2 ⟨H2, I2, q2⟩ => ?_)
  cases b with
  | true =>
    obtain ⟨N, hN, q2⟩ := q2
    rw [if_pos rfl]
    refine wpAny_passesOwn hp (thn (hb pins s2 σ1 H2 _ I2 q2) fun f s3 q3 => ?_)
    cases f with
    | next =>
      obtain ⟨σ3, H3, I3, n3⟩ := q3
      obtain ⟨m', hm, w3⟩ := hN σ3 H3 n3
      exact ⟨m', hm, σ3, H3, I3, w3⟩
    | cont =>
      obtain ⟨σ3, H3, I3, n3⟩ := q3
      obtain ⟨m', hm, w3⟩ := hN σ3 H3 n3
      exact ⟨m', hm, σ3, H3, I3, w3⟩
    | brk => exact q3
    | ret v => exact q3
  | false =>
    rw [if_neg Bool.false_ne_true]
    exact wpAny_execs_nil ⟨σ1, H2, I2, q2⟩
end

/-! ### what a loop or a comprehension walks -/
/-- at turn i: it yields x (the heap may grow), or it stops -/
structure It where
  go : Nat → Hp → Prop
  yld : Nat → Hp → V → Hp → Prop
  stop : Nat → Hp → Prop
/-- the iterator's own objects may turn: they are not the frame's, not pinned, younger than the entry (or a comprehension's own) -/
def FpOk (X : Cx) (pins : List (Addr × Obj)) (H : Hp) (b : Addr) : Prop :=
  H b = none ∧ b ≠ X.env.locals ∧ b ∉ X.fs ∧ (b ∈ X.ex ∨ X.s₀.heap.objs.size ≤ b) ∧ (∀ x c, X.env.cells.lookup x = some c → c ≠ b) ∧ ∀ p ∈ X.pn ++ pins, p.1 ≠ b
theorem Inv.fpOk {X : Cx} {pins : List (Addr × Obj)} {σ : St} {H H' : Hp} {s : Shared} {b : Addr} (I : Inv X pins σ H s) (hb : s.heap.objs.size ≤ b) (hn : H' b = none) : FpOk X pins H' b := by
  refine ⟨hn, Nat.ne_of_gt (Nat.lt_of_lt_of_le I.lt hb), I.nofs hb, .inr (Nat.le_trans I.sz hb), fun x c e z => ?_, fun p hp z => ?_⟩
  · obtain ⟨v, q⟩ := I.cell x c e
    exact absurd (Nat.lt_of_lt_of_le q.lt (by rw [z]; exact hb)) (Nat.lt_irrefl _)
  · exact absurd (Nat.lt_of_lt_of_le (Heap.lt_size (I.pin p hp).1) (by rw [z]; exact hb)) (Nat.lt_irrefl _)
structure Turn (P : Program) (w : World) (K : PySem.W.Frag) (tg : Expr) (J : It) (fp : List Addr) (it : Addr) (tn : Nat → Heap → Prop) : Prop where
  mem : it ∈ fp
  obj : ∀ i h, tn i h → ∀ b ∈ fp, ∃ o, h.get? b = some o ∧ ∀ v, o.data ≠ .cell v
  keep : ∀ i h h', tn i h → (∀ b ∈ fp, ∀ o, h.get? b = some o → h'.get? b = some o) → tn i h'
  item : ∀ (X : Cx), X.prog = P → X.w = w → X.K = K → X.calm = true → ∀ (i : Nat) (pins : List (Addr × Obj)) (s : Shared) (σ : St) (H : Hp) (E : Value → Shared → Prop), Inv X pins σ H s → (∀ b ∈ fp, FpOk X pins H b) → tn i s.heap → J.go i H →
    wpAny (model P w) X.A (pyNext (.ref it)) (fun r s1 => ∃ u, r = some u ∧
      wpAny (model P w) X.A (letOwnedTupleGo tg (.ref it) u) (fun _ s2 => ∃ x H', Inv X pins σ H' s2 ∧ RelV x u ∧ J.yld i H x H' ∧ tn (i + 1) s2.heap ∧ ∀ b ∈ fp, H' b = none) E s1) E s
  done : ∀ (X : Cx), X.prog = P → X.w = w → X.K = K → X.calm = true → ∀ (i : Nat) (pins : List (Addr × Obj)) (s : Shared) (σ : St) (H : Hp) (E : Value → Shared → Prop), Inv X pins σ H s → (∀ b ∈ fp, FpOk X pins H b) → tn i s.heap → J.stop i H →
    wpAny (model P w) X.A (pyNext (.ref it)) (fun r s1 => r = none ∧ Inv X pins σ H s1) E s
  self : ∀ (A : Around) (i : Nat) (s : Shared) (Q : Value → Shared → Prop) (E : Value → Shared → Prop), tn i s.heap → Q (.ref it) s → wpAny (model P w) A (pyIter (.ref it)) Q E s
abbrev TI := St → Hp → (It → Hp → Prop) → Prop
/-- an iterator has come -/
def PIE (X : Cx) (pins : List (Addr × Obj)) (σ : St) (tg : Expr) (R : It → Hp → Prop) (itv : Value) (s2 : Shared) : Prop :=
  ∃ (it : Addr) (fp : List Addr) (tn : Nat → Heap → Prop) (J : It) (H' : Hp), itv = .ref it ∧ Inv X pins σ H' s2 ∧ Turn X.prog X.w X.K tg J fp it tn ∧ tn 0 s2.heap ∧ (∀ b ∈ fp, FpOk X pins H' b) ∧ R J H'
def PI (X : Cx) (tg iter : Expr) (wi : TI) : Prop :=
  ∀ (pins : List (Addr × Obj)) (s : Shared) (σ : St) (H : Hp) (R : It → Hp → Prop), Inv X pins σ H s → wi σ H R →
    wpAny (model X.prog X.w) X.A (eval iter X.env) (fun v s1 => wpAny (model X.prog X.w) X.A (pyIter v) (PIE X pins σ tg R) X.xe s1) X.xe s

/-- the step ahead of the store is nothing for an iterator that keeps no tuple -/
theorem go_of {M : Model} {A : Around} {E : Value → Shared → Prop} {s : Shared} {tg : Expr} {it : Addr} {u : Value} {o : Obj} {n : String} {vs : Array Value} {Q : Unit → Shared → Prop} (ho : s.heap.get? it = some o) (hc : o.cls = .type n) (hd : o.data = .fields vs)
    (hn : ["enumerate", "zip", "dict_itemiterator", "dict_reverseitemiterator", "odict_iterator", "itertools.zip_longest", "itertools.pairwise"].contains n = false) (hQ : Q () s) : wpAny M A (letOwnedTupleGo tg (.ref it) u) Q E s := by
  unfold letOwnedTupleGo
  cases tg <;> first
    | exact wpAny_pure hQ
    | (cases u <;> first
        | exact wpAny_pure hQ
        | (refine wpAny_bind (wpAny_load ho ?_)
           rw [hc, hd]
           show wpAny M A (if (["enumerate", "zip", "dict_itemiterator", "dict_reverseitemiterator", "odict_iterator", "itertools.zip_longest", "itertools.pairwise"].contains n && vs[0]? == some (rawInt _)) = true then _ else _) Q E s
           rw [if_neg (by intro h; rw [hn, Bool.false_and] at h; cases h)]
           exact wpAny_pure hQ))

/-- the list at a, as it stands at each turn (a loop may append to it) -/
def Itl (K : PySem.W.Frag) (a : Addr) : It :=
  ⟨fun i H => ∃ xs x, SqL K H a xs ∧ xs[i]? = some x, fun i H x H' => H' = H ∧ ∀ xs, SqL K H a xs → xs[i]? = some x, fun i H => ∃ xs, SqL K H a xs ∧ xs.length ≤ i⟩
def Itt (K : PySem.W.Frag) (a : Addr) : It :=
  ⟨fun i H => ∃ xs x, SqT K H a xs ∧ xs[i]? = some x, fun i H x H' => H' = H ∧ ∀ xs, SqT K H a xs → xs[i]? = some x, fun i H => ∃ xs, SqT K H a xs ∧ xs.length ≤ i⟩
/-- lo, lo + 1, .. (n of them) -/
def Itr (lo : Int) (n : Nat) : It := ⟨fun i _ => i < n, fun i H x H' => H' = H ∧ x = .int (lo + i), fun i _ => n ≤ i⟩
theorem turn_list {P : Program} {w : World} {K : PySem.W.Frag} {tg : Expr} (a it : Addr) : Turn P w K tg (Itl K a) [it] it (fun i h => h.IsListIter it a i) where
  mem := by simp
  obj := fun i h st b hb => by
    have e : b = it := by simpa using hb
    subst e
    obtain ⟨o, e, c, d⟩ := st
    exact ⟨o, e, fun v z => by rw [d] at z; cases z⟩
  keep := fun i h h' st k => st.at fun o e => k it (by simp) o e
  item := by
    intro X hP hw hK hc i pins s σ H E I hf st hg
    subst hP hw hK
    obtain ⟨xs, x, hq, hx⟩ := hg
    obtain ⟨its, rv, p, hz⟩ := I.list hq
    obtain ⟨u, hu, ru⟩ := rv.get hx
    obtain ⟨f0, f1, f2, f3, f4, f5⟩ := hf it (by simp)
    refine wpAny_pyNext_list_item st p.isList (x := u) (by simpa using hu) fun h' st' sb => ?_
    have I1 : Inv X pins σ H { s with heap := h' } := I.turned (t' := s.toks) (fun b o hb e => (sb.2 b hb).trans e) f0 f1 f3 f4 f5
    obtain ⟨o, e, c, d⟩ := id st'
    exact ⟨u, rfl, go_of (s := { s with heap := h' }) e c d (by decide) ⟨x, H, I1, ru, ⟨rfl, fun ys hy => by rw [I.list_inj hy hq]; exact hx⟩, st', fun b hb => (hf b hb).1⟩⟩
  done := by
    intro X hP hw hK hc i pins s σ H E I hf st hg
    subst hP hw hK
    obtain ⟨xs, hq, hx⟩ := hg
    obtain ⟨its, rv, p, hz⟩ := I.list hq
    obtain ⟨f0, f1, f2, f3, f4, f5⟩ := hf it (by simp)
    have hl := rv.length
    exact wpAny_pyNext_list_end (I.ok.hd hc) st p.isList (by simp; omega) fun h' eb => ⟨rfl, I.turned (t' := s.toks) (fun b o hb e => eb b o hb e) f0 f1 f3 f4 f5⟩
  self := fun _ _ _ _ _ st h => wpAny_pyIter_listiter st h
theorem turn_tuple {P : Program} {w : World} {K : PySem.W.Frag} {tg : Expr} (a it : Addr) : Turn P w K tg (Itt K a) [it] it (fun i h => h.IsTupleIter it a i) where
  mem := by simp
  obj := fun i h st b hb => by
    have e : b = it := by simpa using hb
    subst e
    obtain ⟨o, e, c, d⟩ := st
    exact ⟨o, e, fun v z => by rw [d] at z; cases z⟩
  keep := fun i h h' st k => st.at fun o e => k it (by simp) o e
  item := by
    intro X hP hw hK hc i pins s σ H E I hf st hg
    subst hP hw hK
    obtain ⟨xs, x, hq, hx⟩ := hg
    obtain ⟨its, rv, p, hz⟩ := I.tuple hq
    obtain ⟨u, hu, ru⟩ := rv.get hx
    obtain ⟨f0, f1, f2, f3, f4, f5⟩ := hf it (by simp)
    refine wpAny_pyNext_tuple_item st (show s.heap.IsTuple a its.toArray from p) (x := u) (by simpa using hu) fun h' st' sb => ?_
    have I1 : Inv X pins σ H { s with heap := h' } := I.turned (t' := s.toks) (fun b o hb e => (sb.2 b hb).trans e) f0 f1 f3 f4 f5
    obtain ⟨o, e, c, d⟩ := id st'
    exact ⟨u, rfl, go_of (s := { s with heap := h' }) e c d (by decide) ⟨x, H, I1, ru, ⟨rfl, fun ys hy => by rw [I.tuple_inj hy hq]; exact hx⟩, st', fun b hb => (hf b hb).1⟩⟩
  done := by
    intro X hP hw hK hc i pins s σ H E I hf st hg
    subst hP hw hK
    obtain ⟨xs, hq, hx⟩ := hg
    obtain ⟨its, rv, p, hz⟩ := I.tuple hq
    obtain ⟨f0, f1, f2, f3, f4, f5⟩ := hf it (by simp)
    have hl := rv.length
    exact wpAny_pyNext_tuple_end (I.ok.hd hc) st (show s.heap.IsTuple a its.toArray from p) (by simp; omega) fun h' eb => ⟨rfl, I.turned (t' := s.toks) (fun b o hb e => eb b o hb e) f0 f1 f3 f4 f5⟩
  self := fun _ _ _ _ _ st h => wpAny_pyIter_tupleiter st h
theorem turn_range {P : Program} {w : World} {K : PySem.W.Frag} {tg : Expr} (it : Addr) (lo : Int) (n : Nat) : Turn P w K tg (Itr lo n) [it] it (fun i h => IsRangeIter h it (lo + (i : Nat) * 1) ((n : Int) - (i : Nat)) 1) where
  mem := by simp
  obj := fun i h st b hb => by
    have e : b = it := by simpa using hb
    subst e
    exact ⟨_, st, fun v z => by
      have z' : Data.fields _ = Data.cell v := z
      cases z'⟩
  keep := fun i h h' st k => k it (by simp) _ st
  item := by
    intro X hP hw hK hc i pins s σ H E I hf st hg
    subst hP hw hK
    obtain ⟨f0, f1, f2, f3, f4, f5⟩ := hf it (by simp)
    have W := Walks.range (prog := X.prog) (w := X.w) (I.ok.hd hc) it lo 1 n
    refine W.item i s _ _ hg st fun v h' tk hv st' kk => ?_
    obtain ⟨t, rfl⟩ := hv
    have I1 : Inv X pins σ H { s with heap := h', toks := tk } := I.turned (fun b o hb e => kk b o (by simpa using hb) e) f0 f1 f3 f4 f5
    refine ⟨_, rfl, go_of (s := { s with heap := h', toks := tk }) (n := "range_iterator") st' rfl rfl (by decide) ⟨.int (lo + i), H, I1, ⟨t, ?_⟩, ⟨rfl, rfl⟩, st', fun b hb => (hf b hb).1⟩⟩
    rw [Int.mul_one]
  done := by
    intro X hP hw hK hc i pins s σ H E I hf st hg
    subst hP hw hK
    obtain ⟨f0, f1, f2, f3, f4, f5⟩ := hf it (by simp)
    exact wpAny_pyNext_range_end (I.ok.hd hc) st (by have : n ≤ i := hg; omega) fun h' eb => ⟨rfl, I.turned (t' := s.toks) (fun b o hb e => eb b o hb e) f0 f1 f3 f4 f5⟩
  self := fun _ _ _ _ _ st h => wpAny_pyIter_rangeiter st h
end L2

namespace L2
open PySem PySem.Spec PyProof.Rows
section
variable {X : Cx} {tg : Expr}
def iList (K : PySem.W.Frag) (tl : TE) : TI := fun σ H R => tl σ H fun x H1 => ∃ a, x = .ref a ∧ (∃ xs, SqL K H1 a xs) ∧ R (Itl K a) H1
def iTup (K : PySem.W.Frag) (tl : TE) : TI := fun σ H R => tl σ H fun x H1 => ∃ a, x = .ref a ∧ (∃ xs, SqT K H1 a xs) ∧ R (Itt K a) H1
theorem pi_list {l : Expr} {tl : TE} (hl : PE X l tl) : PI X tg l (iList X.K tl) := by
  intro pins s σ H R I h
  refine thn (hl pins s σ H _ I h) fun v s1 ⟨x, H1, I1, r1, q1⟩ => ?_
  obtain ⟨a, e, ⟨xs, hq⟩, q⟩ := q1
  subst e
  cases r1
  obtain ⟨its, rv, p, hz⟩ := I1.list hq
  refine wpAny_pyIter_list p.isList ?_
  refine ⟨s1.heap.objs.size, [s1.heap.objs.size], _, _, H1, rfl, I1.kept (t' := s1.toks) fun b o e => Heap.get?_push_of_some _ e, turn_list a _, ⟨_, Heap.get?_push_size _ rfl, rfl, rfl⟩, fun b hb => ?_, q⟩
  have e : b = s1.heap.objs.size := by simpa using hb
  subst e
  exact I1.fpOk (Nat.le_refl _) (I1.hok.fresh (Nat.le_refl _))
theorem pi_tup {l : Expr} {tl : TE} (hl : PE X l tl) : PI X tg l (iTup X.K tl) := by
  intro pins s σ H R I h
  refine thn (hl pins s σ H _ I h) fun v s1 ⟨x, H1, I1, r1, q1⟩ => ?_
  obtain ⟨a, e, ⟨xs, hq⟩, q⟩ := q1
  subst e
  cases r1
  obtain ⟨its, rv, p, hz⟩ := I1.tuple hq
  refine wpAny_pyIter_tuple (show s1.heap.IsTuple a its.toArray from p) ?_
  refine ⟨s1.heap.objs.size, [s1.heap.objs.size], _, _, H1, rfl, I1.kept (t' := s1.toks) fun b o e => Heap.get?_push_of_some _ e, turn_tuple a _, ⟨_, Heap.get?_push_size _ rfl, rfl, rfl⟩, fun b hb => ?_, q⟩
  have e : b = s1.heap.objs.size := by simpa using hb
  subst e
  exact I1.fpOk (Nat.le_refl _) (I1.hok.fresh (Nat.le_refl _))
/-- a range object just made, walked -/
theorem range_it {pins : List (Addr × Obj)} {σ : St} {H : Hp} {s : Shared} {R : It → Hp → Prop} {E : Value → Shared → Prop} {lo hi : Int} {t u v : Tok} {tk : Nat} (I : Inv X pins σ H s) (h1 : -(2 ^ 62) ≤ lo) (h2 : lo < 2 ^ 62) (h3 : -(2 ^ 62) ≤ hi) (h4 : hi < 2 ^ 62)
    (q : R (Itr lo (hi - lo).toNat) H) : wpAny (model X.prog X.w) X.A (pyIter (.ref s.heap.objs.size)) (PIE X pins σ tg R) E { s with heap := s.heap.push { cls := .type "range", data := .fields #[.int lo t, .int hi u, .int 1 v] }, toks := tk } := by
  refine wpAny_pyIter_range (IsRange.new ..) (small_one h1 h2 h3 h4) ?_
  have I1 : Inv X pins σ H { s with heap := s.heap.push { cls := .type "range", data := .fields #[.int lo t, .int hi u, .int 1 v] }, toks := tk } := I.kept fun b o e => Heap.get?_push_of_some _ e
  refine ⟨(s.heap.push { cls := .type "range", data := .fields #[.int lo t, .int hi u, .int 1 v] }).objs.size, [(s.heap.push { cls := .type "range", data := .fields #[.int lo t, .int hi u, .int 1 v] }).objs.size], _, _, H, rfl,
    I1.kept (t' := tk) fun b o e => Heap.get?_push_of_some _ e, turn_range _ lo (hi - lo).toNat, ?_, fun b hb => ?_, q⟩
  · have e1 : lo + ((0 : Nat) : Int) * 1 = lo := by simp
    have e2 : (((hi - lo).toNat : Nat) : Int) - ((0 : Nat) : Int) = Builtin.Range.rangeSize lo hi 1 := by rw [rangeSize_one]; split <;> omega
    show IsRangeIter _ _ (lo + ((0 : Nat) : Int) * 1) ((((hi - lo).toNat : Nat) : Int) - ((0 : Nat) : Int)) 1
    rw [e1, e2]
    exact Heap.get?_push_size _ rfl
  · have e : b = (s.heap.push { cls := .type "range", data := .fields #[.int lo t, .int hi u, .int 1 v] }).objs.size := by simpa using hb
    subst e
    exact I1.fpOk (Nat.le_refl _) (I1.hok.fresh (Nat.le_refl _))
def iRng1 (ta : TA) : TI := fun σ H R => ta σ H fun vs H1 => ∃ j : Int, vs = [.int j] ∧ -(2 ^ 62) ≤ j ∧ j < 2 ^ 62 ∧ R (Itr 0 j.toNat) H1
def iRng2 (ta : TA) : TI := fun σ H R => ta σ H fun vs H1 => ∃ i j : Int, vs = [.int i, .int j] ∧ (-(2 ^ 62) ≤ i ∧ i < 2 ^ 62 ∧ -(2 ^ 62) ≤ j ∧ j < 2 ^ 62) ∧ R (Itr i (j - i).toNat) H1
theorem pi_range1 {a : Expr} {ta : TA} {p pos : Pos} (hg : Gl X "range") (hm : X.mg "range" = none) (ha : PA X [a] ta) (hs : starEach [a] X.env = [(false, eval a X.env)] := by rfl) : PI X tg (.Call (.Name "range" p) [a] [] pos) (iRng1 ta) := by
  intro pins s σ H R I h
  refine Call_ (ld_blt I hg hm boot_range (PyProof.Rows.callWith_type1 (thn (ha pos pins s σ H _ I h) fun us s1 ⟨vs, H1, I1, r1, q1⟩ => ?_) hs rfl))
  obtain ⟨j, e, q1, q2, q⟩ := q1
  subst e
  cases r1 with
  | cons r rr =>
    cases rr
    obtain ⟨t, rfl⟩ := r
    exact call_range_1 (range_it I1 (by omega) (by omega) q1 q2 (by simpa using q))
theorem pi_range2 {a b : Expr} {ta : TA} {p pos : Pos} (hg : Gl X "range") (hm : X.mg "range" = none) (ha : PA X [a, b] ta) (hs : starEach [a, b] X.env = [(false, eval a X.env), (false, eval b X.env)] := by rfl) (hs2 : starEach [b] X.env = [(false, eval b X.env)] := by rfl) :
    PI X tg (.Call (.Name "range" p) [a, b] [] pos) (iRng2 ta) := by
  intro pins s σ H R I h
  refine Call_ (ld_blt I hg hm boot_range (PyProof.Rows.callWith_type1 (thn (ha pos pins s σ H _ I h) fun us s1 ⟨vs, H1, I1, r1, q1⟩ => ?_) (by rw [hs, hs2]) (by rw [hs2]; rfl)))
  obtain ⟨i, j, e, ⟨q1, q2, q3, q4⟩, q⟩ := q1
  subst e
  cases r1 with
  | cons r rr =>
    cases rr with
    | cons r' rr =>
      cases rr
      obtain ⟨t, rfl⟩ := r
      obtain ⟨t', rfl⟩ := r'
      exact call_range_2 (range_it I1 q1 q2 q3 q4 q)

/-! ### for -/
/-- W: the invariant by the turn and a measure; N: what the body is to reach -/
def tFor (wi : TI) (g : TG) (tb : TS) : TS := fun D σ H => wi σ H fun J H1 => ∃ W : Nat → Nat → St → Hp → Prop, (∃ m, W 0 m σ H1) ∧ ∀ i m σ H, W i m σ H →
  (J.stop i H ∧ D.nx σ H) ∨ (J.go i H ∧ ∃ N : St → Hp → Prop, (∀ σ' H', N σ' H' → ∃ m', m' < m ∧ W (i + 1) m' σ' H') ∧ ∀ x H', J.yld i H x H' → g x σ H' fun σ2 H2 => tb { D with nx := N, ct := N, bk := D.nx } σ2 H2)
/-- the records at fp as they stand -/
def pinsAt (fp : List Addr) (h : Heap) : List (Addr × Obj) := fp.filterMap fun b => (h.get? b).map fun o => (b, o)
theorem mem_pinsAt {fp : List Addr} {h : Heap} {b : Addr} {o : Obj} (hb : b ∈ fp) (e : h.get? b = some o) : (b, o) ∈ pinsAt fp h := List.mem_filterMap.mpr ⟨b, hb, by rw [e]; rfl⟩
theorem of_pinsAt {fp : List Addr} {h : Heap} {p : Addr × Obj} (hp : p ∈ pinsAt fp h) : p.1 ∈ fp ∧ h.get? p.1 = some p.2 := by
  obtain ⟨b, hb, e⟩ := List.mem_filterMap.mp hp
  cases q : h.get? b with
  | none => rw [q] at e; cases e
  | some o =>
    rw [q] at e
    have e' : (b, o) = p := Option.some.inj e
    subst e'
    exact ⟨hb, q⟩
theorem Inv.pinned {pins : List (Addr × Obj)} {σ : St} {H : Hp} {s : Shared} {fp : List Addr} (I : Inv X pins σ H s) (hf : ∀ b ∈ fp, FpOk X pins H b) (ho : ∀ b ∈ fp, ∃ o, s.heap.get? b = some o ∧ ∀ v, o.data ≠ .cell v) : Inv X (pins ++ pinsAt fp s.heap) σ H s :=
  I.pins_of fun p hp => (List.mem_append.mp hp).elim (fun z => I.pin p (List.mem_append_right _ z)) fun z => by
    obtain ⟨hb, e⟩ := of_pinsAt z
    obtain ⟨f0, f1, f2, _⟩ := hf p.1 hb
    obtain ⟨o, e', d⟩ := ho p.1 hb
    rw [e] at e'; cases e'
    exact ⟨e, f0, f1, f2, d⟩
theorem Inv.unpinned {pins pl : List (Addr × Obj)} {σ : St} {H : Hp} {s : Shared} (I : Inv X (pins ++ pl) σ H s) : Inv X pins σ H s := I.pins_of fun p hp => I.pin p (List.mem_append_right _ (List.mem_append_left _ hp))
theorem ps_for {iter : Expr} {body : List Stmt} {wi : TI} {g : TG} {tb : TS} {pos : Pos} (hp : PassesOwn (model X.prog X.w) X.A X.env X.xe) (hc : X.calm = true) (hi : PI X tg iter wi) (hg : PG X tg g) (hb : PSs X body tb)
    (hs : ∀ x, foldedSetIterable iter X.env x = pure x := by intro _; rfl) : PS X (.For tg iter body [] pos) (tFor wi g tb) := by
  intro pins s σ H D I h
  refine wpAny_For (thn (hi pins s σ H _ I h) fun v s1 h1 => thn h1 fun itv s2 h2 => ?_) hs
  obtain ⟨it, fp, tn, J, H2, e, I2, T, st2, f2, W, ⟨m0, w0⟩, turn⟩ := h2
  subst e
  -- what stays true of the iterator's objects through the loop
  have stat : ∀ {H' : Hp}, (∀ b ∈ fp, H' b = none) → ∀ b ∈ fp, FpOk X pins H' b := fun hn b hb => ⟨hn b hb, (f2 b hb).2⟩
  refine codeAny_forLoop_any (fun n s' => ∃ i σ' H', Inv X pins σ' H' s' ∧ tn i s'.heap ∧ (∀ b ∈ fp, H' b = none) ∧ W i n σ' H') ?_ m0 ⟨0, σ, H2, I2, st2, fun b hb => (f2 b hb).1, w0⟩
  rintro n s3 ⟨i, σ3, H3, I3, st3, fr3, w3⟩
  rcases turn i n σ3 H3 w3 with ⟨stop, qn⟩ | ⟨go, N, hN, step⟩
  · refine wpAny_passesOwn hp (thn (T.done X rfl rfl rfl hc i pins s3 σ3 H3 X.xe I3 (stat fr3) st3 stop) fun r s4 ⟨hr, I4⟩ => ?_)
    subst hr
    exact wpAny_execs_nil ⟨σ3, H3, I4, qn⟩
  · refine wpAny_passesOwn hp (thn (T.item X rfl rfl rfl hc i pins s3 σ3 H3 X.xe I3 (stat fr3) st3 go) fun r s4 ⟨u, hr, h4⟩ => ?_)
    subst hr
    refine wpAny_passesOwn hp (thn h4 fun _ s5 ⟨x, H5, I5, r5, y5, st5, fr5⟩ => ?_)
    have I5' := I5.pinned (stat fr5) (T.obj _ _ st5)
    refine wpAny_passesOwn hp (thn (hg _ s5 σ3 H5 x u _ I5' r5 (step x H5 y5)) fun _ s6 ⟨σ6, H6, I6, q6⟩ => ?_)
    refine wpAny_passesOwn hp (thn (hb _ s6 σ6 H6 _ I6 q6) fun f s7 q7 => ?_)
    have again : ∀ {σ7 : St} {H7 : Hp}, Inv X (pins ++ pinsAt fp s5.heap) σ7 H7 s7 → N σ7 H7 → ∃ m, m < n ∧ ∃ i σ' H', Inv X pins σ' H' s7 ∧ tn i s7.heap ∧ (∀ b ∈ fp, H' b = none) ∧ W i m σ' H' := fun {σ7 H7} I7 n7 => by
      obtain ⟨m', hm, w7⟩ := hN σ7 H7 n7
      refine ⟨m', hm, i + 1, σ7, H7, I7.unpinned, T.keep _ _ _ st5 fun b hb o e => (I7.pin (b, o) (List.mem_append_right _ (List.mem_append_right _ (mem_pinsAt hb e)))).1, fun b hb => ?_, w7⟩
      obtain ⟨o, e, d⟩ := T.obj _ _ st5 b hb
      exact (I7.pin (b, o) (List.mem_append_right _ (List.mem_append_right _ (mem_pinsAt hb e)))).2.1
    cases f with
    | next => obtain ⟨σ7, H7, I7, n7⟩ := q7; exact again I7 n7
    | cont => obtain ⟨σ7, H7, I7, n7⟩ := q7; exact again I7 n7
    | brk => obtain ⟨σ7, H7, I7, q7⟩ := q7; exact ⟨σ7, H7, I7.unpinned, q7⟩
    | ret v => obtain ⟨x7, σ7, H7, I7, r7, q7⟩ := q7; exact ⟨x7, σ7, H7, I7.unpinned, r7, q7⟩
end

/-! ### the forms one uses -/
/-- over a list that the body leaves as it is -/
theorem for_list {K : PySem.W.Frag} {a : Addr} {xs : List V} {g : TG} {tb : TS} {D : Ends} {σ : St} {H : Hp} (Pv : Nat → St → Hp → Prop) (h0 : Pv 0 σ H) (hl : ∀ i σ H, i ≤ xs.length → Pv i σ H → SqL K H a xs)
    (hs : ∀ i x σ H, xs[i]? = some x → Pv i σ H → g x σ H fun σ2 H2 => tb { D with nx := Pv (i + 1), ct := Pv (i + 1), bk := D.nx } σ2 H2) (hd : ∀ σ H, Pv xs.length σ H → D.nx σ H) :
    ∃ W : Nat → Nat → St → Hp → Prop, (∃ m, W 0 m σ H) ∧ ∀ i m σ H, W i m σ H →
      ((Itl K a).stop i H ∧ D.nx σ H) ∨ ((Itl K a).go i H ∧ ∃ N : St → Hp → Prop, (∀ σ' H', N σ' H' → ∃ m', m' < m ∧ W (i + 1) m' σ' H') ∧ ∀ x H', (Itl K a).yld i H x H' → g x σ H' fun σ2 H2 => tb { D with nx := N, ct := N, bk := D.nx } σ2 H2) := by
  refine ⟨fun i m σ H => m = xs.length - i ∧ i ≤ xs.length ∧ Pv i σ H, ⟨xs.length, by simp, Nat.zero_le _, h0⟩, ?_⟩
  rintro i m σ H ⟨rfl, hi, p⟩
  have q := hl i σ H hi p
  by_cases hlt : i < xs.length
  · refine .inr ⟨⟨xs, xs[i], q, by simp [hlt]⟩, Pv (i + 1), fun σ' H' p' => ⟨xs.length - (i + 1), by omega, rfl, hlt, p'⟩, fun x H' y => ?_⟩
    obtain ⟨e, y⟩ := y
    subst e
    exact hs i x σ _ (y xs q) p
  · have e : i = xs.length := by omega
    subst e
    exact .inl ⟨⟨xs, q, Nat.le_refl _⟩, hd σ H p⟩
theorem for_tup {K : PySem.W.Frag} {a : Addr} {xs : List V} {g : TG} {tb : TS} {D : Ends} {σ : St} {H : Hp} (Pv : Nat → St → Hp → Prop) (h0 : Pv 0 σ H) (hl : ∀ i σ H, i ≤ xs.length → Pv i σ H → SqT K H a xs)
    (hs : ∀ i x σ H, xs[i]? = some x → Pv i σ H → g x σ H fun σ2 H2 => tb { D with nx := Pv (i + 1), ct := Pv (i + 1), bk := D.nx } σ2 H2) (hd : ∀ σ H, Pv xs.length σ H → D.nx σ H) :
    ∃ W : Nat → Nat → St → Hp → Prop, (∃ m, W 0 m σ H) ∧ ∀ i m σ H, W i m σ H →
      ((Itt K a).stop i H ∧ D.nx σ H) ∨ ((Itt K a).go i H ∧ ∃ N : St → Hp → Prop, (∀ σ' H', N σ' H' → ∃ m', m' < m ∧ W (i + 1) m' σ' H') ∧ ∀ x H', (Itt K a).yld i H x H' → g x σ H' fun σ2 H2 => tb { D with nx := N, ct := N, bk := D.nx } σ2 H2) := by
  refine ⟨fun i m σ H => m = xs.length - i ∧ i ≤ xs.length ∧ Pv i σ H, ⟨xs.length, by simp, Nat.zero_le _, h0⟩, ?_⟩
  rintro i m σ H ⟨rfl, hi, p⟩
  have q := hl i σ H hi p
  by_cases hlt : i < xs.length
  · refine .inr ⟨⟨xs, xs[i], q, by simp [hlt]⟩, Pv (i + 1), fun σ' H' p' => ⟨xs.length - (i + 1), by omega, rfl, hlt, p'⟩, fun x H' y => ?_⟩
    obtain ⟨e, y⟩ := y
    subst e
    exact hs i x σ _ (y xs q) p
  · have e : i = xs.length := by omega
    subst e
    exact .inl ⟨⟨xs, q, Nat.le_refl _⟩, hd σ H p⟩
theorem for_range {lo : Int} {n : Nat} {g : TG} {tb : TS} {D : Ends} {σ : St} {H : Hp} (Pv : Nat → St → Hp → Prop) (h0 : Pv 0 σ H)
    (hs : ∀ i σ H, i < n → Pv i σ H → g (.int (lo + i)) σ H fun σ2 H2 => tb { D with nx := Pv (i + 1), ct := Pv (i + 1), bk := D.nx } σ2 H2) (hd : ∀ σ H, Pv n σ H → D.nx σ H) :
    ∃ W : Nat → Nat → St → Hp → Prop, (∃ m, W 0 m σ H) ∧ ∀ i m σ H, W i m σ H →
      ((Itr lo n).stop i H ∧ D.nx σ H) ∨ ((Itr lo n).go i H ∧ ∃ N : St → Hp → Prop, (∀ σ' H', N σ' H' → ∃ m', m' < m ∧ W (i + 1) m' σ' H') ∧ ∀ x H', (Itr lo n).yld i H x H' → g x σ H' fun σ2 H2 => tb { D with nx := N, ct := N, bk := D.nx } σ2 H2) := by
  refine ⟨fun i m σ H => m = n - i ∧ i ≤ n ∧ Pv i σ H, ⟨n, by simp, Nat.zero_le _, h0⟩, ?_⟩
  rintro i m σ H ⟨rfl, hi, p⟩
  by_cases hlt : i < n
  · refine .inr ⟨hlt, Pv (i + 1), fun σ' H' p' => ⟨n - (i + 1), by omega, rfl, hlt, p'⟩, fun x H' y => ?_⟩
    obtain ⟨e, y⟩ := y
    subst e y
    exact hs i σ _ hlt p
  · have e : i = n := by omega
    subst e
    exact .inl ⟨Nat.le_refl _, hd σ H p⟩
/-- while, by a word and a measure of the state -/
theorem while_by {c : TT} {tb : TS} {D : Ends} {σ : St} {H : Hp} (Pv : St → Hp → Prop) (μ : St → Hp → Nat) (h0 : Pv σ H)
    (hs : ∀ σ H, Pv σ H → c σ H fun b H1 => if b = true then tb { D with nx := fun σ' H' => Pv σ' H' ∧ μ σ' H' < μ σ H, ct := fun σ' H' => Pv σ' H' ∧ μ σ' H' < μ σ H, bk := D.nx } σ H1 else D.nx σ H1)
    (mono : ∀ σ H Q Q', (∀ b H1, Q b H1 → Q' b H1) → c σ H Q → c σ H Q') : tWhile c tb D σ H := by
  refine ⟨fun m σ H => m = μ σ H ∧ Pv σ H, ⟨_, rfl, h0⟩, ?_⟩
  rintro m σ H ⟨rfl, p⟩
  refine mono σ H _ _ (fun b H1 q => ?_) (hs σ H p)
  cases b with
  | true => exact ⟨_, fun σ' H' ⟨p', l⟩ => ⟨_, l, rfl, p'⟩, q⟩
  | false => exact q
end L2

namespace L2
open PySem PySem.Spec PyProof.Rows

abbrev R2 := V → V → Hp → VK → Prop
/-- a two-place operation on values: f is binaryOp op, inplaceOp op or compareOp op -/
def OpR (X : Cx) (f : Value → Value → Sem Value) (r : R2) : Prop :=
  ∀ (pins : List (Addr × Obj)) (s : Shared) (σ : St) (H : Hp) (x y : V) (v u : Value) (Q : VK), Inv X pins σ H s → RelV x v → RelV y u → r x y H Q →
    wpAny (model X.prog X.w) X.A (f v u) (EP X pins σ Q) X.xe s
/-- a one-place operation -/
def UnR (X : Cx) (f : Value → Sem Value) (r : V → Hp → VK → Prop) : Prop :=
  ∀ (pins : List (Addr × Obj)) (s : Shared) (σ : St) (H : Hp) (x : V) (v : Value) (Q : VK), Inv X pins σ H s → RelV x v → r x H Q →
    wpAny (model X.prog X.w) X.A (f v) (EP X pins σ Q) X.xe s
/-- a call of a value that is known (a builtin, a type) with values -/
def CallR (X : Cx) (f : Value) (r : List V → Hp → VK → Prop) : Prop :=
  ∀ (pins : List (Addr × Obj)) (s : Shared) (σ : St) (H : Hp) (xs : List V) (us : List Value) (Q : VK), Inv X pins σ H s → Vals xs us → r xs H Q →
    wpAny (model X.prog X.w) X.A (call f us) (EP X pins σ Q) X.xe s
/-- a value's truth -/
def TruR (X : Cx) (r : V → Hp → (Bool → Hp → Prop) → Prop) : Prop :=
  ∀ (pins : List (Addr × Obj)) (s : Shared) (σ : St) (H : Hp) (x : V) (v : Value) (Q : Bool → Hp → Prop), Inv X pins σ H s → RelV x v → r x H Q →
    wpAny (model X.prog X.w) X.A (truthy v) (TP X pins σ Q) X.xe s

def tOp (r : R2) (ta tb : TE) : TE := fun σ H Q => ta σ H fun x H1 => tb σ H1 fun y H2 => r x y H2 Q
def tUn (r : V → Hp → VK → Prop) (ta : TE) : TE := fun σ H Q => ta σ H fun x H1 => r x H1 Q
/-- ints in, under C, and a value out -/
def rI (C : Int → Int → Prop) (g : Int → Int → V) : R2 := fun x y H Q => ∃ i j, x = .int i ∧ y = .int j ∧ C i j ∧ Q (g i j) H
def rI0 (g : Int → Int → V) : R2 := fun x y H Q => ∃ i j, x = .int i ∧ y = .int j ∧ Q (g i j) H
def rU (g : Int → V) : V → Hp → VK → Prop := fun x H Q => ∃ i, x = .int i ∧ Q (g i) H

section
variable {X : Cx} {a b c : Expr} {ta tb tc : TE} {pos : Pos}

theorem binT (ha : PE X a ta) (hb : PE X b tb) {pins : List (Addr × Obj)} {s : Shared} {σ : St} {H : Hp} {R : V → V → Hp → Prop} (I : Inv X pins σ H s)
    (h : ta σ H fun x H1 => tb σ H1 fun y H2 => R x y H2) {Q : Value → Shared → Prop} {f : Value → Value → Sem Value}
    (hf : ∀ v u s2 x y H2, Inv X pins σ H2 s2 → RelV x v → RelV y u → R x y H2 → wpAny (model X.prog X.w) X.A (f v u) Q X.xe s2) :
    wpAny (model X.prog X.w) X.A (eval a X.env) (fun v s₁ => wpAny (model X.prog X.w) X.A (eval b X.env) (fun u s₂ => wpAny (model X.prog X.w) X.A (f v u) Q X.xe s₂) X.xe s₁) X.xe s := by
  refine thn (ha pins s σ H _ I h) fun v s1 ⟨x, H1, I1, r1, q1⟩ => ?_
  refine thn (hb pins s1 σ H1 _ I1 q1) fun u s2 ⟨y, H2, I2, r2, q2⟩ => ?_
  exact hf v u s2 x y H2 I2 r1 r2 q2

theorem pe_op {op : Operator} {r : R2} (ho : OpR X (binaryOp op) r) (ha : PE X a ta) (hb : PE X b tb) : PE X (.BinOp a op b pos) (tOp r ta tb) := by
  intro pins s σ H Q I h
  exact wpAny_BinOp (binT ha hb I h fun v u s2 x y H2 I2 rx ry q => ho pins s2 σ H2 x y v u Q I2 rx ry q)
theorem pe_un {op : UnaryOp} {r : V → Hp → VK → Prop} (ho : UnR X (unaryOp op) r) (ha : PE X a ta) : PE X (.UnaryOp op a pos) (tUn r ta) := by
  intro pins s σ H Q I h
  exact UnaryOp_ (thn (ha pins s σ H _ I h) fun v s1 ⟨x, H1, I1, r1, q1⟩ => ho pins s1 σ H1 x v Q I1 r1 q1)
/-- a op= e at a name: the name's slot i -/
theorem augR {op : Operator} {r : R2} (ho : OpR X (inplaceOp op) r) {pins : List (Addr × Obj)} {s : Shared} {σ : St} {H : Hp} {x y : V} {v u : Value} {Q : VK} (I : Inv X pins σ H s)
    (rx : RelV x v) (ry : RelV y u) (q : r x y H Q) : wpAny (model X.prog X.w) X.A (inplaceOp op v u) (EP X pins σ Q) X.xe s := ho pins s σ H x y v u Q I rx ry q

/-! ### ints -/
theorem opI {f : Value → Value → Sem Value} {C : Int → Int → Prop} {g : Int → Int → Int}
    (rule : ∀ (i j : Int) (t u : Tok) (s : Shared) (Q : Value → Shared → Prop) (E : Value → Shared → Prop), C i j → Q (.int (g i j) s.toks) { s with toks := s.toks + 1 } → wpAny (model X.prog X.w) X.A (f (.int i t) (.int j u)) Q E s) :
    OpR X f (rI C fun i j => .int (g i j)) := by
  intro pins s σ H x y v u Q I rx ry h
  obtain ⟨i, j, rfl, rfl, hc, q⟩ := h
  obtain ⟨t, rfl⟩ := rx
  obtain ⟨t', rfl⟩ := ry
  exact rule i j t t' s _ _ hc ⟨.int (g i j), H, I.tok _, ⟨_, rfl⟩, q⟩
theorem opI0 {f : Value → Value → Sem Value} {g : Int → Int → Int}
    (rule : ∀ (i j : Int) (t u : Tok) (s : Shared) (Q : Value → Shared → Prop) (E : Value → Shared → Prop), Q (.int (g i j) s.toks) { s with toks := s.toks + 1 } → wpAny (model X.prog X.w) X.A (f (.int i t) (.int j u)) Q E s) :
    OpR X f (rI0 fun i j => .int (g i j)) := by
  intro pins s σ H x y v u Q I rx ry h
  obtain ⟨i, j, rfl, rfl, q⟩ := h
  obtain ⟨t, rfl⟩ := rx
  obtain ⟨t', rfl⟩ := ry
  exact rule i j t t' s _ _ ⟨.int (g i j), H, I.tok _, ⟨_, rfl⟩, q⟩
theorem opB0 {f : Value → Value → Sem Value} {g : Int → Int → Bool}
    (rule : ∀ (i j : Int) (t u : Tok) (s : Shared) (Q : Value → Shared → Prop) (E : Value → Shared → Prop), Q (.bool (g i j)) s → wpAny (model X.prog X.w) X.A (f (.int i t) (.int j u)) Q E s) :
    OpR X f (rI0 fun i j => .bl (g i j)) := by
  intro pins s σ H x y v u Q I rx ry h
  obtain ⟨i, j, rfl, rfl, q⟩ := h
  obtain ⟨t, rfl⟩ := rx
  obtain ⟨t', rfl⟩ := ry
  exact rule i j t t' s _ _ ⟨.bl (g i j), H, I, rfl, q⟩

def CDiv (i j : Int) : Prop := 0 < j ∧ j < 1073741824
def CDivN (i j : Int) : Prop := j ≠ 0 ∧ j.natAbs < 1073741824
def CPow (i j : Int) : Prop := 0 ≤ j ∧ j ≤ 1000000 ∧ i.natAbs < 2 ^ 64
def CMul (i j : Int) : Prop := (-(2 ^ 64) < i ∧ i < 2 ^ 64) ∨ (-(2 ^ 64) < j ∧ j < 2 ^ 64)
theorem CMul.ok {i j : Int} (h : CMul i j) : IntMulOk i j := by
  rcases h with ⟨h1, h2⟩ | ⟨h1, h2⟩
  · exact .of_left (intBits_le_64 h1 h2)
  · exact .of_right (intBits_le_64 h1 h2)
theorem two_pow_nn (k : Nat) : (0 : Int) ≤ 2 ^ k := by
  rw [two_pow_cast]
  exact Int.natCast_nonneg _

theorem op_add : OpR X (binaryOp .Add) (rI0 fun i j => .int (i + j)) := opI0 fun _ _ _ _ _ _ _ q => add_int q
theorem op_sub : OpR X (binaryOp .Sub) (rI0 fun i j => .int (i - j)) := opI0 fun _ _ _ _ _ _ _ q => sub_int q
theorem op_mul : OpR X (binaryOp .Mult) (rI CMul fun i j => .int (i * j)) := opI fun _ _ _ _ _ _ _ hc q => mul_int q hc.ok
/-- // by a positive divisor -/
theorem op_fdiv : OpR X (binaryOp .FloorDiv) (rI CDiv fun i j => .int (i / j)) := opI fun i j _ _ _ _ _ hc q => by
  have h1 : (0 : Int) < j := hc.1
  have h2 : j < 1073741824 := hc.2
  exact floordiv_int (by omega) (by rw [Int.fdiv_eq_ediv_of_nonneg i (by omega)]; exact q) (.inl (PyProof.noPylong_small (by omega)))
theorem op_fdivN : OpR X (binaryOp .FloorDiv) (rI CDivN fun i j => .int (i.fdiv j)) := opI fun _ _ _ _ _ _ _ hc q => floordiv_int hc.1 q (.inl (PyProof.noPylong_small hc.2))
/-- % by a positive divisor of any size -/
theorem op_mod : OpR X (binaryOp .Mod) (rI (fun _ j => 0 < j) fun i j => .int (i % j)) := opI fun i j _ _ _ _ _ hc q => by
  have h1 : (0 : Int) < j := hc
  exact mod_int' (by omega) (by rw [Int.fmod_eq_emod_of_nonneg i (by omega)]; exact q)
theorem op_modN : OpR X (binaryOp .Mod) (rI (fun _ j => j ≠ 0) fun i j => .int (i.fmod j)) := opI fun _ _ _ _ _ _ _ hc q => mod_int' hc q
theorem op_pow : OpR X (binaryOp .Pow) (rI CPow fun i j => .int (i ^ j.toNat)) := opI fun _ _ _ _ _ _ _ hc q => pow_int_small hc.1 hc.2.1 hc.2.2 q
theorem op_shl : OpR X (binaryOp .LShift) (rI CPow fun i j => .int (i * 2 ^ j.toNat)) := opI fun _ _ _ _ _ _ _ hc q => lshift_int_small hc.1 hc.2.1 hc.2.2 q
theorem op_shr : OpR X (binaryOp .RShift) (rI (fun _ j => 0 ≤ j) fun i j => .int (i / 2 ^ j.toNat)) := opI fun i j _ _ _ _ _ hc q =>
  rshift_int hc (by rw [Int.fdiv_eq_ediv_of_nonneg i (two_pow_nn _)]; exact q)
theorem op_and : OpR X (binaryOp .BitAnd) (rI0 fun i j => .int (Builtin.bitAnd i j)) := opI0 fun _ _ _ _ _ _ _ q => and_int q
theorem op_or : OpR X (binaryOp .BitOr) (rI0 fun i j => .int (Builtin.bitOr i j)) := opI0 fun _ _ _ _ _ _ _ q => or_int q
theorem op_xor : OpR X (binaryOp .BitXor) (rI0 fun i j => .int (Builtin.bitXor i j)) := opI0 fun _ _ _ _ _ _ _ q => xor_int q

theorem iop_add : OpR X (inplaceOp .Add) (rI0 fun i j => .int (i + j)) := opI0 fun _ _ _ _ _ _ _ q => iadd_int q
theorem iop_sub : OpR X (inplaceOp .Sub) (rI0 fun i j => .int (i - j)) := opI0 fun _ _ _ _ _ _ _ q => isub_int q
theorem iop_mul : OpR X (inplaceOp .Mult) (rI CMul fun i j => .int (i * j)) := opI fun _ _ _ _ _ _ _ hc q => imul_int q hc.ok
theorem iop_fdiv : OpR X (inplaceOp .FloorDiv) (rI CDiv fun i j => .int (i / j)) := opI fun i j _ _ _ _ _ hc q => by
  have h1 : (0 : Int) < j := hc.1
  have h2 : j < 1073741824 := hc.2
  exact ifloordiv_int (by omega) (by rw [Int.fdiv_eq_ediv_of_nonneg i (by omega)]; exact q) (.inl (PyProof.noPylong_small (by omega)))
theorem iop_mod : OpR X (inplaceOp .Mod) (rI (fun _ j => 0 < j) fun i j => .int (i % j)) := opI fun i j _ _ _ _ _ hc q => by
  have h1 : (0 : Int) < j := hc
  exact imod_int (by omega) (by rw [Int.fmod_eq_emod_of_nonneg i (by omega)]; exact q)
theorem iop_shl : OpR X (inplaceOp .LShift) (rI CPow fun i j => .int (i * 2 ^ j.toNat)) := opI fun _ _ _ _ _ _ _ hc q => ilshift_int_small hc.1 hc.2.1 hc.2.2 q
theorem iop_shr : OpR X (inplaceOp .RShift) (rI (fun _ j => 0 ≤ j) fun i j => .int (i / 2 ^ j.toNat)) := opI fun i j _ _ _ _ _ hc q =>
  irshift_int hc (by rw [Int.fdiv_eq_ediv_of_nonneg i (two_pow_nn _)]; exact q)
theorem iop_and : OpR X (inplaceOp .BitAnd) (rI0 fun i j => .int (Builtin.bitAnd i j)) := opI0 fun _ _ _ _ _ _ _ q => iand_int q
theorem iop_or : OpR X (inplaceOp .BitOr) (rI0 fun i j => .int (Builtin.bitOr i j)) := opI0 fun _ _ _ _ _ _ _ q => ior_int q
theorem iop_xor : OpR X (inplaceOp .BitXor) (rI0 fun i j => .int (Builtin.bitXor i j)) := opI0 fun _ _ _ _ _ _ _ q => ixor_int q

theorem unI {f : Value → Sem Value} {g : Int → Int}
    (rule : ∀ (i : Int) (t : Tok) (s : Shared) (Q : Value → Shared → Prop) (E : Value → Shared → Prop), Q (.int (g i) s.toks) { s with toks := s.toks + 1 } → wpAny (model X.prog X.w) X.A (f (.int i t)) Q E s) :
    UnR X f (rU fun i => .int (g i)) := by
  intro pins s σ H x v Q I rx h
  obtain ⟨i, rfl, q⟩ := h
  obtain ⟨t, rfl⟩ := rx
  exact rule i t s _ _ ⟨.int (g i), H, I.tok _, ⟨_, rfl⟩, q⟩
theorem un_neg : UnR X (unaryOp .USub) (rU fun i => .int (-i)) := unI fun _ _ _ _ _ q => neg_int q
theorem un_inv : UnR X (unaryOp .Invert) (rU fun i => .int (Builtin.bitNot i)) := unI fun _ _ _ _ _ q => invert_int q

/-! ### bools among ints: n += (a < b) -/
theorem op_add_ib : OpR X (binaryOp .Add) (fun x y H Q => ∃ i k, x = .int i ∧ y = .bl k ∧ Q (.int (i + b2i k)) H) := by
  intro pins s σ H x y v u Q I rx ry h
  obtain ⟨i, k, rfl, rfl, q⟩ := h
  obtain ⟨t, rfl⟩ := rx
  cases ry
  exact add_int_bool ⟨.int (i + b2i k), H, I.tok _, ⟨_, rfl⟩, q⟩
end

/-! ### comparisons -/
/-- the scalars that == tells apart as data does -/
def scal : V → V → Bool
  | .non, .non => true | .non, .int _ => true | .int _, .non => true | .non, .bl _ => true | .bl _, .non => true | .non, .str _ => true | .str _, .non => true
  | .int _, .int _ => true | .bl _, .bl _ => true | .str _, .str _ => true | .byt _, .byt _ => true
  | .int _, .str _ => true | .str _, .int _ => true | .bl _, .str _ => true | .str _, .bl _ => true
  | _, _ => false
def rEq : R2 := fun x y H Q => scal x y = true ∧ Q (.bl (decide (x = y))) H
def rNe : R2 := fun x y H Q => scal x y = true ∧ Q (.bl (!decide (x = y))) H

theorem dec_int {i j : Int} : decide (V.int i = V.int j) = (i == j) := by
  rw [Bool.eq_iff_iff]
  simp
theorem dec_bl {i j : Bool} : decide (V.bl i = V.bl j) = (i == j) := by
  rw [Bool.eq_iff_iff]
  simp
theorem dec_str {i j : Str} : decide (V.str i = V.str j) = (i == j) := by
  rw [Bool.eq_iff_iff]
  simp
theorem dec_byt {i j : Array UInt8} : decide (V.byt i = V.byt j) = (i.toList == j.toList) := by
  rw [Bool.eq_iff_iff]
  cases i
  cases j
  simp

section
variable {X : Cx} {a b c : Expr} {ta tb tc : TE} {pos : Pos}
theorem fin_bl {pins : List (Addr × Obj)} {σ : St} {H : Hp} {s : Shared} {Q : VK} {k k' : Bool} (I : Inv X pins σ H s) (q : Q (.bl k) H) (e : k = k') : EP X pins σ Q (.bool k') s := by
  subst e
  exact ⟨.bl k, H, I, rfl, q⟩
theorem op_eq : OpR X (compareOp .Eq) rEq := by
  intro pins s σ H x y v u Q I rx ry h
  obtain ⟨hs, q⟩ := h
  cases x with
  | non =>
    cases rx
    cases y with
    | non => cases ry; exact PySem.EqNone.eq_none_none (fin_bl I q (by simp))
    | bl j => cases ry; exact PySem.EqNone.eq_none_bool (fin_bl I q (by simp))
    | int j => obtain ⟨t', rfl⟩ := ry; exact PySem.EqNone.eq_none_int (fin_bl I q (by simp))
    | str j => obtain ⟨t', rfl⟩ := ry; exact PySem.EqNone.eq_none_str (fin_bl I q (by simp))
    | _ => exact absurd (show false = true from hs) Bool.false_ne_true
  | bl i =>
    cases rx
    cases y with
    | non => cases ry; exact PySem.EqNone.eq_bool_none (fin_bl I q (by simp))
    | bl j => cases ry; exact eq_bool (fin_bl I q dec_bl)
    | str j => obtain ⟨t', rfl⟩ := ry; exact PySem.EqMixed.eq_bool_str (fin_bl I q (by simp))
    | _ => exact absurd (show false = true from hs) Bool.false_ne_true
  | int i =>
    obtain ⟨t, rfl⟩ := rx
    cases y with
    | non => cases ry; exact PySem.EqNone.eq_int_none (fin_bl I q (by simp))
    | int j => obtain ⟨t', rfl⟩ := ry; exact eq_int (fin_bl I q dec_int)
    | str j => obtain ⟨t', rfl⟩ := ry; exact PySem.EqMixed.eq_int_str (fin_bl I q (by simp))
    | _ => exact absurd (show false = true from hs) Bool.false_ne_true
  | str i =>
    obtain ⟨t, rfl⟩ := rx
    cases y with
    | non => cases ry; exact PySem.EqNone.eq_str_none (fin_bl I q (by simp))
    | bl j => cases ry; exact PySem.EqMixed.eq_str_bool (fin_bl I q (by simp))
    | int j => obtain ⟨t', rfl⟩ := ry; exact PySem.EqMixed.eq_str_int (fin_bl I q (by simp))
    | str j => obtain ⟨t', rfl⟩ := ry; exact eq_str (fin_bl I q dec_str)
    | _ => exact absurd (show false = true from hs) Bool.false_ne_true
  | byt i =>
    obtain ⟨t, rfl⟩ := rx
    cases y with
    | byt j => obtain ⟨t', rfl⟩ := ry; exact PySem.W.eq_bytes (fin_bl I q dec_byt)
    | _ => exact absurd (show false = true from hs) Bool.false_ne_true
  | _ => cases y <;> exact absurd (show false = true from hs) Bool.false_ne_true
theorem op_ne : OpR X (compareOp .NotEq) rNe := by
  intro pins s σ H x y v u Q I rx ry h
  obtain ⟨hs, q⟩ := h
  cases x with
  | non =>
    cases rx
    cases y with
    | non => cases ry; exact PySem.EqNone.ne_none_none (fin_bl I q (by simp))
    | bl j => cases ry; exact PySem.EqNone.ne_none_bool (fin_bl I q (by simp))
    | int j => obtain ⟨t', rfl⟩ := ry; exact PySem.EqNone.ne_none_int (fin_bl I q (by simp))
    | str j => obtain ⟨t', rfl⟩ := ry; exact PySem.EqNone.ne_none_str (fin_bl I q (by simp))
    | _ => exact absurd (show false = true from hs) Bool.false_ne_true
  | bl i =>
    cases rx
    cases y with
    | non => cases ry; exact PySem.EqNone.ne_bool_none (fin_bl I q (by simp))
    | bl j => cases ry; exact ne_bool (fin_bl I q (congrArg not dec_bl))
    | str j => obtain ⟨t', rfl⟩ := ry; exact PySem.EqMixed.ne_bool_str (fin_bl I q (by simp))
    | _ => exact absurd (show false = true from hs) Bool.false_ne_true
  | int i =>
    obtain ⟨t, rfl⟩ := rx
    cases y with
    | non => cases ry; exact PySem.EqNone.ne_int_none (fin_bl I q (by simp))
    | int j => obtain ⟨t', rfl⟩ := ry; exact ne_int (fin_bl I q (congrArg not dec_int))
    | str j => obtain ⟨t', rfl⟩ := ry; exact PySem.EqMixed.ne_int_str (fin_bl I q (by simp))
    | _ => exact absurd (show false = true from hs) Bool.false_ne_true
  | str i =>
    obtain ⟨t, rfl⟩ := rx
    cases y with
    | non => cases ry; exact PySem.EqNone.ne_str_none (fin_bl I q (by simp))
    | bl j => cases ry; exact PySem.EqMixed.ne_str_bool (fin_bl I q (by simp))
    | int j => obtain ⟨t', rfl⟩ := ry; exact PySem.EqMixed.ne_str_int (fin_bl I q (by simp))
    | str j => obtain ⟨t', rfl⟩ := ry; exact ne_str (fin_bl I q (congrArg not dec_str))
    | _ => exact absurd (show false = true from hs) Bool.false_ne_true
  | byt i =>
    obtain ⟨t, rfl⟩ := rx
    cases y with
    | byt j => obtain ⟨t', rfl⟩ := ry; exact PySem.W.ne_bytes (fin_bl I q (congrArg not dec_byt))
    | _ => exact absurd (show false = true from hs) Bool.false_ne_true
  | _ => cases y <;> exact absurd (show false = true from hs) Bool.false_ne_true

theorem op_lt : OpR X (compareOp .Lt) (rI0 fun i j => .bl (decide (i < j))) := opB0 fun _ _ _ _ _ _ _ q => lt_int q
theorem op_le : OpR X (compareOp .LtE) (rI0 fun i j => .bl (decide (i ≤ j))) := opB0 fun _ _ _ _ _ _ _ q => le_int q
theorem op_gt : OpR X (compareOp .Gt) (rI0 fun i j => .bl (decide (j < i))) := opB0 fun _ _ _ _ _ _ _ q => gt_int q
theorem op_ge : OpR X (compareOp .GtE) (rI0 fun i j => .bl (decide (j ≤ i))) := opB0 fun _ _ _ _ _ _ _ q => ge_int q
theorem op_lt_str : OpR X (compareOp .Lt) (fun x y H Q => ∃ i j, x = .str i ∧ y = .str j ∧ Q (.bl (decide (i.cps.toList < j.cps.toList))) H) := by
  intro pins s σ H x y v u Q I rx ry h
  obtain ⟨i, j, rfl, rfl, q⟩ := h
  obtain ⟨t, rfl⟩ := rx
  obtain ⟨t', rfl⟩ := ry
  exact lt_str (fin_bl I q rfl)
/-- the one string within the other -/
theorem op_in_str : OpR X (compareOp .In) (fun x y H Q => ∃ i j, x = .str i ∧ y = .str j ∧ Q (.bl (!(Builtin.Str.occurrences j i 0 j.length 1).isEmpty)) H) := by
  intro pins s σ H x y v u Q I rx ry h
  obtain ⟨i, j, rfl, rfl, q⟩ := h
  obtain ⟨t, rfl⟩ := rx
  obtain ⟨t', rfl⟩ := ry
  exact in_str (fin_bl I q rfl)

/-- is None, is not None: the right side a value none -/
theorem op_isN : OpR X (compareOp .Is) (fun x y H Q => y = .non ∧ Q (.bl (decide (x = .non))) H) := by
  intro pins s σ H x y v u Q I rx ry h
  obtain ⟨rfl, q⟩ := h
  cases ry
  refine is_none_gen (fin_bl I q ?_)
  cases x <;> first
    | (cases rx; rfl)
    | (obtain ⟨t, rfl⟩ := rx; rfl)
theorem op_notN : OpR X (compareOp .IsNot) (fun x y H Q => y = .non ∧ Q (.bl (!decide (x = .non))) H) := by
  intro pins s σ H x y v u Q I rx ry h
  obtain ⟨rfl, q⟩ := h
  cases ry
  refine isnot_none_gen (fin_bl I q ?_)
  cases x <;> first
    | (cases rx; rfl)
    | (obtain ⟨t, rfl⟩ := rx; rfl)

theorem op_notin_str : OpR X (compareOp .NotIn) (fun x y H Q => ∃ i j, x = .str i ∧ y = .str j ∧ Q (.bl (!(!(Builtin.Str.occurrences j i 0 j.length 1).isEmpty))) H) := by
  intro pins s σ H x y v u Q I rx ry h
  obtain ⟨i, j, rfl, rfl, q⟩ := h
  obtain ⟨t, rfl⟩ := rx
  obtain ⟨t', rfl⟩ := ry
  exact notIn_str (fin_bl I q rfl)
/-- is, is not of two objects that are tracked lists or instances -/
def isObj : HO → Bool
  | .lst _ => true
  | .ins _ _ _ => true
  | _ => false
theorem obj_there {pins : List (Addr × Obj)} {s : Shared} {σ : St} {H : Hp} {a : Addr} {o : HO} (I : Inv X pins σ H s) (h : H a = some o) (p : isObj o = true) : ∃ ob, s.heap.get? a = some ob ∧ ob.cls ≠ .type "tuple" := by
  cases o with
  | lst xs =>
    obtain ⟨_, its, n, _, e⟩ : xs.length ≤ sizeLine ∧ ∃ (its : List Value) (n : Nat), Vals xs its ∧ s.heap.get? a = some { cls := .type "list", data := .seq its.toArray n } := I.hok a _ h
    exact ⟨_, e, (by show Value.type "list" ≠ .type "tuple"; decide +kernel)⟩
  | ins C dx fs =>
    have x := I.hok a _ h
    obtain ⟨_, _, _, e, _⟩ := x
    exact ⟨_, e, (by show Value.ref C ≠ .type "tuple"; exact fun z => by cases z)⟩
  | _ => exact absurd (show false = true from p) Bool.false_ne_true
theorem op_is_ref : OpR X (compareOp .Is) (fun x y H Q => ∃ a b oa ob, x = .ref a ∧ y = .ref b ∧ H a = some oa ∧ isObj oa = true ∧ H b = some ob ∧ isObj ob = true ∧ Q (.bl (decide (a = b))) H) := by
  intro pins s σ H x y v u Q I rx ry h
  obtain ⟨a, b, oa, ob, rfl, rfl, ha, pa, hb, pb, q⟩ := h
  cases rx
  cases ry
  obtain ⟨o1, e1, n1⟩ := obj_there I ha pa
  obtain ⟨o2, e2, _⟩ := obj_there I hb pb
  by_cases z : a = b
  · subst z
    exact wpAny_is_ref_self (fin_bl I q (by simp))
  · exact wpAny_is_ref_other z e1 e2 n1 (fin_bl I q (by simp [z]))
theorem op_isnot_ref : OpR X (compareOp .IsNot) (fun x y H Q => ∃ a b oa ob, x = .ref a ∧ y = .ref b ∧ H a = some oa ∧ isObj oa = true ∧ H b = some ob ∧ isObj ob = true ∧ Q (.bl (!decide (a = b))) H) := by
  intro pins s σ H x y v u Q I rx ry h
  obtain ⟨a, b, oa, ob, rfl, rfl, ha, pa, hb, pb, q⟩ := h
  cases rx
  cases ry
  obtain ⟨o1, e1, n1⟩ := obj_there I ha pa
  obtain ⟨o2, e2, _⟩ := obj_there I hb pb
  by_cases z : a = b
  · subst z
    exact wpAny_isNot_ref_self (fin_bl I q (by simp))
  · exact wpAny_isNot_ref_other z e1 e2 n1 (fin_bl I q (by simp [z]))

/-- two rules for one operation: by cases -/
theorem OpR.or {f : Value → Value → Sem Value} {r r' : R2} (h : OpR X f r) (h' : OpR X f r') : OpR X f (fun x y H Q => r x y H Q ∨ r' x y H Q) := by
  intro pins s σ H x y v u Q I rx ry q
  rcases q with q | q
  · exact h pins s σ H x y v u Q I rx ry q
  · exact h' pins s σ H x y v u Q I rx ry q

theorem nomark (b : Expr) {op : CmpOp} (h : op ≠ .In := by decide) (h2 : op ≠ .NotIn := by decide) : behindInMarks op b = false := by
  have e1 : (op == CmpOp.In) = false := by cases op <;> first | rfl | exact absurd rfl h
  have e2 : (op == CmpOp.NotIn) = false := by cases op <;> first | rfl | exact absurd rfl h2
  cases b <;> simp [behindInMarks, e1, e2]
/-- a comparison as a value; hm: nomark b, or (for in, not in) by with_unfolding_all rfl -/
theorem pe_cmpR {op : CmpOp} {r : R2} (ho : OpR X (compareOp op) r) (ha : PE X a ta) (hb : PE X b tb) (hm : behindInMarks op b = false) : PE X (.Compare a [op] [b] pos) (tOp r ta tb) := by
  intro pins s σ H Q I h
  exact wpAny_Compare1 (binT ha hb I h fun v u s2 x y H2 I2 rx ry q => ho pins s2 σ H2 x y v u Q I2 rx ry q) hm
/-- a reading of a value as a test -/
def tTest (t : TE) : TT := fun σ H Q => t σ H fun x H' => ∃ k, x = .bl k ∧ Q k H'
theorem pt_cmpR {op : CmpOp} {r : R2} (ho : OpR X (compareOp op) r) (ha : PE X a ta) (hb : PE X b tb) (hm : behindInMarks op b = false) : PT X (.Compare a [op] [b] pos) (tTest (tOp r ta tb)) := by
  intro pins s σ H Q I h
  refine wpAny_isTrue_Compare1 (thn (ha pins s σ H _ I h) fun v s1 ⟨x, H1, I1, r1, q1⟩ => thn (hb pins s1 σ H1 _ I1 q1) fun u s2 ⟨y, H2, I2, r2, q2⟩ =>
    thn (ho pins s2 σ H2 x y v u _ I2 r1 r2 q2) fun c s3 ⟨z, H3, I3, r3, k, e, q3⟩ => ?_) hm
  subst e
  cases r3
  exact wpAny_truthy_bool ⟨H3, I3, q3⟩
/-- a op1 b op2 c -/
def tChain (r r' : R2) (ta tb tc : TE) : TE := fun σ H Q => ta σ H fun x H1 => tb σ H1 fun y H2 => r x y H2 fun z H3 => ∃ k, z = .bl k ∧
  (if k = true then tc σ H3 fun w' H4 => r' y w' H4 Q else Q (.bl false) H3)
theorem pe_chain {op op' : CmpOp} {r r' : R2} (ho : OpR X (compareOp op) r) (ho' : OpR X (compareOp op') r') (ha : PE X a ta) (hb : PE X b tb) (hc : PE X c tc)
    (hm : lastMarks [op, op'] [b, c] = false := by with_unfolding_all rfl) : PE X (.Compare a [op, op'] [b, c] pos) (tChain r r' ta tb tc) := by
  intro pins s σ H Q I h
  refine Compare_chain (thn (ha pins s σ H _ I h) fun v s1 ⟨x, H1, I1, r1, q1⟩ => chain_link (thn (hb pins s1 σ H1 _ I1 q1) fun u s2 ⟨y, H2, I2, r2, q2⟩ =>
    thn (ho pins s2 σ H2 x y v u _ I2 r1 r2 q2) fun d s3 ⟨z, H3, I3, r3, k, e, q3⟩ => ?_)) hm
  subst e
  cases r3
  refine wpAny_truthy_bool ?_
  cases k with
  | false => exact ite_ff ⟨.bl false, H3, I3, rfl, q3⟩
  | true => exact ite_tt (chain_last (thn (hc pins s3 σ H3 _ I3 q3) fun w' s4 ⟨z', H4, I4, r4, q4⟩ => ho' pins s4 σ H4 y z' u w' Q I4 r2 r4 q4))
theorem pt_chain {op op' : CmpOp} {r r' : R2} (ho : OpR X (compareOp op) r) (ho' : OpR X (compareOp op') r') (ha : PE X a ta) (hb : PE X b tb) (hc : PE X c tc)
    (hm : lastMarks [op, op'] [b, c] = false := by with_unfolding_all rfl) : PT X (.Compare a [op, op'] [b, c] pos) (tTest (tChain r r' ta tb tc)) := by
  intro pins s σ H Q I h
  refine isTrue_chain (thn (ha pins s σ H _ I h) fun v s1 ⟨x, H1, I1, r1, q1⟩ => test_link (thn (hb pins s1 σ H1 _ I1 q1) fun u s2 ⟨y, H2, I2, r2, q2⟩ =>
    thn (ho pins s2 σ H2 x y v u _ I2 r1 r2 q2) fun d s3 ⟨z, H3, I3, r3, k, e, q3⟩ => ?_)) hm
  subst e
  cases r3
  refine wpAny_truthy_bool ?_
  cases k with
  | false =>
    obtain ⟨k', e', q'⟩ := q3
    cases e'
    exact ite_ff ⟨H3, I3, q'⟩
  | true =>
    refine ite_tt (test_last (thn (hc pins s3 σ H3 _ I3 q3) fun w' s4 ⟨z', H4, I4, r4, q4⟩ => thn (ho' pins s4 σ H4 y z' u w' _ I4 r2 r4 q4) fun d' s5 ⟨z2, H5, I5, r5, k2, e2, q5⟩ => ?_))
    subst e2
    cases r5
    exact wpAny_truthy_bool ⟨H5, I5, q5⟩

/-! ### truth -/
/-- a value's truth by the abstract heap -/
def TruV (K : PySem.W.Frag) (x : V) (H : Hp) (k : Bool) : Prop :=
  match x with
  | .non => k = false
  | .bl b => k = b
  | .int i => k = (i != 0)
  | .str y => y.length ≤ sizeLine ∧ k = ((y.length : Int) != 0)
  | .byt y => y.size ≤ sizeLine ∧ k = ((y.size : Int) != 0)
  | .ref p => (∃ xs, SqL K H p xs ∧ k = !xs.isEmpty) ∨ (∃ xs, SqT K H p xs ∧ k = !xs.isEmpty) ∨ ∃ kvs, H p = some (.dK kvs) ∧ k = !kvs.isEmpty
  | _ => False
theorem isEmpty_kv {κ : Type} {kvs : List (κ × V)} {vs : List (κ × Value)} (r : KV kvs vs) : (!vs.isEmpty) = !kvs.isEmpty := by
  cases r <;> rfl
theorem isEmpty_of {xs : List V} {its : List Value} (r : Vals xs its) : (!its.toArray.isEmpty) = !xs.isEmpty := by
  cases r <;> simp
theorem line63 : (sizeLine : Nat) < 2 ^ 63 := by rw [sizeLine_eq]; decide
theorem tru_ok : TruR X (fun x H Q => ∃ k, TruV X.K x H k ∧ Q k H) := by
  intro pins s σ H x v Q I rx h
  obtain ⟨k, e, q⟩ := h
  have hl := line63
  have hs : sizeLine = 16777216 := sizeLine_eq
  cases x with
  | non =>
    cases rx
    have e' : k = false := e
    subst e'
    exact truthy_none ⟨H, I, q⟩
  | bl b =>
    cases rx
    have e' : k = b := e
    subst e'
    exact wpAny_truthy_bool ⟨H, I, q⟩
  | int i =>
    obtain ⟨t, rfl⟩ := rx
    have e' : k = (i != 0) := e
    subst e'
    exact PySem.P.truthy_int ⟨H, I, q⟩
  | str y =>
    obtain ⟨t, rfl⟩ := rx
    obtain ⟨hy, e'⟩ : y.length ≤ sizeLine ∧ k = ((y.length : Int) != 0) := e
    subst e'
    exact PySem.P.truthy_str (by omega) ⟨H, I.tok _, q⟩
  | byt y =>
    obtain ⟨t, rfl⟩ := rx
    obtain ⟨hy, e'⟩ : y.size ≤ sizeLine ∧ k = ((y.size : Int) != 0) := e
    subst e'
    exact PySem.W.truthy_bytes (by omega) ⟨H, I.tok _, q⟩
  | ref p =>
    cases rx
    have e' : (∃ xs, SqL X.K H p xs ∧ k = !xs.isEmpty) ∨ (∃ xs, SqT X.K H p xs ∧ k = !xs.isEmpty) ∨ ∃ kvs, H p = some (.dK kvs) ∧ k = !kvs.isEmpty := e
    rcases e' with ⟨xs, hx, e'⟩ | ⟨xs, hx, e'⟩ | ⟨kvs, hx, e'⟩
    · subst e'
      obtain ⟨its, r, pl, hz⟩ := I.list hx
      have hlen := r.length
      exact wpAny_truthy_list pl.isList (by simp only [List.size_toArray]; omega) ⟨H, I.tok _, by rw [isEmpty_of r]; exact q⟩
    · subst e'
      obtain ⟨its, r, pl, hz⟩ := I.tuple hx
      have hlen := r.length
      exact truthy_tuple pl (by simp only [List.size_toArray]; omega) ⟨H, I.tok _, by rw [isEmpty_of r]; exact q⟩
    · subst e'
      obtain ⟨hz, hS, vs, r, m⟩ : kvs.length ≤ sizeLine ∧ (p == sysModules) = false ∧ ∃ vs, KV kvs vs ∧ s.heap.DictOf (mixKind X.prog X.w) p vs := I.hok p _ hx
      have hlen : kvs.length = vs.length := Paired.length r
      exact wpAny_truthy_dict hS m (by omega) ⟨H, I.tok _, by rw [isEmpty_kv r]; exact q⟩
  | _ => exact (show False from e).elim
/-- any expression whose test is its value's truth (a name, a call, a subscript, a field ..: he by fun _ => rfl) -/
theorem pt_truth (ha : PE X a ta) (he : ∀ whole, isTrue a X.env whole = (do let v ← whole; standAt a.pos; holding [v] (truthy v))) :
    PT X a (fun σ H Q => ta σ H fun x H' => ∃ k, TruV X.K x H' k ∧ Q k H') := by
  intro pins s σ H Q I h
  exact isTrue_plain (thn (ha pins s σ H _ I h) fun v s1 ⟨x, H1, I1, r1, q1⟩ => tru_ok pins s1 σ H1 x v Q I1 r1 q1) (he _)

/-! ### strs and bytes -/
theorem pe_byt {x : List UInt8} {k : Nat} : PE X (.Constant (.bytes x) k pos) (fun _ H Q => Q (.byt x.toArray) H) := fun _ _ _ H _ I h => PySem.W.Constant_bytes ⟨.byt x.toArray, H, I.tok _, ⟨_, rfl⟩, h⟩
theorem op_add_str : OpR X (binaryOp .Add) (fun x y H Q => ∃ i j, x = .str i ∧ y = .str j ∧ i.length + j.length ≤ sizeLine ∧ Q (.str (i ++ j)) H) := by
  intro pins s σ H x y v u Q I rx ry h
  obtain ⟨i, j, rfl, rfl, hz, q⟩ := h
  obtain ⟨t, rfl⟩ := rx
  obtain ⟨t', rfl⟩ := ry
  exact add_str (fun t' tk => ⟨.str (i ++ j), H, I.tok _, ⟨_, rfl⟩, q⟩) hz
theorem iop_add_str : OpR X (inplaceOp .Add) (fun x y H Q => ∃ i j, x = .str i ∧ y = .str j ∧ i.length + j.length ≤ sizeLine ∧ Q (.str (i ++ j)) H) := by
  intro pins s σ H x y v u Q I rx ry h
  obtain ⟨i, j, rfl, rfl, hz, q⟩ := h
  obtain ⟨t, rfl⟩ := rx
  obtain ⟨t', rfl⟩ := ry
  exact iadd_str (fun t' tk => ⟨.str (i ++ j), H, I.tok _, ⟨_, rfl⟩, q⟩) hz
theorem op_add_byt : OpR X (binaryOp .Add) (fun x y H Q => ∃ i j, x = .byt i ∧ y = .byt j ∧ i.size + j.size ≤ 16777216 ∧ Q (.byt (i ++ j)) H) := by
  intro pins s σ H x y v u Q I rx ry h
  obtain ⟨i, j, rfl, rfl, hz, q⟩ := h
  obtain ⟨t, rfl⟩ := rx
  obtain ⟨t', rfl⟩ := ry
  exact PySem.W.KBy.add_bytes hz (fun t' tk => ⟨.byt (i ++ j), H, I.tok _, ⟨_, rfl⟩, q⟩)

def PlainIxT (b : Expr) : Prop := ∀ o i, subscripted b false o i = operate [o, i] (getItem o i)
/-- s[i], 0 ≤ i < len -/
theorem pe_item_str (ha : PE X a ta) (hb : PE X b tb) (hs : PlainIxT b) :
    PE X (.Subscript a b pos) (tOp (fun x y H Q => ∃ z i c, x = .str z ∧ y = .int i ∧ 0 ≤ i ∧ i < 2 ^ 63 ∧ i < z.length ∧ z.cps[i.toNat]? = some c ∧ Q (.str ⟨#[c]⟩) H) ta tb) := by
  intro pins s σ H Q I h
  refine Subscript_ (binT ha hb I h fun v u s2 x y H2 I2 rx ry q => ?_)
  obtain ⟨z, i, c, rfl, rfl, h0, h63, h1, hc, q⟩ := q
  obtain ⟨t, rfl⟩ := rx
  obtain ⟨t', rfl⟩ := ry
  have e : seqIndex? i z.length = some i.toNat := PySem.StrLaws.seqIndex_nonneg h0 h1
  exact tail_any (typeIs_str s2 z t) slot_str_getitem.lookup (getItem_str (c := c) (by
    have e1 : decide (i < -(2 ^ 63 : Int)) = false := decide_eq_false (by omega)
    have e2 : decide (i ≥ 2 ^ 63) = false := decide_eq_false (by omega)
    rw [e1, e2] <;> rfl) (by rw [e]; exact hc) ⟨.str ⟨#[c]⟩, H2, I2.tok _, ⟨_, rfl⟩, q⟩) (hs _ _)
/-- b[i], 0 ≤ i < len -/
theorem pe_item_byt (ha : PE X a ta) (hb : PE X b tb) (hs : PlainIxT b) :
    PE X (.Subscript a b pos) (tOp (fun x y H Q => ∃ (z : List UInt8) (i : Int), x = .byt z.toArray ∧ y = .int i ∧ z.length ≤ sizeLine ∧ 0 ≤ i ∧ i < z.length ∧ Q (.int ((z.getD i.toNat 0).toNat : Nat)) H) ta tb) := by
  intro pins s σ H Q I h
  refine Subscript_ (binT ha hb I h fun v u s2 x y H2 I2 rx ry q => ?_)
  obtain ⟨z, i, rfl, rfl, hz, h0, h1, q⟩ := q
  obtain ⟨t, rfl⟩ := rx
  obtain ⟨t', rfl⟩ := ry
  have hl : sizeLine = 16777216 := sizeLine_eq
  exact tail_any (PySem.W.typeIs_bytes s2 z.toArray t) PySem.W.FB.slot_bytes_getitem.lookup (PySem.W.getItem_bytes (by omega) h0 h1 ⟨.int ((z.getD i.toNat 0).toNat : Nat), H2, I2.tok _, ⟨_, rfl⟩, q⟩) (hs _ _)

/-! ### scalar builtins, by CallR -/
theorem vals1 {x : V} {us : List Value} (r : Vals [x] us) : ∃ u, us = [u] ∧ RelV x u := by
  cases r with
  | cons r1 r2 => cases r2; exact ⟨_, rfl, r1⟩
theorem vals2 {x y : V} {us : List Value} (r : Vals [x, y] us) : ∃ u w', us = [u, w'] ∧ RelV x u ∧ RelV y w' := by
  cases r with
  | cons r1 r2 =>
    cases r2 with
    | cons r3 r4 => cases r4; exact ⟨_, _, rfl, r1, r3⟩
theorem call_abs : CallR X (.builtin "abs") (fun xs H Q => ∃ i, xs = [.int i] ∧ Q (.int (if i < 0 then -i else i)) H) := by
  intro pins s σ H xs us Q I r h
  obtain ⟨i, rfl, q⟩ := h
  obtain ⟨u, rfl, t, rfl⟩ := vals1 r
  exact call_abs_int fun u tk => ⟨.int (if i < 0 then -i else i), H, I.tok _, ⟨_, rfl⟩, q⟩
theorem call_max2 (hc : X.calm = true) : CallR X (.builtin "max") (fun xs H Q => ∃ i j, xs = [.int i, .int j] ∧ Q (.int (if j > i then j else i)) H) := by
  intro pins s σ H xs us Q I r h
  obtain ⟨i, j, rfl, q⟩ := h
  obtain ⟨u, w', rfl, ⟨t, rfl⟩, ⟨t', rfl⟩⟩ := vals2 r
  refine max_two_ints (I.ok.hd hc) fun h' tk k => ⟨_, H, I.kept k, ?_, q⟩
  by_cases hj : j > i
  · rw [if_pos hj, if_pos hj]; exact ⟨_, rfl⟩
  · rw [if_neg hj, if_neg hj]; exact ⟨_, rfl⟩
theorem call_min2 (hc : X.calm = true) : CallR X (.builtin "min") (fun xs H Q => ∃ i j, xs = [.int i, .int j] ∧ Q (.int (if j < i then j else i)) H) := by
  intro pins s σ H xs us Q I r h
  obtain ⟨i, j, rfl, q⟩ := h
  obtain ⟨u, w', rfl, ⟨t, rfl⟩, ⟨t', rfl⟩⟩ := vals2 r
  refine min_two_ints (I.ok.hd hc) fun h' tk k => ⟨_, H, I.kept k, ?_, q⟩
  by_cases hj : j < i
  · rw [if_pos hj, if_pos hj]; exact ⟨_, rfl⟩
  · rw [if_neg hj, if_neg hj]; exact ⟨_, rfl⟩
theorem call_int1 : CallR X (.type "int") (fun xs H Q => (∃ i, xs = [.int i] ∧ Q (.int i) H) ∨ ∃ k, xs = [.bl k] ∧ Q (.int (if k then 1 else 0)) H) := by
  intro pins s σ H xs us Q I r h
  rcases h with ⟨i, rfl, q⟩ | ⟨k, rfl, q⟩
  · obtain ⟨u, rfl, t, rfl⟩ := vals1 r
    exact call_int_int ⟨.int i, H, I, ⟨_, rfl⟩, q⟩
  · obtain ⟨u, rfl, r1⟩ := vals1 r
    cases r1
    exact call_int_bool ⟨.int (if k then 1 else 0), H, I.tok _, ⟨_, rfl⟩, q⟩
theorem call_bool1 : CallR X (.type "bool") (fun xs H Q => (∃ i, xs = [.int i] ∧ Q (.bl (i != 0)) H) ∨ ∃ k, xs = [.bl k] ∧ Q (.bl k) H) := by
  intro pins s σ H xs us Q I r h
  rcases h with ⟨i, rfl, q⟩ | ⟨k, rfl, q⟩
  · obtain ⟨u, rfl, t, rfl⟩ := vals1 r
    exact call_bool_int ⟨.bl (i != 0), H, I, rfl, q⟩
  · obtain ⟨u, rfl, r1⟩ := vals1 r
    cases r1
    exact call_bool_bool ⟨.bl k, H, I, rfl, q⟩
theorem call_str_int : CallR X (.type "str") (fun xs H Q => ∃ i, xs = [.int i] ∧ i.natAbs.log2 < 1920 ∧ Q (.str (toString i)) H) := by
  intro pins s σ H xs us Q I r h
  obtain ⟨i, rfl, hz, q⟩ := h
  obtain ⟨u, rfl, t, rfl⟩ := vals1 r
  exact PySem.P.str_of_int hz ⟨.str _, H, I.tok _, ⟨_, rfl⟩, q⟩
theorem call_ord : CallR X (.builtin "ord") (fun xs H Q => ∃ x, xs = [.str x] ∧ x.length = 1 ∧ Q (.int (x.cps.getD 0 0 : Nat)) H) := by
  intro pins s σ H xs us Q I r h
  obtain ⟨x, rfl, hz, q⟩ := h
  obtain ⟨u, rfl, t, rfl⟩ := vals1 r
  exact ord_of_one hz ⟨.int _, H, I.tok _, ⟨_, rfl⟩, q⟩
theorem call_chr : CallR X (.builtin "chr") (fun xs H Q => ∃ i, xs = [.int i] ∧ 0 ≤ i ∧ i ≤ 1114111 ∧ Q (.str ⟨#[i.toNat]⟩) H) := by
  intro pins s σ H xs us Q I r h
  obtain ⟨i, rfl, h0, h1, q⟩ := h
  obtain ⟨u, rfl, t, rfl⟩ := vals1 r
  exact chr_of_range h0 h1 ⟨.str _, H, I.tok _, ⟨_, rfl⟩, q⟩
/-- len of a str, a bytes, a list, a tuple -/
def LenV (K : PySem.W.Frag) (x : V) (H : Hp) (n : Nat) : Prop :=
  match x with
  | .str y => y.length ≤ sizeLine ∧ n = y.length
  | .byt y => y.size ≤ sizeLine ∧ n = y.size
  | .ref p => (∃ xs, SqL K H p xs ∧ n = xs.length) ∨ ∃ xs, SqT K H p xs ∧ n = xs.length
  | _ => False
theorem call_len : CallR X (.builtin "len") (fun xs H Q => ∃ x n, xs = [x] ∧ LenV X.K x H n ∧ Q (.int n) H) := by
  intro pins s σ H xs us Q I r h
  obtain ⟨x, n, rfl, e, q⟩ := h
  obtain ⟨u, rfl, rx⟩ := vals1 r
  have hl := line63
  have hs : sizeLine = 16777216 := sizeLine_eq
  cases x with
  | str y =>
    obtain ⟨t, rfl⟩ := rx
    obtain ⟨hy, e'⟩ : y.length ≤ sizeLine ∧ n = y.length := e
    subst e'
    exact len_str (by omega) ⟨.int _, H, I.tok _, ⟨_, rfl⟩, q⟩
  | byt y =>
    obtain ⟨t, rfl⟩ := rx
    obtain ⟨hy, e'⟩ : y.size ≤ sizeLine ∧ n = y.size := e
    subst e'
    exact PySem.W.len_bytes (by omega) ⟨.int _, H, I.tok _, ⟨_, rfl⟩, q⟩
  | ref p =>
    cases rx
    have e' : (∃ xs, SqL X.K H p xs ∧ n = xs.length) ∨ ∃ xs, SqT X.K H p xs ∧ n = xs.length := e
    rcases e' with ⟨xs, hx, e'⟩ | ⟨xs, hx, e'⟩
    · subst e'
      obtain ⟨its, r', pl, hz⟩ := I.list hx
      have hlen := r'.length
      exact Calls.call_len_list pl.isList (by simp only [List.size_toArray]; omega) ⟨.int xs.length, H, I.tok _, ⟨_, by simp only [List.size_toArray]; rw [hlen]⟩, q⟩
    · subst e'
      obtain ⟨its, r', pl, hz⟩ := I.tuple hx
      have hlen := r'.length
      exact len_tuple pl (by simp only [List.size_toArray]; omega) ⟨.int xs.length, H, I.tok _, ⟨_, by simp only [List.size_toArray]; rw [hlen]⟩, q⟩
  | _ => exact (show False from e).elim
/-- divmod: a new tuple -/
theorem call_divmod : CallR X (.builtin "divmod") (fun xs H Q => ∃ i j, xs = [.int i, .int j] ∧ CDiv i j ∧ ∀ p, H p = none → Q (.ref p) (upd H p (.tup [.int (i / j), .int (i % j)]))) := by
  intro pins s σ H xs us Q I r h
  obtain ⟨i, j, rfl, ⟨h1, h2⟩, q⟩ := h
  obtain ⟨u, w', rfl, ⟨t, rfl⟩, ⟨t', rfl⟩⟩ := vals2 r
  refine divmod_int (by omega) ?_ (.inl (PyProof.noPylong_small (by omega)))
  rw [Int.fdiv_eq_ediv_of_nonneg i (by omega), Int.fmod_eq_emod_of_nonneg i (by omega)]
  have hn : H s.heap.objs.size = none := I.hok.fresh (Nat.le_refl _)
  refine ⟨.ref s.heap.objs.size, _, ?_, rfl, q _ hn⟩
  refine I.laid (fun b o e => Heap.get?_push_of_some _ e) (Nat.le_refl _) ⟨by simp only [List.length_cons, List.length_nil]; rw [sizeLine_eq]; decide, [.int (i / j) s.toks, .int (i % j) (s.toks + 1)], .cons ⟨_, rfl⟩ (.cons ⟨_, rfl⟩ .nil), ?_⟩
  exact ⟨_, Heap.get?_push_size s.heap rfl, rfl, 0, rfl⟩
end
end L2

namespace L2
open PySem PySem.Spec PyProof.Rows

/-! ### an instance, its attributes a map -/
structure ObjM (h : Heap) (x dx C : Addr) (mA : Str → Option Value) : Prop where
  obj : h.get? x = some (PySem.W.instObj C dx)
  ns : h.Ns1 dx mA
  ne : dx ≠ x

theorem lookIn_ns {h : Heap} {dx : Addr} {mA : Str → Option Value} (n : h.Ns1 dx mA) : ∃ od, h.get? dx = some od ∧ ∀ name, PySem.W.lookIn name od = some (mA name) := by
  obtain ⟨o, es, ep, ho, hd, hk, _, hm⟩ := n
  refine ⟨o, ho, fun name => ?_⟩
  have e := hm name
  unfold nsFind findBy at e
  rw [← Array.find?_toList] at e
  unfold PySem.W.lookIn
  rw [hd]
  dsimp only
  split
  · rename_i y q
    rw [q] at e
    exact congrArg some e
  · rename_i q
    rw [q] at e
    have a : es.toList.any (·.refKey) = false := by
      rw [List.any_eq_false]
      intro y hy
      obtain ⟨z, t, hkey⟩ := hk y (Array.mem_toList_iff.mp hy)
      simp [DictEntry.refKey, hkey]
    have a' : ¬ es.toList.any (·.refKey) = true := by rw [a]; exact Bool.false_ne_true
    rw [if_neg a']
    exact congrArg some e

theorem ObjM.look {h : Heap} {x dx C : Addr} {mA : Str → Option Value} (I : ObjM h x dx C mA) : ∃ od, PySem.W.InstAt h x (PySem.W.instObj C dx) C (some od) ∧ ∀ name, PySem.W.lookIn name od = some (mA name) :=
  let ⟨od, ho, hl⟩ := lookIn_ns I.ns
  ⟨od, ⟨I.obj, rfl, rfl, ho⟩, hl⟩

section
variable {prog : Program} {w : World} {A : Around} {E : Value → Shared → Prop} {s : Shared} {K : PySem.W.Frag} {x dx C f : Addr} {mA : Str → Option Value} {name : Str} {v : Value}

theorem get_map {expr : Bool} {Q : Value → Shared → Prop} (X : K.In s.heap) (I : ObjM s.heap x dx C mA) (hg : PySem.W.plainGet K C name = true) (hh : PySem.W.hasDictIn K C = true)
    (ha : PySem.W.findIn K (.ref C) name = some none) (hv : mA name = some v) (hv' : PySem.W.handedIn v = true) (h : Q v { s with toks := s.toks + 1 }) :
    wpAny (model prog w) A (getAttr (.ref x) name expr) Q E s := by
  obtain ⟨od, J, hl⟩ := I.look
  exact PySem.W.get_value X J (PySem.W.plainGet_of hg).1 (PySem.W.findObj_own hh ha rfl (by rw [hl, hv])) hv' h

theorem get_const {expr : Bool} {a : Value} {Q : Value → Shared → Prop} (X : K.In s.heap) (I : ObjM s.heap x dx C mA) (hg : PySem.W.plainGet K C name = true) (hh : PySem.W.hasDictIn K C = true)
    (ha : PySem.W.findIn K (.ref C) name = some (some a)) (hn : PySem.W.specialIn K a "__get__" = some none) (hc : PySem.W.copiedNames.contains name = false) (hv : mA name = none) (hv' : PySem.W.handedIn a = true)
    (h : Q a { s with toks := s.toks + 1 }) : wpAny (model prog w) A (getAttr (.ref x) name expr) Q E s := by
  obtain ⟨od, J, hl⟩ := I.look
  exact PySem.W.get_value X J (PySem.W.plainGet_of hg).1 (PySem.W.findObj_cls hh ha hn hv' hc (by rw [hl, hv])) hv' h

theorem get_meth {pl : Sem Bool} {Q : Value × List Value → Shared → Prop} (X : K.In s.heap) (I : ObjM s.heap x dx C mA) (hg : PySem.W.plainGet K C name = true)
    (hf : PySem.W.findIn K (.ref C) name = some (some (.ref f))) (ht : PySem.W.isFn K (.ref f) = true) (hv : mA name = none) (h : Q (.ref f, [.ref x]) s) :
    wpAny (model prog w) A (getMethod (.ref x) name pl) Q E s := by
  obtain ⟨od, J, hl⟩ := I.look
  exact PySem.W.method_fn X J (PySem.W.plainGet_of hg).1 (PySem.W.plainGet_of hg).2 hf (beq_iff_eq.mp ht) (by show (PySem.W.lookIn name od).map (·.isSome) = some false; rw [hl, hv]; rfl) h

theorem set_map {ns : List Str} {Q : Unit → Shared → Prop} (X : K.In s.heap) (I : ObjM s.heap x dx C mA)
    (hs : PySem.W.findIn K (.ref C) "__setattr__" = some (some (.builtin "object.__setattr__"))) (hp : PySem.W.plainOver K C = true) (ht : PySem.W.takerIn K C name = some none) (hh : PySem.W.hasDictIn K C = true)
    (hw : PySem.Within mA ns) (hsz : ns.length ≤ sizeLine)
    (h : ∀ h', ObjM h' x dx C (fun y => if y = name then some v else mA y) → Heap.SameBut dx s.heap h' → Q () { s with heap := h', toks := s.toks + 2 }) :
    wpAny (model prog w) A (setAttr (.ref x) name v) Q E s := by
  obtain ⟨od, J, hl⟩ := I.look
  refine PySem.W.set_plain X J hs (PySem.W.osa_open (s := { s with toks := s.toks + 1 }) (r := none) X J hp ht fun b => ?_)
  obtain ⟨cd, hc, hd'⟩ := PySem.W.any_some hh
  have hx : s.heap.get? x = some ⟨.ref C, some dx, .plain, #[]⟩ := I.obj
  refine wpAny_bind (wpAny_pure (wpAny_bind (wpAny_bind (wpAny_loadPart hx (wpAny_bind (PySem.W.Looks.here (s := { s with toks := s.toks + 1 }) (PySem.W.looks_clsIn X hc) ?_))))))
  rw [hd']
  refine wpAny_pure (a := some dx) (wpAny_bind (wpAny_pure (wpAny_bind ?_)))
  refine wpAny_nsSet1 (s := { s with toks := s.toks + 1 }) I.ns fun h' hn2 hs2 => ?_
  obtain ⟨oD, esD, epD, hoD, hdD, hcD⟩ := hn2.count (PySem.Within.cons name v hw)
  refine wpAny_bind (wpAny_lookBehind hoD (by rw [hdD]; exact pastItsLine_dict (Nat.le_trans hcD (by rw [List.length_cons]; omega))) ?_)
  exact wpAny_pure (h _ ⟨(hs2.2 _ (Ne.symm I.ne)).trans I.obj, hn2, I.ne⟩ hs2)

/-- C(..): the dict at the heap's end, the instance behind it; then its __init__ -/
theorem make_map {R : Result → Shared → Prop} {vs : List Value} {kw : List (Str × Value)} (X : K.In s.heap) (hm : PySem.W.makesIn K C = true)
    (hi : PySem.W.findIn K (.ref C) "__init__" = some (some (.ref f))) (hf : PySem.W.typeIn K (.ref f) = some (.type "function"))
    (h : codeAny (model prog w) (A.under (.builtin "type.__call__" ⟨.ref C :: vs, kw⟩)) (.call (.ref f) ⟨.ref (s.heap.objs.size + 1) :: vs, kw⟩) (PySem.W.InitBack (s.heap.objs.size + 1) R)
      { s with heap := (s.heap.push PySem.W.emptyDict).push (PySem.W.instObj C s.heap.objs.size) }) :
    codeAny (model prog w) A (.call (.ref C) ⟨vs, kw⟩) R s := by
  obtain ⟨hh, g, d, t, os⟩ := s
  exact PySem.W.make_core (PySem.W.makes_of X hm) (PySem.W.looks_findIn X hi) (fun self => PySem.W.bind_fn X self hf) (.inl rfl) h
/-- C() where there is no __init__ but object's -/
theorem make_map0 {R : Result → Shared → Prop} (X : K.In s.heap) (hm : PySem.W.makesIn K C = true)
    (hi : PySem.W.findIn K (.ref C) "__init__" = some (some (.builtin "object.__init__")))
    (hb : ∀ self, PySem.W.Looks (model prog w) s.heap (bindSpecial (.builtin "object.__init__") self) (.builtin "object.__init__", [self]))
    (h : codeAny (model prog w) (A.under (.builtin "type.__call__" ⟨[.ref C], []⟩)) (.call (.builtin "object.__init__") ⟨[.ref (s.heap.objs.size + 1)], []⟩) (PySem.W.InitBack (s.heap.objs.size + 1) R)
      { s with heap := (s.heap.push PySem.W.emptyDict).push (PySem.W.instObj C s.heap.objs.size) }) :
    codeAny (model prog w) A (.call (.ref C) ⟨[], []⟩) R s := by
  obtain ⟨hh, g, d, t, os⟩ := s
  exact PySem.W.make_core (PySem.W.makes_of X hm) (PySem.W.looks_findIn X hi) hb (.inr ⟨rfl, rfl⟩) h
end

/-! ### the attributes as a list of pairs -/
def putF (f : Str) (v : V) : List (Str × V) → List (Str × V)
  | [] => [(f, v)]
  | (g, x) :: r => if g = f then (g, v) :: r else (g, x) :: putF f v r
theorem lookup_putF (f g : Str) (v : V) : ∀ fs : List (Str × V), (putF f v fs).lookup g = if g = f then some v else fs.lookup g
  | [] => by
    show List.lookup g [(f, v)] = _
    by_cases h : g = f
    · have hb : (g == f) = true := beq_iff_eq.mpr h
      simp only [List.lookup, hb, if_pos h]
    · have hb : (g == f) = false := beq_eq_false_iff_ne.mpr h
      simp only [List.lookup, hb, if_neg h]
  | (k, x) :: r => by
    have ih := lookup_putF f g v r
    rw [show putF f v ((k, x) :: r) = (if k = f then (k, v) :: r else (k, x) :: putF f v r) from rfl]
    by_cases hk : k = f
    · rw [if_pos hk]
      by_cases h : g = k
      · have hb : (g == k) = true := beq_iff_eq.mpr h
        simp only [List.lookup, hb, if_pos (h.trans hk)]
      · have hb : (g == k) = false := beq_eq_false_iff_ne.mpr h
        simp only [List.lookup, hb, if_neg (fun e : g = f => h (e.trans hk.symm))]
    · rw [if_neg hk]
      by_cases h : g = k
      · have hb : (g == k) = true := beq_iff_eq.mpr h
        simp only [List.lookup, hb, if_neg (fun e : g = f => hk (h.symm.trans e))]
      · have hb : (g == k) = false := beq_eq_false_iff_ne.mpr h
        simp only [List.lookup, hb]
        exact ih
theorem keys_putF (f : Str) (v : V) : ∀ fs : List (Str × V), f ∈ (putF f v fs).map (·.1) ∧ ∀ g, g ∈ fs.map (·.1) → g ∈ (putF f v fs).map (·.1)
  | [] => ⟨by simp [putF], fun g h => by simp at h⟩
  | (k, x) :: r => by
    obtain ⟨i1, i2⟩ := keys_putF f v r
    rw [show putF f v ((k, x) :: r) = (if k = f then (k, v) :: r else (k, x) :: putF f v r) from rfl]
    by_cases hk : k = f
    · rw [if_pos hk]
      subst hk
      exact ⟨by simp, fun g h => by simpa using h⟩
    · rw [if_neg hk]
      refine ⟨?_, fun g h => ?_⟩
      · rw [List.map_cons]
        exact List.mem_cons_of_mem _ i1
      · rw [List.map_cons] at h ⊢
        rcases List.mem_cons.mp h with e | e
        · exact List.mem_cons.mpr (.inl e)
        · exact List.mem_cons_of_mem _ (i2 g e)
theorem length_putF (f : Str) (v : V) : ∀ fs : List (Str × V), (putF f v fs).length ≤ fs.length + 1
  | [] => by simp [putF]
  | (k, x) :: r => by
    have ih := length_putF f v r
    rw [show putF f v ((k, x) :: r) = (if k = f then (k, v) :: r else (k, x) :: putF f v r) from rfl]
    by_cases hk : k = f
    · rw [if_pos hk, List.length_cons, List.length_cons]; omega
    · rw [if_neg hk, List.length_cons, List.length_cons]; omega

theorem RelO.some_of {v : V} {o : Option Value} (r : RelO (some v) o) : ∃ u, o = some u ∧ RelV v u := by
  cases o with
  | none => exact (show False from r).elim
  | some u => exact ⟨u, rfl, r⟩
theorem RelO.none_of {o : Option Value} (r : RelO none o) : o = none := by
  cases o with
  | none => rfl
  | some u => exact (show False from r).elim
theorem handed_of {v : V} {u : Value} (r : RelV v u) : PySem.W.handedIn u = true := by
  cases v with
  | non => cases (show u = Value.none from r); rfl
  | bl b => cases (show u = Value.bool b from r); rfl
  | int i => obtain ⟨t, e⟩ := (show ∃ t, u = Value.int i t from r); cases e; rfl
  | str x => obtain ⟨t, e⟩ := (show ∃ t, u = Value.str x t from r); cases e; rfl
  | byt b => obtain ⟨t, e⟩ := (show ∃ t, u = Value.bytes b t from r); cases e; rfl
  | flt b => obtain ⟨t, e⟩ := (show ∃ t, u = Value.float b t from r); cases e; rfl
  | ref a => cases (show u = Value.ref a from r); rfl
  | ty n => cases (show u = Value.type n from r); rfl

section
variable {P : Program} {w : World} {H H' : Hp} {h h' : Heap} {a C dx : Addr} {fs fs' : List (Str × V)}
theorem ins_get (hok : HOk P w H h) (e : H a = some (.ins C dx fs)) : ∃ mA, ObjM h a dx C mA ∧ (∀ f, RelO (fs.lookup f) (mA f)) ∧ PySem.Within mA (fs.map (·.1)) ∧ fs.length ≤ 1000 ∧ H dx = some (.own a) := by
  obtain ⟨d, z, ne, ob, mA, n, r, q⟩ := (show ObjOk P w H h a (.ins C dx fs) from hok a _ e)
  exact ⟨mA, ⟨ob, n, ne⟩, r, q, z, d⟩
end

/-! ### what of the text a class must have -/
structure Cls (K : PySem.W.Frag) (C : Addr) : Prop where
  pg : PySem.W.plainGet K C Str.empty = true
  hd : PySem.W.hasDictIn K C = true
  po : PySem.W.plainOver K C = true
  sa : PySem.W.findIn K (.ref C) "__setattr__" = some (some (.builtin "object.__setattr__"))
theorem Cls.get {K : PySem.W.Frag} {C : Addr} (c : Cls K C) (f : Str) : PySem.W.plainGet K C f = true := c.pg
/-- no class of it has the name -/
def NoAttr (K : PySem.W.Frag) (C : Addr) (f : Str) : Prop := PySem.W.findIn K (.ref C) f = some none
theorem NoAttr.taker {K : PySem.W.Frag} {C : Addr} {f : Str} (n : NoAttr K C f) : PySem.W.takerIn K C f = some none := by
  unfold PySem.W.takerIn
  rw [show PySem.W.findIn K (.ref C) f = some none from n]
  rfl
/-- a constant of the class -/
structure Con (K : PySem.W.Frag) (C : Addr) (f : Str) (v : V) (u : Value) : Prop where
  at_ : PySem.W.findIn K (.ref C) f = some (some u)
  rel : RelV v u
  get : PySem.W.specialIn K u "__get__" = some none
  cp : PySem.W.copiedNames.contains f = false
/-- a method: a plain def of the class or of one above it -/
structure Meth (K : PySem.W.Frag) (C : Addr) (m : Str) (f : Addr) : Prop where
  at_ : PySem.W.findIn K (.ref C) m = some (some (.ref f))
  fn : PySem.W.isFn K (.ref f) = true
  kp : PySem.W.keepIn K (.ref f) = true

section
variable {X : Cx} {pins : List (Addr × Obj)} {σ : St} {H : Hp} {s : Shared} {a C dx : Addr} {fs : List (Str × V)} {f : Str} {v : V} {A : Around} {E : Value → Shared → Prop}

theorem getattr_ok {b : Bool} {Q : Value → Shared → Prop} (I : Inv X pins σ H s) (e : H a = some (.ins C dx fs)) (c : Cls X.K C) (n : NoAttr X.K C f) (l : fs.lookup f = some v)
    (h : ∀ u s', Inv X pins σ H s' → RelV v u → Q u s') : wpAny (model X.prog X.w) A (getAttr (.ref a) f b) Q E s := by
  obtain ⟨mA, O, r, _, _, _⟩ := ins_get I.hok e
  obtain ⟨u, hu, ru⟩ := RelO.some_of (v := v) (o := mA f) (by rw [← l]; exact r f)
  exact get_map I.kIn O (c.get f) c.hd n hu (handed_of ru) (h u _ (I.tok _) ru)

theorem getcon_ok {b : Bool} {u : Value} {Q : Value → Shared → Prop} (I : Inv X pins σ H s) (e : H a = some (.ins C dx fs)) (c : Cls X.K C) (k : Con X.K C f v u) (l : fs.lookup f = none)
    (h : ∀ s', Inv X pins σ H s' → Q u s') : wpAny (model X.prog X.w) A (getAttr (.ref a) f b) Q E s := by
  obtain ⟨mA, O, r, _, _, _⟩ := ins_get I.hok e
  have hn : mA f = none := RelO.none_of (by rw [← l]; exact r f)
  exact get_const I.kIn O (c.get f) c.hd k.at_ k.get k.cp hn (handed_of k.rel) (h _ (I.tok _))

theorem getmeth_ok {m : Str} {g : Addr} {pl : Sem Bool} {Q : Value × List Value → Shared → Prop} (I : Inv X pins σ H s) (e : H a = some (.ins C dx fs)) (c : Cls X.K C) (k : Meth X.K C m g) (l : fs.lookup m = none)
    (h : Q (.ref g, [.ref a]) s) : wpAny (model X.prog X.w) A (getMethod (.ref a) m pl) Q E s := by
  obtain ⟨mA, O, r, _, _, _⟩ := ins_get I.hok e
  have hn : mA m = none := RelO.none_of (by rw [← l]; exact r m)
  exact get_meth I.kIn O (c.get m) k.at_ k.fn hn h

theorem setattr_ok {y : V} {u : Value} {Q : Unit → Shared → Prop} (I : Inv X pins σ H s) (e : H a = some (.ins C dx fs)) (c : Cls X.K C) (n : NoAttr X.K C f) (hl : fs.length < 1000) (ry : RelV y u)
    (h : ∀ s', Inv X pins σ (upd H a (.ins C dx (putF f y fs))) s' → Q () s') : wpAny (model X.prog X.w) A (setAttr (.ref a) f u) Q E s := by
  obtain ⟨mA, O, r, wi, _, ho⟩ := ins_get I.hok e
  have hz : (fs.map (·.1)).length ≤ sizeLine := by rw [List.length_map, sizeLine_eq]; omega
  refine set_map I.kIn O c.sa c.po n.taker c.hd wi hz fun h' O' sb => h _ ?_
  have hd : ∃ o, h'.get? dx = some o := let ⟨o, _, _, e', _⟩ := O'.ns; ⟨o, e'⟩
  refine I.write (x := a) (e := dx) (by rw [e]; exact True.intro) (.inr ho) (fun b q hb z => (sb.2 b hb).trans z) hd ?_
  refine ⟨by rw [upd_ne O.ne]; exact ho, ?_, O.ne, O'.obj, _, O'.ns, fun g => ?_, fun g hg => ?_⟩
  · have := length_putF f y fs; omega
  · show RelO ((putF f y fs).lookup g) (if g = f then some u else mA g)
    rw [lookup_putF]
    by_cases q : g = f
    · rw [if_pos q, if_pos q]; exact ry
    · rw [if_neg q, if_neg q]; exact r g
  · by_cases q : g = f
    · rw [q]; exact (keys_putF f y fs).1
    · refine (keys_putF f y fs).2 g (wi g fun z => hg ?_)
      show (if g = f then some u else mA g) = none
      rw [if_neg q]; exact z

/-- a new instance, tracked, without attributes -/
theorem Inv.made (I : Inv X pins σ H s) : Inv X pins σ (upd (upd H s.heap.objs.size (.own (s.heap.objs.size + 1))) (s.heap.objs.size + 1) (.ins C s.heap.objs.size []))
    { s with heap := (s.heap.push PySem.W.emptyDict).push (PySem.W.instObj C s.heap.objs.size) } := by
  have e1 : (s.heap.push PySem.W.emptyDict).get? s.heap.objs.size = some PySem.W.emptyDict := Heap.get?_push_size s.heap rfl
  have e2 : ((s.heap.push PySem.W.emptyDict).push (PySem.W.instObj C s.heap.objs.size)).get? (s.heap.objs.size + 1) = some (PySem.W.instObj C s.heap.objs.size) := by
    have := Heap.get?_push_size (s.heap.push PySem.W.emptyDict) (o := PySem.W.instObj C s.heap.objs.size) rfl
    rwa [Heap.size_push] at this
  have e3 : (s.heap.push PySem.W.emptyDict).Ns s.heap.objs.size (fun _ => none) := ⟨PySem.W.emptyDict, #[], _, e1, rfl, (fun e he => absurd he (by simp)), fun _ => rfl⟩
  have I1 := I.laid (a := s.heap.objs.size) (o := .own (s.heap.objs.size + 1)) (h' := s.heap.push PySem.W.emptyDict) (t' := s.toks) (fun b u q => Heap.get?_push_of_some _ q) (Nat.le_refl _) ⟨_, e1⟩
  refine I1.laid (a := s.heap.objs.size + 1) (o := .ins C s.heap.objs.size []) (t' := s.toks) (fun b u q => Heap.get?_push_of_some _ q) (Nat.le_of_eq (Heap.size_push _ _)) ?_
  have ne : s.heap.objs.size ≠ s.heap.objs.size + 1 := Nat.ne_of_lt (Nat.lt_succ_self _)
  refine ⟨by rw [upd_ne ne, upd_same], Nat.zero_le _, ne, e2, fun _ => none, (Heap.Ns1.of_empty e3).at fun o q => Heap.get?_push_of_some _ q, fun _ => True.intro, fun y hy => absurd rfl hy⟩

/-- e.f where nothing but the object is asked: through attributeBase (super) and the last hold -/
theorem attr_of {prog : Program} {w : World} {env : Env} {e : Expr} {f : Str} {pos : Pos} {s : Shared} {Q : Value → Shared → Prop} (hb : attributeBase e f env (eval e env) = eval e env)
    (h : wpAny (model prog w) A (eval e env) (fun o s₁ => wpAny (model prog w) A (getAttr o f true) Q E s₁) E s) : wpAny (model prog w) A (eval (.Attribute e f pos) env) Q E s :=
  Attribute_any_ h (by rw [arm_eval_Attribute, hb])
end

/-! ### readings and rules -/
/-- e.f, an attribute of the instance -/
def tFld (K : PySem.W.Frag) (ta : TE) (f : Str) : TE := fun σ H Q => ta σ H fun x H1 => ∃ a C dx fs v, x = .ref a ∧ H1 a = some (.ins C dx fs) ∧ Cls K C ∧ NoAttr K C f ∧ fs.lookup f = some v ∧ Q v H1
/-- e.f, a constant of the class -/
def tCon (K : PySem.W.Frag) (ta : TE) (f : Str) : TE := fun σ H Q => ta σ H fun x H1 => ∃ a C dx fs v u, x = .ref a ∧ H1 a = some (.ins C dx fs) ∧ Cls K C ∧ Con K C f v u ∧ fs.lookup f = none ∧ Q v H1
/-- e.f = value -/
def sFld (K : PySem.W.Frag) (ta tv : TE) (f : Str) : TS := fun D σ H => tv σ H fun y H1 => ta σ H1 fun x H2 => ∃ a C dx fs, x = .ref a ∧ H2 a = some (.ins C dx fs) ∧ Cls K C ∧ NoAttr K C f ∧ fs.length < 1000 ∧
  D.nx σ (upd H2 a (.ins C dx (putF f y fs)))
/-- an augmented operator on two values -/
def InOp (X : Cx) (op : Operator) (rd : V → V → Hp → VK → Prop) : Prop :=
  ∀ (pins : List (Addr × Obj)) (s : Shared) (σ : St) (H : Hp) (x y : V) (u v : Value) (Q : VK), Inv X pins σ H s → RelV x u → RelV y v → rd x y H Q → wpAny (model X.prog X.w) X.A (inplaceOp op u v) (EP X pins σ Q) X.xe s
/-- e.f op= value -/
def sFldAug (K : PySem.W.Frag) (ta tv : TE) (rd : V → V → Hp → VK → Prop) (f : Str) : TS := fun D σ H => ta σ H fun x H1 => ∃ a C dx fs v, x = .ref a ∧ H1 a = some (.ins C dx fs) ∧ Cls K C ∧ NoAttr K C f ∧ fs.lookup f = some v ∧
  tv σ H1 fun y H2 => rd v y H2 fun z H3 => ∃ dx' fs', H3 a = some (.ins C dx' fs') ∧ fs'.length < 1000 ∧ D.nx σ (upd H3 a (.ins C dx' (putF f z fs')))

section
variable {X : Cx} {o e value : Expr} {f : Str} {pos pos' tpos : Pos} {ta tv : TE}
theorem pe_fld (he : PE X e ta) (hb : attributeBase e f X.env (eval e X.env) = eval e X.env) : PE X (.Attribute e f pos) (tFld X.K ta f) := by
  intro pins s σ H Q I h
  refine attr_of hb (thn (he pins s σ H _ I h) fun u s1 ⟨x, H1, I1, rx, a, C, dx, fs, v, ex, ea, c, n, l, q⟩ => ?_)
  subst ex
  obtain rfl : u = Value.ref a := rx
  exact getattr_ok I1 ea c n l fun u' s2 I2 ru => ⟨v, H1, I2, ru, q⟩
theorem pe_con (he : PE X e ta) (hb : attributeBase e f X.env (eval e X.env) = eval e X.env) : PE X (.Attribute e f pos) (tCon X.K ta f) := by
  intro pins s σ H Q I h
  refine attr_of hb (thn (he pins s σ H _ I h) fun u s1 ⟨x, H1, I1, rx, a, C, dx, fs, v, u0, ex, ea, c, k, l, q⟩ => ?_)
  subst ex
  obtain rfl : u = Value.ref a := rx
  exact getcon_ok I1 ea c k l fun s2 I2 => ⟨v, H1, I2, k.rel, q⟩
theorem ps_fld (ha : PE X o ta) (hv : PE X value tv) (hs : swapsWith value (some (.Attribute o f pos')) pos.line X.env = pure false) : PS X (.Assign [.Attribute o f pos'] value pos) (sFld X.K ta tv f) := by
  intro pins s σ H D I h
  refine plainObj_wpAny_Assign_Attribute (thn (hv pins s σ H _ I h) fun u s1 ⟨y, H1, I1, ry, q⟩ => thn (ha pins s1 σ H1 _ I1 q) fun ov s2 ⟨x, H2, I2, rx, a, C, dx, fs, ex, ea, c, n, l, q2⟩ => ?_) hs
  subst ex
  obtain rfl : ov = Value.ref a := rx
  exact setattr_ok I2 ea c n l ry fun s3 I3 => ⟨σ, _, I3, q2⟩
theorem ps_fldaug {op : Operator} {rd : V → V → Hp → VK → Prop} (ha : PE X o ta) (hv : PE X value tv) (hop : InOp X op rd) : PS X (.AugAssign (.Attribute o f tpos) op value pos) (sFldAug X.K ta tv rd f) := by
  intro pins s σ H D I h
  refine wpAny_AugAssign_AttributeAny (thn (ha pins s σ H _ I h) fun ov s1 ⟨x, H1, I1, rx, a, C, dx, fs, v, ex, ea, c, n, l, q⟩ => ?_)
  subst ex
  obtain rfl : ov = Value.ref a := rx
  refine getattr_ok I1 ea c n l fun u s2 I2 ru => thn (hv pins s2 σ H1 _ I2 q) fun w3 s3 ⟨y, H2, I3, ry, q3⟩ => thn (hop pins s3 σ H2 v y u w3 _ I3 ru ry q3) fun w4 s4 ⟨z, H3, I4, rz, dx', fs', ea', l', q4⟩ => ?_
  exact setattr_ok I4 ea' c n l' rz fun s5 I5 => ⟨σ, _, I5, q4⟩
def rAdd : V → V → Hp → VK → Prop := fun x y H Q => ∃ i j, x = .int i ∧ y = .int j ∧ Q (.int (i + j)) H
def rSub : V → V → Hp → VK → Prop := fun x y H Q => ∃ i j, x = .int i ∧ y = .int j ∧ Q (.int (i - j)) H
theorem in_add : InOp X .Add rAdd := by
  rintro pins s σ H x y u v Q I rx ry ⟨i, j, rfl, rfl, q⟩
  obtain ⟨t, rfl⟩ := (show ∃ t, u = Value.int i t from rx)
  obtain ⟨t', rfl⟩ := (show ∃ t', v = Value.int j t' from ry)
  exact PyProof.Rows.iadd_int ⟨.int (i + j), H, I.tok _, ⟨_, rfl⟩, q⟩
theorem in_sub : InOp X .Sub rSub := by
  rintro pins s σ H x y u v Q I rx ry ⟨i, j, rfl, rfl, q⟩
  obtain ⟨t, rfl⟩ := (show ∃ t, u = Value.int i t from rx)
  obtain ⟨t', rfl⟩ := (show ∃ t', v = Value.int j t' from ry)
  exact PyProof.Rows.isub_int ⟨.int (i - j), H, I.tok _, ⟨_, rfl⟩, q⟩

/-- what is between an instance and its method: the tree of a method call -/
theorem methcall_of {pl : Sem Bool} {m : Str} {apos : Pos} {args : List Expr} {pins : List (Addr × Obj)} {s : Shared} {σ : St} {H : Hp} {Q : Value → Shared → Prop} {te : TE} (he : PE X e te) (I : Inv X pins σ H s)
    (h : te σ H fun x H1 => ∃ a C dx fs g, x = .ref a ∧ H1 a = some (.ins C dx fs) ∧ Cls X.K C ∧ Meth X.K C m g ∧ fs.lookup m = none ∧
      ∀ s1, Inv X pins σ H1 s1 → wpAny (model X.prog X.w) X.A (callWith pos (.ref g) [.ref a] (backTo pos (starEach args X.env)) (backToKw pos (keywordEach [] X.env))) Q X.xe s1)
    (ht : eval (.Call (.Attribute e m apos) args [] pos) X.env = (do
      let ov ← eval e X.env
      standAt apos.atName
      let (f, first) ← holding [ov] (getMethod ov m pl)
      callWith pos f first (backTo pos (starEach args X.env)) (backToKw pos (keywordEach [] X.env)))) :
    wpAny (model X.prog X.w) X.A (eval (.Call (.Attribute e m apos) args [] pos) X.env) Q X.xe s := by
  refine PySem.W.methodCall_KW (pl := pl) (thn (he pins s σ H _ I h) fun u s1 ⟨x, H1, I1, rx, a, C, dx, fs, g, ex, ea, c, k, l, q⟩ => ?_) ht
  subst ex
  obtain rfl : u = Value.ref a := rx
  exact getmeth_ok I1 ea c k l (q s1 I1)
end

/-! ### isinstance -/
section
variable {X : Cx} {pins : List (Addr × Obj)} {σ : St} {H : Hp} {s : Shared} {A : Around} {E : Value → Shared → Prop} {Q : Value → Shared → Prop} {c : Value} {b : Bool}
/-- the type of a value, as the fragment's deciders take it; for an instance its class -/
inductive TyOf (K : PySem.W.Frag) (H : Hp) : V → Value → Prop where
  | non : TyOf K H .non (.type "NoneType")
  | bl (x : Bool) : TyOf K H (.bl x) (.type "bool")
  | int (i : Int) : TyOf K H (.int i) (.type "int")
  | str (x : Str) : TyOf K H (.str x) (.type "str")
  | flt (x : UInt64) : TyOf K H (.flt x) (.type "float")
  | lst {a : Addr} {xs : List V} (e : H a = some (.lst xs)) : TyOf K H (.ref a) (.type "list")
  | frz {a : Addr} {o : Obj} {xs : List V} (e : H a = some (.frz o (.lst xs))) : TyOf K H (.ref a) (.type "list")
  | tup {a : Addr} {xs : List V} (e : H a = some (.tup xs)) : TyOf K H (.ref a) (.type "tuple")
  | dK {a : Addr} {kvs : List (Key × V)} (e : H a = some (.dK kvs)) : TyOf K H (.ref a) (.type "dict")
  | dT {a : Addr} {kvs : List (List Key × V)} (e : H a = some (.dT kvs)) : TyOf K H (.ref a) (.type "dict")
  | ins {a C dx : Addr} {fs : List (Str × V)} (e : H a = some (.ins C dx fs)) (cl : Cls K C) (ha : PySem.W.findIn K (.ref C) "__class__" = some (some (.builtin "object.__class__")))
      (hn : PySem.W.specialIn K (.builtin "object.__class__") "__get__" = some (some (.builtin "getset_descriptor.__get__"))) (htk : PySem.W.takesIn K (.builtin "object.__class__") = some true)
      (hm : PySem.W.mroIn K C (.type "object") = some true) : TyOf K H (.ref a) (.ref C)
/-- isinstance(x, c) for one class c, a built-in or an own one: kitOne's answer -/
theorem isinst_ok {x : V} {u t : Value} (I : Inv X pins σ H s) (rx : RelV x u) (ty : TyOf X.K H x t) (e : PySem.W.kitOne X.K t c = some b) (h : ∀ tk, Q (.bool b) { s with toks := tk }) :
    wpAny (model X.prog X.w) A (call (.builtin "isinstance") [u, c]) Q E s := by
  cases ty with
  | non => cases (show u = Value.none from rx); exact PySem.W.kia_one PySem.W.kitx_none I.kIn True.intro e (fun z => nomatch z) h
  | bl y => cases (show u = Value.bool y from rx); exact PySem.W.kia_one PySem.W.kitx_bool I.kIn True.intro e (fun z => nomatch z) h
  | int i => obtain ⟨t, q⟩ := (show ∃ t, u = Value.int i t from rx); cases q; exact PySem.W.kia_one PySem.W.kitx_int I.kIn True.intro e (fun z => nomatch z) h
  | str y => obtain ⟨t, q⟩ := (show ∃ t, u = Value.str y t from rx); cases q; exact PySem.W.kia_one PySem.W.kitx_str I.kIn True.intro e (fun z => nomatch z) h
  | flt y => obtain ⟨t, q⟩ := (show ∃ t, u = Value.float y t from rx); cases q; exact PySem.W.kia_one PySem.W.kitx_float I.kIn True.intro e (fun z => nomatch z) h
  | @lst a xs ea =>
    cases (show u = Value.ref a from rx)
    obtain ⟨_, _, n, _, h1⟩ := (show ObjOk X.prog X.w H s.heap a (.lst xs) from I.hok a _ ea)
    exact PySem.W.kia_one PySem.W.kitx_list I.kIn ⟨_, h1, rfl⟩ e (fun z => nomatch z) h
  | @frz a ob xs ea =>
    cases (show u = Value.ref a from rx)
    obtain ⟨_, _, _, n, _, h1⟩ := (show ObjOk X.prog X.w H s.heap a (.frz ob (.lst xs)) from I.hok a _ ea)
    exact PySem.W.kia_one PySem.W.kitx_list I.kIn ⟨_, h1, rfl⟩ e (fun z => nomatch z) h
  | @tup a xs ea =>
    cases (show u = Value.ref a from rx)
    obtain ⟨_, _, _, p⟩ := (show ObjOk X.prog X.w H s.heap a (.tup xs) from I.hok a _ ea)
    obtain ⟨o, h1, h2, _⟩ := p
    exact PySem.W.kia_one PySem.W.kitx_tuple I.kIn ⟨o, h1, h2⟩ e (fun z => nomatch z) h
  | @dK a kvs ea =>
    cases (show u = Value.ref a from rx)
    obtain ⟨_, _, vs, _, p⟩ := (show ObjOk X.prog X.w H s.heap a (.dK kvs) from I.hok a _ ea)
    obtain ⟨o, es, ep, h1, h2, _⟩ := p
    exact PySem.W.kia_one PySem.W.kitx_dict I.kIn ⟨o, h1, h2.1⟩ e (fun z => nomatch z) h
  | @dT a kvs ea =>
    cases (show u = Value.ref a from rx)
    obtain ⟨_, _, xs, _, o, es, ep, h1, h2, _⟩ := (show ObjOk X.prog X.w H s.heap a (.dT kvs) from I.hok a _ ea)
    exact PySem.W.kia_one PySem.W.kitx_dict I.kIn ⟨o, h1, h2.1⟩ e (fun z => nomatch z) h
  | @ins a C dx fs ea cl ha hn htk hm =>
    cases (show u = Value.ref a from rx)
    obtain ⟨mA, O, _⟩ := ins_get I.hok ea
    obtain ⟨od, J, _⟩ := O.look
    exact PySem.W.kia_one (PySem.W.kitx_own (cl.get _) cl.hd ha hn htk hm) I.kIn J e (fun z => nomatch z) h
end
end L2

namespace L2
open PySem PySem.Spec PyProof.Rows

/-! ### room -/
structure Room (k : Nat) (A : Around) : Prop where
  hd : A.handled = none
  dp : A.depth + 3 * k + 5 < recursionLimit
  un : A.units + 16 * k + 200 < cLine
theorem Room.mono {j k : Nat} {A : Around} (r : Room k A) (h : j ≤ k) : Room j A := ⟨r.hd, by have := r.dp; omega, by have := r.un; omega⟩
theorem Room.deeper {k : Nat} {A : Around} (r : Room (k + 1) A) (env : Env) : Room k (A.deeper env) :=
  ⟨r.hd, by have := r.dp; show A.depth + 1 + 3 * k + 5 < _; omega, by have := r.un; show A.units + 3 + 16 * k + 200 < _; omega⟩
theorem Room.in1 {k : Nat} {A : Around} (r : Room (k + 1) A) : Room k A.in1 :=
  ⟨r.hd, by have := r.dp; show A.depth + 3 * k + 5 < _; omega, by have := r.un; show A.units + 1 + 16 * k + 200 < _; omega⟩
theorem make_depth {A : Around} {C : Addr} {us : List Value} {kw : List (Str × Value)} : (A.under (.builtin "type.__call__" ⟨.ref C :: us, kw⟩)).depth = A.depth + 1 := by
  first | rfl | simp [Around.under, Code.weight, Code.isCreation, Code.isGuard, Code.isCaller, Code.frames, Code.isFrame, guardIds]
theorem make_units {A : Around} {C : Addr} {us : List Value} {kw : List (Str × Value)} : (A.under (.builtin "type.__call__" ⟨.ref C :: us, kw⟩)).units = A.units + 1 := by
  first | rfl | simp [Around.under, Code.cUnits, Code.frames, Code.isFrame]
theorem Room.make {k : Nat} {A : Around} (r : Room (k + 1) A) (C : Addr) (us : List Value) (kw : List (Str × Value)) : Room k (A.under (.builtin "type.__call__" ⟨.ref C :: us, kw⟩)) :=
  ⟨r.hd, by have := r.dp; rw [make_depth]; omega, by have := r.un; rw [make_units]; omega⟩
theorem Room.depth {k : Nat} {A : Around} (r : Room k A) : A.depth < recursionLimit := by have := r.dp; omega
theorem Room.units {k : Nat} {A : Around} (r : Room k A) : A.units + 64 < cLine := by have := r.un; omega
theorem Room.units0 {k : Nat} {A : Around} (r : Room k A) : A.units < cLine := by have := r.un; omega

/-! ### argument lists and displays -/
def tNil : TA := fun _ H Q => Q [] H
def tCons (ta : TE) (tr : TA) : TA := fun σ H Q => ta σ H fun x H1 => tr σ H1 fun xs H2 => Q (x :: xs) H2
section
variable {X : Cx} {e : Expr} {es : List Expr} {te : TE} {t : TA} {pos : Pos}
theorem pa_nil : PA X [] tNil := fun _ _ _ _ H Q I h => Calls.spliced_nil ⟨[], H, I, .nil, h⟩
theorem pa_cons (ha : PE X e te) (hr : PA X es t) (hs : starEach (e :: es) X.env = (false, eval e X.env) :: starEach es X.env := by rfl) : PA X (e :: es) (tCons te t) := by
  intro pos pins s σ H Q I h
  rw [hs]
  show wpAny _ _ (spliced ((false, eval e X.env) :: backTo pos (starEach es X.env))) _ _ s
  refine Calls.spliced_cons (thn (ha pins s σ H _ I h) fun u s1 ⟨x, H1, I1, r1, q1⟩ => ?_)
  exact thn (hr pos pins s1 σ H1 _ I1 q1) fun us s2 ⟨xs, H2, I2, r2, q2⟩ => ⟨x :: xs, H2, I2, .cons r1 r2, q2⟩

/-- a tuple, a list of written items -/
def tTup (t : TA) : TE := fun σ H Q => t σ H fun xs H1 => xs.length ≤ sizeLine ∧ ∀ p, H1 p = none → Q (.ref p) (upd H1 p (.tup xs))
def tLst (t : TA) : TE := fun σ H Q => t σ H fun xs H1 => xs.length ≤ sizeLine ∧ ∀ p, H1 p = none → Q (.ref p) (upd H1 p (.lst xs))
theorem pe_tup {x1} (h : PA X es t) : PE X (.Tuple es x1 pos) (tTup t) := by
  intro pins s σ H Q I hq
  refine wpAny_Tuple_spliced (thn (h pos pins s σ H _ I hq) fun us s1 ⟨xs, H1, I1, r, z, q⟩ => ⟨by rw [← r.length]; exact z, ?_⟩)
  have hf : H1 s1.heap.objs.size = none := I1.hok.fresh (Nat.le_refl _)
  refine ⟨.ref s1.heap.objs.size, upd H1 s1.heap.objs.size (.tup xs), I1.laid (t' := s1.toks) (fun b u e => Heap.get?_push_of_some _ e) (Nat.le_refl _) ?_, rfl, q _ hf⟩
  exact ⟨z, us, r, ⟨_, Heap.get?_push_size _ rfl, rfl, _, rfl⟩⟩
theorem pe_lst (h : PA X es t) : PE X (.List es pos) (tLst t) := by
  intro pins s σ H Q I hq
  refine wpAny_List_spliced (thn (h pos pins s σ H _ I hq) fun us s1 ⟨xs, H1, I1, r, z, q⟩ => ⟨by rw [← r.length]; exact z, ?_⟩)
  have hf : H1 s1.heap.objs.size = none := I1.hok.fresh (Nat.le_refl _)
  refine ⟨.ref s1.heap.objs.size, upd H1 s1.heap.objs.size (.lst xs), I1.laid (t' := s1.toks) (fun b u e => Heap.get?_push_of_some _ e) (Nat.le_refl _) ?_, rfl, q _ hf⟩
  exact ⟨z, us, 0, r, Heap.get?_push_size _ rfl⟩
end

/-! ### what a def promises -/
/-- a def's promise: the bound arguments in the parameters' order, the heap, the wanted end, the wanted exception -/
abbrev Sp := List V → Hp → VK → XK → Prop
/-- how an exception lies behind a call (file 08 gives it): the callers' frames, abstract heap and state ahead of the call, the wish, the exception, the state -/
abbrev CXT := List Env → Hp → Shared → XK → Value → Shared → Prop

/-- the state at a call -/
structure Env0 (P : Program) (w : World) (K : PySem.W.Frag) (mg : Str → Option Value) (base : Heap) (A : Around) (outer : List Env) (s : Shared) (H : Hp) : Prop where
  frames : A.frames = some outer
  mod : Mod K mg base
  bs : ∀ b o, base.get? b = some o → s.heap.get? b = some o ∧ H b = none
  bsz : base.objs.size ≤ s.heap.objs.size
  funs : s.heap.FunFrames base outer
  frf : ∀ b ∈ frs outer, H b = none
  hok : HOk P w H s.heap
  bare : AllBare s.gens
/-- a call's end -/
def CE (outer : List Env) (P : Program) (w : World) (H : Hp) (s : Shared) (Q : VK) (u : Value) (s' : Shared) : Prop :=
  ∃ v H', s'.os = s.os ∧ AllBare s'.gens ∧ Un (frs outer) [] H H' s.heap s'.heap ∧ HOk P w H' s'.heap ∧ RelV v u ∧ Q v H'
def CR (CX : CXT) (outer : List Env) (P : Program) (w : World) (H : Hp) (s : Shared) (Q : VK) (E : XK) (r : Result) (s' : Shared) : Prop :=
  match r with
  | .ok (.ret u) => CE outer P w H s Q u s'
  | .ok _ => False
  | .error e => CX outer H s E e s'
structure FnOk (P : Program) (w : World) (K : PySem.W.Frag) (mg : Str → Option Value) (base : Heap) (CX : CXT) (k : Nat) (f : Addr) (fd : FuncData) (ps : List Str) (sp : Sp) : Prop where
  len : ∀ vs H Q E, sp vs H Q E → vs.length = ps.length
  run : ∀ (A : Around) (outer : List Env) (s : Shared) (H : Hp) (args : Args) (us : List Value) (vs : List V) (Q : VK) (E : XK), Room k A → Env0 P w K mg base A outer s H → BindsTo s fd args (ps.zip us) → Vals vs us → sp vs H Q E →
    codeAny (model P w) A (.call (.ref f) args) (CR CX outer P w H s Q E) s
theorem FnOk.mono {P : Program} {w : World} {K : PySem.W.Frag} {mg : Str → Option Value} {base : Heap} {CX : CXT} {j k : Nat} {f : Addr} {fd : FuncData} {ps : List Str} {sp : Sp} (F : FnOk P w K mg base CX j f fd ps sp) (h : j ≤ k) :
    FnOk P w K mg base CX k f fd ps sp := ⟨F.len, fun A outer s H args us vs Q E hr => F.run A outer s H args us vs Q E (hr.mono h)⟩
/-- a weaker promise -/
theorem FnOk.imp {P : Program} {w : World} {K : PySem.W.Frag} {mg : Str → Option Value} {base : Heap} {CX : CXT} {k : Nat} {f : Addr} {fd : FuncData} {ps : List Str} {sp sp' : Sp} (F : FnOk P w K mg base CX k f fd ps sp)
    (h : ∀ vs H Q E, sp' vs H Q E → sp vs H Q E) : FnOk P w K mg base CX k f fd ps sp' :=
  ⟨fun vs H Q E q => F.len vs H Q E (h _ _ _ _ q), fun A outer s H args us vs Q E hr he hb hv hs => F.run A outer s H args us vs Q E hr he hb hv (h _ _ _ _ hs)⟩

theorem Env0.make {P : Program} {w : World} {K : PySem.W.Frag} {mg : Str → Option Value} {base : Heap} {A : Around} {outer : List Env} {s : Shared} {H : Hp} (e : Env0 P w K mg base A outer s H) (C : Addr) (us : List Value) (kw : List (Str × Value)) :
    Env0 P w K mg base (A.under (.builtin "type.__call__" ⟨.ref C :: us, kw⟩)) outer s H := ⟨by first | exact e.frames | (simpa [Around.under, Code.envs, Code.isFrame, pushEnvs] using e.frames), e.mod, e.bs, e.bsz, e.funs, e.frf, e.hok, e.bare⟩
theorem Env0.in1 {P : Program} {w : World} {K : PySem.W.Frag} {mg : Str → Option Value} {base : Heap} {A : Around} {outer : List Env} {s : Shared} {H : Hp} (e : Env0 P w K mg base A outer s H) :
    Env0 P w K mg base A.in1 outer s H := ⟨e.frames, e.mod, e.bs, e.bsz, e.funs, e.frf, e.hok, e.bare⟩

section
variable {X : Cx} {pins : List (Addr × Obj)} {σ : St} {H : Hp} {s s' : Shared}
/-- from a body: what a callee wants -/
theorem Inv.env0 (I : Inv X pins σ H s) : Env0 X.prog X.w X.K X.mg X.base X.A X.stack s H :=
  ⟨I.ok.frames, I.ok.mod, I.bs, Nat.le_trans I.ok.bsz I.sz, I.stack, I.stkFree, I.hok, I.bare⟩
/-- behind a call -/
theorem Inv.after {Q : VK} {u : Value} (I : Inv X pins σ H s) (h : CE X.stack X.prog X.w H s Q u s') : EP X pins σ Q u s' := by
  obtain ⟨v, H', os, bare, un, hok, r, q⟩ := h
  obtain ⟨hh, g, d, t, os'⟩ := s'
  obtain rfl : os' = s.os := os
  exact ⟨v, H', I.call (h' := hh) (g' := g) (d' := d) (t' := t) (ch := []) un hok bare (fun b z => absurd z (by simp)), r, q⟩
end

/-! ### calls -/
/-- f(..): the written arguments, then the defaults dvs; E: what is wanted of an exception -/
def tCall (sp : Sp) (dvs : List V) (E : XK) (t : TA) : TE := fun σ H Q => t σ H fun vs H1 => sp (vs ++ dvs) H1 Q E
/-- o.m(..) of an instance of the class at C -/
def tMeth (C : Addr) (m : Str) (sp : Sp) (dvs : List V) (E : XK) (ta : TE) (t : TA) : TE := fun σ H Q => ta σ H fun x H1 => ∃ a dx fs, x = .ref a ∧ H1 a = some (.ins C dx fs) ∧ fs.lookup m = none ∧
  t σ H1 fun vs H2 => sp (x :: (vs ++ dvs)) H2 Q E
/-- C(..): a new instance and its dict, then __init__ -/
def tMake (C : Addr) (sp : Sp) (dvs : List V) (E : XK) (t : TA) : TE := fun σ H Q => t σ H fun vs H1 => ∀ x dx, H1 x = none → H1 dx = none → dx ≠ x →
  sp (.ref x :: (vs ++ dvs)) (upd (upd H1 dx (.own x)) x (.ins C dx [])) (fun v H2 => v = .non ∧ Q (.ref x) H2) E

/-- how the parameters are bound: us the positional arguments, kw the keywords' values by name, ds the defaults that fill up -/
def Binds (K : PySem.W.Frag) (fd : FuncData) (ps : List Str) (ds : List Value) : Prop :=
  ∀ (s : Shared) (us : List Value), K.In s.heap → (us ++ ds).length = ps.length → BindsTo s fd ⟨us, []⟩ (ps.zip (us ++ ds))
/-- every parameter is given -/
theorem Binds.all {K : PySem.W.Frag} {fd : FuncData} {ps : List Str} (h : ∀ us : List Value, us.length = ps.length → bindArgs fd ⟨us, []⟩ = pure (ps.zip us)) : Binds K fd ps [] := fun s us _ hl => by
  rw [List.append_nil] at hl ⊢
  exact .of_eq (h us hl)

/-- an exception of a callee reaches what this body wants of exceptions -/
def Passes (CX : CXT) (X : Cx) (E : XK) : Prop := ∀ (pins : List (Addr × Obj)) (σ : St) (H : Hp) (s : Shared) (e : Value) (s' : Shared), Inv X pins σ H s → CX X.stack H s E e s' → X.xe e s'

section
variable {X : Cx} {CX : CXT} {k : Nat} {f C : Addr} {fd : FuncData} {ps : List Str} {sp : Sp} {dvs : List V} {ds : List Value} {E : XK} {x m : Str} {p pos apos : Pos} {e o : Expr} {es : List Expr} {ta : TE} {t : TA}

/-- the callee runs -/
theorem run_fn {pins : List (Addr × Obj)} {σ : St} {H : Hp} {s : Shared} {Q : VK} {us : List Value} {vs : List V} (F : FnOk X.prog X.w X.K X.mg X.base CX k f fd ps sp) (hr : Room k X.A) (hb : Binds X.K fd ps ds) (hd : Vals dvs ds) (hx : Passes CX X E)
    (I : Inv X pins σ H s) (r : Vals vs us) (h : sp (vs ++ dvs) H Q E) : wpAny (model X.prog X.w) X.A (call (.ref f) us) (EP X pins σ Q) X.xe s := by
  have r2 : Vals (vs ++ dvs) (us ++ ds) := r.append hd
  have hl : (us ++ ds).length = ps.length := by rw [← r2.length]; exact F.len _ _ _ _ h
  refine wpAny_call (codeAny_mono (F.run X.A X.stack s H ⟨us, []⟩ (us ++ ds) (vs ++ dvs) Q E hr I.env0 (hb s us I.kIn hl) r2 h) fun r s' hq => ?_)
  cases r with
  | error e => exact hx pins σ H s e s' I hq
  | ok fl =>
    cases fl with
    | ret u => exact I.after hq
    | next => exact False.elim hq
    | brk => exact False.elim hq
    | cont => exact False.elim hq

theorem pe_call (F : FnOk X.prog X.w X.K X.mg X.base CX k f fd ps sp) (hr : Room k X.A) (hg : Gl X x) (hm : X.mg x = some (.ref f)) (hk : PySem.W.keepIn X.K (.ref f) = true) (hb : Binds X.K fd ps ds) (hd : Vals dvs ds) (hx : Passes CX X E)
    (ha : PA X (e :: es) t) (hdb : (x == ("__debug__" : Str)) = false := by decide) (he : starEach (e :: es) X.env = (false, eval e X.env) :: starEach es X.env := by rfl) (hpl : (backTo pos (starEach es X.env)).any (·.1) = false := by rfl) :
    PE X (.Call (.Name x p) (e :: es) [] pos) (tCall sp dvs E t) := by
  intro pins s σ H Q I h
  refine wpAny_Call_Name_kw (ld_glob I hg hm ?_ hdb)
  refine PySem.W.callWith_K (h₀ := X.base) I.ok.mod.kin hk (thn (ha pos pins s σ H _ I h) fun us s1 ⟨vs, H1, I1, r, q⟩ => ⟨I1.kIn, ?_⟩) he hpl
  exact run_fn F hr hb hd hx I1 r q
theorem pe_call0 (F : FnOk X.prog X.w X.K X.mg X.base CX k f fd ps sp) (hr : Room k X.A) (hg : Gl X x) (hm : X.mg x = some (.ref f)) (hk : PySem.W.keepIn X.K (.ref f) = true) (hb : Binds X.K fd ps ds) (hd : Vals dvs ds) (hx : Passes CX X E)
    (hdb : (x == ("__debug__" : Str)) = false := by decide) : PE X (.Call (.Name x p) [] [] pos) (tCall sp dvs E tNil) := by
  intro pins s σ H Q I h
  refine wpAny_Call_Name_kw (ld_glob I hg hm ?_ hdb)
  exact PySem.W.callWith_K0 I.kIn hk (run_fn (us := []) F hr hb hd hx I .nil h)

/-- o.m(e, ..) -/
theorem pe_meth {pl : Sem Bool} (he : PE X o ta) (c : Cls X.K C) (hm : Meth X.K C m f) (F : FnOk X.prog X.w X.K X.mg X.base CX k f fd ps sp) (hr : Room k X.A) (hb : Binds X.K fd ps ds) (hd : Vals dvs ds) (hx : Passes CX X E) (ha : PA X (e :: es) t)
    (hst : starEach (e :: es) X.env = (false, eval e X.env) :: starEach es X.env := by rfl) (hpl : (backTo pos (starEach es X.env)).any (·.1) = false := by rfl)
    (ht : eval (.Call (.Attribute o m apos) (e :: es) [] pos) X.env = (do
      let ov ← eval o X.env
      standAt apos.atName
      let (f, first) ← holding [ov] (getMethod ov m pl)
      callWith pos f first (backTo pos (starEach (e :: es) X.env)) (backToKw pos (keywordEach [] X.env))) := by rfl) :
    PE X (.Call (.Attribute o m apos) (e :: es) [] pos) (tMeth C m sp dvs E ta t) := by
  intro pins s σ H Q I h
  refine PySem.W.methodCall_KW (pl := pl) (thn (he pins s σ H _ I h) fun u s1 ⟨x, H1, I1, rx, a, dx, fs, ex, ea, l, q⟩ => ?_) ht
  subst ex
  obtain rfl : u = Value.ref a := rx
  refine getmeth_ok I1 ea c hm l ?_
  refine PySem.W.callWith_K (first := [.ref a]) (h₀ := X.base) I.ok.mod.kin hm.kp (thn (ha pos pins s1 σ H1 _ I1 q) fun us s2 ⟨vs, H2, I2, r, q2⟩ => ⟨I2.kIn, ?_⟩) hst hpl
  exact run_fn (us := .ref a :: us) (vs := .ref a :: vs) F hr hb hd hx I2 (.cons rfl r) q2
/-- o.m() -/
theorem pe_meth0 {pl : Sem Bool} (he : PE X o ta) (c : Cls X.K C) (hm : Meth X.K C m f) (F : FnOk X.prog X.w X.K X.mg X.base CX k f fd ps sp) (hr : Room k X.A) (hb : Binds X.K fd ps ds) (hd : Vals dvs ds) (hx : Passes CX X E)
    (ht : eval (.Call (.Attribute o m apos) [] [] pos) X.env = (do
      let ov ← eval o X.env
      standAt apos.atName
      let (f, first) ← holding [ov] (getMethod ov m pl)
      callWith pos f first (backTo pos (starEach [] X.env)) (backToKw pos (keywordEach [] X.env))) := by rfl) :
    PE X (.Call (.Attribute o m apos) [] [] pos) (tMeth C m sp dvs E ta tNil) := by
  intro pins s σ H Q I h
  refine PySem.W.methodCall_KW (pl := pl) (thn (he pins s σ H _ I h) fun u s1 ⟨x, H1, I1, rx, a, dx, fs, ex, ea, l, q⟩ => ?_) ht
  subst ex
  obtain rfl : u = Value.ref a := rx
  refine getmeth_ok I1 ea c hm l ?_
  exact PySem.W.callWith_K0 (first := [.ref a]) I1.kIn hm.kp (run_fn (us := [.ref a]) (vs := [.ref a]) F hr hb hd hx I1 (.cons rfl .nil) q)

/-- what a class must have to be made -/
structure Mk (K : PySem.W.Frag) (C f : Addr) : Prop where
  makes : PySem.W.makesIn K C = true
  init : PySem.W.findIn K (.ref C) "__init__" = some (some (.ref f))
  fn : PySem.W.isFn K (.ref f) = true
  kp : PySem.W.keepIn K (.ref C) = true

theorem run_make {pins : List (Addr × Obj)} {σ : St} {H : Hp} {s : Shared} {Q : VK} {us : List Value} {vs : List V} (M : Mk X.K C f) (F : FnOk X.prog X.w X.K X.mg X.base CX k f fd ps sp) (hr : Room (k + 1) X.A) (hb : Binds X.K fd ps ds) (hd : Vals dvs ds)
    (hx : Passes CX X E) (I : Inv X pins σ H s) (r : Vals vs us)
    (h : ∀ x dx, H x = none → H dx = none → dx ≠ x → sp (.ref x :: (vs ++ dvs)) (upd (upd H dx (.own x)) x (.ins C dx [])) (fun v H2 => v = .non ∧ Q (.ref x) H2) E) :
    wpAny (model X.prog X.w) X.A (call (.ref C) us) (EP X pins σ Q) X.xe s := by
  have hq := h (s.heap.objs.size + 1) s.heap.objs.size (I.hok.fresh (Nat.le_succ _)) (I.hok.fresh (Nat.le_refl _)) (Nat.ne_of_lt (Nat.lt_succ_self _))
  have I2 := Inv.made (C := C) I
  have r2 : Vals (V.ref (s.heap.objs.size + 1) :: (vs ++ dvs)) (Value.ref (s.heap.objs.size + 1) :: (us ++ ds)) := .cons rfl (r.append hd)
  have hl : (Value.ref (s.heap.objs.size + 1) :: us ++ ds).length = ps.length := by
    have e := r2.length
    rw [F.len _ _ _ _ hq] at e
    exact e.symm
  refine wpAny_call (make_map (f := f) I.kIn M.makes M.init (beq_iff_eq.mp M.fn) (codeAny_mono (F.run _ X.stack _ _ ⟨Value.ref (s.heap.objs.size + 1) :: us, []⟩ (Value.ref (s.heap.objs.size + 1) :: (us ++ ds)) _ _ E (hr.make C us [])
    (I2.env0.make C us []) (hb _ (Value.ref (s.heap.objs.size + 1) :: us) I2.kIn hl) r2 hq) fun r s' hq' => ?_))
  cases r with
  | error e => exact hx pins σ _ _ e s' I2 hq'
  | ok fl =>
    cases fl with
    | ret u =>
      obtain ⟨v, H', I3, rv, ev, q3⟩ := I2.after hq'
      subst ev
      exact ⟨rv, ⟨V.ref (s.heap.objs.size + 1), H', I3, rfl, q3⟩⟩
    | next => exact False.elim hq'
    | brk => exact False.elim hq'
    | cont => exact False.elim hq'
theorem pe_make (M : Mk X.K C f) (F : FnOk X.prog X.w X.K X.mg X.base CX k f fd ps sp) (hr : Room (k + 1) X.A) (hg : Gl X x) (hm : X.mg x = some (.ref C)) (hb : Binds X.K fd ps ds) (hd : Vals dvs ds) (hx : Passes CX X E)
    (ha : PA X (e :: es) t) (hdb : (x == ("__debug__" : Str)) = false := by decide) (he : starEach (e :: es) X.env = (false, eval e X.env) :: starEach es X.env := by rfl) (hpl : (backTo pos (starEach es X.env)).any (·.1) = false := by rfl) :
    PE X (.Call (.Name x p) (e :: es) [] pos) (tMake C sp dvs E t) := by
  intro pins s σ H Q I h
  refine wpAny_Call_Name_kw (ld_glob I hg hm ?_ hdb)
  refine PySem.W.callWith_K (h₀ := X.base) I.ok.mod.kin M.kp (thn (ha pos pins s σ H _ I h) fun us s1 ⟨vs, H1, I1, r, q⟩ => ⟨I1.kIn, ?_⟩) he hpl
  exact run_make M F hr hb hd hx I1 r q
theorem pe_make0 (M : Mk X.K C f) (F : FnOk X.prog X.w X.K X.mg X.base CX k f fd ps sp) (hr : Room (k + 1) X.A) (hg : Gl X x) (hm : X.mg x = some (.ref C)) (hb : Binds X.K fd ps ds) (hd : Vals dvs ds) (hx : Passes CX X E)
    (hdb : (x == ("__debug__" : Str)) = false := by decide) : PE X (.Call (.Name x p) [] [] pos) (tMake C sp dvs E tNil) := by
  intro pins s σ H Q I h
  refine wpAny_Call_Name_kw (ld_glob I hg hm ?_ hdb)
  exact PySem.W.callWith_K0 I.kIn M.kp (run_make (us := []) M F hr hb hd hx I .nil h)
end

/-! ### keywords -/
/-- the values of the keywords, from the left -/
def PK (X : Cx) (kws : List Keyword) (t : TA) : Prop :=
  ∀ (pos : Pos) (pins : List (Addr × Obj)) (s : Shared) (σ : St) (H : Hp) (Q : List V → Hp → Prop), Inv X pins σ H s → t σ H Q → wpAny (model X.prog X.w) X.A (evalAll ((backToKw pos (keywordEach kws X.env)).map (·.2))) (AP X pins σ Q) X.xe s
section
variable {X : Cx} {CX : CXT} {k : Nat} {f C : Addr} {fd : FuncData} {ps ks : List Str} {sp : Sp} {E : XK} {x m : Str} {p pos apos kpos : Pos} {e o : Expr} {es : List Expr} {kws : List Keyword} {te ta : TE} {t tk : TA} {nm : Option Str}
theorem pk_nil : PK X [] tNil := fun _ _ _ _ H Q I h => wpAny_evalAll_nil ⟨[], H, I, .nil, h⟩
theorem pk_cons (ha : PE X e te) (hr : PK X kws t) : PK X (⟨nm, e, kpos⟩ :: kws) (tCons te t) := by
  intro pos pins s σ H Q I h
  show wpAny _ _ (evalAll ((do let v ← eval e X.env; standAt pos; pure v) :: (backToKw pos (keywordEach kws X.env)).map (·.2))) _ _ s
  refine wpAny_evalAll_cons (wpAny_bind (thn (ha pins s σ H _ I h) fun u s1 ⟨x, H1, I1, r1, q1⟩ => wpAny_bind (wpAny_standAt (wpAny_pure ?_))))
  exact thn (hr pos pins s1 σ H1 _ I1 q1) fun us s2 ⟨xs, H2, I2, r2, q2⟩ => ⟨x :: xs, H2, I2, .cons r1 r2, q2⟩

/-- how a call with keywords binds: g puts the positional values us and the keywords' values ws (names ks) in the parameters' order, defaults among them -/
structure KBinds (K : PySem.W.Frag) (fd : FuncData) (ps ks : List Str) (g : List Value → List Value → List Value) (gV : List V → List V → List V) : Prop where
  to : ∀ (s : Shared) (us ws : List Value), K.In s.heap → (g us ws).length = ps.length → BindsTo s fd ⟨us, ks.zip ws⟩ (ps.zip (g us ws))
  rel : ∀ {vs : List V} {us : List Value} {zs : List V} {ws : List Value}, Vals vs us → Vals zs ws → Vals (gV vs zs) (g us ws)
def tCallK (sp : Sp) (gV : List V → List V → List V) (E : XK) (t tk : TA) : TE := fun σ H Q => t σ H fun vs H1 => tk σ H1 fun zs H2 => sp (gV vs zs) H2 Q E
variable {g : List Value → List Value → List Value} {gV : List V → List V → List V}
theorem run_fnk {pins : List (Addr × Obj)} {σ : St} {H : Hp} {s : Shared} {Q : VK} {us ws : List Value} {vs zs : List V} (F : FnOk X.prog X.w X.K X.mg X.base CX k f fd ps sp) (hr : Room k X.A) (hb : KBinds X.K fd ps ks g gV) (hx : Passes CX X E)
    (I : Inv X pins σ H s) (r : Vals vs us) (rz : Vals zs ws) (h : sp (gV vs zs) H Q E) : wpAny (model X.prog X.w) X.A (call (.ref f) us (ks.zip ws)) (EP X pins σ Q) X.xe s := by
  have r2 := hb.rel r rz
  have hl : (g us ws).length = ps.length := by rw [← r2.length]; exact F.len _ _ _ _ h
  refine wpAny_call (codeAny_mono (F.run X.A X.stack s H ⟨us, ks.zip ws⟩ (g us ws) (gV vs zs) Q E hr I.env0 (hb.to s us ws I.kIn hl) r2 h) fun r s' hq => ?_)
  cases r with
  | error e => exact hx pins σ H s e s' I hq
  | ok fl =>
    cases fl with
    | ret u => exact I.after hq
    | next => exact False.elim hq
    | brk => exact False.elim hq
    | cont => exact False.elim hq
/-- f(e, .., k = v, ..) -/
theorem pe_callK (F : FnOk X.prog X.w X.K X.mg X.base CX k f fd ps sp) (hr : Room k X.A) (hg : Gl X x) (hm : X.mg x = some (.ref f)) (hk : PySem.W.keepIn X.K (.ref f) = true) (hb : KBinds X.K fd ps ks g gV) (hx : Passes CX X E)
    (ha : PA X (e :: es) t) (hkw : PK X kws tk) (hall : (backToKw pos (keywordEach kws X.env)).all (·.1.isSome) = true := by rfl) (hks : (backToKw pos (keywordEach kws X.env)).filterMap (·.1) = ks := by rfl)
    (hdb : (x == ("__debug__" : Str)) = false := by decide) (he : starEach (e :: es) X.env = (false, eval e X.env) :: starEach es X.env := by rfl)
    (hpl : ((backTo pos (starEach (e :: es) X.env)).any (·.1) || (backToKw pos (keywordEach kws X.env)).any (·.1.isNone)) = false := by rfl) :
    PE X (.Call (.Name x p) (e :: es) kws pos) (tCallK sp gV E t tk) := by
  intro pins s σ H Q I h
  refine wpAny_Call_Name_kw (ld_glob I hg hm ?_ hdb)
  refine PySem.W.callWith_KW (h₀ := X.base) I.ok.mod.kin hk hall (thn (ha pos pins s σ H _ I h) fun us s1 ⟨vs, H1, I1, r, q⟩ => ?_) hpl he
  refine thn (hkw pos pins s1 σ H1 _ I1 q) fun ws s2 ⟨zs, H2, I2, rz, q2⟩ => ⟨I2.kIn, ?_⟩
  rw [hks]
  exact run_fnk F hr hb hx I2 r rz q2
end

/-! ### a def's body keeps its promise -/
/-- names: the parameters first -/
structure FnScope (N P : List Str) (sc : Scope) : Prop where
  kind : sc.kind = .function
  co : sc.isCoroutine = false
  gen : sc.isGenerator = false
  nd : N.Nodup
  pre : N.take P.length = P
  par : ∀ x ∈ P, sc.names.lookup x = some .local ∨ sc.names.lookup x = some .cell
  nofree : ∀ y ∈ sc.names, y.2 ≠ .free

theorem bindL_out {kindOf : Str → Option NameKind} {x : Str} : ∀ {binds : List (Str × Value)} {m : Str → Option Value}, (∀ v, (x, v) ∉ binds) → bindL kindOf binds m x = m x
  | [], _, _ => rfl
  | (n, v) :: r, m, h => by
    unfold bindL
    rw [bindL_out fun w hw => h w (List.mem_cons_of_mem _ hw)]
    split
    · have : x ≠ n := by rintro rfl; exact h v List.mem_cons_self
      simp [this]
    · rfl
theorem bindC_out {kindOf : Str → Option NameKind} {x : Str} : ∀ {binds : List (Str × Value)} {m : Str → Option Value}, (∀ v, (x, v) ∉ binds) → bindC kindOf binds m x = m x
  | [], _, _ => rfl
  | (n, v) :: r, m, h => by
    unfold bindC
    rw [bindC_out fun w hw => h w (List.mem_cons_of_mem _ hw)]
    split
    · rfl
    · have : x ≠ n := by rintro rfl; exact h v List.mem_cons_self
      simp [this]
theorem bindL_get {kindOf : Str → Option NameKind} {x : Str} {v : Value} : ∀ {P : List Str} {vs : List Value} {i : Nat} {m : Str → Option Value}, P.Nodup → P[i]? = some x → vs[i]? = some v → kindOf x = some .local →
    bindL kindOf (P.zip vs) m x = some v
  | [], _, _, _, _, h, _, _ => by simp at h
  | _ :: _, [], _, _, _, _, h, _ => by simp at h
  | p :: P, w :: vs, 0, m, nd, h1, h2, hk => by
    simp at h1 h2; subst h1; subst h2
    show bindL kindOf ((p, w) :: P.zip vs) m p = _
    unfold bindL
    rw [bindL_out fun v hv => (List.nodup_cons.mp nd).1 (List.of_mem_zip hv).1, if_pos hk]
    simp
  | p :: P, w :: vs, i + 1, m, nd, h1, h2, hk => by
    show bindL kindOf ((p, w) :: P.zip vs) m x = _
    unfold bindL
    exact bindL_get (i := i) (List.nodup_cons.mp nd).2 (by simpa using h1) (by simpa using h2) hk
theorem bindC_get {kindOf : Str → Option NameKind} {x : Str} {v : Value} : ∀ {P : List Str} {vs : List Value} {i : Nat} {m : Str → Option Value}, P.Nodup → P[i]? = some x → vs[i]? = some v → kindOf x ≠ some .local →
    bindC kindOf (P.zip vs) m x = some v
  | [], _, _, _, _, h, _, _ => by simp at h
  | _ :: _, [], _, _, _, _, h, _ => by simp at h
  | p :: P, w :: vs, 0, m, nd, h1, h2, hk => by
    simp at h1 h2; subst h1; subst h2
    show bindC kindOf ((p, w) :: P.zip vs) m p = _
    unfold bindC
    rw [bindC_out fun v hv => (List.nodup_cons.mp nd).1 (List.of_mem_zip hv).1, if_neg hk]
    simp
  | p :: P, w :: vs, i + 1, m, nd, h1, h2, hk => by
    show bindC kindOf ((p, w) :: P.zip vs) m x = _
    unfold bindC
    exact bindC_get (i := i) (List.nodup_cons.mp nd).2 (by simpa using h1) (by simpa using h2) hk

/-- the names' values at the entry -/
def start (N : List Str) (vs : List V) : St := vs.map some ++ List.replicate (N.length - vs.length) none

/-- the context of a def's body, at its entry; an exception leaves the frame, then lies as CX says -/
def cxOf (CX : CXT) (P : Program) (w : World) (K : PySem.W.Frag) (mg : Str → Option Value) (base : Heap) (N : List Str) (qual : Str) (scope : Scope) (f : Addr) (cd : Value) (A : Around) (outer : List Env) (s : Shared) (H : Hp) (E : XK) : Cx where
  prog := P
  w := w
  K := K
  mg := mg
  base := base
  A := A.deeper (envOfC qual scope s.heap.objs.size f cd)
  N := N
  s₀ := s
  H₀ := H
  env := envOfC qual scope s.heap.objs.size f cd
  outer := outer
  stack := envOfC qual scope s.heap.objs.size f cd :: outer
  ex := []
  calm := true
  fn := fun _ => true
  pn := []
  xe := fun e s' => wpAny (model P w) (A.deeper (envOfC qual scope s.heap.objs.size f cd)) (leaving (envOfC qual scope s.heap.objs.size f cd) e) (fun _ s'' => CX outer H s E e s'') (fun e' s'' => CX outer H s E e' s'') s'

theorem cell_has {sc : Scope} {n : Nat} {x : Str} (h : sc.names.lookup x = some .cell) : ∃ c, (cellsFrom n sc.names []).lookup x = some c := by
  have q := PySem.W.cellsFrom_some sc.names n [] (.inl h)
  exact Option.isSome_iff_exists.mp q

theorem inv_start {CX : CXT} {P : Program} {w : World} {K : PySem.W.Frag} {mg : Str → Option Value} {base : Heap} {N ps : List Str} {qual : Str} {scope : Scope} {f : Addr} {cd : Value} {A : Around} {outer : List Env} {s s1 : Shared} {H : Hp} {E : XK} {us : List Value} {vs : List V}
    (S : FnScope N ps scope) (hd : A.handled = none) (e0 : Env0 P w K mg base A outer s H) (hl : vs.length = ps.length) (r : Vals vs us)
    (x : InCallC s s.heap.objs.size (bindL (envOfC qual scope s.heap.objs.size f cd).kindOf (ps.zip us) fun _ => none) (cellsFrom (s.heap.objs.size + 1) scope.names []) (bindC (envOfC qual scope s.heap.objs.size f cd).kindOf (ps.zip us) fun _ => none) s1) :
    Inv (cxOf CX P w K mg base N qual scope f cd A outer s H E) [] (start N vs) H s1 := by
  have hpl : ps.length ≤ N.length := by have := congrArg List.length S.pre; rw [List.length_take] at this; omega
  obtain ⟨h1, tk, rfl, hk⟩ := x.done
  have noA : ∀ b : Addr, b ∉ (cxOf CX P w K mg base N qual scope f cd A outer s H E).ex := fun b z => absurd (show b ∈ ([] : List Addr) from z) (by simp)
  refine ⟨⟨e0.mod, S.kind, rfl, rfl, Nat.le_refl _, fun y z c h1 h2 => ?_, fun y hy => ?_, fun y c _ h => ?_, fun _ => hd, Around.frames_deeper e0.frames, .inr ⟨rfl, rfl⟩, fun b z => absurd z (noA b), e0.bs, e0.bsz, fun b _ _ => noA b, fun b z => absurd z (noA b), e0.funs, e0.frf⟩,
    rfl, e0.bare, Un.kept hk, ⟨_, x.toInCall.ns, fun i y v h1 h2 h3 => ?_⟩, fun y c h => ⟨_, x.cell y c h⟩, e0.hok.fresh (Nat.le_refl _), fun y c h => ?_, fun p hp => absurd (show p ∈ ([] : List (Addr × Obj)) from hp) (by simp), e0.hok.kept hk, ?_⟩
  · exact name_of_addr x.apart (PySem.mem_of_lookup h1) (PySem.mem_of_lookup h2)
  · have hy : scope.names.lookup y = some .cell ∨ scope.names.lookup y = some .free := hy
    rcases hy with hy | hy
    · exact cell_has hy
    · exact absurd rfl (S.nofree _ (PySem.mem_of_lookup hy))
  · exact Nat.le_of_lt (x.above y c (PySem.mem_of_lookup h))
  · have hi : i < vs.length := by
      unfold start at h2
      by_cases hi : i < vs.length
      · exact hi
      · rw [List.getElem?_append_right (by simpa using hi)] at h2
        rw [List.getElem?_replicate] at h2
        split at h2 <;> cases h2
    have ha : vs[i]? = some v := by
      unfold start at h2
      rw [List.getElem?_append_left (by simpa using hi), List.getElem?_map] at h2
      cases e : vs[i]? with
      | none => rw [e] at h2; cases h2
      | some a => rw [e] at h2; cases h2; rfl
    obtain ⟨u, hu, rv⟩ := r.get ha
    have hp : ps[i]? = some y := by
      rw [← S.pre, List.getElem?_take_of_lt (by omega)]; exact h1
    have ndP : ps.Nodup := by rw [← S.pre]; exact S.nd.sublist (List.take_sublist _ _)
    refine ⟨u, rv, ?_⟩
    rcases S.par y (List.mem_of_getElem? hp) with k | k
    · exact .inl ⟨k, bindL_get ndP hp hu k⟩
    · obtain ⟨c, e⟩ := cell_has (n := s.heap.objs.size + 1) k
      refine .inr ⟨.inl k, c, e, ?_⟩
      have q := x.cell y c e
      rw [bindC_get ndP hp hu (by show scope.names.lookup y ≠ _; rw [k]; decide)] at q
      exact q
  · exact e0.hok.fresh (Nat.le_of_lt (x.above y c (PySem.mem_of_lookup h)))
  · unfold start
    show _ = N.length
    rw [List.length_append, List.length_map, List.length_replicate]
    omega

/-- THE RULE: a def (or a method) of the text, by its body. The body's reading t is chosen for each entry; it is run at the parameters' values -/
theorem fn_of {CX : CXT} {P : Program} {w : World} {K : PySem.W.Frag} {mg : Str → Option Value} {base : Heap} {k : Nat} {f : Addr} {name qual : Str} {params : Arguments} {body : List Stmt} {scope : Scope} {dV kV doc pm cdv ct oc : Value} {an od : Option Addr}
    {osl : Array (Option Value)} {N ps : List Str} {sp : Sp} (lk : K.lookup f = some ⟨oc, od, .func (PySem.W.fnOf name qual params body scope dV kV doc pm an cdv ct), osl⟩) (hcd : PySem.W.codeIn K cdv qual = true) (S : FnScope N ps scope)
    (len : ∀ vs H Q E, sp vs H Q E → vs.length = ps.length)
    (hbody : ∀ (A : Around) (outer : List Env) (s : Shared) (H : Hp) (vs : List V) (Q : VK) (E : XK), Room k (A.deeper (envOfC qual scope s.heap.objs.size f cdv)) → sp vs H Q E →
      ∃ t, PSs (cxOf CX P w K mg base N qual scope f cdv A outer s H E) body t ∧ t { nx := fun _ H' => Q .non H', rt := Q } (start N vs) H) :
    FnOk P w K mg base CX (k + 1) f (PySem.W.fnOf name qual params body scope dV kV doc pm an cdv ct) ps sp := by
  refine ⟨len, fun A outer s H args us vs Q E hr e0 hb r hsp => ?_⟩
  have hl := len _ _ _ _ hsp
  have KX : K.In s.heap := e0.mod.kin.keeps fun b o e => (e0.bs b o e).1
  have lim : s.heap.NoLimit := e0.mod.nolimit.keeps fun b o e => (e0.bs b o e).1
  have hkind : ∀ y ∈ ps.zip us, scope.names.lookup y.1 = some .local ∨ (scope.names.lookup y.1 = some .cell ∧ ((cellsFrom (s.heap.objs.size + 1) scope.names []).lookup y.1).isSome = true) := fun ⟨n, v⟩ hy => by
    rcases S.par n (List.of_mem_zip hy).1 with q | q
    · exact .inl q
    · exact .inr ⟨q, PySem.W.cellsFrom_some _ _ _ (.inl q)⟩
  refine codeAny_call_function hr.depth (KX _ _ lk) rfl S.co S.gen rfl (PySem.W.codeRec_of KX hcd) (hb _ _ _ _ ?_)
  refine wpAny_newFunctionEnv_cells S.kind hkind fun env he s1 x => ?_
  subst he
  refine ⟨lim.keeps x.toInCall.keep, codeAny_func ?_⟩
  obtain ⟨t, ht, hq⟩ := hbody A outer s H vs Q E (hr.deeper _) hsp
  have I : Inv (cxOf CX P w K mg base N qual scope f cdv A outer s H E) [] (start N vs) H s1 := inv_start S hr.hd e0 hl r x
  refine wpAny_mono (ht [] s1 (start N vs) H _ I hq) (fun fl s' hs => ?_) fun e s' hs => hs
  have fin : ∀ {σ' : St} {H' : Hp} {v : V} {u : Value}, Inv (cxOf CX P w K mg base N qual scope f cdv A outer s H E) [] σ' H' s' → RelV v u → Q v H' → CE outer P w H s Q u s' :=
    fun {σ' H' v u} J rv q => ⟨v, H', J.os, J.bare, J.base, J.hok, rv, q⟩
  cases fl with
  | ret u =>
    obtain ⟨v, σ', H', J, rv, q⟩ := hs
    exact fin J rv q
  | next =>
    obtain ⟨σ', H', J, q⟩ := hs
    exact fin (v := V.non) (u := Value.none) J rfl q
  | brk =>
    obtain ⟨_, _, _, q⟩ := hs
    exact False.elim q
  | cont =>
    obtain ⟨_, _, _, q⟩ := hs
    exact False.elim q
end L2

namespace L2
open PySem PySem.Spec PyProof.Rows
section
variable {X : Cx} {x : Str} {p pos : Pos} {e : Expr} {es : List Expr} {t : TA} {id T : String} {r : List V → Hp → VK → Prop}

def tCB (r : List V → Hp → VK → Prop) (t : TA) : TE := fun σ H Q => t σ H fun vs H1 => r vs H1 Q
/-- f(e, ..), f a built-in function -/
theorem pe_callB (hc : CallR X (.builtin id) r) (hg : Gl X x) (hm : X.mg x = none) (hv : bootBuiltins x = some (.builtin id)) (ha : PA X (e :: es) t) (hn : x ≠ "__name__" := by decide) (hdb : (x == ("__debug__" : Str)) = false := by decide)
    (he : starEach (e :: es) X.env = (false, eval e X.env) :: starEach es X.env := by rfl) (hpl : (backTo pos (starEach es X.env)).any (·.1) = false := by rfl) : PE X (.Call (.Name x p) (e :: es) [] pos) (tCB r t) := by
  intro pins s σ H Q I h
  refine wpAny_Call_Name_kw (ld_blt I hg hm hv ?_ hn hdb)
  exact PyProof.Rows.callWith_builtin1 (thn (ha pos pins s σ H _ I h) fun us s1 ⟨vs, H1, I1, r1, q1⟩ => hc pins s1 σ H1 vs us Q I1 r1 q1) he hpl
/-- T(e, ..), T a built-in type -/
theorem pe_callTy (hc : CallR X (.type T) r) (hg : Gl X x) (hm : X.mg x = none) (hv : bootBuiltins x = some (.type T)) (ha : PA X (e :: es) t) (hn : x ≠ "__name__" := by decide) (hdb : (x == ("__debug__" : Str)) = false := by decide)
    (he : starEach (e :: es) X.env = (false, eval e X.env) :: starEach es X.env := by rfl) (hpl : (backTo pos (starEach es X.env)).any (·.1) = false := by rfl) : PE X (.Call (.Name x p) (e :: es) [] pos) (tCB r t) := by
  intro pins s σ H Q I h
  refine wpAny_Call_Name_kw (ld_blt I hg hm hv ?_ hn hdb)
  exact PyProof.Rows.callWith_type1 (thn (ha pos pins s σ H _ I h) fun us s1 ⟨vs, H1, I1, r1, q1⟩ => hc pins s1 σ H1 vs us Q I1 r1 q1) he hpl
/-- T() -/
theorem pe_callTy0 (hc : CallR X (.type T) r) (hg : Gl X x) (hm : X.mg x = none) (hv : bootBuiltins x = some (.type T)) (hn : x ≠ "__name__" := by decide) (hdb : (x == ("__debug__" : Str)) = false := by decide) :
    PE X (.Call (.Name x p) [] [] pos) (tCB r tNil) := by
  intro pins s σ H Q I h
  refine wpAny_Call_Name_kw (ld_blt I hg hm hv ?_ hn hdb)
  exact PyProof.Rows.callWith_type0 (hc pins s σ H [] [] Q I .nil h)
end
end L2

namespace HT
open PySem PyProof.Rows

/-- t < u of tuples of ints -/
def lexLt : List Int → List Int → Bool
  | [], [] => false
  | [], _ :: _ => true
  | _ :: _, [] => false
  | x :: xs, y :: ys => if x = y then lexLt xs ys else decide (x < y)
theorem lexLt_cons (x y : Int) (xs ys : List Int) : lexLt (x :: xs) (y :: ys) = if x = y then lexLt xs ys else decide (x < y) := rfl
theorem lexLt_nil_nil : lexLt [] [] = false := rfl
theorem lexLt_nil_cons (y : Int) (ys : List Int) : lexLt [] (y :: ys) = true := rfl
theorem lexLt_cons_nil (x : Int) (xs : List Int) : lexLt (x :: xs) [] = false := rfl

theorem eqAt_int (A : Around) (s : Shared) (a : Int) (t : Tok) (c : Int) (u : Tok) : ∃ e, SeqAt.EqAt A s (.int a t) (.int c u) e ∧ (e = true ↔ a = c) :=
  ⟨(a == c), SeqAt.EqAt.int_int a t c u, by simp⟩
theorem rcLt_int (A : Around) (s : Shared) (a : Int) (t : Tok) (c : Int) (u : Tok) (prog : Program) (w : World) (E : Value → Shared → Prop) (Q : Value → Shared → Prop) (h : Q (.bool (decide (a < c))) s) :
    wpAny (model prog w) A (richCompare .Lt (.int a t) (.int c u)) Q E s :=
  (PyProof.Rows.lt_int h : wpAny (model prog w) A (compareOp .Lt (.int a t) (.int c u)) Q E s)

section
open PySem.SeqAt
open PySem.AutoSeq1 (wpAny_loadPart')
open PySem.MeetsSeq PySem.MeetsSeq2 PySem.MeetsSeq3

theorem tuple_lt_ints (l b : Addr) (items items2 : Array Value) (n n2 : Nat) (dd dd2 : Option Addr) (sl sl2 : Array (Option Value)) (ns ms : List Int) (hi : IntsAre items.toList ns) (hj : IntsAre items2.toList ms) :
    Meets (Builtin.«tuple.__lt__» ⟨[.ref l, .ref b], []⟩)
      (fun _ R s => s.heap.get? l = some { cls := .type "tuple", dict := dd, data := .seq items n, slots := sl } ∧ s.heap.get? b = some { cls := .type "tuple", dict := dd2, data := .seq items2 n2, slots := sl2 } ∧
        R (.ok (.ret (.bool (lexLt ns ms)))) s) :=
  .of_wp fun prog w A R s h => by
    obtain ⟨hp, g, d, tk, os⟩ := s; obtain ⟨hl, hb, h⟩ := h
    have f2 := AutoSeq1.sub_tuple_tuple
    have z1 : items.size = ns.length := by rw [← hi.length]; simp
    have z2 : items2.size = ms.length := by rw [← hj.length]; simp
    wp_walk using wpAny_loadPart' hl, wpAny_loadPart' hb, wpAny_forIn_list _ (fun rest b s' => b.1 = none ∧ s' = ⟨hp, g, d, tk, os⟩ ∧ ∃ (vs ws : List Value) (ns' ms' : List Int), rest = vs.zip ws ∧
      IntsAre vs ns' ∧ IntsAre ws ms' ∧ ns'.length + items2.size = ms'.length + items.size ∧ R (.ok (.ret (.bool (lexLt ns' ms')))) ⟨hp, g, d, tk, os⟩) _
    case turn =>
      rintro ⟨y, x⟩ rest b s' ⟨hb', rfl, vs, ws, ns', ms', hz, hvi, hwi, hlen, hR⟩
      cases hvi with
      | nil => rw [List.zip_nil_left] at hz; cases hz
      | cons a t hvi' =>
        cases hwi with
        | nil => rw [List.zip_nil_right] at hz; cases hz
        | cons c u hwi' =>
          rw [List.zip_cons_cons] at hz
          injection hz with hyx hrest
          injection hyx with hy hx
          subst hy hx
          rw [lexLt_cons] at hR
          simp only [List.length_cons] at hlen
          obtain ⟨e, he, hiff⟩ := eqAt_int A.in1 ⟨hp, g, d, tk, os⟩ a t c u
          refine wpAny_bind (he prog w _ _ ?_)
          cases e with
          | true =>
            rw [if_pos (hiff.mp rfl)] at hR
            wp_walk
            exact ⟨rfl, rfl, _, _, _, _, hrest, hvi', hwi', by omega, hR⟩
          | false =>
            rw [if_neg (fun q => absurd (hiff.mpr q) Bool.false_ne_true)] at hR
            have hri := rcLt_int A.in1 ⟨hp, g, d, tk, os⟩ a t c u prog w
            wp_walk using hri
            exact ⟨_, rfl, by simpa using hR⟩
    case fin =>
      rintro ⟨b1, b2⟩ s' ⟨hb', rfl, vs, ws, ns', ms', hz, hvi, hwi, hlen, hR⟩
      simp only at hb'
      subst hb'
      have hv : lexLt ns' ms' = decide (items.size < items2.size) := by
        cases hvi with
        | nil =>
          cases hwi with
          | nil =>
            simp only [List.length_nil] at hlen
            rw [lexLt_nil_nil]
            exact (decide_eq_false (by omega)).symm
          | cons c u hw =>
            simp only [List.length_nil, List.length_cons] at hlen
            rw [lexLt_nil_cons]
            exact (decide_eq_true (by omega)).symm
        | cons a t hv =>
          cases hwi with
          | nil =>
            simp only [List.length_nil, List.length_cons] at hlen
            rw [lexLt_cons_nil]
            exact (decide_eq_false (by omega)).symm
          | cons c u hw =>
            rw [List.zip_cons_cons] at hz
            cases hz
      rw [hv] at hR
      wp_walk
      exact ⟨_, rfl, by simpa [Builtin.Tuple.tupleCompareSizes] using hR⟩
    case h =>
      exact ⟨rfl, rfl, items.toList, items2.toList, ns, ms, rfl, hi, hj, by omega, h⟩
end

section
variable {prog : Program} {w : World} {A : Around} {E : Value → Shared → Prop} {s : Shared}

theorem lt_tupInts {l b : Addr} {items items2 : Array Value} {ns ms : List Int} {Q : Value → Shared → Prop} (hl : IsTup s.heap l items) (hb : IsTup s.heap b items2) (hi : IntsAre items.toList ns) (hj : IntsAre items2.toList ms)
    (hu : A.units < cLine) (h : Q (.bool (lexLt ns ms)) s) : wpAny (model prog w) A (compareOp .Lt (.ref l) (.ref b)) Q E s := by
  obtain ⟨⟨cls, dd, data, sl⟩, ho, hc, n, hd⟩ := id hl
  obtain ⟨⟨cls2, dd2, data2, sl2⟩, ho2, hc2, n2, hd2⟩ := id hb
  simp only at hc hd hc2 hd2
  subst hc hd hc2 hd2
  exact richCompare_meets_room (op := .Lt) ⟨_, ho, rfl⟩ ⟨_, ho2, rfl⟩ PySem.F.slot_tuple_lt PySem.F.entry_tuple_lt (PySem.F.args_tuple_lt_2 _ _) (tuple_lt_ints l b items items2 n n2 dd dd2 sl sl2 ns ms hi hj)
    ⟨ho, ho2, show Value.bool (lexLt ns ms) ≠ Value.notImplemented ∧ Q (.bool (lexLt ns ms)) s from ⟨(fun x => nomatch x), h⟩⟩ hu

/-- t + u, t not empty -/
theorem cat_tup {t b : Addr} {vs ws : List Value} {Q : Value → Shared → Prop} (ht : IsTup s.heap t vs.toArray) (hb : IsTup s.heap b ws.toArray) (hv : vs ≠ [])
    (h1 : ws = [] → Q (.ref t) s) (h2 : ws ≠ [] → Q (.ref s.heap.objs.size) { s with heap := s.heap.push { cls := .type "tuple", data := .seq (vs ++ ws).toArray } })
    (hsz : vs.length + ws.length ≤ sizeLine) : wpAny (model prog w) A (binaryOp .Add (.ref t) (.ref b)) Q E s := by
  obtain ⟨⟨cls, dd, data, sl⟩, ho, hc, n, hd⟩ := id ht
  obtain ⟨⟨cls2, dd2, data2, sl2⟩, ho2, hc2, n2, hd2⟩ := id hb
  simp only at hc hd hc2 hd2
  subst hc hd hc2 hd2
  have e : vs.toArray ++ ws.toArray = (vs ++ ws).toArray := by simp
  by_cases hw : ws = []
  · exact concat_meets ⟨_, ho, rfl⟩ ⟨_, ho2, rfl⟩ noFill_tuple_add seq_tuple_add PySem.F.slot_tuple_add PySem.F.entry_tuple_add (PySem.F.args_tuple_add_2 _ _)
      (tuple_addW1 t b vs.toArray ws.toArray n n2 dd dd2 sl sl2 (by simpa using hv) (by simp [hw])) ⟨ho, ho2, h1 hw⟩
  · refine concat_meets ⟨_, ho, rfl⟩ ⟨_, ho2, rfl⟩ noFill_tuple_add seq_tuple_add PySem.F.slot_tuple_add PySem.F.entry_tuple_add (PySem.F.args_tuple_add_2 _ _)
      (tuple_addW2 t b vs.toArray ws.toArray n n2 dd dd2 sl sl2 (by simpa using hv) (by simpa using hw) (by rw [List.size_toArray, List.size_toArray]; exact hsz)) ⟨ho, ho2, ?_⟩
    rw [e]
    exact h2 hw

/-! ### t[a:b], not the whole -/
/-- a slice's bound as a place among n (d where it is left out) -/
def sIx (n d : Nat) : Option Int → Nat
  | none => d
  | some v => if v < 0 then (v + (n : Int)).toNat else min v.toNat n
theorem sIx_none (n d : Nat) : sIx n d none = d := rfl
theorem sIx_nat (n d k : Nat) : sIx n d (some (k : Int)) = min k n := by
  show (if (k : Int) < 0 then ((k : Int) + (n : Int)).toNat else min (k : Int).toNat n) = min k n
  rw [if_neg (by omega), Int.toNat_natCast]
theorem sIx_le (n d : Nat) (hd : d ≤ n) (o : Option Int) : sIx n d o ≤ n := by
  cases o with
  | none => exact hd
  | some v =>
    show (if v < 0 then (v + (n : Int)).toNat else min v.toNat n) ≤ n
    by_cases hv : v < 0
    · rw [if_pos hv]; omega
    · rw [if_neg hv]; exact Nat.min_le_right _ _
theorem clip_eq (v : Int) (n d : Nat) : (if v < 0 then max (v + (n : Int)) 0 else min v (n : Int)) = ((sIx n d (some v) : Nat) : Int) := by
  show (if v < 0 then max (v + (n : Int)) 0 else min v (n : Int)) = (((if v < 0 then (v + (n : Int)).toNat else min v.toNat n) : Nat) : Int)
  by_cases hv : v < 0
  · simp only [if_pos hv]; omega
  · simp only [if_neg hv]; omega
theorem adjust_gen (lo hi : Option Int) (n : Nat) : Builtin.Slice.sliceAdjust lo hi 1 (n : Int) = (((sIx n 0 lo : Nat) : Int), ((sIx n n hi : Nat) : Int)) := by
  have h1 : ¬ ((1 : Int) < 0) := by omega
  unfold Builtin.Slice.sliceAdjust
  simp only [h1, if_false]
  refine Prod.ext ?_ ?_
  · cases lo with
    | none => rfl
    | some v => exact clip_eq v n 0
  · cases hi with
    | none => rfl
    | some v => exact clip_eq v n n
theorem places_gen (i j : Nat) : Builtin.Slice.slicePlaces (i : Int) (j : Int) 1 = j - i := by
  unfold Builtin.Slice.slicePlaces
  have h1 : (1 : Int) > 0 := by omega
  simp only [h1, if_true, Int.ediv_one]
  split <;> omega
theorem slicePart_ {v : Value} {o : Option Int} {Q : Option Int → Shared → Prop} (p : IsPart v o) (h : Q o s) : wpAny (model prog w) A (Builtin.Slice.slicePartIndex v) Q E s := by
  cases p with
  | none => exact slicePart_none h
  | int i t => exact slicePart_int h
theorem sliceApplied_gen {sl : Addr} {vl vu : Value} {lo hi : Option Int} {n : Nat} {Q : Int × Int × Nat → Shared → Prop} (hs : s.heap.IsSliceOf sl vl vu .none) (pl : IsPart vl lo) (pu : IsPart vu hi)
    (h : Q (((sIx n 0 lo : Nat) : Int), 1, sIx n n hi - sIx n 0 lo) s) : wpAny (model prog w) A (Builtin.Slice.sliceApplied (.ref sl) (pure (n : Int))) Q E s := by
  obtain ⟨os, hos, hcs, hds⟩ := id hs
  unfold Builtin.Slice.sliceApplied Builtin.Slice.sliceFields
  refine wpAny_bind (wpAny_bind (wpAny_field hos hds (x := vl) rfl (wpAny_bind (wpAny_field hos hds (x := vu) rfl (wpAny_bind (wpAny_field hos hds (x := .none) rfl (wpAny_pure ?_)))))))
  refine wpAny_bind (slicePart_none ?_)
  show wpAny _ _ (if ((1 : Int) == 0) = true then _ else _) _ _ s
  rw [if_neg (by decide)]
  refine wpAny_bind (slicePart_ pl (wpAny_bind (slicePart_ pu (wpAny_bind (wpAny_pure ?_)))))
  show wpAny _ _ (match Builtin.Slice.sliceAdjust lo hi 1 (n : Int) with | (lo, hi) => pure (lo, (1 : Int), Builtin.Slice.slicePlaces lo hi 1)) _ _ s
  rw [adjust_gen lo hi n]
  show wpAny _ _ (pure (((sIx n 0 lo : Nat) : Int), (1 : Int), Builtin.Slice.slicePlaces ((sIx n 0 lo : Nat) : Int) ((sIx n n hi : Nat) : Int) 1)) _ _ s
  rw [places_gen]
  exact wpAny_pure h
theorem pick_gen (xs : Array Value) (i k : Nat) : ((List.range k).filterMap fun (m : Nat) => xs[((i : Int) + (m : Int) * 1).toNat]?).toArray = ((xs.toList.drop i).take k).toArray := by
  have e : (fun (m : Nat) => xs[((i : Int) + (m : Int) * 1).toNat]?) = fun m => xs[i + m]? := by
    funext m
    have : ((i : Int) + (m : Int) * 1).toNat = i + m := by omega
    rw [this]
  rw [e]
  have := pick_run xs i k
  rw [List.filterMap_map] at this
  have e2 : ((fun x => xs[x]?) ∘ fun x => i + x) = fun m => xs[i + m]? := rfl
  rw [e2] at this
  rw [this]

theorem getItem_tuple_cut {t sl : Addr} {items : Array Value} {vl vu : Value} {lo hi : Option Int} {Q : Value → Shared → Prop} (ht : IsTup s.heap t items) (hs : s.heap.IsSliceOf sl vl vu .none) (pl : IsPart vl lo) (pu : IsPart vu hi)
    (hw : ¬ (sIx items.size 0 lo = 0 ∧ sIx items.size items.size hi = items.size))
    (h : Q (.ref s.heap.objs.size) { s with heap := s.heap.push { cls := .type "tuple", data := .seq ((items.toList.drop (sIx items.size 0 lo)).take (sIx items.size items.size hi - sIx items.size 0 lo)).toArray } })
    (hsz : items.size ≤ sizeLine) : wpAny (model prog w) A (getItem (.ref t) (.ref sl)) Q E s := by
  have htake : sizeOk (.seq ((items.toList.drop (sIx items.size 0 lo)).take (sIx items.size items.size hi - sIx items.size 0 lo)).toArray) := by
    show ((items.toList.drop (sIx items.size 0 lo)).take (sIx items.size items.size hi - sIx items.size 0 lo)).toArray.size ≤ sizeLine
    rw [List.size_toArray, List.length_take, List.length_drop, Array.length_toList]
    omega
  have hj : sIx items.size items.size hi ≤ items.size := sIx_le _ _ (Nat.le_refl _) hi
  obtain ⟨os, hos, hcs, hds⟩ := id hs
  have hTs : s.TypeIs (.ref sl) "slice" := ⟨os, hos, hcs⟩
  unfold getItem
  try with_reducible refine wpAny_holding ?_
  first | refine wpAny_bind (wpAny_pure ?_) | skip
  refine wpAny_bind (wpAny_sequenceKey ht.typeIs (by decide) ?_)
  refine wpAny_bind (wpAny_callSpecial?_slot (name := Str.ofString "__getitem__") ht.typeIs PyProof.Rows.slot_tuple_getitem
    (wpAny_call_entry PyProof.Rows.slot_tuple_getitem ht.typeIs entry_tuple_getitem ?_ (args_tuple_getitem _ _)))
  show wpAny _ _ (Builtin.Tuple.tupleItemsOf (.ref t) >>= _) _ _ s
  refine wpAny_bind (tupleItemsOf_ ht ?_)
  refine wpAny_bind (wpAny_typeOf hTs ?_)
  rw [if_pos (by decide)]
  refine wpAny_bind (sliceApplied_gen hs pl pu ?_)
  have hno : ¬ ((((sIx items.size 0 lo : Nat) : Int) == 0 && (1 : Int) == 1 && (sIx items.size items.size hi - sIx items.size 0 lo) == items.size) = true) := by
    intro q
    rw [Bool.and_eq_true, Bool.and_eq_true] at q
    have q1 : ((sIx items.size 0 lo : Nat) : Int) = 0 := eq_of_beq q.1.1
    have q2 : sIx items.size items.size hi - sIx items.size 0 lo = items.size := eq_of_beq q.2
    exact hw ⟨by omega, by omega⟩
  show wpAny _ _ (if (((sIx items.size 0 lo : Nat) : Int) == 0 && (1 : Int) == 1 && (sIx items.size items.size hi - sIx items.size 0 lo) == items.size) = true then _ else _) _ _ s
  rw [if_neg hno, pick_gen]
  first
    | exact wpAny_bind (m := Builtin.Tuple.tupleExact _) (wpAny_newObj_type (wpAny_pure ⟨_, rfl, wpAny_pure h⟩) htake)
    | exact wpAny_bind (m := Builtin.Tuple.tupleExact _) (wpAny_newObj_type (wpAny_bind (wpAny_pure (wpAny_pure ⟨_, rfl, wpAny_pure h⟩))) htake)
    | exact wpAny_bind (wpAny_bind (m := Builtin.Tuple.tupleExact _) (wpAny_newObj_type (wpAny_pure (wpAny_pure ⟨_, rfl, wpAny_pure h⟩)) htake))
    | exact wpAny_bind (wpAny_bind (m := Builtin.Tuple.tupleExact _) (wpAny_newObj_type (wpAny_pure ⟨_, rfl, wpAny_pure h⟩) htake))
end
end HT

namespace L2
open PySem PySem.Spec PyProof.Rows

/-! ### the parts of a slice -/
abbrev TO := St → Hp → (Option Int → Hp → Prop) → Prop
/-- a slice's part (left out, or an int) -/
def PO (X : Cx) (e : Option Expr) (t : TO) : Prop :=
  ∀ (pins : List (Addr × Obj)) (s : Shared) (σ : St) (H : Hp) (Q : Option Int → Hp → Prop), Inv X pins σ H s → t σ H Q →
    wpAny (model X.prog X.w) X.A (evalPart e X.env) (fun u s' => ∃ o H', Inv X pins σ H' s' ∧ IsPart u o ∧ Q o H') X.xe s
def tNoPart : TO := fun _ H Q => Q none H
def tPart (t : TE) : TO := fun σ H Q => t σ H fun x H1 => ∃ i, x = .int i ∧ Q (some i) H1

theorem intsAre_of {ns : List Int} : ∀ {us : List Value}, Vals (ns.map V.int) us → IntsAre us ns := by
  induction ns with
  | nil => intro us r; rw [List.map_nil] at r; cases r; exact .nil
  | cons n ns ih =>
    intro us r
    rw [List.map_cons] at r
    cases r with
    | cons r1 r2 =>
      obtain ⟨t, e⟩ := r1
      subst e
      exact .cons n t (ih r2)

section
variable {X : Cx} {e : Expr} {te : TE} {lo hi : Option Expr} {tl th : TO} {pos p2 : Pos}

theorem po_none : PO X none tNoPart := by
  intro pins s σ H Q I h
  rw [evalPart_none]
  exact wpAny_pure ⟨none, H, I, .none, h⟩
theorem po_some (h : PE X e te) : PO X (some e) (tPart te) := by
  intro pins s σ H Q I hw
  rw [evalPart_some]
  refine thn (h pins s σ H _ I hw) fun u s1 ⟨x, H1, I1, r1, q1⟩ => ?_
  obtain ⟨i, rfl, q⟩ := q1
  obtain ⟨t, rfl⟩ := r1
  exact ⟨some i, H1, I1, .int i t, q⟩

/-- what a slice of a value is, by values: the slice object stands at sl -/
def SlR (X : Cx) (r : V → Option Int → Option Int → Hp → VK → Prop) : Prop :=
  ∀ (pins : List (Addr × Obj)) (s : Shared) (σ : St) (H : Hp) (x : V) (v vl vu : Value) (lo hi : Option Int) (sl : Addr) (Q : VK), Inv X pins σ H s → RelV x v → s.heap.IsSliceOf sl vl vu .none → IsPart vl lo → IsPart vu hi → r x lo hi H Q →
    ∃ T id, typeLookup (.type T) "__getitem__" = pure (some (.builtin id)) ∧ s.TypeIs v T ∧ wpAny (model X.prog X.w) X.A (getItem v (.ref sl)) (EP X pins σ Q) X.xe s
theorem SlR.or {r r' : V → Option Int → Option Int → Hp → VK → Prop} (h : SlR X r) (h' : SlR X r') : SlR X (fun x lo hi H Q => r x lo hi H Q ∨ r' x lo hi H Q) := by
  intro pins s σ H x v vl vu lo hi sl Q I rx hs pl pu q
  rcases q with q | q
  · exact h pins s σ H x v vl vu lo hi sl Q I rx hs pl pu q
  · exact h' pins s σ H x v vl vu lo hi sl Q I rx hs pl pu q
def tSl (r : V → Option Int → Option Int → Hp → VK → Prop) (te : TE) (tl th : TO) : TE := fun σ H Q => te σ H fun x H1 => tl σ H1 fun l H2 => th σ H2 fun u H3 => r x l u H3 Q
/-- a[lo:hi], any a -/
theorem pe_slice {r : V → Option Int → Option Int → Hp → VK → Prop} (hr : SlR X r) (he : PE X e te) (hl : PO X lo tl) (hu : PO X hi th) : PE X (.Subscript e (.Slice lo hi none p2) pos) (tSl r te tl th) := by
  intro pins s σ H Q I h
  refine Subscript_ (thn (he pins s σ H _ I h) fun v s1 ⟨x, H1, I1, r1, q1⟩ => ?_)
  refine wpAny_Slice (thn (hl pins s1 σ H1 _ I1 q1) fun vl s2 ⟨l, H2, I2, pl, q2⟩ => thn (hu pins s2 σ H2 _ I2 q2) fun vu s3 ⟨u, H3, I3, pu, q3⟩ => ?_)
  rw [evalPart_none]
  refine wpAny_pure ?_
  have I4 : Inv X pins σ H3 { s3 with heap := s3.heap.push { cls := .type "slice", data := .fields #[vl, vu, .none] } } := I3.kept (t' := s3.toks) fun b ob q => Heap.get?_push_of_some _ q
  obtain ⟨T, id, hT, ht, hg⟩ := hr pins { s3 with heap := s3.heap.push { cls := .type "slice", data := .fields #[vl, vu, .none] } } σ H3 x v vl vu l u s3.heap.objs.size Q I4 r1 (Heap.IsSliceOf.new ..) pl pu q3
  show wpAny (model X.prog X.w) X.A (subscriptTail e (.Slice lo hi none p2) v (.ref s3.heap.objs.size)) (EP X pins σ Q) X.xe { s3 with heap := s3.heap.push { cls := .type "slice", data := .fields #[vl, vu, .none] } }
  exact tail_any (ops := [.ref s3.heap.objs.size, v]) ht hT hg (by with_unfolding_all rfl)

/-- the items of xs[lo:hi] -/
def cutV (xs : List V) (lo hi : Option Int) : List V := (xs.drop (HT.sIx xs.length 0 lo)).take (HT.sIx xs.length xs.length hi - HT.sIx xs.length 0 lo)
theorem cutV_length (xs : List V) (lo hi : Option Int) : (cutV xs lo hi).length ≤ xs.length := by
  unfold cutV
  rw [List.length_take, List.length_drop]
  omega
/-- t[lo:hi], not the whole of it (the whole would be t itself) -/
def rSlT (K : PySem.W.Frag) : V → Option Int → Option Int → Hp → VK → Prop := fun x lo hi H Q => ∃ a xs, x = .ref a ∧ SqT K H a xs ∧
  ¬ (HT.sIx xs.length 0 lo = 0 ∧ HT.sIx xs.length xs.length hi = xs.length) ∧ ∀ p, H p = none → Q (.ref p) (upd H p (.tup (cutV xs lo hi)))
theorem sl_tup : SlR X (rSlT X.K) := by
  intro pins s σ H x v vl vu lo hi sl Q I rx hs pl pu h
  obtain ⟨a, xs, rfl, hx, hw, q⟩ := h
  cases rx
  obtain ⟨its, r, ht, hz⟩ := I.tuple hx
  have hlen : its.toArray.size = xs.length := by rw [List.size_toArray]; exact r.length.symm
  refine ⟨"tuple", _, PyProof.Rows.slot_tuple_getitem.lookup, ht.typeIs, ?_⟩
  refine HT.getItem_tuple_cut ht hs pl pu (by rw [hlen]; exact hw) ?_ (by rw [hlen]; exact hz)
  rw [hlen]
  refine ⟨.ref s.heap.objs.size, _, I.laid (t' := s.toks) (o := .tup (cutV xs lo hi)) (fun b ob q => Heap.get?_push_of_some _ q) (Nat.le_refl _) ?_, rfl, q _ (I.hok.fresh (Nat.le_refl _))⟩
  exact ⟨Nat.le_trans (cutV_length xs lo hi) hz, _, (r.drop (HT.sIx xs.length 0 lo)).take (HT.sIx xs.length xs.length hi - HT.sIx xs.length 0 lo), IsTup.new _ _⟩

/-! ### t < u, t + u -/
def rLtT (K : PySem.W.Frag) : R2 := fun x y H Q => ∃ a b ns ms, x = .ref a ∧ y = .ref b ∧ SqT K H a (ns.map V.int) ∧ SqT K H b (ms.map V.int) ∧ Q (.bl (HT.lexLt ns ms)) H
theorem op_ltT (hu : X.A.units < cLine) : OpR X (compareOp .Lt) (rLtT X.K) := by
  intro pins s σ H x y v u Q I rx ry h
  obtain ⟨a, b, ns, ms, rfl, rfl, ha, hb, q⟩ := h
  cases rx
  cases ry
  obtain ⟨its, r1, p1, _⟩ := I.tuple ha
  obtain ⟨its2, r2, p2, _⟩ := I.tuple hb
  have i1 : IntsAre its.toArray.toList ns := intsAre_of r1
  have i2 : IntsAre its2.toArray.toList ms := intsAre_of r2
  exact HT.lt_tupInts p1 p2 i1 i2 hu ⟨.bl (HT.lexLt ns ms), H, I, rfl, q⟩
/-- t + u, t not empty: u empty gives t itself -/
def rCatT (K : PySem.W.Frag) : R2 := fun x y H Q => ∃ a b xs ys, x = .ref a ∧ y = .ref b ∧ SqT K H a xs ∧ SqT K H b ys ∧ xs ≠ [] ∧ xs.length + ys.length ≤ sizeLine ∧
  (ys = [] → Q (.ref a) H) ∧ (ys ≠ [] → ∀ p, H p = none → Q (.ref p) (upd H p (.tup (xs ++ ys))))
theorem Vals.nil_iff {xs : List V} {us : List Value} (r : Vals xs us) : us = [] ↔ xs = [] := by
  cases r with
  | nil => simp
  | cons _ _ => simp
theorem op_catT : OpR X (binaryOp .Add) (rCatT X.K) := by
  intro pins s σ H x y v u Q I rx ry h
  obtain ⟨a, b, xs, ys, rfl, rfl, ha, hb, hx, hz, q1, q2⟩ := h
  cases rx
  cases ry
  obtain ⟨its, r1, p1, _⟩ := I.tuple ha
  obtain ⟨its2, r2, p2, _⟩ := I.tuple hb
  refine HT.cat_tup p1 p2 (fun z => hx (r1.nil_iff.mp z)) (fun z => ⟨.ref a, H, I, rfl, q1 (r2.nil_iff.mp z)⟩) (fun z => ?_) (by rw [← r1.length, ← r2.length]; exact hz)
  refine ⟨.ref s.heap.objs.size, _, I.laid (t' := s.toks) (o := .tup (xs ++ ys)) (fun b ob q => Heap.get?_push_of_some _ q) (Nat.le_refl _) ?_, rfl, q2 (fun w => z (r2.nil_iff.mpr w)) _ (I.hok.fresh (Nat.le_refl _))⟩
  exact ⟨by rw [List.length_append]; exact hz, _, r1.append r2, IsTup.new _ _⟩
/-- tuple(t) -/
theorem call_tupleT : CallR X (.type "tuple") (fun xs H Q => ∃ a ys, xs = [.ref a] ∧ SqT X.K H a ys ∧ Q (.ref a) H) := by
  intro pins s σ H xs us Q I r h
  obtain ⟨a, ys, rfl, ha, q⟩ := h
  obtain ⟨u, rfl, ru⟩ := vals1 r
  cases ru
  obtain ⟨its, _, p1, _⟩ := I.tuple ha
  exact call_tuple_same (items := its.toArray) p1 ⟨.ref a, H, I, rfl, q⟩
end
end L2

namespace L2
open PySem PySem.Spec PyProof.Rows

/-! ### places -/
/-- the place that an index of any sign means -/
def ixN (n : Nat) (i : Int) : Option Nat := if 0 ≤ i then (if i < n then some i.toNat else none) else if -(n : Int) ≤ i then some (i + n).toNat else none
def atI {α : Type} (xs : List α) (i : Int) : Option α := (ixN xs.length i).bind fun j => xs[j]?
theorem ixN_seq {n : Nat} {i : Int} {j : Nat} (h : ixN n i = some j) : seqIndex? i n = some j ∧ j < n ∧ -(n : Int) ≤ i ∧ i < n := by
  unfold ixN at h
  by_cases h0 : 0 ≤ i
  · rw [if_pos h0] at h
    by_cases h1 : i < n
    · rw [if_pos h1] at h
      have e : i.toNat = j := Option.some.inj h
      exact ⟨by rw [seqIndex_of h0 h1, e], by omega, by omega, h1⟩
    · rw [if_neg h1] at h; cases h
  · rw [if_neg h0] at h
    by_cases h1 : -(n : Int) ≤ i
    · rw [if_pos h1] at h
      have e : (i + n).toNat = j := Option.some.inj h
      exact ⟨by rw [seqIndex_neg (by omega) h1, e], by omega, h1, by omega⟩
    · rw [if_neg h1] at h; cases h
theorem atI_get {α : Type} {xs : List α} {i : Int} {v : α} (h : atI xs i = some v) : ∃ j, seqIndex? i xs.length = some j ∧ xs[j]? = some v ∧ j < xs.length ∧ -(xs.length : Int) ≤ i ∧ i < xs.length := by
  unfold atI at h
  cases e : ixN xs.length i with
  | none => rw [e] at h; cases h
  | some j =>
    rw [e] at h
    obtain ⟨h1, h2, h3, h4⟩ := ixN_seq e
    exact ⟨j, h1, h, h2, h3, h4⟩
theorem atI_nat {α : Type} {xs : List α} {j : Nat} {v : α} (h : xs[j]? = some v) : atI xs (j : Int) = some v := by
  have hj : j < xs.length := (List.getElem?_eq_some_iff.mp h).1
  have e : ixN xs.length (j : Int) = some j := by
    unfold ixN
    rw [if_pos (by omega), if_pos (by omega)]; simp
  unfold atI; rw [e]; exact h
theorem atI_last {α : Type} (xs : List α) (v : α) : atI (xs ++ [v]) (-1) = some v := by
  have hl : (xs ++ [v]).length = xs.length + 1 := by simp
  have e : ixN (xs ++ [v]).length (-1) = some xs.length := by
    unfold ixN
    rw [hl, if_neg (by decide), if_pos (by omega)]
    congr 1
    omega
  unfold atI
  rw [e]
  show (xs ++ [v])[xs.length]? = some v
  simp

/-! ### what may be subscripted -/
/-- what stands as an index of a plain subscript -/
def PlainIx (b : Expr) : Prop := ∀ o i, subscripted b false o i = operate [o, i] (getItem o i)
/-- a subscript by values -/
def IxR (X : Cx) (r : R2) : Prop :=
  ∀ (value slice : Expr) (pins : List (Addr × Obj)) (s : Shared) (σ : St) (H : Hp) (x y : V) (v u : Value) (Q : VK), Inv X pins σ H s → RelV x v → RelV y u → r x y H Q →
    subscripted slice false v u = operate [v, u] (getItem v u) → wpAny (model X.prog X.w) X.A (subscriptTail value slice v u) (EP X pins σ Q) X.xe s
/-- a call of a builtin's method by values: the receiver, the arguments -/
def MtR (X : Cx) (id : String) (r : V → List V → Hp → VK → Prop) : Prop :=
  ∀ (pins : List (Addr × Obj)) (s : Shared) (σ : St) (H : Hp) (x : V) (xs : List V) (v : Value) (us : List Value) (Q : VK), Inv X pins σ H s → RelV x v → Vals xs us → r x xs H Q →
    wpAny (model X.prog X.w) X.A (call (.builtin id) (v :: us)) (EP X pins σ Q) X.xe s
section
variable {X : Cx} {a b : Expr} {ta tb : TE} {pos : Pos}
theorem IxR.or {r r' : R2} (h : IxR X r) (h' : IxR X r') : IxR X (fun x y H Q => r x y H Q ∨ r' x y H Q) := by
  intro value slice pins s σ H x y v u Q I rx ry q hs
  rcases q with q | q
  · exact h value slice pins s σ H x y v u Q I rx ry q hs
  · exact h' value slice pins s σ H x y v u Q I rx ry q hs
theorem MtR.or {id : String} {r r' : V → List V → Hp → VK → Prop} (h : MtR X id r) (h' : MtR X id r') : MtR X id (fun x xs H Q => r x xs H Q ∨ r' x xs H Q) := by
  intro pins s σ H x xs v us Q I rx rs q
  rcases q with q | q
  · exact h pins s σ H x xs v us Q I rx rs q
  · exact h' pins s σ H x xs v us Q I rx rs q
/-- a[b] -/
theorem pe_ix {r : R2} (hr : IxR X r) (ha : PE X a ta) (hb : PE X b tb) (hs : PlainIx b) : PE X (.Subscript a b pos) (tOp r ta tb) := by
  intro pins s σ H Q I h
  exact Subscript_ (binT ha hb I h fun v u s2 x y H2 I2 rx ry q => hr a b pins s2 σ H2 x y v u Q I2 rx ry q (hs _ _))

def rIxL (K : PySem.W.Frag) : R2 := fun x y H Q => ∃ p xs i v, x = .ref p ∧ y = .int i ∧ SqL K H p xs ∧ atI xs i = some v ∧ Q v H
def rIxT (K : PySem.W.Frag) : R2 := fun x y H Q => ∃ p xs i v, x = .ref p ∧ y = .int i ∧ SqT K H p xs ∧ atI xs i = some v ∧ Q v H
def rIxS : R2 := fun x y H Q => ∃ z i c, x = .str z ∧ y = .int i ∧ z.length ≤ sizeLine ∧ atI z.cps.toList i = some c ∧ Q (.str ⟨#[c]⟩) H
theorem ix_list : IxR X (rIxL X.K) := by
  intro value slice pins s σ H x y v u Q I rx ry h hs
  obtain ⟨p, xs, i, z, rfl, rfl, hq, he, q⟩ := h
  cases rx
  obtain ⟨t, rfl⟩ := ry
  obtain ⟨its, r, pl, hz⟩ := I.list hq
  obtain ⟨j, h1, h2, h3, h4, h5⟩ := atI_get he
  obtain ⟨w, ew, rw'⟩ := r.get h2
  have hl := r.length
  have hn := line63
  have fin : EP X pins σ Q w s := ⟨z, H, I, rw', q⟩
  by_cases h0 : 0 ≤ i
  · have hj : i.toNat = j := by
      rw [seqIndex_of h0 h5] at h1
      exact Option.some.inj h1
    exact item_listR pl.isList h0 (by omega) (by rw [hj]; simpa using ew) fin hs
  · have hj : (i + (its.toArray.size : Int)).toNat = j := by
      rw [seqIndex_neg (by omega) h4] at h1
      rw [List.size_toArray, ← hl]
      exact Option.some.inj h1
    exact subscriptTail_builtinR (x := w) pl.isList.typeIs slot_list_getitem.lookup
      (wpAny_getItem_list_neg (Q := fun r s' => r = w ∧ EP X pins σ Q r s') pl.isList (by omega) (by rw [List.size_toArray] <;> omega) (by omega) (by rw [hj]; simpa using ew) ⟨rfl, fin⟩) hs
theorem ix_tup : IxR X (rIxT X.K) := by
  intro value slice pins s σ H x y v u Q I rx ry h hs
  obtain ⟨p, xs, i, z, rfl, rfl, hq, he, q⟩ := h
  cases rx
  obtain ⟨t, rfl⟩ := ry
  obtain ⟨its, r, pl, hz⟩ := I.tuple hq
  obtain ⟨j, h1, h2, h3, h4, h5⟩ := atI_get he
  obtain ⟨w, ew, rw'⟩ := r.get h2
  have hl := r.length
  have hn := line63
  have fin : EP X pins σ Q w s := ⟨z, H, I, rw', q⟩
  exact subscriptTail_builtinR (x := w) pl.typeIs slot_tuple_getitem.lookup
    (getItem_tuple (j := j) (Q := fun r s' => r = w ∧ EP X pins σ Q r s') pl (by omega) (by omega) (by rw [List.size_toArray, ← hl]; exact h1) (by simpa using ew) ⟨rfl, fin⟩) hs
theorem ix_str : IxR X rIxS := by
  intro value slice pins s σ H x y v u Q I rx ry h hs
  obtain ⟨z, i, c, rfl, rfl, hz, he, q⟩ := h
  obtain ⟨t, rfl⟩ := rx
  obtain ⟨t', rfl⟩ := ry
  obtain ⟨j, h1, h2, h3, h4, h5⟩ := atI_get he
  have hl : z.cps.toList.length = z.length := by simp [Str.length]
  rw [hl] at h1 h4 h5
  have hn := line63
  exact tail_any (typeIs_str s z t) slot_str_getitem.lookup (getItem_str (c := c) (by
    have e1 : decide (i < -(2 ^ 63 : Int)) = false := decide_eq_false (by omega)
    have e2 : decide (i ≥ 2 ^ 63) = false := decide_eq_false (by omega)
    rw [e1, e2, Bool.or_false]) (by rw [h1]; simpa using h2) ⟨.str ⟨#[c]⟩, H, I.tok _, ⟨_, rfl⟩, q⟩) hs
/-- list, tuple or str -/
def rIx (K : PySem.W.Frag) : R2 := fun x y H Q => rIxL K x y H Q ∨ rIxT K x y H Q ∨ rIxS x y H Q
theorem ix_seq : IxR X (rIx X.K) := ix_list.or (ix_tup.or ix_str)

/-! ### xs[i] = v, any sign -/
/-- the list's object behind a store -/
theorem mapSeq_set (its : List Value) (n j : Nat) (u : Value) : Obj.mapSeq (·.setIfInBounds j u) { cls := .type "list", data := .seq its.toArray n } = { cls := .type "list", data := .seq (its.set j u).toArray n } := by
  simp [Obj.mapSeq]
theorem Inv.lst {pins : List (Addr × Obj)} {σ : St} {H : Hp} {s : Shared} {p : Addr} {xs : List V} (I : Inv X pins σ H s) (h : H p = some (.lst xs)) :
    ∃ (its : List Value) (n : Nat), Vals xs its ∧ s.heap.get? p = some { cls := .type "list", data := .seq its.toArray n } ∧ xs.length ≤ sizeLine := by
  obtain ⟨z, its, n, r, e⟩ := I.hok p _ h
  exact ⟨its, n, r, e, z⟩
/-- the list at p is written by an update of its object -/
theorem Inv.lstUpd {pins : List (Addr × Obj)} {σ : St} {H : Hp} {s : Shared} {p : Addr} {xs ys : List V} {its its' : List Value} {n n' : Nat} {f : Obj → Obj} (I : Inv X pins σ H s) (h : H p = some (.lst xs))
    (ho : s.heap.get? p = some { cls := .type "list", data := .seq its.toArray n }) (hf : f { cls := .type "list", data := .seq its.toArray n } = { cls := .type "list", data := .seq its'.toArray n' }) (r : Vals ys its') (hz : ys.length ≤ sizeLine) (t : Nat) :
    Inv X pins σ (upd H p (.lst ys)) { s with heap := s.heap.update p f, toks := t } := by
  have e : (s.heap.update p f).get? p = some { cls := .type "list", data := .seq its'.toArray n' } := by
    rw [Heap.get?_update_self f ho (by rw [hf] <;> rfl), hf]
  refine I.write (x := p) (e := p) (by rw [h]; trivial) (.inl rfl) (fun b u hb q => (Heap.get?_update_other _ _ (Ne.symm hb)).trans q) ⟨_, e⟩ ?_
  exact ⟨hz, its', n', r, e⟩
def rSetL : V → V → V → Hp → (Hp → Prop) → Prop := fun o i v H Q => ∃ p xs k j, o = .ref p ∧ i = .int k ∧ H p = some (.lst xs) ∧ ixN xs.length k = some j ∧ Q (upd H p (.lst (xs.set j v)))
theorem set_list : PSet X rSetL := by
  intro pins s σ H o i v ov iv u Q I ro ri rv h
  obtain ⟨p, xs, k, j, rfl, rfl, hp, hj, q⟩ := h
  cases ro
  obtain ⟨t, rfl⟩ := ri
  obtain ⟨its, n, r, ho, hz⟩ := I.lst hp
  obtain ⟨h1, h2, h3, h4⟩ := ixN_seq hj
  have hl := r.length
  have hn := line63
  have I' : Inv X pins σ (upd H p (.lst (xs.set j v))) { s with heap := s.heap.update p (Obj.mapSeq (·.setIfInBounds j u)) } :=
    I.lstUpd hp ho (mapSeq_set its n j u) (r.set rv j) (by rw [List.length_set]; exact hz) s.toks
  by_cases h0 : 0 ≤ k
  · have hk : k.toNat = j := by
      rw [seqIndex_of h0 h4] at h1
      exact Option.some.inj h1
    exact PySem.W.ki_setAt ho h0 (by omega) (by rw [List.size_toArray, ← hl]; exact h4) (by rw [hk]; exact ⟨_, I', q⟩)
  · have hk : (k + (its.toArray.size : Int)).toNat = j := by
      rw [seqIndex_neg (by omega) h3] at h1
      rw [List.size_toArray, ← hl]
      exact Option.some.inj h1
    exact PySem.W.ki_setBack ho (by omega) (by rw [List.size_toArray, ← hl]; exact h3) (by omega) (by rw [hk]; exact ⟨_, I', q⟩)

/-! ### slices -/
theorem slice_bounds (lo hi : Option Int) (n : Nat) : (sliceBounds lo hi none n).1 = ((HT.sIx n 0 lo : Nat) : Int) ∧ (sliceBounds lo hi none n).2.1 = ((HT.sIx n n hi : Nat) : Int) ∧ (sliceBounds lo hi none n).2.2 = 1 := by
  refine ⟨?_, ?_, rfl⟩
  · cases lo with
    | none => simp [sliceBounds, HT.sIx]
    | some i =>
      simp only [sliceBounds, HT.sIx, Option.getD_none, show (1 : Int) > 0 by decide, if_true]
      by_cases h : i < 0
      · simp only [h, if_true] <;> omega
      · simp only [h, if_false] <;> omega
  · cases hi with
    | none => simp [sliceBounds, HT.sIx]
    | some i =>
      simp only [sliceBounds, HT.sIx, Option.getD_none, show (1 : Int) > 0 by decide, if_true]
      by_cases h : i < 0
      · simp only [h, if_true] <;> omega
      · simp only [h, if_false] <;> omega
theorem slicePick_cut (its : List Value) (lo hi : Option Int) : slicePick its.toArray lo hi none = ((its.drop (HT.sIx its.length 0 lo)).take (HT.sIx its.length its.length hi - HT.sIx its.length 0 lo)).toArray := by
  obtain ⟨h1, h2, h3⟩ := slice_bounds lo hi its.toArray.size
  unfold slicePick
  rw [h1, h2, h3]
  simp only [sliceRange_one, pick_run, List.size_toArray] <;> rfl
/-- xs[lo:hi] of a list: a new list -/
def rSlL (K : PySem.W.Frag) : V → Option Int → Option Int → Hp → VK → Prop := fun x lo hi H Q => ∃ a xs, x = .ref a ∧ SqL K H a xs ∧ ∀ p, H p = none → Q (.ref p) (upd H p (.lst (cutV xs lo hi)))
theorem sl_list : SlR X (rSlL X.K) := by
  intro pins s σ H x v vl vu lo hi sl Q I rx hs pl pu h
  obtain ⟨a, xs, rfl, hx, q⟩ := h
  cases rx
  obtain ⟨its, r, ht, hz⟩ := I.list hx
  have hlen := r.length
  refine ⟨"list", _, slot_list_getitem.lookup, ht.isList.typeIs, ?_⟩
  refine wpAny_getItem_list_slice ht.isList hs pl pu .none (by simp) ?_ (by rw [List.size_toArray] <;> omega)
  rw [slicePick_cut, ← hlen]
  refine ⟨.ref s.heap.objs.size, _, I.laid (t' := s.toks) (o := .lst (cutV xs lo hi)) (fun b ob q => Heap.get?_push_of_some _ q) (Nat.le_refl _) ?_, rfl, q _ (I.hok.fresh (Nat.le_refl _))⟩
  exact ⟨Nat.le_trans (cutV_length xs lo hi) hz, _, 0, (r.drop (HT.sIx xs.length 0 lo)).take (HT.sIx xs.length xs.length hi - HT.sIx xs.length 0 lo), Heap.get?_push_size _ rfl⟩

/-! ### in, not in: flat items -/
def flatV : V → Bool
  | .non => true
  | .bl _ => true
  | .int _ => true
  | .str _ => true
  | _ => false
/-- == of flat values -/
def eqV : V → V → Bool
  | .non, .non => true
  | .bl a, .bl b => a == b
  | .bl a, .int b => (if a then 1 else 0) == b
  | .int a, .bl b => a == (if b then 1 else 0)
  | .int a, .int b => a == b
  | .str a, .str b => a == b
  | _, _ => false
theorem eqAt_V {A : Around} {s : Shared} {y x : V} {u v : Value} (ry : RelV y u) (rx : RelV x v) (fy : flatV y = true) (fx : flatV x = true) : SeqAt.EqAt A s u v (eqV y x) := by
  cases y with
  | non =>
    cases ry
    cases x with
    | non => cases rx; exact SeqAt.EqAt.same _
    | bl b => cases rx; exact SeqAt.EqAt.none_bool b
    | int b => obtain ⟨t, rfl⟩ := rx; exact SeqAt.EqAt.none_int b t
    | str b => obtain ⟨t, rfl⟩ := rx; exact SeqAt.EqAt.none_str b t
    | _ => exact absurd (show false = true from fx) Bool.false_ne_true
  | bl a =>
    cases ry
    cases x with
    | non => cases rx; exact SeqAt.EqAt.bool_none a
    | bl b => cases rx; exact SeqAt.EqAt.bool_bool a b
    | int b => obtain ⟨t, rfl⟩ := rx; exact SeqAt.EqAt.bool_int a b t
    | str b => obtain ⟨t, rfl⟩ := rx; exact SeqAt.EqAt.bool_str a b t
    | _ => exact absurd (show false = true from fx) Bool.false_ne_true
  | int a =>
    obtain ⟨t', rfl⟩ := ry
    cases x with
    | non => cases rx; exact SeqAt.EqAt.int_none a t'
    | bl b => cases rx; exact SeqAt.EqAt.int_bool a t' b
    | int b => obtain ⟨t, rfl⟩ := rx; exact SeqAt.EqAt.int_int a t' b t
    | str b => obtain ⟨t, rfl⟩ := rx; exact SeqAt.EqAt.int_str a t' b t
    | _ => exact absurd (show false = true from fx) Bool.false_ne_true
  | str a =>
    obtain ⟨t', rfl⟩ := ry
    cases x with
    | non => cases rx; exact SeqAt.EqAt.str_none a t'
    | bl b => cases rx; exact SeqAt.EqAt.str_bool a t' b
    | int b => obtain ⟨t, rfl⟩ := rx; exact SeqAt.EqAt.str_int a t' b t
    | str b => obtain ⟨t, rfl⟩ := rx; exact SeqAt.EqAt.str_str a t' b t
    | _ => exact absurd (show false = true from fx) Bool.false_ne_true
  | _ => exact absurd (show false = true from fy) Bool.false_ne_true
/-- the items' answers, read off the values (a value's own answer does not lean on its token) -/
def eqU (x : V) (u : Value) : Bool := match u with
  | .none => eqV .non x
  | .bool b => eqV (.bl b) x
  | .int i _ => eqV (.int i) x
  | .str z _ => eqV (.str z) x
  | _ => false
theorem eqU_of {x y : V} {u : Value} (r : RelV y u) (f : flatV y = true) : eqU x u = eqV y x := by
  cases y with
  | non => cases r; rfl
  | bl b => cases r; rfl
  | int i => obtain ⟨t, rfl⟩ := r; rfl
  | str z => obtain ⟨t, rfl⟩ := r; rfl
  | _ => exact absurd (show false = true from f) Bool.false_ne_true
theorem any_eqU {x : V} : ∀ {xs : List V} {us : List Value}, Vals xs us → xs.all flatV = true → us.any (eqU x) = xs.any fun y => eqV y x
  | _, _, .nil, _ => rfl
  | y :: xs, u :: us, .cons r t, f => by
    rw [List.all_cons, Bool.and_eq_true] at f
    rw [List.any_cons, List.any_cons, eqU_of r f.1, any_eqU t f.2]
theorem mem_eqAt {A : Around} {s : Shared} {x : V} {v : Value} (rx : RelV x v) (fx : flatV x = true) : ∀ {xs : List V} {us : List Value}, Vals xs us → xs.all flatV = true → ∀ u ∈ us, SeqAt.EqAt A s u v (eqU x u)
  | _, _, .nil, _ => fun u hu => by cases hu
  | y :: xs, u :: us, .cons r t, f => fun u' hu => by
    rw [List.all_cons, Bool.and_eq_true] at f
    rcases List.mem_cons.mp hu with rfl | hu
    · rw [eqU_of r f.1]; exact eqAt_V r rx f.1 fx
    · exact mem_eqAt rx fx t f.2 u' hu
def inV (x : V) (xs : List V) : Bool := xs.any fun y => eqV y x
/-- x in a list or tuple of flat items -/
def rIn (K : PySem.W.Frag) (neg : Bool) : R2 := fun x y H Q => ∃ p xs, y = .ref p ∧ (SqL K H p xs ∨ SqT K H p xs) ∧ flatV x = true ∧ xs.all flatV = true ∧ Q (.bl (if neg then !inV x xs else inV x xs)) H
theorem op_in_seq : OpR X (compareOp .In) (rIn X.K false) := by
  intro pins s σ H x y v u Q I rx ry h
  obtain ⟨p, xs, rfl, hq, fx, fs, q⟩ := h
  cases ry
  rcases hq with hq | hq
  · obtain ⟨its, r, pl, hz⟩ := I.list hq
    refine SeqAt.in_listAt (eqU x) pl.isList (fun w hw => mem_eqAt rx fx r fs w (by simpa using hw)) ⟨.bl _, H, I, rfl, ?_⟩
    rw [show its.toArray.any (eqU x) = its.any (eqU x) by simp, any_eqU r fs]
    exact q
  · obtain ⟨its, r, pl, hz⟩ := I.tuple hq
    refine SeqAt.in_tupleAt (eqU x) pl (fun w hw => mem_eqAt rx fx r fs w (by simpa using hw)) ⟨.bl _, H, I, rfl, ?_⟩
    rw [show its.toArray.any (eqU x) = its.any (eqU x) by simp, any_eqU r fs]
    exact q
theorem op_notIn_seq : OpR X (compareOp .NotIn) (rIn X.K true) := by
  intro pins s σ H x y v u Q I rx ry h
  obtain ⟨p, xs, rfl, hq, fx, fs, q⟩ := h
  cases ry
  rcases hq with hq | hq
  · obtain ⟨its, r, pl, hz⟩ := I.list hq
    refine SeqAt.notIn_listAt (eqU x) pl.isList (fun w hw => mem_eqAt rx fx r fs w (by simpa using hw)) ⟨.bl _, H, I, rfl, ?_⟩
    rw [show its.toArray.any (eqU x) = its.any (eqU x) by simp, any_eqU r fs]
    exact q
  · obtain ⟨its, r, pl, hz⟩ := I.tuple hq
    refine SeqAt.notIn_tupleAt (eqU x) pl (fun w hw => mem_eqAt rx fx r fs w (by simpa using hw)) ⟨.bl _, H, I, rfl, ?_⟩
    rw [show its.toArray.any (eqU x) = its.any (eqU x) by simp, any_eqU r fs]
    exact q
theorem op_notIn_str : OpR X (compareOp .NotIn) (fun x y H Q => ∃ i j, x = .str i ∧ y = .str j ∧ Q (.bl (!(!(Builtin.Str.occurrences j i 0 j.length 1).isEmpty))) H) := by
  intro pins s σ H x y v u Q I rx ry h
  obtain ⟨i, j, rfl, rfl, q⟩ := h
  obtain ⟨t, rfl⟩ := rx
  obtain ⟨t', rfl⟩ := ry
  exact notIn_str ⟨.bl _, H, I, rfl, q⟩

/-! ### len, list(x), tuple(x) of any list or tuple that is read -/
theorem call_len_seq : CallR X (.builtin "len") (fun xs H Q => ∃ p ys, xs = [.ref p] ∧ (SqL X.K H p ys ∨ SqT X.K H p ys) ∧ Q (.int ys.length) H) := by
  intro pins s σ H xs us Q I r h
  obtain ⟨p, ys, rfl, hq, q⟩ := h
  obtain ⟨u, rfl, rx⟩ := vals1 r
  cases rx
  have hn := line63
  rcases hq with hq | hq
  · obtain ⟨its, r', pl, hz⟩ := I.list hq
    have hlen := r'.length
    exact Calls.call_len_list pl.isList (by simp only [List.size_toArray] <;> omega) ⟨.int ys.length, H, I.tok _, ⟨s.toks + 1, by rw [List.size_toArray, hlen]⟩, q⟩
  · obtain ⟨its, r', pl, hz⟩ := I.tuple hq
    have hlen := r'.length
    exact len_tuple pl (by simp only [List.size_toArray] <;> omega) ⟨.int ys.length, H, I.tok _, ⟨s.toks + 1, by rw [List.size_toArray, hlen]⟩, q⟩
theorem call_len_str : CallR X (.builtin "len") (fun xs H Q => ∃ z, xs = [.str z] ∧ z.length ≤ sizeLine ∧ Q (.int z.length) H) := by
  intro pins s σ H xs us Q I r h
  obtain ⟨z, rfl, hz, q⟩ := h
  obtain ⟨u, rfl, t, rfl⟩ := vals1 r
  have hn := line63
  exact len_str (by omega) ⟨.int z.length, H, I.tok _, ⟨_, rfl⟩, q⟩
theorem CallR.or {f : Value} {r r' : List V → Hp → VK → Prop} (h : CallR X f r) (h' : CallR X f r') : CallR X f (fun xs H Q => r xs H Q ∨ r' xs H Q) := by
  intro pins s σ H xs us Q I rs q
  rcases q with q | q
  · exact h pins s σ H xs us Q I rs q
  · exact h' pins s σ H xs us Q I rs q
theorem call_list_of : CallR X (.type "list") (fun xs H Q => ∃ p ys, xs = [.ref p] ∧ (SqL X.K H p ys ∨ SqT X.K H p ys) ∧ ∀ l, H l = none → Q (.ref l) (upd H l (.lst ys))) := by
  intro pins s σ H xs us Q I r h
  obtain ⟨p, ys, rfl, hq, q⟩ := h
  obtain ⟨u, rfl, rx⟩ := vals1 r
  cases rx
  have fin : ∀ (its : List Value), Vals ys its → ys.length ≤ sizeLine → ∀ (h' : Heap) (c' : Nat), (∀ b o', s.heap.get? b = some o' → h'.get? b = some o') →
      h'.get? s.heap.objs.size = some { cls := .type "list", dict := none, data := .seq its.toArray c', slots := #[] } → EP X pins σ Q (.ref s.heap.objs.size) { s with heap := h' } := fun its r' hz h' c' kp e =>
    ⟨.ref s.heap.objs.size, _, I.laid (t' := s.toks) kp (Nat.le_refl _) (show ObjOk X.prog X.w _ h' _ (.lst ys) from ⟨hz, its, c', r', e⟩), rfl, q _ (I.hok.fresh (Nat.le_refl _))⟩
  rcases hq with hq | hq
  · obtain ⟨its, r', pl, hz⟩ := I.list hq
    have hlen := r'.length
    obtain ⟨o, ho, hc, n, hd⟩ := pl.isList
    exact call_list_seq p (.inl rfl) ho hc hd (fun h' c' kp e => fin its r' hz h' c' kp e) (by simp only [List.size_toArray] <;> omega)
  · obtain ⟨its, r', pl, hz⟩ := I.tuple hq
    have hlen := r'.length
    obtain ⟨o, ho, hc, n, hd⟩ := pl
    exact call_list_seq p (.inr rfl) ho hc hd (fun h' c' kp e => fin its r' hz h' c' kp e) (by simp only [List.size_toArray] <;> omega)
theorem call_tuple_of : CallR X (.type "tuple") (fun xs H Q => ∃ p ys, xs = [.ref p] ∧ ((SqL X.K H p ys ∧ ∀ l, H l = none → Q (.ref l) (upd H l (.tup ys))) ∨ (SqT X.K H p ys ∧ Q (.ref p) H))) := by
  intro pins s σ H xs us Q I r h
  obtain ⟨p, ys, rfl, h⟩ := h
  obtain ⟨u, rfl, rx⟩ := vals1 r
  cases rx
  rcases h with ⟨hq, q⟩ | ⟨hq, q⟩
  · obtain ⟨its, r', pl, hz⟩ := I.list hq
    have hlen := r'.length
    refine call_tuple_list pl.isList (fun h' kp => ?_) (by simp only [List.size_toArray] <;> omega)
    have I1 : Inv X pins σ H { s with heap := h' } := I.kept (t' := s.toks) kp
    have I2 : Inv X pins σ (upd H h'.objs.size (.tup ys)) { s with heap := h'.push { cls := .type "tuple", data := .seq its.toArray } } :=
      I1.laid (t' := s.toks) (fun b o e => Heap.get?_push_of_some _ e) (Nat.le_refl _) (show ObjOk X.prog X.w _ _ _ (.tup ys) from ⟨hz, its, r', IsTup.new _ _⟩)
    exact ⟨.ref h'.objs.size, _, I2, rfl, q _ (I1.hok.fresh (Nat.le_refl _))⟩
  · obtain ⟨its, r', pl, hz⟩ := I.tuple hq
    exact call_tuple_same pl ⟨.ref p, H, I, rfl, q⟩

/-! ### the call of a builtin's method: o.m(..) -/
/-- the value is of that builtin type -/
def tyV (K : PySem.W.Frag) (T : String) (x : V) (H : Hp) : Prop := match x with
  | .str _ => T = "str"
  | .int _ => T = "int"
  | .ref p => (T = "list" ∧ ∃ xs, SqL K H p xs) ∨ (T = "tuple" ∧ ∃ o, K.lookup p = some o ∧ o.cls = .type "tuple" ∧ o.dict = none) ∨
      (T = "dict" ∧ ((∃ kvs, H p = some (.dK kvs)) ∨ ∃ kvs, H p = some (.dT kvs))) ∨ (T = "set" ∧ ∃ S n, H p = some (.set S n))
  | _ => False
theorem tyV_is {pins : List (Addr × Obj)} {σ : St} {H : Hp} {s : Shared} {T : String} {x : V} {v : Value} (I : Inv X pins σ H s) (r : RelV x v) (ty : tyV X.K T x H) :
    s.TypeIs v T ∧ ∀ a, v = .ref a → ∃ ob, s.heap.get? a = some ob ∧ ob.dict = none := by
  cases x with
  | str z =>
    obtain ⟨t, rfl⟩ := r
    cases (show T = "str" from ty)
    exact ⟨typeIs_str s z t, fun _ e => nomatch e⟩
  | int i =>
    obtain ⟨t, rfl⟩ := r
    cases (show T = "int" from ty)
    exact ⟨typeIs_int s i t, fun _ e => nomatch e⟩
  | ref p =>
    cases r
    rcases ty with ⟨rfl, xs, hq⟩ | ⟨rfl, o, hk, hc, hd⟩ | ⟨rfl, hk⟩ | ⟨rfl, S, n, hk⟩
    · obtain ⟨its, _, pl, _⟩ := I.list hq
      refine ⟨pl.isList.typeIs, fun a e => ?_⟩
      cases e
      obtain ⟨o, n, e, c, hd, _⟩ := pl
      exact ⟨o, e, hd⟩
    · refine ⟨⟨o, I.kIn p o hk, hc⟩, fun a e => ?_⟩
      cases e
      exact ⟨o, I.kIn _ o hk, hd⟩
    · have z : ∃ o, s.heap.get? p = some o ∧ o.ExactDict := by
        rcases hk with ⟨kvs, hk⟩ | ⟨kvs, hk⟩
        · obtain ⟨_, _, _, _, o, _, _, e, ex, _⟩ := I.hok p _ hk
          exact ⟨o, e, ex⟩
        · obtain ⟨_, _, _, _, o, _, _, e, ex, _⟩ := I.hok p _ hk
          exact ⟨o, e, ex⟩
      obtain ⟨o, e, ex⟩ := z
      refine ⟨⟨o, e, ex.1⟩, fun a e2 => ?_⟩
      cases e2
      exact ⟨o, e, ex.2.1⟩
    · obtain ⟨o, _, _, _, e, ex, _⟩ := I.hok p _ hk
      refine ⟨⟨o, e, ex.1⟩, fun a e2 => ?_⟩
      cases e2
      exact ⟨o, e, ex.2.1⟩
  | _ => exact False.elim ty
def tBM0 (K : PySem.W.Frag) (T : String) (r : V → List V → Hp → VK → Prop) (to : TE) : TE := fun σ H Q => to σ H fun x H1 => tyV K T x H1 ∧ r x [] H1 Q
def tBM (K : PySem.W.Frag) (T : String) (r : V → List V → Hp → VK → Prop) (to : TE) (t : TA) : TE := fun σ H Q => to σ H fun x H1 => tyV K T x H1 ∧ t σ H1 fun xs H2 => r x xs H2 Q
variable {o e : Expr} {es : List Expr} {to : TE} {t : TA} {name : Str} {apos cpos : Pos} {T id : String} {r : V → List V → Hp → VK → Prop}
theorem pe_bm0 (pa : PlainAttrs T) (slot : Slot T name id) (hty : typeOf (.builtin id) = pure (.type "method_descriptor")) (hm : MtR X id r) (ho : PE X o to)
    (hbase : attributeBase o name X.env (eval o X.env) = eval o X.env := by rfl) (hline : (apos.endLine == cpos.line) = true := by rfl) : PE X (.Call (.Attribute o name apos) [] [] cpos) (tBM0 X.K T r to) := by
  intro pins s σ H Q I h
  refine wpAny_Call_method0_late hbase hline (thn (ho pins s σ H _ I h) fun v s1 ⟨x, H1, I1, r1, ty, q1⟩ => ?_)
  obtain ⟨h1, h2⟩ := tyV_is I1 r1 ty
  exact ⟨T, id, pa, slot, hty, h1, h2, Calls.callWith_builtin rfl (PySem.evalArgs_none (hm pins s1 σ H1 x [] v [] Q I1 r1 .nil q1))⟩
theorem pe_bm (pa : PlainAttrs T) (slot : Slot T name id) (hty : typeOf (.builtin id) = pure (.type "method_descriptor")) (hm : MtR X id r) (ho : PE X o to) (ha : PA X (e :: es) t)
    (hbase : attributeBase o name X.env (eval o X.env) = eval o X.env := by rfl)
    (hfew : ((backTo cpos (starEach (e :: es) X.env)).all (fun x => !x.1) && (backToKw cpos (keywordEach [] X.env)).all (fun x => x.1.isSome)
      && decide ((e :: es).length + ([] : List Keyword).length + (if ([] : List Keyword).isEmpty then 0 else 1) < 30)) = true := by rfl)
    (hline : (apos.endLine == cpos.line) = true := by rfl) (hs : starEach (e :: es) X.env = (false, eval e X.env) :: starEach es X.env := by rfl) (hplain : (backTo cpos (starEach es X.env)).any (·.1) = false := by rfl) :
    PE X (.Call (.Attribute o name apos) (e :: es) [] cpos) (tBM X.K T r to t) := by
  intro pins s σ H Q I h
  refine wpAny_Call_method_late hbase hfew hline rfl (thn (ho pins s σ H _ I h) fun v s1 ⟨x, H1, I1, r1, ty, q1⟩ => ?_)
  obtain ⟨h1, h2⟩ := tyV_is I1 r1 ty
  refine ⟨T, id, pa, slot, hty, h1, h2, ?_⟩
  have hA := ha cpos pins s1 σ H1 _ I1 q1
  rw [hs] at hA ⊢
  refine Calls.callWith_builtin (by show (false || (backTo cpos (starEach es X.env)).any (·.1)) = false; rw [hplain] <;> rfl) (Calls.evalArgs_plain ?_)
  exact thn hA fun us s2 ⟨vs, H2, I2, r2, q2⟩ => hm pins s2 σ H2 x vs v us Q I2 r1 r2 q2
/- xs.append(e), list.index on a module's tuple .. are MtR facts of 06m -/
end
end L2

namespace L2
open PySem PySem.Spec PyProof.Rows

def MtM (X : Cx) (id : String) (r : V → List V → Hp → VK → Prop) : Prop :=
  ∀ (pins : List (Addr × Obj)) (s : Shared) (σ : St) (H : Hp) (x : V) (xs : List V) (v : Value) (us : List Value) (Q : VK), Inv X pins σ H s → RelV x v → Vals xs us → r x xs H Q →
    wpAny (model X.prog X.w) X.A (call (.builtin id) (v :: us)) (EP X pins σ Q) X.xe s

/-! ### lists of values -/
theorem Vals.one : ∀ {x : V} {us : List Value}, Vals [x] us → ∃ u, us = [u] ∧ RelV x u
  | _, _, .cons r .nil => ⟨_, rfl, r⟩
theorem Vals.two : ∀ {x y : V} {us : List Value}, Vals [x, y] us → ∃ u v, us = [u, v] ∧ RelV x u ∧ RelV y v
  | _, _, _, .cons r (.cons q .nil) => ⟨_, _, rfl, r, q⟩
theorem Vals.zero : ∀ {us : List Value}, Vals [] us → us = []
  | _, .nil => rfl
theorem Vals.dropLast {xs : List V} {us : List Value} (h : Vals xs us) : Vals xs.dropLast us.dropLast := by
  induction h with
  | nil => exact .nil
  | cons r t ih =>
    cases t with
    | nil => exact .nil
    | cons q t' => exact .cons r ih
theorem Vals.eraseIdx : ∀ {xs : List V} {us : List Value} (i : Nat), Vals xs us → Vals (xs.eraseIdx i) (us.eraseIdx i)
  | _, _, _, .nil => .nil
  | _, _, 0, .cons _ t => t
  | _, _, i + 1, .cons r t => .cons r (Vals.eraseIdx i t)
theorem Vals.reverse {xs : List V} {us : List Value} (h : Vals xs us) : Vals xs.reverse us.reverse := by
  induction h with
  | nil => exact .nil
  | cons r t ih => rw [List.reverse_cons, List.reverse_cons]; exact Vals.append ih (.cons r .nil)
theorem Vals.rep {xs : List V} {us : List Value} (h : Vals xs us) : ∀ k : Nat, Vals (List.replicate k xs).flatten (List.replicate k us).flatten
  | 0 => .nil
  | k + 1 => by
    rw [List.replicate_succ, List.replicate_succ, List.flatten_cons, List.flatten_cons]
    exact Vals.append h (Vals.rep h k)
theorem erase_last {α : Type} (l : List α) : l.eraseIdx (l.length - 1) = l.dropLast := by
  induction l with
  | nil => rfl
  | cons a r ih =>
    cases r with
    | nil => rfl
    | cons b r =>
      have e : (a :: b :: r).length - 1 = ((b :: r).length - 1) + 1 := by
        have h1 : (a :: b :: r).length = r.length + 2 := rfl
        have h2 : (b :: r).length = r.length + 1 := rfl
        omega
      rw [e, List.eraseIdx_cons_succ, ih]
      all_goals rfl
theorem len_erase {α : Type} : ∀ (l : List α) (i : Nat), (l.eraseIdx i).length ≤ l.length
  | [], _ => Nat.le_refl _
  | _ :: _, 0 => Nat.le_succ _
  | _ :: r, i + 1 => Nat.succ_le_succ (len_erase r i)
theorem foldl_rep (its : List Value) : ∀ (k : Nat) (acc : List Value),
    List.foldl (fun x1 x2 => x1 ++ x2) acc.toArray (List.replicate k its.toArray) = (acc ++ (List.replicate k its).flatten).toArray
  | 0, acc => by simp
  | k + 1, acc => by
    have e : acc.toArray ++ its.toArray = (acc ++ its).toArray := by simp
    have e2 : (acc ++ its) ++ (List.replicate k its).flatten = acc ++ (List.replicate (k + 1) its).flatten := by
      rw [List.replicate_succ, List.flatten_cons, List.append_assoc]
    rw [← e2, ← foldl_rep its k (acc ++ its), ← e, List.replicate_succ, List.foldl_cons]

section
variable {X : Cx} {pins : List (Addr × Obj)} {σ : St} {H : Hp} {s : Shared} {l b : Addr} {xs ys zs : List V}

/-! ### the two steps: a tracked list is rewritten, a new list is laid -/
theorem Inv.lset {its its' : List Value} {n : Nat} {f : Array Value → Array Value} {t' : Nat} (I : Inv X pins σ H s) (hH : H l = some (.lst xs))
    (e : s.heap.get? l = some { cls := .type "list", data := .seq its.toArray n }) (hf : f its.toArray = its'.toArray) (hv : Vals ys its') (hz : ys.length ≤ sizeLine) :
    Inv X pins σ (upd H l (.lst ys)) { s with heap := s.heap.update l (Obj.mapSeq f), toks := t' } := by
  have q := PySem.IsL.update e f
  rw [hf] at q
  refine I.write (x := l) (e := l) (by rw [hH]; exact trivial) (.inl rfl) (fun b' u hb hu => (Heap.get?_update_other s.heap (Obj.mapSeq f) (Ne.symm hb)).trans hu) ⟨_, q⟩ ?_
  exact ⟨hz, its', _, hv, q⟩
theorem Inv.lnew {its : List Value} {t' : Nat} (I : Inv X pins σ H s) (hv : Vals ys its) (hz : ys.length ≤ sizeLine) :
    Inv X pins σ (upd H s.heap.objs.size (.lst ys)) { s with heap := s.heap.push { cls := .type "list", data := .seq its.toArray }, toks := t' } :=
  I.laid (fun _ _ q => Heap.get?_push_of_some _ q) (Nat.le_refl _) ⟨hz, its, 0, hv, Heap.get?_push_size _ rfl⟩
theorem Inv.fresh (I : Inv X pins σ H s) : H s.heap.objs.size = none := I.hok.fresh (Nat.le_refl _)
theorem Inv.lstM (I : Inv X pins σ H s) (hH : H l = some (.lst xs)) : xs.length ≤ sizeLine ∧ ∃ (its : List Value) (n : Nat), Vals xs its ∧ xs.length = its.length ∧ s.heap.get? l = some { cls := .type "list", data := .seq its.toArray n } := by
  obtain ⟨z, its, n, r, e⟩ := I.hok l _ hH
  exact ⟨z, its, n, r, r.length, e⟩

theorem notLongL {n : Nat} (h : n ≤ sizeLine) : Builtin.List.listTooLong n = false := by
  unfold Builtin.List.listTooLong
  exact decide_eq_false (by omega)
end

section
variable {X : Cx}

/-! ### methods -/
def rAppend : V → List V → Hp → VK → Prop := fun x vs H Q => ∃ l xs y, x = .ref l ∧ vs = [y] ∧ H l = some (.lst xs) ∧ xs.length < sizeLine ∧ Q .non (upd H l (.lst (xs ++ [y])))
theorem mt_append : MtM X "list.append" rAppend := by
  intro pins s σ H x vs v us Q I rx rv h
  obtain ⟨l, xs, y, rfl, rfl, hH, hz, q⟩ := h
  cases rx
  obtain ⟨u, rfl, ru⟩ := rv.one
  obtain ⟨z, its, n, r, hl, e⟩ := I.lstM hH
  refine call_meets F.slot_list_append ⟨_, e, rfl⟩ F.entry_list_append (F.args_list_append_2 _ _) (PySem.list_append l its.toArray n u (by rw [List.size_toArray]; omega)) ⟨e, ?_⟩
  refine ⟨.non, _, I.lset (its' := its ++ [u]) hH e (by simp) (r.append (.cons ru .nil)) ?_, rfl, q⟩
  rw [List.length_append, List.length_singleton]
  omega

def rExtend : V → List V → Hp → VK → Prop := fun x vs H Q => ∃ l b xs zs, x = .ref l ∧ vs = [.ref b] ∧ H l = some (.lst xs) ∧ H b = some (.lst zs) ∧ xs.length + zs.length ≤ sizeLine ∧ Q .non (upd H l (.lst (xs ++ zs)))
theorem mt_extend : MtM X "list.extend" rExtend := by
  intro pins s σ H x vs v us Q I rx rv h
  obtain ⟨l, b, xs, zs, rfl, rfl, hH, hB, hz, q⟩ := h
  cases rx
  obtain ⟨u, rfl, ru⟩ := rv.one
  cases ru
  obtain ⟨z, its, n, r, hl, e⟩ := I.lstM hH
  obtain ⟨z2, its2, n2, r2, hl2, e2⟩ := I.lstM hB
  have hsz : its.toArray.size + its2.toArray.size ≤ sizeLine := by rw [List.size_toArray, List.size_toArray]; omega
  have hlong : ¬ (!its.toArray.isEmpty && Builtin.List.listTooLong (its.toArray.size + its2.toArray.size)) = true := by
    rw [notLongL hsz, Bool.and_false]
    exact Bool.false_ne_true
  refine call_meets F.slot_list_extend ⟨_, e, rfl⟩ F.entry_list_extend (F.args_list_extend_2 _ _)
    (AutoSeq1.list_extend_list_list_0 l its.toArray n b its2.toArray n2 hlong (by rw [List.size_toArray]; omega) (by omega)) ⟨e, e2, ?_⟩
  refine ⟨.non, _, I.lset (its' := its ++ its2) hH e (by simp) (r.append r2) ?_, rfl, q⟩
  rw [List.length_append]
  omega

def rPop : V → List V → Hp → VK → Prop := fun x vs H Q => ∃ l xs y, x = .ref l ∧ vs = [] ∧ H l = some (.lst xs) ∧ xs[xs.length - 1]? = some y ∧ Q y (upd H l (.lst xs.dropLast))
theorem mt_pop : MtM X "list.pop" rPop := by
  intro pins s σ H x vs v us Q I rx rv h
  obtain ⟨l, xs, y, rfl, rfl, hH, hy, q⟩ := h
  cases rx
  have hus := rv.zero
  subst hus
  obtain ⟨z, its, n, r, hl, e⟩ := I.lstM hH
  obtain ⟨u, hu, ru⟩ := r.get hy
  have hy' : its.toArray[its.toArray.size - 1]? = some u := by
    show its.toArray[its.length - 1]? = some u
    rw [← Array.getElem?_toList, ← hl]
    exact hu
  refine call_meets F.slot_list_pop ⟨_, e, rfl⟩ F.entry_list_pop (F.args_list_pop_1 _) (MeetsSeq.list_pop_last l its.toArray n u hy' (by rw [List.size_toArray]; omega)) ⟨e, ?_⟩
  refine ⟨y, _, I.lset (its' := its.dropLast) hH e ?_ r.dropLast ?_, ru, q⟩
  · show its.toArray.eraseIdxIfInBounds (its.toArray.size - 1) = its.dropLast.toArray
    rw [List.size_toArray, List.eraseIdxIfInBounds_toArray, erase_last]
  · rw [List.length_dropLast]
    omega

def rPopAt : V → List V → Hp → VK → Prop := fun x vs H Q => ∃ l xs i k y, x = .ref l ∧ vs = [.int i] ∧ H l = some (.lst xs) ∧ -(2 ^ 63) ≤ i ∧ i < 2 ^ 63 ∧ seqIndex? i xs.length = some k ∧ xs[k]? = some y ∧ Q y (upd H l (.lst (xs.eraseIdx k)))
theorem mt_popAt : MtM X "list.pop" rPopAt := by
  intro pins s σ H x vs v us Q I rx rv h
  obtain ⟨l, xs, i, k, y, rfl, rfl, hH, h1, h2, hk, hy, q⟩ := h
  cases rx
  obtain ⟨u, rfl, ru⟩ := rv.one
  obtain ⟨t, rfl⟩ := ru
  obtain ⟨z, its, n, r, hl, e⟩ := I.lstM hH
  obtain ⟨w, hw, rw'⟩ := r.get hy
  refine call_meets F.slot_list_pop ⟨_, e, rfl⟩ F.entry_list_pop (F.args_list_pop_2 _ _)
    (MeetsSeq.list_pop_at l its.toArray n i t k w (fitsIndex_both h1 h2) (by rw [List.size_toArray, ← hl]; exact hk) (by rw [← Array.getElem?_toList]; exact hw) (by rw [List.size_toArray]; omega)) ⟨e, ?_⟩
  refine ⟨y, _, I.lset (its' := its.eraseIdx k) hH e ?_ (r.eraseIdx k) ?_, rw', q⟩
  · show its.toArray.eraseIdxIfInBounds k = (its.eraseIdx k).toArray
    rw [List.eraseIdxIfInBounds_toArray]
  · have := len_erase xs k
    omega

def rReverse : V → List V → Hp → VK → Prop := fun x vs H Q => ∃ l xs, x = .ref l ∧ vs = [] ∧ H l = some (.lst xs) ∧ Q .non (upd H l (.lst xs.reverse))
theorem mt_reverse : MtM X "list.reverse" rReverse := by
  intro pins s σ H x vs v us Q I rx rv h
  obtain ⟨l, xs, rfl, rfl, hH, q⟩ := h
  cases rx
  have hus := rv.zero
  subst hus
  obtain ⟨z, its, n, r, hl, e⟩ := I.lstM hH
  refine call_meets F.slot_list_reverse ⟨_, e, rfl⟩ F.entry_list_reverse (F.args_list_reverse_1 _) (AutoSeq1.list_reverse_list_0 l its.toArray n (by rw [List.size_toArray]; omega)) ⟨e, ?_⟩
  refine ⟨.non, _, I.lset (its' := its.reverse) hH e (by simp) r.reverse ?_, rfl, q⟩
  rw [List.length_reverse]
  omega

def rClear : V → List V → Hp → VK → Prop := fun x vs H Q => ∃ l xs, x = .ref l ∧ vs = [] ∧ H l = some (.lst xs) ∧ Q .non (upd H l (.lst []))
theorem mt_clear : MtM X "list.clear" rClear := by
  intro pins s σ H x vs v us Q I rx rv h
  obtain ⟨l, xs, rfl, rfl, hH, q⟩ := h
  cases rx
  have hus := rv.zero
  subst hus
  obtain ⟨z, its, n, r, hl, e⟩ := I.lstM hH
  refine call_meets F.slot_list_clear ⟨_, e, rfl⟩ F.entry_list_clear (F.args_list_clear_1 _) (AutoSeq1.list_clear_list_0 l its.toArray n (by rw [List.size_toArray]; omega)) ⟨e, ?_⟩
  exact ⟨.non, _, I.lset (its' := []) (ys := []) hH e rfl .nil (Nat.zero_le _), rfl, q⟩

/-! ### list + list, list += list, list * int -/
def rCat : R2 := fun x y H Q => ∃ l b xs zs, x = .ref l ∧ y = .ref b ∧ H l = some (.lst xs) ∧ H b = some (.lst zs) ∧ xs.length + zs.length ≤ sizeLine ∧ ∀ p, H p = none → Q (.ref p) (upd H p (.lst (xs ++ zs)))
theorem op_cat : OpR X (binaryOp .Add) rCat := by
  intro pins s σ H x y v u Q I rx ry h
  obtain ⟨l, b, xs, zs, rfl, rfl, hH, hB, hz, q⟩ := h
  cases rx
  cases ry
  obtain ⟨z, its, n, r, hl, e⟩ := I.lstM hH
  obtain ⟨z2, its2, n2, r2, hl2, e2⟩ := I.lstM hB
  refine PySem.P.add_list e e2 ?_ (by rw [List.size_toArray, List.size_toArray]; omega)
  have ea : its.toArray ++ its2.toArray = (its ++ its2).toArray := by simp
  rw [ea]
  exact ⟨.ref _, _, I.lnew (t' := s.toks) (r.append r2) (by rw [List.length_append]; omega), rfl, q _ I.fresh⟩
/-- a list times an int (a negative one is nothing) -/
def rRep : R2 := fun x y H Q => ∃ l k xs, x = .ref l ∧ y = .int k ∧ H l = some (.lst xs) ∧ -(2 ^ 63) ≤ k ∧ k < 2 ^ 63 ∧ xs.length * k.toNat ≤ sizeLine ∧
  ∀ p, H p = none → Q (.ref p) (upd H p (.lst (List.replicate k.toNat xs).flatten))
theorem len_rep {α : Type} (xs : List α) (k : Nat) : (List.replicate k xs).flatten.length = k * xs.length := by
  induction k with
  | zero => simp
  | succ k ih => rw [List.replicate_succ, List.flatten_cons, List.length_append, ih, Nat.succ_mul, Nat.add_comm]
theorem op_rep : OpR X (binaryOp .Mult) rRep := by
  intro pins s σ H x y v u Q I rx ry h
  obtain ⟨l, k, xs, rfl, rfl, hH, h1, h2, hz, q⟩ := h
  cases rx
  obtain ⟨t, rfl⟩ := ry
  obtain ⟨z, its, n, r, hl, e⟩ := I.lstM hH
  have hlen : its.toArray.size * k.toNat ≤ sizeLine := by rw [List.size_toArray, ← hl]; exact hz
  have hcap : ¬ its.toArray.size * k.toNat > (2 ^ 63 - 1) / 8 := by
    have : (sizeLine : Nat) ≤ (2 ^ 63 - 1) / 8 := by decide
    omega
  have hfit : ¬ (!Builtin.List.listFitsIndex k) = true := by
    rw [fitsIndex_both h1 h2]
    exact Bool.false_ne_true
  have hlong : ¬ Builtin.List.listTooLong (its.toArray.size * k.toNat) = true := by
    rw [notLongL hlen]
    exact Bool.false_ne_true
  have hnew : List.foldl (fun x1 x2 => x1 ++ x2) #[] (List.replicate (if its.toArray.isEmpty = true then 0 else k.toNat) its.toArray) = (List.replicate k.toNat its).flatten.toArray := by
    have f0 : ∀ m : Nat, List.foldl (fun x1 x2 => x1 ++ x2) #[] (List.replicate m its.toArray) = (List.replicate m its).flatten.toArray := fun m => by
      have := foldl_rep its m []
      rw [List.nil_append] at this
      exact this
    rw [f0]
    cases its with
    | nil => simp
    | cons a r' => rw [if_neg (by simp)]
  refine wpAny_binaryOp_repeat_ref (T := "list") (U := "int") (by decide) ⟨_, e, rfl⟩ (fun s' => typeIs_int s' k t) noFill_list_mul F.fills_int_mul F.slot_int_rmul repeat_list F.slot_int_index.lookup
    (call_meets F.slot_int_rmul (typeIs_int s k t) F.entry_int_rmul (F.args_int_rmul_2 _ _) (int___rmul___int_list k t l its.toArray n)
      ⟨e, rfl, ⟨_, e, rfl⟩, call_meets F.slot_list_mul ⟨_, e, rfl⟩ F.entry_list_mul (F.args_list_mul_2 _ _) (AutoListH.list___mul___list_int_3 l its.toArray n k t hfit hcap hlong) ⟨e, ?_⟩⟩)
  rw [hnew]
  exact ⟨.ref _, _, I.lnew (t' := s.toks) (r.rep k.toNat) (by rw [len_rep, Nat.mul_comm]; exact hz), rfl, q _ I.fresh⟩

/-! ### del xs[i] -/
theorem del_list {pins : List (Addr × Obj)} {s : Shared} {σ : St} {H : Hp} {l : Addr} {xs : List V} {i : Int} {t : Tok} {k : Nat} {Q : Unit → Shared → Prop} (I : Inv X pins σ H s) (hH : H l = some (.lst xs))
    (h1 : -(2 ^ 63) ≤ i) (h2 : i < 2 ^ 63) (hk : seqIndex? i xs.length = some k) (h : ∀ s', Inv X pins σ (upd H l (.lst (xs.eraseIdx k))) s' → Q () s') :
    wpAny (model X.prog X.w) X.A (delItem (.ref l) (.int i t)) Q X.xe s := by
  obtain ⟨z, its, n, r, hl, e⟩ := I.lstM hH
  refine PySem.P.delItem_list (k := k) e (fitsIndex_both h1 h2) (by rw [List.size_toArray, ← hl]; exact hk) (h _ ?_) (by rw [List.size_toArray]; omega)
  refine I.lset (its' := its.eraseIdx k) (t' := s.toks) hH e ?_ (r.eraseIdx k) ?_
  · show its.toArray.eraseIdxIfInBounds k = (its.eraseIdx k).toArray
    rw [List.eraseIdxIfInBounds_toArray]
  · have := len_erase xs k
    omega
end

/-! ### xs[a:b] = ys -/
section
variable {prog : Program} {w : World} {A : Around} {E : Value → Shared → Prop} {s : Shared}
theorem splice_eq (its its2 : List Value) (a c : Nat) : its.toArray.extract 0 a ++ its2.toArray ++ its.toArray.extract c its.toArray.size = (its.take a ++ its2 ++ its.drop c).toArray := by
  apply Array.toList_inj.mp
  first
    | (simp
       exact List.take_of_length_le (by simp))
    | simp [List.take_of_length_le]
    | simp
theorem bounds_run {a c n : Nat} (hac : a ≤ c) (hc : c ≤ n) : sliceBounds (some (a : Int)) (some (c : Int)) none n = ((a : Int), (c : Int), 1) := by
  simp only [sliceBounds, Option.getD_none]
  have h1 : ¬ ((a : Int) < 0) := by omega
  have h2 : ¬ ((c : Int) < 0) := by omega
  simp only [h1, h2, if_false, show (1 : Int) > 0 by decide, if_true]
  congr 1
  · omega
  · congr 1; omega
set_option maxRecDepth 100000 in
/-- list.__setitem__ with a slice of step one and another list -/
theorem setItem_slice {l b sl : Addr} {items new : Array Value} {n n2 : Nat} {vl vu : Value} {a c : Nat} {Q : Unit → Shared → Prop}
    (e : s.heap.get? l = some { cls := .type "list", data := .seq items n }) (e2 : s.heap.get? b = some { cls := .type "list", data := .seq new n2 }) (hne : l ≠ b)
    (hs : s.heap.IsSliceOf sl vl vu .none) (pl : IsPart vl (some (a : Int))) (pu : IsPart vu (some (c : Int))) (hac : a ≤ c) (hc : c ≤ items.size)
    (hsz : items.size + new.size ≤ sizeLine) (h : Q () { s with heap := s.heap.update l (Obj.mapSeq fun xs => xs.extract 0 a ++ new ++ xs.extract c xs.size) }) :
    wpAny (model prog w) A (setItem (.ref l) (.ref sl) (.ref b)) Q E s := by
  have hl : s.heap.IsList l items := PySem.IsL.isList e
  have hb : s.heap.IsList b new := PySem.IsL.isList e2
  obtain ⟨os, hos, hcs, hds⟩ := id hs
  have hTs : s.TypeIs (.ref sl) "slice" := ⟨os, hos, hcs⟩
  have hstep : ¬ ((rawPart none == rawInt 0) = true) := Bool.false_ne_true
  have hsame : Builtin.List.listSameRef (.ref l) (.ref b) = false := by
    unfold Builtin.List.listSameRef
    exact beq_eq_false_iff_ne.mpr hne
  have hmax : (max (a : Int) (c : Int)).toNat = c := by omega
  have hz' : ((fun xs : Array Value => xs.extract 0 a ++ new ++ xs.extract c xs.size) items).size ≤ sizeLine + 1 := by
    simp only [Array.size_append, Array.size_extract]
    omega
  unfold setItem
  try with_reducible refine wpAny_holding ?_
  first | refine wpAny_bind (wpAny_pure ?_) | skip
  refine wpAny_bind (wpAny_sequenceKey hl.typeIs (by decide) ?_)
  refine wpAny_bind (wpAny_callSpecial?_slot (name := Str.ofString "__setitem__") hl.typeIs slot_list_setitem
    (wpAny_call_entry slot_list_setitem hl.typeIs entry_list_setitem ?_ (args_list_setitem _ _ _)))
  show wpAny _ _ (Builtin.List.listSubscript? (.ref sl) >>= _) _ _ s
  refine wpAny_bind ?_
  unfold Builtin.List.listSubscript?
  refine wpAny_bind (wpAny_specialOf hTs slice_no_index ?_)
  simp only [Option.isNone_none, if_true]
  refine wpAny_pure ?_
  show wpAny _ _ (typeOf (.ref sl) >>= _) _ _ s
  refine wpAny_bind (wpAny_typeOf hTs ?_)
  first
    | rw [if_neg (by decide)]
    | refine PySem.W.KFB.if_not (by decide) ?_
  rw [listSliceParts_eq]
  refine wpAny_bind (wpAny_bind (wpAny_field hos hds (x := .none) rfl (wpAny_bind (wpAny_listPart .none ?_))))
  rw [if_neg hstep]
  refine wpAny_bind (wpAny_field hos hds (x := vl) rfl (wpAny_bind (wpAny_listPart pl ?_)))
  refine wpAny_bind (wpAny_field hos hds (x := vu) rfl (wpAny_bind (wpAny_listPart pu (wpAny_pure ?_))))
  first
    | simp only [hsame, Bool.false_eq_true, if_false]
    | refine PySem.W.KFB.if_not hsame ?_
    | (dsimp only
       rw [if_neg (by rw [hsame]; exact Bool.false_ne_true)])
  refine wpAny_bind (m := Builtin.List.listAllItems (.ref b) "must assign iterable to extended slice") ?_
  unfold Builtin.List.listAllItems
  refine wpAny_bind (wpAny_typeOf hb.typeIs ?_)
  first
    | refine PySem.W.KFB.if_so (by decide) ?_
    | rw [if_pos (by decide)]
    | simp only [beq_self_eq_true, Bool.true_or, if_true]
  unfold Builtin.List.listItems
  refine wpAny_bind (wpAny_seqItems e2 rfl (wpAny_pure ?_))
  refine wpAny_bind (wpAny_bind (wpAny_seqItems e rfl (wpAny_pure ?_)))
  refine wpAny_bind (wpAny_of_eq ((sliceIndices_raw (some (a : Int)) (some (c : Int)) none items.size (by simp)).trans (congrArg (pure : Int × Int × Int → Sem (Int × Int × Int)) (bounds_run hac hc))) ?_)
  show wpAny _ _ (if ((1 : Int) == 1) = true then _ else _) _ _ s
  rw [if_pos (by decide)]
  refine wpAny_bind (wpAny_rule ?_)
  first
    | simp only [notLongL hsz, Bool.false_eq_true, if_false]
    | refine PySem.W.KFB.if_not (notLongL hsz) ?_
  first | refine wpAny_bind (wpAny_pure ?_) | skip
  show wpAny _ _ (updateSeq l (fun xs => xs.extract 0 ((a : Int)).toNat ++ new ++ xs.extract (max (a : Int) (c : Int)).toNat xs.size) >>= _) _ _ s
  rw [hmax, Int.toNat_natCast]
  refine wpAny_bind (wpAny_updateSeq (hz := Nat.le_trans (Nat.le_add_right _ _) hsz) (_hz' := hz') e rfl ?_)
  refine wpAny_bind (wpAny_letGo ?_)
  first
    | exact wpAny_bind (wpAny_pure (wpAny_pure ⟨.none, rfl, wpAny_pure h⟩))
    | exact wpAny_pure ⟨.none, rfl, wpAny_pure h⟩
end

section
variable {X : Cx}
/-- xs[a:c] = ys of another list, at the value level: sl is the slice object that was just made -/
theorem set_slice {pins : List (Addr × Obj)} {s : Shared} {σ : St} {H : Hp} {l b sl : Addr} {xs ys : List V} {a c : Int} {vl vu : Value} {Q : Unit → Shared → Prop} (I : Inv X pins σ H s)
    (hH : H l = some (.lst xs)) (hB : H b = some (.lst ys)) (hne : l ≠ b) (hs : s.heap.IsSliceOf sl vl vu .none) (ra : RelV (.int a) vl) (rc : RelV (.int c) vu) (h0 : 0 ≤ a) (hac : a ≤ c) (hc : c ≤ xs.length)
    (hz : xs.length + ys.length ≤ sizeLine) (h : ∀ s', Inv X pins σ (upd H l (.lst (xs.take a.toNat ++ ys ++ xs.drop c.toNat))) s' → Q () s') :
    wpAny (model X.prog X.w) X.A (setItem (.ref l) (.ref sl) (.ref b)) Q X.xe s := by
  obtain ⟨ta, rfl⟩ := ra
  obtain ⟨tc, rfl⟩ := rc
  obtain ⟨z, its, n, r, hl, e⟩ := I.lstM hH
  obtain ⟨z2, its2, n2, r2, hl2, e2⟩ := I.lstM hB
  obtain ⟨a', rfl⟩ := Int.eq_ofNat_of_zero_le h0
  obtain ⟨c', rfl⟩ := Int.eq_ofNat_of_zero_le (Int.le_trans h0 hac)
  simp only [Int.toNat_natCast] at h
  refine setItem_slice (a := a') (c := c') e e2 hne hs (.int _ _) (.int _ _) (by omega) (by rw [List.size_toArray]; omega) (by rw [List.size_toArray, List.size_toArray]; omega) (h _ ?_)
  refine I.lset (its' := its.take a' ++ its2 ++ its.drop c') (t' := s.toks) hH e ?_ (Vals.append (Vals.append (r.take _) r2) (r.drop _)) ?_
  · exact splice_eq its its2 a' c'
  · rw [List.length_append, List.length_append, List.length_take, List.length_drop]
    omega
end
end L2

namespace Att
open PySem PySem.W PySem.Calls PyProof.Rows

/-! ### the script -/
theorem ints_of_wellAll {P : Params} {h : Heap} : ∀ (ns : List Int) (vs : List Value), WellAll P h vs (ns.map WData.int) → IntsAre vs ns := by
  intro ns
  induction ns with
  | nil =>
    intro vs w
    rw [List.map_nil] at w
    cases w
    exact .nil
  | cons n ns ih =>
    intro vs w
    rw [List.map_cons] at w
    cases w with
    | cons a b =>
      cases a
      exact .cons _ _ (ih _ b)

theorem script_of {l : OpenLaw} {n : Nat} (hn : l.most = some n) {P : Params} {h : Heap} {args : List WData} {vals : List Value}
    (hpre : l.row.toRowW.claim.pre args = true) (hwl : WellAll P h vals args) :
    ∃ a vs ns, vals = [Value.ref a] ∧ args = [WData.list (ns.map WData.int)] ∧ h.get? a = some { cls := .type "list", data := .seq vs.toArray } ∧ IntsAre vs ns ∧ ns.length ≤ n := by
  have hsh : WShape.hasAll [] args [.list .int] = true := (pre_splitW hpre).1
  have hc : l.pre.holds [] { args := args } = true := (pre_splitW hpre).2
  obtain ⟨d, r, rfl, h1, h2⟩ := hasAllW_cons hsh
  obtain rfl := hasAllW_nil h2
  obtain ⟨xs, rfl, h3⟩ := hasW_list h1
  obtain ⟨ns, rfl⟩ := items_int h3
  have hlen : ns.length ≤ n := by
    unfold OpenLaw.pre at hc
    have h4 : (WTm.not (.lt (.lit (.int (n : Int))) (.len (.arg 0)))).holds [] { args := [.list (ns.map .int)] } = true := by
      have h4 := (holds_andW hc).1
      rw [hn] at h4
      exact h4
    have h5 := condW_of h4 (w_not (w_lt w_lit (w_len_list (w_arg rfl))))
    rw [List.length_map] at h5
    refine Nat.le_of_not_lt fun q => ?_
    have q' : (n : Int) < ((ns.length : Nat) : Int) := by omega
    first
      | (rw [decide_eq_true q'] at h5; exact absurd h5 (by decide))
      | (simp at h5; omega)
  cases hwl with
  | cons w1 w2 =>
    cases w2
    cases w1 with
    | list ho hall => exact ⟨_, _, ns, rfl, rfl, ho, ints_of_wellAll ns _ hall, hlen⟩

theorem post_true (l : OpenLaw) (args : List WData) : l.row.toRowW.claim.post args (.bool true) args = true :=
  postW_of (r := l.row.toRowW) (X := (true == true))
    (show WShape.has [] (.bool true) .bool = true by first | rfl | decide | simp [WShape.has, WShape.arms, WShape.armsAll])
    (show (WTm.eq .res (.lit (.bool true))).value [] { args := args, res := some (.bool true), after := args } = some (.bool (true == true)) from w_eq_bool (w_res rfl) w_lit) rfl

/-! ### the attachment: holds_open's last premise (the goal 'hc' behind k_head) from a wpAny of the law's body -/
theorem attach {l : OpenLaw} {n : Nat} {q : Program} {loose : List Str} {XP : (Str → Option Value) → Heap → Prop} {YP : World → Heap → Prop} {d : DefRec} {x : Str}
    (hn : l.most = some n) (hdf : d.params.defaults = [])
    (hbind : ∀ pm cd doc v : Value, bindArgs (docDef d.name d.params d.body d.scope pm cd doc) ⟨[v], []⟩ = pure [(x, v)])
    (hx : d.scope.names.lookup x = some .local ∨ d.scope.names.lookup x = some .cell)
    (hk : d.scope.kind = .function) (hco : d.scope.isCoroutine = false) (hgen : d.scope.isGenerator = false)
    (body : ∀ (w : World) (s₀ s₁ s : Shared) (mg mb : Str → Option Value) (fa : Addr) (o : Obj) (pm cd doc : Value) (a : Addr) (vs : List Value) (ns : List Int),
      Ground q loose [] XP w s₀ mg mb s₁.heap → YP w s₁.heap →
      s₁.heap.get? fa = some o → o.data = .func (docDef d.name d.params d.body d.scope pm cd doc) → s₁.heap.CodeRec cd d.name → mg d.name = some (.ref fa) →
      s₁.heap.get? a = some { cls := .type "list", data := .seq vs.toArray } → IntsAre vs ns → ns.length ≤ n →
      s.gens = #[] → s.os = s₁.os →
      Fr s₁.heap s₁.heap.objs.size s.heap (bindL (envOfC d.name d.scope s₁.heap.objs.size fa cd).kindOf [(x, .ref a)] fun _ => none) →
      Cl s₁.heap.objs.size (cellsFrom (s₁.heap.objs.size + 1) d.scope.names []) s.heap (bindC (envOfC d.name d.scope s₁.heap.objs.size fa cd).kindOf [(x, .ref a)] fun _ => none) →
      wpAny (model l.prog w) (callerA.deeper (envOfC d.name d.scope s₁.heap.objs.size fa cd)) (execs d.body (envOfC d.name d.scope s₁.heap.objs.size fa cd))
        (fun f s' => f = .ret (.bool true) ∧ OldK s₁.heap s'.heap ∧ s'.os = s₁.os ∧ AllBare s'.gens) (fun _ _ => False) s) :
    WalkO q loose XP YP l.row.toRowW d [] (fun f vs => PySem.call f vs) := by
  intro w s₀ s₁ mg mb G Y fa o pm cd doc dV kV ho hd hcd hD hmg hg args vals as hpre hlay hrd hwl hlo
  obtain rfl : dV = .none := Dflts.none hD hdf
  obtain rfl : kV = .none := Dflts.noKw hD
  obtain ⟨a, vs, ns, rfl, rfl, hobj, hints, hlen⟩ := script_of hn hpre hwl
  refine enter_call ?_
  refine call_cells_ret (o := o) (by rw [depth_caller]; decide) ho (fd_plain hd) G.T.nolimit hcd (hbind pm cd doc (.ref a)) (fun y hy => ?_) (fun h₁ tk F X => ?_) hco hgen hk
  · obtain rfl : y = (x, Value.ref a) := List.mem_singleton.mp hy
    rcases hx with e | e
    · exact .inl e
    · exact .inr ⟨e, cellsFrom_some _ _ _ (.inl e)⟩
  · refine wpAny_mono (body w s₀ s₁ { s₁ with heap := h₁, toks := tk } mg mb fa o pm cd doc a vs ns G Y ho (fd_plain hd) hcd hmg hobj hints hlen hg rfl F X) (fun f s' hq => ?_) (fun _ _ hq => hq)
    obtain ⟨rfl, h2, h3, h4⟩ := hq
    exact ⟨.inl ⟨.bool true, .bool true, [], rfl, fun _ => rfl, .bool true, post_true l _, fun _ => ⟨List.Pairwise.nil, fun _ hm => (nomatch hm)⟩⟩, h2, h3, h4⟩

/-- the same from a codeAny of the CALL (for a layer whose function contracts speak of calls) -/
theorem attach_call {l : OpenLaw} {n : Nat} {q : Program} {loose : List Str} {XP : (Str → Option Value) → Heap → Prop} {YP : World → Heap → Prop} {d : DefRec}
    (hn : l.most = some n) (hdf : d.params.defaults = [])
    (call : ∀ (w : World) (s₀ s₁ : Shared) (mg mb : Str → Option Value) (fa : Addr) (o : Obj) (pm cd doc : Value) (a : Addr) (vs : List Value) (ns : List Int),
      Ground q loose [] XP w s₀ mg mb s₁.heap → YP w s₁.heap →
      s₁.heap.get? fa = some o → o.data = .func (docDef d.name d.params d.body d.scope pm cd doc) → s₁.heap.CodeRec cd d.name → mg d.name = some (.ref fa) →
      s₁.heap.get? a = some { cls := .type "list", data := .seq vs.toArray } → IntsAre vs ns → ns.length ≤ n → s₁.gens = #[] →
      codeAny (model l.prog w) callerA (.call (.ref fa) ⟨[.ref a], []⟩) (fun r s' => r = .ok (.ret (.bool true)) ∧ OldK s₁.heap s'.heap ∧ s'.os = s₁.os ∧ AllBare s'.gens) s₁) :
    WalkO q loose XP YP l.row.toRowW d [] (fun f vs => PySem.call f vs) := by
  intro w s₀ s₁ mg mb G Y fa o pm cd doc dV kV ho hd hcd hD hmg hg args vals as hpre hlay hrd hwl hlo
  obtain rfl : dV = .none := Dflts.none hD hdf
  obtain rfl : kV = .none := Dflts.noKw hD
  obtain ⟨a, vs, ns, rfl, rfl, hobj, hints, hlen⟩ := script_of hn hpre hwl
  refine enter_call (codeAny_mono (call w s₀ s₁ mg mb fa o pm cd doc a vs ns G Y ho (fd_plain hd) hcd hmg hobj hints hlen hg) fun r s' hq => ?_)
  obtain ⟨rfl, h2, h3, h4⟩ := hq
  exact ⟨.inl ⟨.bool true, .bool true, [], rfl, fun _ => rfl, .bool true, post_true l _, fun _ => ⟨List.Pairwise.nil, fun _ hm => (nomatch hm)⟩⟩, h2, h3, h4⟩

/-- the same where the top left finished generators (o_head chose holds_openN): nothing may have changed at all and no generator may be left -/
theorem attachN {l : OpenLaw} {n : Nat} {q : Program} {loose : List Str} {XP : (Str → Option Value) → Heap → Prop} {YP : World → Heap → Prop} {d : DefRec} {x : Str}
    (hn : l.most = some n) (hdf : d.params.defaults = [])
    (hbind : ∀ pm cd doc v : Value, bindArgs (docDef d.name d.params d.body d.scope pm cd doc) ⟨[v], []⟩ = pure [(x, v)])
    (hx : d.scope.names.lookup x = some .local ∨ d.scope.names.lookup x = some .cell)
    (hk : d.scope.kind = .function) (hco : d.scope.isCoroutine = false) (hgen : d.scope.isGenerator = false)
    (body : ∀ (w : World) (s₀ s₁ s : Shared) (mg mb : Str → Option Value) (fa : Addr) (o : Obj) (pm cd doc : Value) (a : Addr) (vs : List Value) (ns : List Int),
      Ground q loose [] XP w s₀ mg mb s₁.heap → YP w s₁.heap →
      s₁.heap.get? fa = some o → o.data = .func (docDef d.name d.params d.body d.scope pm cd doc) → s₁.heap.CodeRec cd d.name → mg d.name = some (.ref fa) →
      s₁.heap.get? a = some { cls := .type "list", data := .seq vs.toArray } → IntsAre vs ns → ns.length ≤ n →
      s.gens = #[] → s.os = s₁.os →
      Fr s₁.heap s₁.heap.objs.size s.heap (bindL (envOfC d.name d.scope s₁.heap.objs.size fa cd).kindOf [(x, .ref a)] fun _ => none) →
      Cl s₁.heap.objs.size (cellsFrom (s₁.heap.objs.size + 1) d.scope.names []) s.heap (bindC (envOfC d.name d.scope s₁.heap.objs.size fa cd).kindOf [(x, .ref a)] fun _ => none) →
      wpAny (model l.prog w) (callerA.deeper (envOfC d.name d.scope s₁.heap.objs.size fa cd)) (execs d.body (envOfC d.name d.scope s₁.heap.objs.size fa cd))
        (fun f s' => f = .ret (.bool true) ∧ (∀ b o, s₁.heap.get? b = some o → s'.heap.get? b = some o) ∧ s'.os = s₁.os ∧ s'.gens = #[]) (fun _ _ => False) s) :
    WalkN q loose XP YP l.row.toRowW d [] (fun f vs => PySem.call f vs) := by
  intro w s₀ s₁ mg mb G Y fa o pm cd doc dV kV ho hd hcd hD hmg hg args vals as hpre hlay hrd hwl hlo
  obtain rfl : dV = .none := Dflts.none hD hdf
  obtain rfl : kV = .none := Dflts.noKw hD
  obtain ⟨a, vs, ns, rfl, rfl, hobj, hints, hlen⟩ := script_of hn hpre hwl
  refine enter_callW ?_
  refine call_cells_ret (o := o) (by rw [depth_caller]; decide) ho (fd_plain hd) G.T.nolimit hcd (hbind pm cd doc (.ref a)) (fun y hy => ?_) (fun h₁ tk F X => ?_) hco hgen hk
  · obtain rfl : y = (x, Value.ref a) := List.mem_singleton.mp hy
    rcases hx with e | e
    · exact .inl e
    · exact .inr ⟨e, cellsFrom_some _ _ _ (.inl e)⟩
  · refine wpAny_mono (body w s₀ s₁ { s₁ with heap := h₁, toks := tk } mg mb fa o pm cd doc a vs ns G Y ho (fd_plain hd) hcd hmg hobj hints hlen hg rfl F X) (fun f s' hq => ?_) (fun _ _ hq => hq)
    obtain ⟨rfl, h2, h3, h4⟩ := hq
    exact ⟨.inl ⟨.bool true, .bool true, [], rfl, fun _ => rfl, .bool true, post_true l _, fun _ => ⟨List.Pairwise.nil, fun _ hm => (nomatch hm)⟩⟩, h2, h3, h4⟩

/-! ### rules over ANY heap (no ledger) from facts about the written part K: the library's own take a ledger (News) for what they write -/
section
variable {prog : Program} {w : World} {A : Around} {E : Value → Shared → Prop} {s : Shared} {K : Frag}

/-- a def of the module, or a method (qual 'C.m'), entered: the frame is the next address; cells behind it -/
theorem call_fn {R : Result → Shared → Prop} {name qual : Str} {params : Arguments} {body : List Stmt} {scope : Scope} {dV kV doc pm cdv ct oc : Value} {an od : Option Addr} {osl : Array (Option Value)} {f : Addr} {args : Args} {binds : List (Str × Value)}
    (X : K.In s.heap) (hlim : s.heap.NoLimit) (ho : K.lookup f = some ⟨oc, od, .func (fnOf name qual params body scope dV kV doc pm an cdv ct), osl⟩) (hcd : codeIn K cdv qual = true) (hroom : A.depth < recursionLimit)
    (hbind : BindsTo s (fnOf name qual params body scope dV kV doc pm an cdv ct) args binds)
    (hkind : (binds.all fun y => scope.names.lookup y.1 == some .local || scope.names.lookup y.1 == some .cell) = true)
    (h : ∀ s₁, InCallC s s.heap.objs.size (bindL (envOfC qual scope s.heap.objs.size f cdv).kindOf binds fun _ => none) (cellsFrom (s.heap.objs.size + 1) scope.names [])
        (bindC (envOfC qual scope s.heap.objs.size f cdv).kindOf binds fun _ => none) s₁ →
      wpAny (model prog w) (A.deeper (envOfC qual scope s.heap.objs.size f cdv)) (execs body (envOfC qual scope s.heap.objs.size f cdv))
        (fun fl s' => R (.ok (.ret (match fl with | .ret v => v | _ => .none))) s')
        (fun e s' => wpAny (model prog w) (A.deeper (envOfC qual scope s.heap.objs.size f cdv)) (leaving (envOfC qual scope s.heap.objs.size f cdv) e) (fun _ s'' => R (.error e) s'') (fun e' s'' => R (.error e') s'') s') s₁)
    (hco : scope.isCoroutine = false) (hgen : scope.isGenerator = false) (hk : scope.kind = .function) : codeAny (model prog w) A (.call (.ref f) args) R s := by
  refine codeAny_call_function hroom (X _ _ ho) rfl hco hgen rfl (codeRec_of X hcd) (hbind _ _ _ _ ?_)
  refine wpAny_newFunctionEnv_cells hk (kindsX hkind _) fun env he s₁ x => ?_
  subst he
  exact ⟨hlim.keeps x.toInCall.keep, codeAny_func (h s₁ x)⟩

/-- C(..): dict at size, instance at size + 1, then __init__ -/
theorem make_obj {R : Result → Shared → Prop} {C fI : Addr} {rest : List Value} {kw : List (Str × Value)}
    (X : K.In s.heap) (hm : makesIn K C = true) (hi : findIn K (.ref C) "__init__" = some (some (.ref fI))) (hf : isFn K (.ref fI) = true)
    (h : codeAny (model prog w) (A.under (.builtin "type.__call__" ⟨.ref C :: rest, kw⟩)) (.call (.ref fI) ⟨.ref (s.heap.objs.size + 1) :: rest, kw⟩) (InitBack (s.heap.objs.size + 1) R)
      { s with heap := (s.heap.push emptyDict).push (instObj C s.heap.objs.size) }) : codeAny (model prog w) A (.call (.ref C) ⟨rest, kw⟩) R s := by
  obtain ⟨hh, g, d, t, os⟩ := s
  exact make_core (makes_of X hm) (looks_findIn X hi) (fun self => bind_fn X self (beq_iff_eq.mp hf)) (.inl rfl) h

/-- x.name where the instance's dict holds the name and the class does not -/
theorem get_field {x C : Addr} {ox : Obj} {es : List DictEntry} {n : Nat} {name : Str} {expr : Bool} {v : Value} {Q : Value → Shared → Prop}
    (X : K.In s.heap) (I : PySem.W.InstAt s.heap x ox C (some (dictOf es n))) (hg : plainGet K C name = true) (hh : hasDictIn K C = true) (ha : findIn K (.ref C) name = some none)
    (hl : getL name es = some (some v)) (hv : handedIn v = true) (h : Q v { s with toks := s.toks + 1 }) : wpAny (model prog w) A (getAttr (.ref x) name expr) Q E s :=
  get_value X I (plainGet_of hg).1 (findObj_own hh ha rfl hl) hv h

/-- x.m(..): the method found in the class -/
theorem get_method {x C f : Addr} {ox : Obj} {es : List DictEntry} {n : Nat} {name : Str} {pl : Sem Bool} {Q : Value × List Value → Shared → Prop}
    (X : K.In s.heap) (I : PySem.W.InstAt s.heap x ox C (some (dictOf es n))) (hg : plainGet K C name = true) (hf : findIn K (.ref C) name = some (some (.ref f))) (ht : isFn K (.ref f) = true)
    (hl : getL name es = some none) (h : Q (.ref f, [.ref x]) s) : wpAny (model prog w) A (getMethod (.ref x) name pl) Q E s :=
  method_fn X I (plainGet_of hg).1 (plainGet_of hg).2 hf (beq_iff_eq.mp ht) (by show (lookIn name (dictOf es n)).map _ = _; rw [lookIn_dict, hl]; rfl) h

/-! the whole heap as the ledger: makes every rule that writes through a ledger a rule over any heap -/
def noObjs (h : Heap) : Heap := { h with objs := #[] }
theorem noObjs_get (h : Heap) (b : Addr) : (noObjs h).get? b = none := by
  cases e : (noObjs h).get? b with
  | none => rfl
  | some o => exact absurd (Heap.lt_size e) (Nat.not_lt_zero _)
def ledger (h : Heap) (L d : Addr) : List (Addr × Obj) := (List.range h.objs.size).filterMap fun a => if a = L ∨ a = d then none else (h.get? a).map fun o => (a, o)
theorem mem_ledger {h : Heap} {L d a : Addr} {o : Obj} : (a, o) ∈ ledger h L d ↔ a ≠ L ∧ a ≠ d ∧ h.get? a = some o := by
  unfold ledger
  rw [List.mem_filterMap]
  constructor
  · rintro ⟨b, _, e⟩
    split at e
    · cases e
    · rename_i hb
      obtain ⟨o', ho, e'⟩ := Option.map_eq_some_iff.mp e
      cases e'
      exact ⟨fun q => hb (.inl q), fun q => hb (.inr q), ho⟩
  · rintro ⟨n1, n2, ho⟩
    refine ⟨a, List.mem_range.mpr (Heap.lt_size ho), ?_⟩
    rw [if_neg (show ¬ (a = L ∨ a = d) from fun q => q.elim n1 n2), ho] <;> rfl
theorem news_ledger {h : Heap} {L d : Addr} {od : Obj} (hne : d ≠ L) (ho : h.get? d = some od) : News (noObjs h) L h ([] ++ (d, od) :: ledger h L d) := by
  rintro ⟨a, o⟩ hp
  rcases List.mem_cons.mp hp with e | hp
  · cases e
    exact ⟨ho, hne, noObjs_get _ _⟩
  · obtain ⟨n1, n2, e⟩ := mem_ledger.mp hp
    exact ⟨e, n1, noObjs_get _ _⟩
theorem fr_all {h : Heap} {L : Addr} {m : Str → Option Value} (n : h.Ns L m) : Fr (noObjs h) L h m :=
  ⟨n, fun b o e => (by rw [noObjs_get] at e; cases e), Nat.zero_le _⟩
/-- Upd of the head entry (for append_K, setItem_K ..) -/
theorem upd_ledger {h : Heap} {L d : Addr} {o o' : Obj} : Upd d o o' ((d, o) :: ledger h L d) ((d, o') :: ledger h L d) :=
  .head fun ⟨_, _⟩ hp => (mem_ledger.mp hp).2.1

/-- x.name = v over any heap: L is any namespace of the heap (the frame's, say): its map stays, its object is not told; all else but the dict stays -/
theorem set_field {x C dx L : Addr} {ox : Obj} {m : Str → Option Value} {es es' : List DictEntry} {n n' : Nat} {name : Str} {v : Value} {Q : Unit → Shared → Prop}
    (X : K.In s.heap) (I : PySem.W.InstAt s.heap x ox C (some (dictOf es n))) (hd : ox.dict = some dx) (hL : s.heap.Ns L m) (hne : dx ≠ L)
    (hs : findIn K (.ref C) "__setattr__" = some (some (.builtin "object.__setattr__"))) (hp : plainOver K C = true) (ht : takerIn K C name = some none) (hh : hasDictIn K C = true) (hl : (getL name es).isSome = true)
    (e : (putL name (PyData.keyHash w.params name) (.str name (s.toks + 1)) v es, putN name es n) = (es', n')) (hz : es'.length ≤ 1000)
    (h : ∀ h' : Heap, h'.Ns L m → h'.get? dx = some (dictOf es' n') → (∀ b o, b ≠ dx → b ≠ L → s.heap.get? b = some o → h'.get? b = some o) → Q () { s with heap := h', toks := s.toks + 2 }) :
    wpAny (model prog w) A (setAttr (.ref x) name v) Q E s := by
  obtain ⟨e1, e2⟩ := Prod.mk.inj e
  have hdx : s.heap.get? dx = some (dictOf es n) := by
    have := I.dict
    rw [hd] at this
    exact this
  refine set_plain X I hs (osa_dict (s := { s with toks := s.toks + 1 }) (h₀ := noObjs s.heap) (L := L) (m := m) (od := dictOf es n) (od' := dictOf es' n') (es := es') (n := n') (pre := []) (post := ledger s.heap L dx)
    (fr_all hL) (news_ledger hne hdx) X I hd hp ht hh hl (fun _ q => nomatch q) (fun ⟨_, _⟩ q => (mem_ledger.mp q).2.1) (by rw [putName_dict, e1, e2]) rfl hz fun h' F' N' => ?_)
  exact h h' F'.ns (N'.get (List.Mem.head _)) fun b o n1 n2 ho => N'.get (List.Mem.tail _ (mem_ledger.mpr ⟨n2, n1, ho⟩))
end
end Att

namespace L2
open PySem PySem.Spec PyProof.Rows

theorem vals_ints : ∀ {vs : List Value} {ns : List Int}, IntsAre vs ns → Vals (ns.map V.int) vs
  | _, _, .nil => .nil
  | _, _, .cons n t h => .cons ⟨t, rfl⟩ (vals_ints h)

/-- nothing is tracked but the script, known to the object (or it is an object of the module) -/
def Only (H : Hp) : Prop := ∀ b, H b = none ∨ ∃ o xs, H b = some (.frz o (.lst xs))

/-- THE HEAD: the law's promise, at the heap behind the top. F, the promise of the law's def, may use that base is part of the heap (so K.In base, base.Ns mainGlobals mg stand in Mod) -/
theorem law_call {P : Program} {w : World} {K : PySem.W.Frag} {mg mb : Str → Option Value} {CX : CXT} {k : Nat} {fa a : Addr} {fd : FuncData} {x : Str} {sp : Sp} {s₁ : Shared} {vs : List Value} {ns : List Int}
    (KX : K.In s₁.heap) (hns : s₁.heap.Ns mainGlobals mg) (hb : s₁.heap.Ns builtinsNs mb) (hbb : ∀ x : Str, x ≠ "__name__" → mb x = bootBuiltins x) (hlim : s₁.heap.NoLimit) (hg : s₁.gens = #[])
    (ha : s₁.heap.get? a = some { cls := .type "list", data := .seq vs.toArray }) (hi : IntsAre vs ns) (hl : ns.length ≤ sizeLine) (hr : Room k callerA)
    (F : ∀ base : Heap, K.In base → base.Ns mainGlobals mg → FnOk P w K mg base CX k fa fd [x] sp) (hbind : ∀ (s : Shared) (u : Value), BindsTo s fd ⟨[u], []⟩ [(x, u)])
    (hsp : ∀ H : Hp, Only H → SqL K H a (ns.map V.int) → sp [.ref a] H (fun v _ => v = .bl true) fun _ _ _ => False)
    (hCX : ∀ H e s', CX [] H s₁ (fun _ _ _ => False) e s' → False) :
    codeAny (model P w) callerA (.call (.ref fa) ⟨[.ref a], []⟩) (fun r s' => r = .ok (.ret (.bool true)) ∧ OldK s₁.heap s'.heap ∧ s'.os = s₁.os ∧ AllBare s'.gens) s₁ := by
  have rv := vals_ints hi
  have lenV := hi.length
  -- from an abstract heap in which nothing but the script may be tracked
  have core : ∀ H : Hp, Only H → SqL K H a (ns.map V.int) → HOk P w H s₁.heap → (∀ b, H b ≠ none → b = a) → (H a ≠ none → K.lookup a = none) →
      codeAny (model P w) callerA (.call (.ref fa) ⟨[.ref a], []⟩) (fun r s' => r = .ok (.ret (.bool true)) ∧ OldK s₁.heap s'.heap ∧ s'.os = s₁.os ∧ AllBare s'.gens) s₁ := by
    intro H hO hS hok hA hK
    have base_of : ∀ {b : Addr} {o : Obj}, s₁.heap.get? b = some o → H b = none → (hidT s₁.heap H).get? b = some o := fun e n => hidT_get e n
    have noA : ∀ {b : Addr} {o : Obj} {es : Array DictEntry} {ep : Nat}, s₁.heap.get? b = some o → o.data = .dict es ep → H b = none := fun {b o es ep} e d => by
      cases q : H b with
      | none => rfl
      | some u =>
        have e' : b = a := hA b (by rw [q]; simp)
        subst e'
        rw [ha] at e; cases e
        have d' : Data.seq vs.toArray _ = Data.dict es ep := d
        cases d'
    have nsK : ∀ {b : Addr} {m : Str → Option Value}, s₁.heap.Ns b m → (hidT s₁.heap H).Ns b m := fun {b m} ⟨o, es, ep, e, d, r⟩ => ⟨o, es, ep, base_of e (noA e d), d, r⟩
    have hKb : K.In (hidT s₁.heap H) := fun b o e => base_of (KX b o e) (by
      cases q : H b with
      | none => rfl
      | some u =>
        have e' : b = a := hA b (by rw [q]; simp)
        subst e'
        rw [hK (by rw [q]; simp)] at e; cases e)
    have hM : Mod K mg (hidT s₁.heap H) := ⟨hKb, nsK hns, ⟨mb, nsK hb, hbb⟩, let ⟨mc, h1, h2⟩ := hlim; ⟨mc, nsK h1, h2⟩⟩
    have e0 : Env0 P w K mg (hidT s₁.heap H) callerA [] s₁ H := ⟨rfl, hM, fun b o e => of_hidT e, Nat.le_of_eq (hidT_size _ _), trivial, fun b hb => absurd (show b ∈ ([] : List Addr) from hb) (by simp), hok, .of_eq hg⟩
    refine codeAny_mono ((F _ hKb (nsK hns)).run callerA [] s₁ H ⟨[.ref a], []⟩ [.ref a] [.ref a] _ _ hr e0 (hbind s₁ (.ref a)) (.cons rfl .nil) (hsp H hO hS)) fun r s' h => ?_
    cases r with
    | error e => exact (hCX H e s' h).elim
    | ok fl =>
      cases fl with
      | next => exact False.elim h
      | brk => exact False.elim h
      | cont => exact False.elim h
      | ret u =>
        obtain ⟨v, H', os, bare, un, hok', r', q⟩ := h
        have q' : v = .bl true := q
        subst q'
        obtain rfl : u = Value.bool true := r'
        refine ⟨rfl, OldK.of_keep fun b o e => ?_, os, bare⟩
        cases q : H b with
        | none => exact un.keep b o e q (by intro z; exact absurd (show b ∈ ([] : List Addr) from z) (by simp)) (by simp)
        | some u =>
          rcases hO b with z | ⟨ob, xs, z⟩
          · rw [q] at z; cases z
          · have z2 := un.frzs b ob _ z
            obtain ⟨e1, _⟩ := hok b _ z
            obtain ⟨e2, _⟩ := hok' b _ z2
            rw [e] at e1; cases e1
            exact e2
  cases hk : K.lookup a with
  | some o =>
    -- the script is one of the module's own objects
    have e := KX a o hk
    rw [ha] at e
    cases e
    refine core (fun _ => none) (fun _ => .inl rfl) (.inr ⟨_, vs.toArray, _, hk, rfl, rfl, rfl, by rw [List.size_toArray, lenV]; exact hl, by simpa using rv⟩) (fun b u z => by have z' : (none : Option HO) = some u := z; cases z') (fun b z => absurd rfl z) fun z => absurd rfl z
  | none =>
    refine core (fun b => if b = a then some (.frz { cls := .type "list", data := .seq vs.toArray } (.lst (ns.map V.int))) else none) (fun b => ?_) (.inl (.inr ⟨{ cls := .type "list", data := .seq vs.toArray }, if_pos rfl⟩)) (fun b u z => ?_) (fun b z => ?_) fun _ => hk
    · by_cases hb : b = a
      · exact .inr ⟨_, _, if_pos hb⟩
      · exact .inl (if_neg hb)
    · by_cases hb : b = a
      · have z' := (if_pos hb).symm.trans z
        cases z'
        subst hb
        exact ⟨ha, by rw [List.length_map]; exact hl, vs, _, rv, ha⟩
      · have z' := (if_neg hb).symm.trans z
        cases z'
    · by_cases hb : b = a
      · exact hb
      · exact absurd (if_neg hb) z
end L2

namespace L2
open PySem PySem.Spec PyProof.Rows

abbrev KOf {K : PySem.W.Frag} {h : Heap} (_ : K.In h) : PySem.W.Frag := K

/-- the goal that k_head leaves (case hc), from the law's promise. F gives the function object fd (K's own) once, then the promise over every base -/
theorem walk_of {l : PySem.W.OpenLaw} {n k : Nat} {q : Program} {loose : List Str} {XP : (Str → Option Value) → Heap → Prop} {YP : World → Heap → Prop} {d : DefRec} {K : Params → PySem.W.Frag} {CX : World → CXT} {sp : World → Sp} {x : Str}
    (hn : l.most = some n) (hn2 : n ≤ sizeLine) (hdf : d.params.defaults = []) (hr : Room k callerA)
    (hY : ∀ (w : World) (h : Heap), YP w h → (K w.params).In h)
    (F : ∀ (w : World) (mg : Str → Option Value) (fa : Addr) (h : Heap), (K w.params).In h → h.Ns mainGlobals mg → mg d.name = some (.ref fa) →
      ∃ fd : FuncData, (∀ (s : Shared) (u : Value), BindsTo s fd ⟨[u], []⟩ [(x, u)]) ∧
        ∀ base : Heap, (K w.params).In base → base.Ns mainGlobals mg → FnOk l.prog w (K w.params) mg base (CX w) k fa fd [x] (sp w))
    (hsp : ∀ (w : World) (H : Hp) (a : Addr) (ns : List Int), ns.length ≤ n → Only H → SqL (K w.params) H a (ns.map V.int) → sp w [.ref a] H (fun v _ => v = .bl true) fun _ _ _ => False)
    (hCX : ∀ (w : World) (H : Hp) (s : Shared) (e : Value) (s' : Shared), CX w [] H s (fun _ _ _ => False) e s' → False) :
    PySem.W.WalkO q loose XP YP l.row.toRowW d [] (fun f vs => PySem.call f vs) := by
  refine Att.attach_call hn hdf fun w s₀ s₁ mg mb fa o pm cd doc a vs ns G Y ho hd hcd hmg hobj hints hlen hg => ?_
  have KX := hY w _ Y
  obtain ⟨fd, hb, hF⟩ := F w mg fa _ KX G.T.g hmg
  exact law_call KX G.T.g G.T.b G.T.builtins G.T.nolimit hg hobj hints (Nat.le_trans hlen hn2) hr hF hb (fun H hO hS => hsp w H a ns hlen hO hS) fun H e s' => hCX w H s₁ e s'
/-- the same where the promise hangs on the written part alone: (sp := My.sp_law), no hole under a binder -/
theorem walk_ofK {l : PySem.W.OpenLaw} {n k : Nat} {q : Program} {loose : List Str} {XP : (Str → Option Value) → Heap → Prop} {YP : World → Heap → Prop} {d : DefRec} {K : Params → PySem.W.Frag} {CX : CXT} {sp : PySem.W.Frag → Sp} {x : Str}
    (hn : l.most = some n) (hn2 : n ≤ sizeLine) (hdf : d.params.defaults = []) (hr : Room k callerA)
    (hY : ∀ (w : World) (h : Heap), YP w h → (K w.params).In h)
    (F : ∀ (w : World) (mg : Str → Option Value) (fa : Addr) (h : Heap), (K w.params).In h → h.Ns mainGlobals mg → mg d.name = some (.ref fa) →
      ∃ fd : FuncData, (∀ (s : Shared) (u : Value), BindsTo s fd ⟨[u], []⟩ [(x, u)]) ∧
        ∀ base : Heap, (K w.params).In base → base.Ns mainGlobals mg → FnOk l.prog w (K w.params) mg base CX k fa fd [x] (sp (K w.params)))
    (hsp : ∀ (K : PySem.W.Frag) (H : Hp) (a : Addr) (ns : List Int), ns.length ≤ n → Only H → SqL K H a (ns.map V.int) → sp K [.ref a] H (fun v _ => v = .bl true) fun _ _ _ => False)
    (hCX : ∀ (H : Hp) (s : Shared) (e : Value) (s' : Shared), CX [] H s (fun _ _ _ => False) e s' → False) :
    PySem.W.WalkO q loose XP YP l.row.toRowW d [] (fun f vs => PySem.call f vs) :=
  walk_of (K := K) (CX := fun _ => CX) (sp := fun w => sp (K w.params)) hn hn2 hdf hr hY F (fun w H a ns h1 h2 h3 => hsp (K w.params) H a ns h1 h2 h3) fun _ H s e s' => hCX H s e s'
end L2

/- THE LAST THEOREM (shape; LID, My.* are yours):
   My.Adr: a structure of the addresses that your layer names (classes, functions); My.Txt K t: a structure (Prop) of the equations over K;
   My.txt_mk : {K} {implicit addresses ..} (e1 : nsIn K mainGlobals "law" = some (some (.ref f))) (e2 : K.lookup f = some ⟨oc, od, .func (fnOf "law" "law" params body scope dV kV doc pm an cdv ct), sl⟩) (e3 : codeIn K cdv "law" = true) .. : ∃ t, My.Txt K t

set_option maxRecDepth 100000 in
set_option maxHeartbeats 0 in
theorem PySem.Challenge.cw_LID_holds : PySem.Challenge.rw_LID.Holds := by
  w_on; o_law; k_head; (case hw => w_witness2)
  k_fill
  refine L2.walk_of (l := PySem.Challenge.rw_LID) (n := 63) (k := 40) (x := "script") (CX := fun w => ..) (sp := fun _ => My.sp_law) rfl (by decide) rfl ⟨rfl, by decide, by decide⟩ (fun w h Y => PySem.W.kIn_of Y) ?F ?S ?C
  case F =>
    intro w mg fa h KX G hmg
    have T : ∃ t, My.Txt (L2.KOf KX) t := by
      dsimp only [L2.KOf]                          -- K must stand as «<heap const> w.params» for k_is
      refine' My.txt_mk ?e1 ?e2 ?e3 ..
      (case e1 => PySem.W.k_is)                    -- in the order: a name -> its address -> its object -> its parts
      (case e2 => PySem.W.k_is)
      ..
    obtain ⟨t, T⟩ := T
    have e0 := hmg.symm.trans (PySem.W.mg_of KX G T.law)
    cases e0                                       -- fa is the law's own address
    exact ⟨_, fun s u => .of_eq rfl, fun base kb nb => My.law_fn T kb nb⟩     -- if «.of_eq rfl» comes too early: refine' ⟨_, ?b, fun base kb nb => My.law_fn T kb nb⟩; exact fun s u => .of_eq rfl
  case S => exact fun w H a ns hl hO hS => ..
  case C => exact ..
(the tactic k_is has no namespace: write k_is) -/

/-! SHORT WORDS over the layer: a def of the text, its body, what a loop and a test want. -/
namespace L2
open PySem PySem.Spec PyProof.Rows

/-! ### the text by places -/
/-- the j-th statement of a class's body -/
def inClass (s : Stmt) (j : Nat) : Stmt := match s with
  | .ClassDef _ _ _ body _ _ _ _ _ _ _ => body.getD j (.Pass ⟨0, 0, 0, 0⟩)
  | _ => .Pass ⟨0, 0, 0, 0⟩
def defArgs (s : Stmt) : Arguments := match s with
  | .FunctionDef _ a _ _ _ _ _ _ _ _ => a
  | _ => { posonlyargs := [], args := [], vararg := none, kwonlyargs := [], kw_defaults := [], kwarg := none, defaults := [] }
def defBody (s : Stmt) : List Stmt := match s with
  | .FunctionDef _ _ b _ _ _ _ _ _ _ => b
  | _ => []
def defScope (s : Stmt) : Scope := match s with
  | .FunctionDef _ _ _ _ _ _ sc _ _ _ => sc
  | _ => { kind := .function, names := [], isGenerator := false, isCoroutine := false }

/-! ### no exception leaves a def -/
abbrev CX0 : CXT := fun _ _ _ _ _ _ => False
abbrev E0 : XK := fun _ _ _ => False
theorem pass0 {X : Cx} : Passes CX0 X E0 := fun _ _ _ _ _ _ _ h => h.elim

/-! ### a def (or method) of the text as it stands behind the top -/
structure Fun (K : PySem.W.Frag) (x qual : Str) (st : Stmt) (f : Addr) (fd : FuncData) : Prop where
  ex : ∃ (oc : Value) (od : Option Addr) (kV doc pm : Value) (an : Option Addr) (cdv ct : Value) (osl : Array (Option Value)),
    fd = PySem.W.fnOf x qual (defArgs st) (defBody st) (defScope st) .none kV doc pm an cdv ct ∧ K.lookup f = some ⟨oc, od, .func fd, osl⟩ ∧ PySem.W.codeIn K cdv qual = true
  kp : PySem.W.keepIn K (.ref f) = true
section
variable {P : Program} {w : World} {K : PySem.W.Frag} {mg : Str → Option Value} {base : Heap}
/-- THE RULE for a def: its body as a term of rules, and the reading of that term -/
theorem Fun.ok {x qual : Str} {st : Stmt} {f : Addr} {fd : FuncData} {N ps : List Str} {k : Nat} {sp : Sp} (F : Fun K x qual st f fd) (S : FnScope N ps (defScope st)) (len : ∀ vs H Q E, sp vs H Q E → vs.length = ps.length)
    (hbody : ∀ (cdv : Value) (A : Around) (outer : List Env) (s : Shared) (H : Hp) (vs : List V) (Q : VK) (E : XK), Room k (A.deeper (envOfC qual (defScope st) s.heap.objs.size f cdv)) → sp vs H Q E →
      ∃ t, PSs (cxOf CX0 P w K mg base N qual (defScope st) f cdv A outer s H E).nox (defBody st) t ∧ t { nx := fun _ H' => Q .non H', rt := Q } (start N vs) H) : FnOk P w K mg base CX0 (k + 1) f fd ps sp := by
  obtain ⟨oc, od, kV, doc, pm, an, cdv, ct, osl, rfl, lk, hcd⟩ := F.ex
  refine fn_of lk hcd S len fun A outer s H vs Q E hr hsp => ?_
  obtain ⟨t, h, q⟩ := hbody cdv A outer s H vs Q E hr hsp
  exact ⟨t, h.nox, q⟩
/-- how its arguments bind (no defaults): h is «fun _ _ _ _ _ _ us hl => match us, hl with | [_, _], _ => rfl», one _ a parameter -/
theorem Fun.binds {x qual : Str} {st : Stmt} {f : Addr} {fd : FuncData} {ps : List Str} (F : Fun K x qual st f fd)
    (h : ∀ (kV doc pm : Value) (an : Option Addr) (cdv ct : Value) (us : List Value), us.length = ps.length → bindArgs (PySem.W.fnOf x qual (defArgs st) (defBody st) (defScope st) .none kV doc pm an cdv ct) ⟨us, []⟩ = pure (ps.zip us)) : Binds K fd ps [] := by
  obtain ⟨oc, od, kV, doc, pm, an, cdv, ct, osl, rfl, lk, hcd⟩ := F.ex
  exact .all (h kV doc pm an cdv ct)
theorem fun_mk {x qual : Str} {st : Stmt} {f : Addr} {oc : Value} {od an : Option Addr} {osl : Array (Option Value)} {kV doc pm cdv ct : Value} (l : K.lookup f = some ⟨oc, od, .func (PySem.W.fnOf x qual (defArgs st) (defBody st) (defScope st) .none kV doc pm an cdv ct), osl⟩)
    (c : PySem.W.codeIn K cdv qual = true) (k : PySem.W.keepIn K (.ref f) = true) : Fun K x qual st f (PySem.W.fnOf x qual (defArgs st) (defBody st) (defScope st) .none kV doc pm an cdv ct) := ⟨⟨oc, od, kV, doc, pm, an, cdv, ct, osl, rfl, l, c⟩, k⟩
end
theorem hu_of {A : Around} {k : Nat} (hr : Room k A) : A.units + 1 < cLine := Nat.lt_of_le_of_lt (Nat.add_le_add_left (by decide : 1 ≤ 64) _) hr.units
theorem small1000 {n : Nat} (h : n ≤ 1000) : n < sizeLine := Nat.lt_of_le_of_lt h (by decide)

/-! ### expressions in short: the name that stands in the i-th slot -/
section
variable {X : Cx}
theorem pv (i : Nat) {x : Str} {pos : Pos} (hN : X.N[i]? = some x := by rfl) (hv : Vis X.env.scope x := by first | exact Or.inl rfl | exact Or.inr (Or.inl rfl) | exact Or.inr (Or.inr rfl)) (hd : (x == ("__debug__" : Str)) = false := by decide)
    (hcd : (x == ("__classdict__" : Str)) = false := by decide) : PE X (.Name x pos) (tVar i) := pe_var hN hv hd hcd
end

/-! ### tests -/
theorem iteF {A B : Prop} (h : B) : if false = true then A else B := by
  rw [if_neg Bool.false_ne_true]
  exact h
theorem iteT {A B : Prop} (h : A) : if true = true then A else B := by
  rw [if_pos rfl]
  exact h
theorem ite2 {c A B : Prop} [Decidable c] (h1 : c → A) (h2 : ¬ c → B) : if c then A else B := by
  by_cases h : c
  · rw [if_pos h]
    exact h1 h
  · rw [if_neg h]
    exact h2 h
theorem iteNS {c A B : Prop} [Decidable c] (hc : c) (h : B) : if (!decide c) = true then A else B := by
  rw [decide_eq_true hc]
  exact iteF h

/-! ### heaps -/
/-- all that was tracked is as it was -/
def Same (H H' : Hp) : Prop := ∀ b o, H b = some o → H' b = some o
theorem Same.refl (H : Hp) : Same H H := fun _ _ h => h
theorem Same.trans {H H1 H2 : Hp} (a : Same H H1) (b : Same H1 H2) : Same H H2 := fun c o h => b c o (a c o h)
theorem Same.free {H H' : Hp} (e : Same H H') {l : Addr} (h : H' l = Option.none) : H l = Option.none := by
  cases q : H l with
  | none => rfl
  | some o =>
    rw [e l o q] at h
    cases h
theorem Same.seq {K : PySem.W.Frag} {H H' : Hp} {a : Addr} {xs : List V} (e : Same H H') (h : SqL K H a xs) : SqL K H' a xs := by
  rcases h with (h | ⟨o, h⟩) | h
  · exact .inl (.inl (e _ _ h))
  · exact .inl (.inr ⟨o, e _ _ h⟩)
  · exact .inr h

end L2
namespace TS
open PySem PyProof.Rows

def gal : Bool → Keyed → Array Keyed → Nat → Nat → Nat → StateT SortSt Sem (Option Nat) := sortPriv% PySem.Builtin.gallop
def mlo : Array Keyed → Array Keyed → StateT SortSt Sem (Array Keyed) := sortPriv% PySem.Builtin.mergeLo
def mhi : Array Keyed → Array Keyed → StateT SortSt Sem (Array Keyed) := sortPriv% PySem.Builtin.mergeHi

/-- the question that a search asks at a place -/
def byd (left : Bool) (key : Keyed) (arr : Array Keyed) (p : Nat) : StateT SortSt Sem (Option Bool) := do
  let x ← elem' arr p
  if left then lt' x key else return (← lt' key x).map (!·)
/-- the last part of a search -/
def bloop (left : Bool) (key : Keyed) (arr : Array Keyed) (base n : Nat) (lw0 up0 : Nat) : StateT SortSt Sem (Option Nat) := do
    let mut lw := lw0
    let mut up := up0
    for _ in [0:n] do
      if lw ≥ up then break
      let mid := lw + (up - lw) / 2
      let some mo ← byd left key arr (base + mid) | return none
      if mo then lw := mid + 1 else up := mid
    return some up
def gup (left : Bool) (key : Keyed) (arr : Array Keyed) (base n hint : Nat) : StateT SortSt Sem (Option Nat) := do
      let mut la := 0
      let mut of := 1
      for _ in [0:n] do
        if of ≥ n - hint then break
        let some mo ← byd left key arr (base + (hint + of)) | return none
        if !mo then break
        la := of
        of := 2 * of + 1
      bloop left key arr base n (hint + la + 1) (hint + min of (n - hint))
def gdn (left : Bool) (key : Keyed) (arr : Array Keyed) (base n hint : Nat) : StateT SortSt Sem (Option Nat) := do
      let mut la := 0
      let mut of := 1
      for _ in [0:n] do
        if of ≥ hint + 1 then break
        let some mo ← byd left key arr (base + (hint - of)) | return none
        if mo then break
        la := of
        of := 2 * of + 1
      bloop left key arr base n (hint + 1 - min of (hint + 1)) (hint - la)
theorem gal_eq (left : Bool) (key : Keyed) (arr : Array Keyed) (base n hint : Nat) : gal left key arr base n hint = (do
    let some rt ← byd left key arr (base + hint) | return none
    if rt then gup left key arr base n hint else gdn left key arr base n hint) := rfl

section
variable {M : Model} {A : Around} {E : Value → Shared → Prop} {s : Shared} {O : KeyOrd} {kf : Keyed → O.α} {κ : SortKind} {G : Keyed → Prop}
/-- two things of G are compared by their keys, and nothing is changed -/
def LtOk (M : Model) (A : Around) (E : Value → Shared → Prop) (s : Shared) (O : KeyOrd) (kf : Keyed → O.α) (κ : SortKind) (G : Keyed → Prop) : Prop :=
  ∀ x y, G x → G y → ∀ (st : SortSt) (Q : Option Bool → SortSt → Prop), kindOf st = κ → Q (some (O.blt (kf x) (kf y))) st → wpS M A E s (lt' x y) Q st
def pby (O : KeyOrd) (kf : Keyed → O.α) (left : Bool) (key x : Keyed) : Bool := if left then O.blt (kf x) (kf key) else !(O.blt (kf key) (kf x))
theorem wp_elem {arr : Array Keyed} {p : Nat} {x : Keyed} {st : SortSt} {Q : Keyed → SortSt → Prop} (e : arr[p]? = some x) (h : Q x st) : wpS M A E s (elem' arr p) Q st := by
  rw [elem'_eq, e]
  exact wpS_pure h
theorem wp_byd (L : LtOk M A E s O kf κ G) {left : Bool} {key : Keyed} {arr : Array Keyed} {p : Nat} {x : Keyed} {st : SortSt} {Q : Option Bool → SortSt → Prop} (hk : kindOf st = κ) (hG : G key) (e : arr[p]? = some x) (hx : G x)
    (h : Q (some (pby O kf left key x)) st) : wpS M A E s (byd left key arr p) Q st := by
  unfold byd
  refine wpS_bind (wp_elem e ?_)
  unfold pby at h
  cases left with
  | true =>
    simp only [if_true] at h ⊢
    exact L x key hx hG st Q hk h
  | false =>
    simp only [Bool.false_eq_true, if_false] at h ⊢
    exact wpS_bind (L key x hG hx st _ hk (wpS_pure h))

variable {left : Bool} {key : Keyed} {arr : Array Keyed} {base n hint : Nat} {st : SortSt} {P : Nat → Bool}
theorem wp_bloop (L : LtOk M A E s O kf κ G) {Q : Option Nat → SortSt → Prop} (hk : kindOf st = κ) (hG : G key) (hA : ∀ i, i < n → ∃ x, arr[base + i]? = some x ∧ G x ∧ pby O kf left key x = P i)
    (mono : ∀ i j, i ≤ j → j < n → P j = true → P i = true) {lw up : Nat} (h1 : lw ≤ up) (h2 : up ≤ n) (hl : ∀ i, i < lw → P i = true) (hu : ∀ i, up ≤ i → i < n → P i = false)
    (h : ∀ k, k ≤ n → (∀ i, i < k → P i = true) → (∀ i, k ≤ i → i < n → P i = false) → Q (some k) st) : wpS M A E s (bloop left key arr base n lw up) Q st := by
  unfold bloop
  dsimp only
  refine wpS_bind (wpS_mono (wpS_forRange (I := fun x c st' => st' = st ∧ ∃ l u, c = (none, l, u) ∧ l ≤ u ∧ u ≤ n ∧ u - l ≤ n - x ∧ (∀ i, i < l → P i = true) ∧ (∀ i, u ≤ i → i < n → P i = false))
    (Q := fun c st' => st' = st ∧ ∃ u, c = (none, u, u) ∧ u ≤ n ∧ (∀ i, i < u → P i = true) ∧ (∀ i, u ≤ i → i < n → P i = false)) ?step ?fin ⟨rfl, lw, up, rfl, h1, h2, by omega, hl, hu⟩) ?post)
  case post =>
    rintro c st' ⟨rfl, u, rfl, a, b, d⟩
    exact wpS_pure (h u a b d)
  case fin =>
    rintro c st' ⟨rfl, l, u, rfl, a, b, d, e, f⟩
    have : l = u := by omega
    subst this
    exact ⟨rfl, l, rfl, b, e, f⟩
  case step =>
    rintro x c st' _ hx ⟨rfl, l, u, rfl, a, b, d, e, f⟩
    dsimp only
    by_cases hge : l ≥ u
    · rw [if_pos hge]
      have : l = u := by omega
      subst this
      exact wpS_pure ⟨rfl, l, rfl, b, e, f⟩
    · rw [if_neg hge]
      obtain ⟨z, z1, z2, z3⟩ := hA (l + (u - l) / 2) (by omega)
      refine wpS_bind (wp_byd L hk hG z1 z2 ?_)
      rw [z3]
      cases hp : P (l + (u - l) / 2) with
      | true =>
        simp only [if_true]
        refine wpS_pure ⟨rfl, _, _, rfl, by omega, b, by omega, fun i hi => mono i _ (by omega) (by omega) hp, f⟩
      | false =>
        simp only [Bool.false_eq_true, if_false]
        refine wpS_pure ⟨rfl, _, _, rfl, by omega, by omega, by omega, e, fun i hi hn => ?_⟩
        cases q : P i with
        | false => rfl
        | true => rw [mono _ i hi hn q] at hp; cases hp
theorem wp_gal (L : LtOk M A E s O kf κ G) {Q : Option Nat → SortSt → Prop} (hk : kindOf st = κ) (hG : G key) (hA : ∀ i, i < n → ∃ x, arr[base + i]? = some x ∧ G x ∧ pby O kf left key x = P i)
    (mono : ∀ i j, i ≤ j → j < n → P j = true → P i = true) (hh : hint < n)
    (h : ∀ k, k ≤ n → (∀ i, i < k → P i = true) → (∀ i, k ≤ i → i < n → P i = false) → Q (some k) st) : wpS M A E s (gal left key arr base n hint) Q st := by
  have monoF : ∀ i j, i ≤ j → j < n → P i = false → P j = false := fun i j a b c => by
    cases q : P j with
    | false => rfl
    | true => rw [mono i j a b q] at c; cases c
  rw [gal_eq]
  obtain ⟨z, z1, z2, z3⟩ := hA hint hh
  refine wpS_bind (wp_byd L hk hG z1 z2 ?_)
  rw [z3]
  cases hp : P hint with
  | true =>
    simp only [if_true]
    unfold gup
    dsimp only
    refine wpS_bind (wpS_mono (wpS_forRange (I := fun x c st' => st' = st ∧ ∃ l o, c = (none, l, o) ∧ l < o ∧ x < o ∧ hint + l < n ∧ P (hint + l) = true)
      (Q := fun c st' => st' = st ∧ ∃ l o, c = (none, l, o) ∧ l < o ∧ hint + l < n ∧ P (hint + l) = true ∧ (n - hint ≤ o ∨ (hint + o < n ∧ P (hint + o) = false))) ?step ?fin ⟨rfl, 0, 1, rfl, by omega, by omega, by omega, hp⟩) ?post)
    case fin =>
      rintro c st' ⟨rfl, l, o, rfl, a, b, d, e⟩
      exact ⟨rfl, l, o, rfl, a, d, e, .inl (by omega)⟩
    case post =>
      rintro c st' ⟨rfl, l, o, rfl, a, d, e, f⟩
      dsimp only
      refine wp_bloop L hk hG hA mono (by omega) (by omega) (fun i hi => mono i _ (by omega) d e) (fun i hi hn => ?_) h
      rcases f with f | ⟨f, g⟩
      · omega
      · exact monoF _ i (by omega) hn g
    case step =>
      rintro x c st' _ hx ⟨rfl, l, o, rfl, a, b, d, e⟩
      dsimp only
      by_cases hge : o ≥ n - hint
      · rw [if_pos hge]
        exact wpS_pure ⟨rfl, l, o, rfl, a, d, e, .inl hge⟩
      · rw [if_neg hge]
        obtain ⟨y, y1, y2, y3⟩ := hA (hint + o) (by omega)
        refine wpS_bind (wp_byd L hk hG y1 y2 ?_)
        rw [y3]
        cases hq : P (hint + o) with
        | false =>
          simp only [Bool.not_false, if_true]
          exact wpS_pure ⟨rfl, l, o, rfl, a, d, e, .inr ⟨by omega, hq⟩⟩
        | true =>
          simp only [Bool.not_true, Bool.false_eq_true, if_false]
          exact wpS_pure ⟨rfl, o, 2 * o + 1, rfl, by omega, by omega, by omega, hq⟩
  | false =>
    simp only [Bool.false_eq_true, if_false]
    unfold gdn
    dsimp only
    refine wpS_bind (wpS_mono (wpS_forRange (I := fun x c st' => st' = st ∧ ∃ l o, c = (none, l, o) ∧ l < o ∧ x < o ∧ l ≤ hint ∧ P (hint - l) = false)
      (Q := fun c st' => st' = st ∧ ∃ l o, c = (none, l, o) ∧ l < o ∧ l ≤ hint ∧ P (hint - l) = false ∧ (hint + 1 ≤ o ∨ (o ≤ hint ∧ P (hint - o) = true))) ?step ?fin ⟨rfl, 0, 1, rfl, by omega, by omega, by omega, hp⟩) ?post)
    case fin =>
      rintro c st' ⟨rfl, l, o, rfl, a, b, d, e⟩
      exact ⟨rfl, l, o, rfl, a, d, e, .inl (by omega)⟩
    case post =>
      rintro c st' ⟨rfl, l, o, rfl, a, d, e, f⟩
      dsimp only
      refine wp_bloop L hk hG hA mono (by omega) (by omega) (fun i hi => ?_) (fun i hi hn => monoF _ i hi hn e) h
      rcases f with f | ⟨f, g⟩
      · omega
      · exact mono i _ (by omega) (by omega) g
    case step =>
      rintro x c st' _ hx ⟨rfl, l, o, rfl, a, b, d, e⟩
      dsimp only
      by_cases hge : o ≥ hint + 1
      · rw [if_pos hge]
        exact wpS_pure ⟨rfl, l, o, rfl, a, d, e, .inl hge⟩
      · rw [if_neg hge]
        obtain ⟨y, y1, y2, y3⟩ := hA (hint - o) (by omega)
        refine wpS_bind (wp_byd L hk hG y1 y2 ?_)
        rw [y3]
        cases hq : P (hint - o) with
        | true =>
          simp only [if_true]
          exact wpS_pure ⟨rfl, l, o, rfl, a, d, e, .inr ⟨by omega, hq⟩⟩
        | false =>
          simp only [Bool.false_eq_true, if_false]
          exact wpS_pure ⟨rfl, o, 2 * o + 1, rfl, by omega, by omega, by omega, hq⟩
end
end TS
namespace TS
open PySem PyProof.Rows
section
variable {O : KeyOrd} {kf : Keyed → O.α}
def le (O : KeyOrd) (kf : Keyed → O.α) (x y : Keyed) : Prop := O.kle (kf x) (kf y)
theorem le_trans' {x y z : Keyed} (h1 : le O kf x y) (h2 : le O kf y z) : le O kf x z := KeyOrd.kle_trans h1 h2
theorem le_of_lt {x y : Keyed} (h : O.blt (kf x) (kf y) = true) : le O kf x y := KeyOrd.kle_of_klt h
theorem le_of_not {x y : Keyed} (h : O.blt (kf x) (kf y) = false) : le O kf y x := h
/-- a segment in order -/
def Srt (O : KeyOrd) (kf : Keyed → O.α) (a : Array Keyed) (lo hi : Nat) : Prop := ∀ (i j : Nat) (x y : Keyed), lo ≤ i → i ≤ j → j < hi → a[i]? = some x → a[j]? = some y → le O kf x y
theorem mem_drop {a : Array Keyed} {i : Nat} {y : Keyed} : y ∈ a.toList.drop i ↔ ∃ t : Nat, i ≤ t ∧ a[t]? = some y := by
  rw [List.mem_drop_iff_getElem]
  constructor
  · rintro ⟨t, ht, rfl⟩
    refine ⟨i + t, by omega, ?_⟩
    have h2 : i + t < a.size := by have := a.length_toList; omega
    rw [Array.getElem?_eq_getElem h2]
    simp
  · rintro ⟨t, ht, e⟩
    obtain ⟨h2, rfl⟩ := Array.getElem?_eq_some_iff.mp e
    refine ⟨t - i, by simp; omega, ?_⟩
    have : i + (t - i) = t := by omega
    simp [this]
theorem drop_cons {a : Array Keyed} {i : Nat} {x : Keyed} (e : a[i]? = some x) : a.toList.drop i = x :: a.toList.drop (i + 1) := by
  obtain ⟨h2, rfl⟩ := Array.getElem?_eq_some_iff.mp e
  have : i < a.toList.length := by simpa using h2
  rw [List.drop_eq_getElem_cons this]
  simp
theorem drop_none {a : Array Keyed} {i : Nat} (h : a.size ≤ i) : a.toList.drop i = [] := List.drop_eq_nil_of_le (by simpa using h)
theorem ext_toList (a : Array Keyed) (i : Nat) : (a.extract i a.size).toList = a.toList.drop i := by
  rw [Array.toList_extract, List.extract_eq_take_drop]
  rw [List.take_of_length_le]
  simp
theorem ext_cut (a : Array Keyed) (i k : Nat) : (a.extract i (i + k)).toList ++ a.toList.drop (i + k) = a.toList.drop i := by
  rw [Array.toList_extract, List.extract_eq_take_drop]
  have : i + k - i = k := by omega
  rw [this, ← List.drop_drop]
  exact List.take_append_drop k _
theorem mem_cut {a : Array Keyed} {i k : Nat} {x : Keyed} (h : x ∈ (a.extract i (i + k)).toList) : ∃ t, t < k ∧ a[i + t]? = some x := by
  obtain ⟨t, ht, e⟩ := List.mem_iff_getElem.mp h
  have h1 : t < (a.extract i (i + k)).size := by rw [← Array.length_toList]; exact ht
  have h2 : (a.extract i (i + k))[t]'h1 = x := by simpa using e
  rw [Array.getElem_extract] at h2
  refine ⟨t, ?_, ?_⟩
  · rw [Array.size_extract] at h1; omega
  · rw [← h2]
    exact Array.getElem?_eq_getElem _
theorem Srt.pw {a : Array Keyed} (h : Srt O kf a 0 a.size) : a.toList.Pairwise (le O kf) := by
  rw [List.pairwise_iff_getElem]
  intro i j hi hj hij
  have hj' : j < a.size := by simpa using hj
  have hi' : i < a.size := by simpa using hi
  exact h i j _ _ (by omega) (by omega) hj' (by simp [hi']) (by simp [hj'])
theorem Srt.of {a : Array Keyed} (h : a.toList.Pairwise (le O kf)) : Srt O kf a 0 a.size := by
  rw [List.pairwise_iff_getElem] at h
  intro i j x y _ hij hj e1 e2
  obtain ⟨h1, rfl⟩ := Array.getElem?_eq_some_iff.mp e1
  obtain ⟨h2, rfl⟩ := Array.getElem?_eq_some_iff.mp e2
  by_cases e : i = j
  · subst e; exact KeyOrd.kle_refl _
  · exact h i j (by simpa using h1) (by simpa using h2) (by omega)

/-- the merge so far -/
structure MI (O : KeyOrd) (kf : Keyed → O.α) (a b o : Array Keyed) (i j : Nat) : Prop where
  perm : (o.toList ++ (a.toList.drop i ++ b.toList.drop j)).Perm (a.toList ++ b.toList)
  srt : o.toList.Pairwise (le O kf)
  low : ∀ x ∈ o.toList, ∀ y ∈ a.toList.drop i ++ b.toList.drop j, le O kf x y
def Mrg (O : KeyOrd) (kf : Keyed → O.α) (a b r : Array Keyed) : Prop := r.toList.Perm (a.toList ++ b.toList) ∧ r.toList.Pairwise (le O kf)
variable {a b o : Array Keyed} {i j : Nat}
/-- a list goes over to what is done -/
theorem step_list {o c ra rb all : List Keyed} (perm : (o ++ (c ++ (ra ++ rb))).Perm all) (srt : o.Pairwise (le O kf)) (low : ∀ x ∈ o, ∀ y ∈ c ++ (ra ++ rb), le O kf x y) (sc : c.Pairwise (le O kf)) (hc : ∀ x ∈ c, ∀ y ∈ ra ++ rb, le O kf x y) :
    ((o ++ c) ++ (ra ++ rb)).Perm all ∧ (o ++ c).Pairwise (le O kf) ∧ ∀ x ∈ o ++ c, ∀ y ∈ ra ++ rb, le O kf x y := by
  refine ⟨by rw [List.append_assoc]; exact perm, List.pairwise_append.mpr ⟨srt, sc, fun x hx y hy => low x hx y (List.mem_append_left _ hy)⟩, fun x hx y hy => ?_⟩
  rcases List.mem_append.mp hx with h | h
  · exact low x h y (List.mem_append_right _ hy)
  · exact hc x h y hy
theorem MI.len (h : MI O kf a b o i j) (hi : i ≤ a.size) (hj : j ≤ b.size) : o.size = i + j := by
  have := h.perm.length_eq
  simp at this
  omega
theorem MI.blockA (h : MI O kf a b o i j) (sa : Srt O kf a 0 a.size) {k : Nat} (hc : ∀ t x, t < k → a[i + t]? = some x → ∀ y ∈ b.toList.drop j, le O kf x y) : MI O kf a b (o ++ a.extract i (i + k)) (i + k) j := by
  have e := ext_cut a i k
  have := step_list (all := a.toList ++ b.toList) (o := o.toList) (c := (a.extract i (i + k)).toList) (ra := a.toList.drop (i + k)) (rb := b.toList.drop j) (by rw [← List.append_assoc (a.extract i (i + k)).toList, e]; exact h.perm) h.srt (by rw [← List.append_assoc (a.extract i (i + k)).toList, e]; exact h.low)
    ((sa.pw.sublist (List.drop_sublist i _)).sublist (by rw [← e]; exact List.sublist_append_left _ _)) (fun x hx y hy => by
      obtain ⟨t, ht, ex⟩ := mem_cut hx
      rcases List.mem_append.mp hy with q | q
      · obtain ⟨u, hu, ey⟩ := mem_drop.mp q
        have hlt : u < a.size := (Array.getElem?_eq_some_iff.mp ey).1
        exact sa _ _ _ _ (Nat.zero_le _) (by omega) hlt ex ey
      · exact hc t x ht ex y q)
  exact ⟨by simpa using this.1, by simpa using this.2.1, by simpa using this.2.2⟩
theorem MI.blockB (h : MI O kf a b o i j) (sb : Srt O kf b 0 b.size) {k : Nat} (hc : ∀ t x, t < k → b[j + t]? = some x → ∀ y ∈ a.toList.drop i, le O kf x y) : MI O kf a b (o ++ b.extract j (j + k)) i (j + k) := by
  have e := ext_cut b j k
  have p1 : (o.toList ++ ((b.extract j (j + k)).toList ++ (a.toList.drop i ++ b.toList.drop (j + k)))).Perm (a.toList ++ b.toList) := by
    refine List.Perm.trans (List.Perm.append_left _ ?_) h.perm
    rw [← e, ← List.append_assoc, ← List.append_assoc]
    exact List.Perm.append_right _ List.perm_append_comm
  have := step_list (all := a.toList ++ b.toList) (o := o.toList) (c := (b.extract j (j + k)).toList) (ra := a.toList.drop i) (rb := b.toList.drop (j + k)) p1 h.srt (fun x hx y hy => h.low x hx y (by
      rw [← e]
      rcases List.mem_append.mp hy with q | q
      · exact List.mem_append_right _ (List.mem_append_left _ q)
      · rcases List.mem_append.mp q with q | q
        · exact List.mem_append_left _ q
        · exact List.mem_append_right _ (List.mem_append_right _ q)))
    ((sb.pw.sublist (List.drop_sublist j _)).sublist (by rw [← e]; exact List.sublist_append_left _ _)) (fun x hx y hy => by
      obtain ⟨t, ht, ex⟩ := mem_cut hx
      rcases List.mem_append.mp hy with q | q
      · exact hc t x ht ex y q
      · obtain ⟨u, hu, ey⟩ := mem_drop.mp q
        have hlt : u < b.size := (Array.getElem?_eq_some_iff.mp ey).1
        exact sb _ _ _ _ (Nat.zero_le _) (by omega) hlt ex ey)
  exact ⟨by simpa using this.1, by simpa using this.2.1, by simpa using this.2.2⟩
theorem one_ext {a : Array Keyed} {i : Nat} {x : Keyed} (e : a[i]? = some x) : a.extract i (i + 1) = #[x] := by
  obtain ⟨h, rfl⟩ := Array.getElem?_eq_some_iff.mp e
  apply Array.ext
  · simp; omega
  · intro t h1 h2
    have : t = 0 := by simp at h2; omega
    subst this
    simp
theorem MI.pushA (h : MI O kf a b o i j) (sa : Srt O kf a 0 a.size) {x : Keyed} (e : a[i]? = some x) (hc : ∀ y ∈ b.toList.drop j, le O kf x y) : MI O kf a b (o.push x) (i + 1) j := by
  have := h.blockA sa (k := 1) (fun t y ht ey z hz => by
    have : t = 0 := by omega
    subst this
    rw [Nat.add_zero, e] at ey
    cases ey
    exact hc z hz)
  rw [one_ext e] at this
  exact this
theorem MI.pushB (h : MI O kf a b o i j) (sb : Srt O kf b 0 b.size) {x : Keyed} (e : b[j]? = some x) (hc : ∀ y ∈ a.toList.drop i, le O kf x y) : MI O kf a b (o.push x) i (j + 1) := by
  have := h.blockB sb (k := 1) (fun t y ht ey z hz => by
    have : t = 0 := by omega
    subst this
    rw [Nat.add_zero, e] at ey
    cases ey
    exact hc z hz)
  rw [one_ext e] at this
  exact this
/-- all is done but what stands of one -/
theorem MI.fin (h : MI O kf a b o i j) (sa : Srt O kf a 0 a.size) (sb : Srt O kf b 0 b.size) (z : a.size ≤ i ∨ b.size ≤ j) : Mrg O kf a b (o ++ a.extract i a.size ++ b.extract j b.size) := by
  have e : (o ++ a.extract i a.size ++ b.extract j b.size).toList = o.toList ++ (a.toList.drop i ++ b.toList.drop j) := by
    rw [Array.toList_append, Array.toList_append, ext_toList, ext_toList, List.append_assoc]
  refine ⟨by rw [e]; exact h.perm, ?_⟩
  rw [e]
  refine List.pairwise_append.mpr ⟨h.srt, ?_, h.low⟩
  rcases z with z | z
  · rw [drop_none z]; exact sb.pw.sublist (List.drop_sublist j _)
  · rw [drop_none z, List.append_nil]; exact sa.pw.sublist (List.drop_sublist i _)
theorem MI.lst (h : MI O kf a b o i j) (sa : Srt O kf a 0 a.size) (sb : Srt O kf b 0 b.size) (z : ∀ y ∈ b.toList.drop j, ∀ x ∈ a.toList.drop i, le O kf y x) : Mrg O kf a b (o ++ b.extract j b.size ++ a.extract i a.size) := by
  have e : (o ++ b.extract j b.size ++ a.extract i a.size).toList = o.toList ++ (b.toList.drop j ++ a.toList.drop i) := by
    rw [Array.toList_append, Array.toList_append, ext_toList, ext_toList, List.append_assoc]
  refine ⟨by rw [e]; exact List.Perm.trans (List.Perm.append_left _ List.perm_append_comm) h.perm, ?_⟩
  rw [e]
  refine List.pairwise_append.mpr ⟨h.srt, ?_, fun x hx y hy => h.low x hx y (by
    rcases List.mem_append.mp hy with q | q
    · exact List.mem_append_right _ q
    · exact List.mem_append_left _ q)⟩
  exact List.pairwise_append.mpr ⟨sb.pw.sublist (List.drop_sublist j _), sa.pw.sublist (List.drop_sublist i _), z⟩
end

section
variable {M : Model} {A : Around} {E : Value → Shared → Prop} {s : Shared} {O : KeyOrd} {kf : Keyed → O.α} {κ : SortKind} {G : Keyed → Prop}
/-- a search in a segment in order -/
theorem wp_galS (L : LtOk M A E s O kf κ G) {left : Bool} {key : Keyed} {arr : Array Keyed} {base n hint : Nat} {st : SortSt} {Q : Option Nat → SortSt → Prop} (hk : kindOf st = κ) (hG : G key) (hA : ∀ x ∈ arr.toList, G x)
    (hs : Srt O kf arr base (base + n)) (hn : base + n ≤ arr.size) (hh : hint < n)
    (h : ∀ k, k ≤ n → (∀ t x, t < k → arr[base + t]? = some x → pby O kf left key x = true) → (∀ t x, k ≤ t → t < n → arr[base + t]? = some x → pby O kf left key x = false) → Q (some k) st) : wpS M A E s (gal left key arr base n hint) Q st := by
  have at' : ∀ i, i < n → arr[base + i]? = some (arr.getD (base + i) (Value.none, Value.none)) := fun i hi => by
    have : base + i < arr.size := by omega
    rw [Array.getElem?_eq_getElem this]
    simp [this]
  refine wp_gal L (P := fun i => pby O kf left key (arr.getD (base + i) (Value.none, Value.none))) hk hG (fun i hi => ⟨_, at' i hi, hA _ ?_, rfl⟩) (fun i j hij hj hp => ?_) hh (fun k hk1 h1 h2 => h k hk1 (fun t x ht ex => ?_) (fun t x ht htn ex => ?_))
  · obtain ⟨h1, h2⟩ := Array.getElem?_eq_some_iff.mp (at' i hi)
    rw [← h2]
    simp
  · have hle := hs (base + i) (base + j) _ _ (by omega) (by omega) (by omega) (at' i (by omega)) (at' j hj)
    unfold pby at hp ⊢
    cases left with
    | true =>
      simp only [if_true] at hp ⊢
      exact KeyOrd.klt_of_kle_of_klt hle hp
    | false =>
      simp only [Bool.false_eq_true, if_false, Bool.not_eq_true'] at hp ⊢
      exact KeyOrd.kle_trans hle hp
  · have := h1 t ht
    rw [at' t (by omega)] at ex
    cases ex
    exact this
  · have := h2 t ht htn
    rw [at' t (by omega)] at ex
    cases ex
    exact this
end
end TS
namespace TS
open PySem PyProof.Rows
abbrev C6 := Option (Array Keyed) × Array Keyed × Nat × Nat × Nat × Nat
abbrev C7 := Option (Array Keyed) × Array Keyed × Nat × Nat × Nat × Nat × Nat
def setG (st : SortSt) (g : Nat) : SortSt := SortSt.mk' (kindOf st) (arrOf st) (pendingOf st) g (failedOf st)
def lo1 (a b : Array Keyed) (mg : Nat) (o : Array Keyed) (i j : Nat) : StateT SortSt Sem C6 :=
  forIn [0:a.size + b.size] ((none, o, i, j, 0, 0) : C6) fun _ c => do
    let x ← elem' b c.2.2.2.1
    let y ← elem' a c.2.2.1
    let r ← lt' x y
    match r with
    | some bw =>
      if bw = true then do
        let z ← elem' b c.2.2.2.1
        if (c.2.2.2.1 + 1 == b.size) = true then pure (.done (some (c.2.1.push z ++ a.extract c.2.2.1 a.size ++ b.extract (c.2.2.2.1 + 1) b.size), c.2.1.push z, c.2.2.1, c.2.2.2.1 + 1, 0, c.2.2.2.2.2 + 1))
        else if c.2.2.2.2.2 + 1 ≥ mg then pure (.done (none, c.2.1.push z, c.2.2.1, c.2.2.2.1 + 1, 0, c.2.2.2.2.2 + 1))
        else pure (.yield (none, c.2.1.push z, c.2.2.1, c.2.2.2.1 + 1, 0, c.2.2.2.2.2 + 1))
      else do
        let z ← elem' a c.2.2.1
        if (c.2.2.1 + 1 + 1 == a.size) = true then pure (.done (some (c.2.1.push z ++ b.extract c.2.2.2.1 b.size ++ a.extract (c.2.2.1 + 1) a.size), c.2.1.push z, c.2.2.1 + 1, c.2.2.2.1, c.2.2.2.2.1 + 1, 0))
        else if c.2.2.2.2.1 + 1 ≥ mg then pure (.done (none, c.2.1.push z, c.2.2.1 + 1, c.2.2.2.1, c.2.2.2.2.1 + 1, 0))
        else pure (.yield (none, c.2.1.push z, c.2.2.1 + 1, c.2.2.2.1, c.2.2.2.2.1 + 1, 0))
    | _ => pure (.done (some (c.2.1 ++ a.extract c.2.2.1 a.size ++ b.extract c.2.2.2.1 b.size), c.2))
/-- the later half of a turn by searches -/
def lo2c (a b o : Array Keyed) (i j mg ac bc : Nat) : StateT SortSt Sem (ForInStep C7) := do
  let z ← elem' a i
  if (i + 1 + 1 == a.size) = true then pure (.done (some (o.push z ++ b.extract j b.size ++ a.extract (i + 1) a.size), o.push z, i + 1, j, mg, ac, bc))
  else if (decide (ac < 7) && decide (bc < 7)) = true then pure (.done (none, o.push z, i + 1, j, mg, ac, bc))
  else pure (.yield (none, o.push z, i + 1, j, mg, ac, bc))
def lo2b (a b o : Array Keyed) (i j mg ac bc : Nat) : StateT SortSt Sem (ForInStep C7) := do
  let z ← elem' b j
  if (j + 1 == b.size) = true then pure (.done (some (o.push z ++ a.extract i a.size ++ b.extract (j + 1) b.size), o.push z, i, j + 1, mg, ac, bc))
  else do
    let y ← elem' a i
    let r ← gal true y b (j + 1) (b.size - (j + 1)) 0
    match r with
    | some k =>
      if k > 0 then
        if (j + 1 + k == b.size) = true then pure (.done (some (o.push z ++ b.extract (j + 1) (j + 1 + k) ++ a.extract i a.size ++ b.extract (j + 1 + k) b.size), o.push z ++ b.extract (j + 1) (j + 1 + k), i, j + 1 + k, mg, ac, k))
        else lo2c a b (o.push z ++ b.extract (j + 1) (j + 1 + k)) i (j + 1 + k) mg ac k
      else lo2c a b (o.push z) i (j + 1) mg ac k
    | _ => pure (.done (some (o.push z ++ a.extract i a.size ++ b.extract (j + 1) b.size), o.push z, i, j + 1, mg, ac, bc))
def lo2a (a b o : Array Keyed) (i j mg ac bc : Nat) : StateT SortSt Sem (ForInStep C7) := do
  modify fun st => setG st mg
  let y ← elem' b j
  let r ← gal false y a i (a.size - i) 0
  match r with
  | some k =>
    if k > 0 then
      if (i + k + 1 == a.size) = true then pure (.done (some (o ++ a.extract i (i + k) ++ b.extract j b.size ++ a.extract (i + k) a.size), o ++ a.extract i (i + k), i + k, j, mg, k, bc))
      else if (i + k == a.size) = true then pure (.done (some (o ++ a.extract i (i + k) ++ a.extract (i + k) a.size ++ b.extract j b.size), o ++ a.extract i (i + k), i + k, j, mg, k, bc))
      else lo2b a b (o ++ a.extract i (i + k)) (i + k) j mg k bc
    else lo2b a b o i j mg k bc
  | _ => pure (.done (some (o ++ a.extract i a.size ++ b.extract j b.size), o, i, j, mg, ac, bc))
def lo2 (a b : Array Keyed) (mg : Nat) (o : Array Keyed) (i j ac bc : Nat) : StateT SortSt Sem C7 :=
  forIn [0:a.size + b.size] ((none, o, i, j, mg, ac, bc) : C7) fun _ c =>
    if c.2.2.2.2.1 > 1 then lo2a a b c.2.1 c.2.2.1 c.2.2.2.1 (c.2.2.2.2.1 - 1) c.2.2.2.2.2.1 c.2.2.2.2.2.2
    else lo2a a b c.2.1 c.2.2.1 c.2.2.2.1 c.2.2.2.2.1 c.2.2.2.2.2.1 c.2.2.2.2.2.2
abbrev C5 := Option (Array Keyed) × Array Keyed × Nat × Nat × Nat
theorem mlo_eq0 (a b : Array Keyed) : mlo a b = (do
  rule "list.sort.merge-lo"
  let tot := a.size + b.size
  let fin (o : Array Keyed) (i j : Nat) := o ++ a.extract i a.size ++ b.extract j b.size
  let lst (o : Array Keyed) (i j : Nat) := o ++ b.extract j b.size ++ a.extract i a.size
  let mut o : Array Keyed := #[← elem' b 0]
  let mut i := 0
  let mut j := 1
  if j == b.size then return fin o i j
  if i + 1 == a.size then return lst o i j
  let mut mg := gallopOf (← get)
  for _ in [0:tot] do
    let mut ac := 0
    let mut bc := 0
    for _ in [0:tot] do
      let some bw ← lt' (← elem' b j) (← elem' a i) | return fin o i j
      if bw then
        o := o.push (← elem' b j)
        j := j + 1
        bc := bc + 1
        ac := 0
        if j == b.size then return fin o i j
        if bc ≥ mg then break
      else
        o := o.push (← elem' a i)
        i := i + 1
        ac := ac + 1
        bc := 0
        if i + 1 == a.size then return lst o i j
        if ac ≥ mg then break
    rule "list.sort.gallop"
    mg := mg + 1
    for _ in [0:tot] do
      if mg > 1 then mg := mg - 1
      modify fun st => SortSt.mk' (kindOf st) (arrOf st) (pendingOf st) mg (failedOf st)
      let some k ← gal false (← elem' b j) a i (a.size - i) 0 | return fin o i j
      ac := k
      if k > 0 then
        o := o ++ a.extract i (i + k)
        i := i + k
        if i + 1 == a.size then return lst o i j
        if i == a.size then return fin o i j
      o := o.push (← elem' b j)
      j := j + 1
      if j == b.size then return fin o i j
      let some k ← gal true (← elem' a i) b j (b.size - j) 0 | return fin o i j
      bc := k
      if k > 0 then
        o := o ++ b.extract j (j + k)
        j := j + k
        if j == b.size then return fin o i j
      o := o.push (← elem' a i)
      i := i + 1
      if i + 1 == a.size then return lst o i j
      if ac < 7 && bc < 7 then break
    mg := mg + 1
    modify fun st => SortSt.mk' (kindOf st) (arrOf st) (pendingOf st) mg (failedOf st)
  unsupported "internal:list.sort.merge-bound") := rfl
theorem mlo_eq (a b : Array Keyed) : mlo a b = (do
  rule "list.sort.merge-lo"
  let x ← elem' b 0
  if (1 == b.size) = true then pure (#[x] ++ a.extract 0 a.size ++ b.extract 1 b.size)
  else if (0 + 1 == a.size) = true then pure (#[x] ++ b.extract 1 b.size ++ a.extract 0 a.size)
  else do
    let st ← get
    let c ← forIn [0:a.size + b.size] ((none, #[x], 0, 1, gallopOf st) : C5) fun _ c => do
      let d ← lo1 a b c.2.2.2.2 c.2.1 c.2.2.1 c.2.2.2.1
      match d.1 with
      | some r => pure (.done (some r, d.2.1, d.2.2.1, d.2.2.2.1, c.2.2.2.2))
      | none => do
        rule "list.sort.gallop"
        let f ← lo2 a b (c.2.2.2.2 + 1) d.2.1 d.2.2.1 d.2.2.2.1 d.2.2.2.2.1 d.2.2.2.2.2
        match f.1 with
        | some r => pure (.done (some r, f.2.1, f.2.2.1, f.2.2.2.1, f.2.2.2.2.1))
        | none => do
          modify fun st => setG st (f.2.2.2.2.1 + 1)
          pure (.yield (none, f.2.1, f.2.2.1, f.2.2.2.1, f.2.2.2.2.1 + 1))
    match c.1 with
    | some r => pure r
    | none => unsupported "internal:list.sort.merge-bound") := by
  rw [mlo_eq0]
  refine congrArg (fun z => _ >>= z) (funext fun _ => ?_)
  show (elem' b 0 >>= _ : StateT SortSt Sem (Array Keyed)) = _
  refine congrArg (fun z => _ >>= z) (funext fun x => ?_)
  show (ite _ _ (ite _ _ (get >>= _)) : StateT SortSt Sem (Array Keyed)) = ite _ _ (ite _ _ (get >>= _))
  refine congrArg (ite _ _) (congrArg (ite _ _) (congrArg (fun z => get >>= z) (funext fun st => ?_)))
  show (forIn _ _ _ >>= _ : StateT SortSt Sem (Array Keyed)) = forIn _ _ _ >>= _
  refine congr (congrArg Bind.bind ?_) (funext fun c => by
    obtain ⟨c1, c2⟩ := c
    cases c1 with
    | some r => rfl
    | none =>
      rfl)
  refine congrArg (forIn _ _) (funext fun _ => funext fun c => ?_)
  show (forIn _ _ _ >>= _ : StateT SortSt Sem (ForInStep C5)) = lo1 _ _ _ _ _ _ >>= _
  refine congr (congrArg Bind.bind ?_) (funext fun d => ?_)
  · delta lo1
    refine congrArg (forIn _ _) (funext fun _ => funext fun c => ?_)
    rfl
  · obtain ⟨d1, d2, d3, d4, d5, d6⟩ := d
    cases d1 with
    | some r => rfl
    | none =>
      refine congrArg (fun z => _ >>= z) (funext fun _ => ?_)
      show (forIn _ _ _ >>= _ : StateT SortSt Sem (ForInStep C5)) = lo2 _ _ _ _ _ _ _ _ >>= _
      refine congr (congrArg Bind.bind ?_) (funext fun f => ?_)
      · delta lo2
        refine congrArg (forIn _ _) (funext fun _ => funext fun c => ?_)
        show (ite _ _ _ : StateT SortSt Sem (ForInStep C7)) = ite _ _ _
        refine congr (congrArg (ite _) ?_) ?_
        all_goals
          delta lo2a
          refine congrArg (fun z => _ >>= z) (funext fun _ => ?_)
          refine congrArg (fun z => _ >>= z) (funext fun y => ?_)
          refine congrArg (fun z => _ >>= z) (funext fun r => ?_)
          cases r with
          | none => exact rfl
          | some k =>
            show (ite _ _ _ : StateT SortSt Sem (ForInStep C7)) = ite _ _ _
            refine congr (congrArg (ite _) ?_) ?_
            · show (ite _ _ (ite _ _ _) : StateT SortSt Sem (ForInStep C7)) = ite _ _ (ite _ _ _)
              refine congrArg (ite _ _) (congrArg (ite _ _) ?_)
              delta lo2b
              refine congrArg (fun z => _ >>= z) (funext fun z => ?_)
              show (ite _ _ _ : StateT SortSt Sem (ForInStep C7)) = ite _ _ _
              refine congrArg (ite _ _) ?_
              refine congrArg (fun z => _ >>= z) (funext fun y => ?_)
              refine congrArg (fun z => _ >>= z) (funext fun r => ?_)
              cases r with
              | none => exact rfl
              | some k => exact rfl
            · delta lo2b
              refine congrArg (fun z => _ >>= z) (funext fun z => ?_)
              show (ite _ _ _ : StateT SortSt Sem (ForInStep C7)) = ite _ _ _
              refine congrArg (ite _ _) ?_
              refine congrArg (fun z => _ >>= z) (funext fun y => ?_)
              refine congrArg (fun z => _ >>= z) (funext fun r => ?_)
              cases r with
              | none => exact rfl
              | some k => exact rfl
      · obtain ⟨f1, f2⟩ := f
        cases f1 with
        | some r => rfl
        | none => rfl

section
variable {M : Model} {A : Around} {E : Value → Shared → Prop} {s : Shared} {O : KeyOrd} {kf : Keyed → O.α} {κ : SortKind} {G : Keyed → Prop} {a b : Array Keyed}
/-- what two runs that are merged are -/
structure Two (O : KeyOrd) (kf : Keyed → O.α) (G : Keyed → Prop) (a b : Array Keyed) : Prop where
  ga : ∀ x ∈ a.toList, G x
  gb : ∀ x ∈ b.toList, G x
  sa : Srt O kf a 0 a.size
  sb : Srt O kf b 0 b.size
  pa : 0 < a.size
  pb : 0 < b.size
  first : ∀ x y, b[0]? = some y → x ∈ a.toList → le O kf y x
  last : ∀ x y, a[a.size - 1]? = some x → y ∈ b.toList → le O kf y x
theorem at_some {a : Array Keyed} {i : Nat} (h : i < a.size) : ∃ x, a[i]? = some x ∧ x ∈ a.toList := ⟨a[i], Array.getElem?_eq_getElem h, by simp⟩
theorem mem_of_drop {a : Array Keyed} {i : Nat} {x : Keyed} (h : x ∈ a.toList.drop i) : x ∈ a.toList := List.mem_of_mem_drop h
theorem Two.lastOne (T : Two O kf G a b) {i j : Nat} (h : i + 1 = a.size) : ∀ y ∈ b.toList.drop j, ∀ x ∈ a.toList.drop i, le O kf y x := fun y hy x hx => by
  obtain ⟨t, ht, e⟩ := mem_drop.mp hx
  have : t < a.size := (Array.getElem?_eq_some_iff.mp e).1
  have e2 : t = a.size - 1 := by omega
  subst e2
  exact T.last x y e (mem_of_drop hy)
theorem Two.leA (T : Two O kf G a b) {i : Nat} {x : Keyed} (e : a[i]? = some x) : ∀ y ∈ a.toList.drop i, le O kf x y := fun y hy => by
  obtain ⟨t, ht, e'⟩ := mem_drop.mp hy
  exact T.sa i t x y (Nat.zero_le _) ht (Array.getElem?_eq_some_iff.mp e').1 e e'
theorem Two.leB (T : Two O kf G a b) {j : Nat} {x : Keyed} (e : b[j]? = some x) : ∀ y ∈ b.toList.drop j, le O kf x y := fun y hy => by
  obtain ⟨t, ht, e'⟩ := mem_drop.mp hy
  exact T.sb j t x y (Nat.zero_le _) ht (Array.getElem?_eq_some_iff.mp e').1 e e'
/-- a turn's end: whole, or more done than n -/
def End6 (O : KeyOrd) (kf : Keyed → O.α) (a b : Array Keyed) (n : Nat) (c : Option (Array Keyed)) (o : Array Keyed) (i j : Nat) : Prop :=
  (∃ r, c = some r ∧ Mrg O kf a b r) ∨ (c = none ∧ MI O kf a b o i j ∧ i + 1 < a.size ∧ j < b.size ∧ n ≤ i + j)
theorem wp_lo1 (L : LtOk M A E s O kf κ G) (T : Two O kf G a b) {mg i j : Nat} {o : Array Keyed} {st : SortSt} {Q : C6 → SortSt → Prop} (hk : kindOf st = κ) (hI : MI O kf a b o i j) (hi : i + 1 < a.size) (hj : j < b.size)
    (h : ∀ c : C6, End6 O kf a b (i + j + 1) c.1 c.2.1 c.2.2.1 c.2.2.2.1 → Q c st) : wpS M A E s (lo1 a b mg o i j) Q st := by
  unfold lo1
  refine wpS_forRange (I := fun x c st' => st' = st ∧ ∃ o' i' j' ac bc, c = (none, o', i', j', ac, bc) ∧ MI O kf a b o' i' j' ∧ i' + 1 < a.size ∧ j' < b.size ∧ i + j + x ≤ i' + j') ?step ?fin ⟨rfl, o, i, j, 0, 0, rfl, hI, hi, hj, by omega⟩
  case fin =>
    rintro c st' ⟨rfl, o', i', j', ac, bc, rfl, h1, h2, h3, h4⟩
    exact h _ (.inr ⟨rfl, h1, h2, h3, by dsimp only; omega⟩)
  case step =>
    rintro x c st' _ hx ⟨rfl, o', i', j', ac, bc, rfl, h1, h2, h3, h4⟩
    dsimp only
    obtain ⟨y, ey, my⟩ := at_some h3
    obtain ⟨z, ez, mz⟩ := at_some (show i' < a.size by omega)
    refine wpS_bind (wp_elem ey (wpS_bind (wp_elem ez (wpS_bind (L y z (T.gb y my) (T.ga z mz) _ _ hk ?_)))))
    cases hb : O.blt (kf y) (kf z) with
    | true =>
      simp only [if_true]
      refine wpS_bind (wp_elem ey ?_)
      have h5 := h1.pushB T.sb ey (fun w hw => le_trans' (le_of_lt hb) (T.leA ez w hw))
      by_cases hfin : j' + 1 = b.size
      · rw [if_pos (by simpa using hfin)]
        exact wpS_pure (h _ (.inl ⟨_, rfl, h5.fin T.sa T.sb (.inr (by omega))⟩))
      · rw [if_neg (by simpa using hfin)]
        by_cases hg : bc + 1 ≥ mg
        · rw [if_pos hg]
          exact wpS_pure (h _ (.inr ⟨rfl, h5, h2, by dsimp only; omega, by dsimp only; omega⟩))
        · rw [if_neg hg]
          exact wpS_pure ⟨rfl, _, _, _, _, _, rfl, h5, h2, by omega, by omega⟩
    | false =>
      simp only [Bool.false_eq_true, if_false]
      refine wpS_bind (wp_elem ez ?_)
      have h5 := h1.pushA T.sa ez (fun w hw => le_trans' (le_of_not hb) (T.leB ey w hw))
      by_cases hfin : i' + 1 + 1 = a.size
      · rw [if_pos (by simpa using hfin)]
        exact wpS_pure (h _ (.inl ⟨_, rfl, h5.lst T.sa T.sb (T.lastOne hfin)⟩))
      · rw [if_neg (by simpa using hfin)]
        by_cases hg : ac + 1 ≥ mg
        · rw [if_pos hg]
          exact wpS_pure (h _ (.inr ⟨rfl, h5, by dsimp only; omega, h3, by dsimp only; omega⟩))
        · rw [if_neg hg]
          exact wpS_pure ⟨rfl, _, _, _, _, _, rfl, h5, by omega, h3, by omega⟩

def Turn7 (O : KeyOrd) (kf : Keyed → O.α) (a b : Array Keyed) (n : Nat) (r : ForInStep C7) : Prop := match r with
  | .done c => End6 O kf a b n c.1 c.2.1 c.2.2.1 c.2.2.2.1
  | .yield c => c.1 = none ∧ MI O kf a b c.2.1 c.2.2.1 c.2.2.2.1 ∧ c.2.2.1 + 1 < a.size ∧ c.2.2.2.1 < b.size ∧ n ≤ c.2.2.1 + c.2.2.2.1
theorem wp_lo2c (T : Two O kf G a b) {mg i j ac bc n : Nat} {o : Array Keyed} {z : Keyed} {st : SortSt} {Q : ForInStep C7 → SortSt → Prop} (hI : MI O kf a b o i j) (hi : i + 1 < a.size) (hj : j < b.size) (ez : a[i]? = some z)
    (hz : ∀ y ∈ b.toList.drop j, le O kf z y) (hn : n ≤ i + j) (h : ∀ r, Turn7 O kf a b n r → Q r st) : wpS M A E s (lo2c a b o i j mg ac bc) Q st := by
  unfold lo2c
  refine wpS_bind (wp_elem ez ?_)
  have h5 := hI.pushA T.sa ez hz
  by_cases hfin : i + 1 + 1 = a.size
  · rw [if_pos (by simpa using hfin)]
    exact wpS_pure (h _ (.inl ⟨_, rfl, h5.lst T.sa T.sb (T.lastOne hfin)⟩))
  · rw [if_neg (by simpa using hfin)]
    by_cases hg : (decide (ac < 7) && decide (bc < 7)) = true
    · rw [if_pos hg]
      exact wpS_pure (h _ (.inr ⟨rfl, h5, by dsimp only; omega, hj, by dsimp only; omega⟩))
    · rw [if_neg hg]
      exact wpS_pure (h _ ⟨rfl, h5, by dsimp only; omega, hj, by dsimp only; omega⟩)
theorem wp_lo2b (L : LtOk M A E s O kf κ G) (T : Two O kf G a b) {mg i j ac bc n : Nat} {o : Array Keyed} {y : Keyed} {st : SortSt} {Q : ForInStep C7 → SortSt → Prop} (hk : kindOf st = κ) (hI : MI O kf a b o i j) (hi : i + 1 < a.size) (hj : j < b.size) (ey : b[j]? = some y)
    (hy : ∀ x ∈ a.toList.drop i, le O kf y x) (hn : n ≤ i + j) (h : ∀ r, Turn7 O kf a b n r → Q r st) : wpS M A E s (lo2b a b o i j mg ac bc) Q st := by
  unfold lo2b
  refine wpS_bind (wp_elem ey ?_)
  have h5 := hI.pushB T.sb ey hy
  by_cases hfin : j + 1 = b.size
  · rw [if_pos (by simpa using hfin)]
    exact wpS_pure (h _ (.inl ⟨_, rfl, h5.fin T.sa T.sb (.inr (by omega))⟩))
  · rw [if_neg (by simpa using hfin)]
    obtain ⟨z, ez, mz⟩ := at_some (show i < a.size by omega)
    refine wpS_bind (wp_elem ez (wpS_bind (wp_galS L hk (T.ga z mz) T.gb (fun i' j' x y h1 h2 h3 => T.sb i' j' x y (Nat.zero_le _) h2 (by omega)) (by omega) (by omega) fun k hk1 hb1 hb2 => ?_)))
    dsimp only
    have rest : ∀ w ∈ b.toList.drop (j + 1 + k), le O kf z w := fun w hw => by
      obtain ⟨t, ht, e⟩ := mem_drop.mp hw
      have hlt : t < b.size := (Array.getElem?_eq_some_iff.mp e).1
      have := hb2 (t - (j + 1)) w (by omega) (by omega) (by rw [show j + 1 + (t - (j + 1)) = t by omega]; exact e)
      unfold pby at this
      simp only [if_true] at this
      exact le_of_not this
    by_cases hk0 : k > 0
    · rw [if_pos hk0]
      have h6 := h5.blockB T.sb (k := k) (fun t x ht ex w hw => by
        have := hb1 t x ht ex
        unfold pby at this
        simp only [if_true] at this
        exact le_trans' (le_of_lt this) (T.leA ez w hw))
      by_cases hf2 : j + 1 + k = b.size
      · rw [if_pos (by simpa using hf2)]
        exact wpS_pure (h _ (.inl ⟨_, rfl, h6.fin T.sa T.sb (.inr (by omega))⟩))
      · rw [if_neg (by simpa using hf2)]
        exact wp_lo2c T h6 hi (by omega) ez rest (by omega) h
    · rw [if_neg hk0]
      have : k = 0 := by omega
      subst this
      exact wp_lo2c T h5 hi (by omega) ez rest (by omega) h
theorem wp_lo2a (L : LtOk M A E s O kf κ G) (T : Two O kf G a b) {mg i j ac bc n : Nat} {o : Array Keyed} {st : SortSt} {Q : ForInStep C7 → SortSt → Prop} (hk : kindOf st = κ) (hI : MI O kf a b o i j) (hi : i + 1 < a.size) (hj : j < b.size)
    (hn : n ≤ i + j) (h : ∀ r, Turn7 O kf a b n r → Q r (setG st mg)) : wpS M A E s (lo2a a b o i j mg ac bc) Q st := by
  unfold lo2a
  refine wpS_bind (wpS_modify ?_)
  obtain ⟨y, ey, my⟩ := at_some hj
  have hk' : kindOf (setG st mg) = κ := hk
  refine wpS_bind (wp_elem ey (wpS_bind (wp_galS L hk' (T.gb y my) T.ga (fun i' j' x y h1 h2 h3 => T.sa i' j' x y (Nat.zero_le _) h2 (by omega)) (by omega) (by omega) fun k hk1 ha1 ha2 => ?_)))
  dsimp only
  have rest : ∀ w ∈ a.toList.drop (i + k), le O kf y w := fun w hw => by
    obtain ⟨t, ht, e⟩ := mem_drop.mp hw
    have hlt : t < a.size := (Array.getElem?_eq_some_iff.mp e).1
    have := ha2 (t - i) w (by omega) (by omega) (by rw [show i + (t - i) = t by omega]; exact e)
    unfold pby at this
    simp only [Bool.false_eq_true, if_false, Bool.not_eq_false'] at this
    exact le_of_lt this
  by_cases hk0 : k > 0
  · rw [if_pos hk0]
    have h6 := hI.blockA T.sa (k := k) (fun t x ht ex w hw => by
      have := ha1 t x ht ex
      unfold pby at this
      simp only [Bool.false_eq_true, if_false, Bool.not_eq_true'] at this
      exact le_trans' (le_of_not this) (T.leB ey w hw))
    by_cases hf1 : i + k + 1 = a.size
    · rw [if_pos (by simpa using hf1)]
      exact wpS_pure (h _ (.inl ⟨_, rfl, h6.lst T.sa T.sb (T.lastOne hf1)⟩))
    · rw [if_neg (by simpa using hf1)]
      by_cases hf2 : i + k = a.size
      · rw [if_pos (by simpa using hf2)]
        exact wpS_pure (h _ (.inl ⟨_, rfl, h6.fin T.sa T.sb (.inl (by omega))⟩))
      · rw [if_neg (by simpa using hf2)]
        exact wp_lo2b L T hk' h6 (by omega) hj ey rest (by omega) h
  · rw [if_neg hk0]
    have : k = 0 := by omega
    subst this
    exact wp_lo2b L T hk' hI hi hj ey rest hn h
theorem wp_lo2 (L : LtOk M A E s O kf κ G) (T : Two O kf G a b) {mg i j ac bc : Nat} {o : Array Keyed} {st : SortSt} {Q : C7 → SortSt → Prop} (hk : kindOf st = κ) (hI : MI O kf a b o i j) (hi : i + 1 < a.size) (hj : j < b.size)
    (h : ∀ (c : C7) g, End6 O kf a b (i + j) c.1 c.2.1 c.2.2.1 c.2.2.2.1 → Q c (setG st g)) : wpS M A E s (lo2 a b mg o i j ac bc) Q st := by
  unfold lo2
  refine wpS_forRange (I := fun x c st' => (∃ g, st' = setG st g) ∧ ∃ o' i' j' mg ac bc, c = (none, o', i', j', mg, ac, bc) ∧ MI O kf a b o' i' j' ∧ i' + 1 < a.size ∧ j' < b.size ∧ i + j ≤ i' + j') ?step ?fin ⟨⟨gallopOf st, rfl⟩, o, i, j, mg, ac, bc, rfl, hI, hi, hj, by omega⟩
  case fin =>
    rintro c st' ⟨⟨g, rfl⟩, o', i', j', mg, ac, bc, rfl, h1, h2, h3, h4⟩
    exact h _ g (.inr ⟨rfl, h1, h2, h3, h4⟩)
  case step =>
    rintro x c st' _ hx ⟨⟨g, rfl⟩, o', i', j', mg', ac, bc, rfl, h1, h2, h3, h4⟩
    have go : ∀ m, wpS M A E s (lo2a a b o' i' j' m ac bc) (fun r st' => match r with
        | .done c' => Q c' st'
        | .yield c' => (∃ g, st' = setG st g) ∧ ∃ o' i' j' mg ac bc, c' = (none, o', i', j', mg, ac, bc) ∧ MI O kf a b o' i' j' ∧ i' + 1 < a.size ∧ j' < b.size ∧ i + j ≤ i' + j') (setG st g) := fun m => by
      refine wp_lo2a L T (n := i + j) hk h1 h2 h3 h4 fun r hr => ?_
      cases r with
      | done c' => exact h _ m hr
      | yield c' =>
        obtain ⟨c1, c2, c3, c4, c5, c6, c7⟩ := c'
        obtain ⟨e, r1, r2, r3, r4⟩ := hr
        have e : c1 = none := e
        subst e
        exact ⟨⟨m, rfl⟩, _, _, _, _, _, _, rfl, r1, r2, r3, r4⟩
    dsimp only
    by_cases hg : mg' > 1
    · rw [if_pos hg]; exact wpS_mono (go _) (fun r st' hh => by cases r <;> exact hh)
    · rw [if_neg hg]; exact wpS_mono (go _) (fun r st' hh => by cases r <;> exact hh)
theorem wp_mlo (L : LtOk M A E s O kf κ G) (T : Two O kf G a b) {st : SortSt} {Q : Array Keyed → SortSt → Prop} (hk : kindOf st = κ) (h : ∀ r g, Mrg O kf a b r → Q r (setG st g)) : wpS M A E s (mlo a b) Q st := by
  rw [mlo_eq]
  refine wpS_bind (wpS_lift (wpAny_rule ⟨rfl, ?_⟩))
  obtain ⟨y, ey, my⟩ := at_some T.pb
  refine wpS_bind (wp_elem ey ?_)
  have h0 : MI O kf a b #[] 0 0 := ⟨by simp, by simp, by simp⟩
  have h1 : MI O kf a b #[y] 0 1 := h0.pushB T.sb ey (fun x hx => T.first x y ey (mem_of_drop hx))
  have hst : st = setG st (gallopOf st) := rfl
  by_cases hf1 : 1 = b.size
  · rw [if_pos (by simpa using hf1)]
    exact wpS_pure (by rw [hst]; exact h _ _ (h1.fin T.sa T.sb (.inr (by omega))))
  · rw [if_neg (by simpa using hf1)]
    by_cases hf2 : 0 + 1 = a.size
    · rw [if_pos (by simpa using hf2)]
      exact wpS_pure (by rw [hst]; exact h _ _ (h1.lst T.sa T.sb (T.lastOne hf2)))
    · rw [if_neg (by simpa using hf2)]
      have hpa := T.pa
      have hpb := T.pb
      refine wpS_bind (wpS_get ?_)
      refine wpS_bind (wpS_mono (wpS_forRange (I := fun x c st' => (∃ g, st' = setG st g) ∧ ∃ o' i' j' mg, c = (none, o', i', j', mg) ∧ MI O kf a b o' i' j' ∧ i' + 1 < a.size ∧ j' < b.size ∧ x + 1 ≤ i' + j')
        (Q := fun c st' => (∃ g, st' = setG st g) ∧ ∃ r, c.1 = some r ∧ Mrg O kf a b r) ?step ?fin ⟨⟨_, hst⟩, _, 0, 1, _, rfl, h1, by omega, by omega, by omega⟩) ?post)
      case fin =>
        rintro c st' ⟨_, o', i', j', mg, rfl, r1, r2, r3, r4⟩
        exfalso
        omega
      case post =>
        rintro c st' ⟨⟨g, rfl⟩, r, e, hr⟩
        obtain ⟨c1, c2⟩ := c
        have e : c1 = some r := e
        subst e
        exact wpS_pure (h _ _ hr)
      case step =>
        rintro x c st' _ hx ⟨⟨g, rfl⟩, o', i', j', mg, rfl, r1, r2, r3, r4⟩
        dsimp only
        refine wpS_bind (wp_lo1 L T (st := setG st g) hk r1 r2 r3 fun c hc => ?_)
        obtain ⟨c1, c2, c3, c4, c5, c6⟩ := c
        rcases hc with ⟨r, e, hr⟩ | ⟨e, q1, q2, q3, q4⟩
        · have e : c1 = some r := e
          subst e
          exact wpS_pure ⟨⟨g, rfl⟩, r, rfl, hr⟩
        · have e : c1 = none := e
          subst e
          dsimp only at q1 q2 q3 q4 ⊢
          refine wpS_bind (wpS_lift (wpAny_rule ⟨rfl, ?_⟩))
          refine wpS_bind (wp_lo2 L T (st := setG st g) hk q1 q2 q3 fun d g' hd => ?_)
          obtain ⟨d1, d2, d3, d4, d5, d6, d7⟩ := d
          rcases hd with ⟨r, e, hr⟩ | ⟨e, p1, p2, p3, p4⟩
          · have e : d1 = some r := e
            subst e
            exact wpS_pure ⟨⟨g', rfl⟩, r, rfl, hr⟩
          · have e : d1 = none := e
            subst e
            dsimp only at p1 p2 p3 p4 ⊢
            exact wpS_bind (wpS_modify (wpS_pure ⟨⟨_, rfl⟩, _, _, _, _, rfl, p1, p2, p3, by omega⟩))
end
end TS
namespace TS
open PySem PyProof.Rows
abbrev D6 := Option (Array Keyed) × Nat × Nat × Array Keyed × Nat × Nat
abbrev D7 := Option (Array Keyed) × Nat × Nat × Array Keyed × Nat × Nat × Nat
abbrev D5 := Option (Array Keyed) × Nat × Nat × Array Keyed × Nat
def hi1 (a b : Array Keyed) (mg : Nat) (p q : Nat) (o : Array Keyed) : StateT SortSt Sem D6 :=
  forIn [0:a.size + b.size] ((none, p, q, o, 0, 0) : D6) fun _ c => do
    let x ← elem' b (c.2.2.1 - 1)
    let y ← elem' a (c.2.1 - 1)
    let r ← lt' x y
    match r with
    | some aw =>
      if aw = true then do
        let z ← elem' a (c.2.1 - 1)
        if (c.2.1 - 1 == 0) = true then pure (.done (some (a.extract 0 (c.2.1 - 1) ++ b.extract 0 c.2.2.1 ++ (c.2.2.2.1.push z).reverse), c.2.1 - 1, c.2.2.1, c.2.2.2.1.push z, c.2.2.2.2.1 + 1, 0))
        else if c.2.2.2.2.1 + 1 ≥ mg then pure (.done (none, c.2.1 - 1, c.2.2.1, c.2.2.2.1.push z, c.2.2.2.2.1 + 1, 0))
        else pure (.yield (none, c.2.1 - 1, c.2.2.1, c.2.2.2.1.push z, c.2.2.2.2.1 + 1, 0))
      else do
        let z ← elem' b (c.2.2.1 - 1)
        if (c.2.2.1 - 1 == 1) = true then pure (.done (some (b.extract 0 (c.2.2.1 - 1) ++ a.extract 0 c.2.1 ++ (c.2.2.2.1.push z).reverse), c.2.1, c.2.2.1 - 1, c.2.2.2.1.push z, 0, c.2.2.2.2.2 + 1))
        else if c.2.2.2.2.2 + 1 ≥ mg then pure (.done (none, c.2.1, c.2.2.1 - 1, c.2.2.2.1.push z, 0, c.2.2.2.2.2 + 1))
        else pure (.yield (none, c.2.1, c.2.2.1 - 1, c.2.2.2.1.push z, 0, c.2.2.2.2.2 + 1))
    | _ => pure (.done (some (a.extract 0 c.2.1 ++ b.extract 0 c.2.2.1 ++ c.2.2.2.1.reverse), c.2))
def hi2c (a b : Array Keyed) (p q : Nat) (o : Array Keyed) (mg ac bc : Nat) : StateT SortSt Sem (ForInStep D7) := do
  let z ← elem' a (p - 1)
  if (p - 1 == 0) = true then pure (.done (some (a.extract 0 (p - 1) ++ b.extract 0 q ++ (o.push z).reverse), p - 1, q, o.push z, mg, ac, bc))
  else if (decide (ac < 7) && decide (bc < 7)) = true then pure (.done (none, p - 1, q, o.push z, mg, ac, bc))
  else pure (.yield (none, p - 1, q, o.push z, mg, ac, bc))
def hi2b (a b : Array Keyed) (p q : Nat) (o : Array Keyed) (mg ac bc : Nat) : StateT SortSt Sem (ForInStep D7) := do
  let z ← elem' b (q - 1)
  if (q - 1 == 1) = true then pure (.done (some (b.extract 0 (q - 1) ++ a.extract 0 p ++ (o.push z).reverse), p, q - 1, o.push z, mg, ac, bc))
  else do
    let y ← elem' a (p - 1)
    let r ← gal true y b 0 (q - 1) (q - 1 - 1)
    match r with
    | some u =>
      if q - 1 - u > 0 then
        if (u == 1) = true then pure (.done (some (b.extract 0 u ++ a.extract 0 p ++ (o.push z ++ (b.extract u (q - 1)).reverse).reverse), p, u, o.push z ++ (b.extract u (q - 1)).reverse, mg, ac, q - 1 - u))
        else if (u == 0) = true then pure (.done (some (a.extract 0 p ++ b.extract 0 u ++ (o.push z ++ (b.extract u (q - 1)).reverse).reverse), p, u, o.push z ++ (b.extract u (q - 1)).reverse, mg, ac, q - 1 - u))
        else hi2c a b p u (o.push z ++ (b.extract u (q - 1)).reverse) mg ac (q - 1 - u)
      else hi2c a b p (q - 1) (o.push z) mg ac (q - 1 - u)
    | _ => pure (.done (some (a.extract 0 p ++ b.extract 0 (q - 1) ++ (o.push z).reverse), p, q - 1, o.push z, mg, ac, bc))
def hi2a (a b : Array Keyed) (p q : Nat) (o : Array Keyed) (mg ac bc : Nat) : StateT SortSt Sem (ForInStep D7) := do
  modify fun st => setG st mg
  let y ← elem' b (q - 1)
  let r ← gal false y a 0 p (p - 1)
  match r with
  | some u =>
    if p - u > 0 then
      if (u == 0) = true then pure (.done (some (a.extract 0 u ++ b.extract 0 q ++ (o ++ (a.extract u p).reverse).reverse), u, q, o ++ (a.extract u p).reverse, mg, p - u, bc))
      else hi2b a b u q (o ++ (a.extract u p).reverse) mg (p - u) bc
    else hi2b a b p q o mg (p - u) bc
  | _ => pure (.done (some (a.extract 0 p ++ b.extract 0 q ++ o.reverse), p, q, o, mg, ac, bc))
def hi2 (a b : Array Keyed) (mg p q : Nat) (o : Array Keyed) (ac bc : Nat) : StateT SortSt Sem D7 :=
  forIn [0:a.size + b.size] ((none, p, q, o, mg, ac, bc) : D7) fun _ c =>
    if c.2.2.2.2.1 > 1 then hi2a a b c.2.1 c.2.2.1 c.2.2.2.1 (c.2.2.2.2.1 - 1) c.2.2.2.2.2.1 c.2.2.2.2.2.2
    else hi2a a b c.2.1 c.2.2.1 c.2.2.2.1 c.2.2.2.2.1 c.2.2.2.2.2.1 c.2.2.2.2.2.2
theorem mhi_eq0 (a b : Array Keyed) : mhi a b = (do
  rule "list.sort.merge-hi"
  let tot := a.size + b.size
  let fin (o : Array Keyed) (p q : Nat) := a.extract 0 p ++ b.extract 0 q ++ o.reverse
  let fst (o : Array Keyed) (p q : Nat) := b.extract 0 q ++ a.extract 0 p ++ o.reverse
  let mut p := a.size - 1
  let mut q := b.size
  let mut o : Array Keyed := #[← elem' a p]
  if p == 0 then return fin o p q
  if q == 1 then return fst o p q
  let mut mg := gallopOf (← get)
  for _ in [0:tot] do
    let mut ac := 0
    let mut bc := 0
    for _ in [0:tot] do
      let some aw ← lt' (← elem' b (q - 1)) (← elem' a (p - 1)) | return fin o p q
      if aw then
        p := p - 1
        o := o.push (← elem' a p)
        ac := ac + 1
        bc := 0
        if p == 0 then return fin o p q
        if ac ≥ mg then break
      else
        q := q - 1
        o := o.push (← elem' b q)
        bc := bc + 1
        ac := 0
        if q == 1 then return fst o p q
        if bc ≥ mg then break
    rule "list.sort.gallop"
    mg := mg + 1
    for _ in [0:tot] do
      if mg > 1 then mg := mg - 1
      modify fun st => setG st mg
      let some u ← gal false (← elem' b (q - 1)) a 0 p (p - 1) | return fin o p q
      let k := p - u
      ac := k
      if k > 0 then
        o := o ++ (a.extract u p).reverse
        p := u
        if p == 0 then return fin o p q
      q := q - 1
      o := o.push (← elem' b q)
      if q == 1 then return fst o p q
      let some u ← gal true (← elem' a (p - 1)) b 0 q (q - 1) | return fin o p q
      let k := q - u
      bc := k
      if k > 0 then
        o := o ++ (b.extract u q).reverse
        q := u
        if q == 1 then return fst o p q
        if q == 0 then return fin o p q
      p := p - 1
      o := o.push (← elem' a p)
      if p == 0 then return fin o p q
      if ac < 7 && bc < 7 then break
    mg := mg + 1
    modify fun st => setG st mg
  unsupported "internal:list.sort.merge-bound") := rfl
theorem mhi_eq (a b : Array Keyed) : mhi a b = (do
  rule "list.sort.merge-hi"
  let x ← elem' a (a.size - 1)
  if (a.size - 1 == 0) = true then pure (a.extract 0 (a.size - 1) ++ b.extract 0 b.size ++ #[x].reverse)
  else if (b.size == 1) = true then pure (b.extract 0 b.size ++ a.extract 0 (a.size - 1) ++ #[x].reverse)
  else do
    let st ← get
    let c ← forIn [0:a.size + b.size] ((none, a.size - 1, b.size, #[x], gallopOf st) : D5) fun _ c => do
      let d ← hi1 a b c.2.2.2.2 c.2.1 c.2.2.1 c.2.2.2.1
      match d.1 with
      | some r => pure (.done (some r, d.2.1, d.2.2.1, d.2.2.2.1, c.2.2.2.2))
      | none => do
        rule "list.sort.gallop"
        let f ← hi2 a b (c.2.2.2.2 + 1) d.2.1 d.2.2.1 d.2.2.2.1 d.2.2.2.2.1 d.2.2.2.2.2
        match f.1 with
        | some r => pure (.done (some r, f.2.1, f.2.2.1, f.2.2.2.1, f.2.2.2.2.1))
        | none => do
          modify fun st => setG st (f.2.2.2.2.1 + 1)
          pure (.yield (none, f.2.1, f.2.2.1, f.2.2.2.1, f.2.2.2.2.1 + 1))
    match c.1 with
    | some r => pure r
    | none => unsupported "internal:list.sort.merge-bound") := by
  rw [mhi_eq0]
  refine congrArg (fun z => _ >>= z) (funext fun _ => ?_)
  show (elem' a (a.size - 1) >>= _ : StateT SortSt Sem (Array Keyed)) = _
  refine congrArg (fun z => _ >>= z) (funext fun x => ?_)
  show (ite _ _ (ite _ _ (get >>= _)) : StateT SortSt Sem (Array Keyed)) = ite _ _ (ite _ _ (get >>= _))
  refine congrArg (ite _ _) (congrArg (ite _ _) (congrArg (fun z => get >>= z) (funext fun st => ?_)))
  show (forIn _ _ _ >>= _ : StateT SortSt Sem (Array Keyed)) = forIn _ _ _ >>= _
  refine congr (congrArg Bind.bind ?_) (funext fun c => by
    obtain ⟨c1, c2⟩ := c
    cases c1 with
    | some r => rfl
    | none => rfl)
  refine congrArg (forIn _ _) (funext fun _ => funext fun c => ?_)
  show (forIn _ _ _ >>= _ : StateT SortSt Sem (ForInStep D5)) = hi1 _ _ _ _ _ _ >>= _
  refine congr (congrArg Bind.bind ?_) (funext fun d => ?_)
  · delta hi1
    refine congrArg (forIn _ _) (funext fun _ => funext fun c => ?_)
    refine congrArg (fun z => _ >>= z) (funext fun _ => ?_)
    refine congrArg (fun z => _ >>= z) (funext fun _ => ?_)
    refine congrArg (fun z => _ >>= z) (funext fun r => ?_)
    cases r with
    | none => exact rfl
    | some r => exact rfl
  · obtain ⟨d1, d2, d3, d4, d5, d6⟩ := d
    cases d1 with
    | some r => rfl
    | none =>
      refine congrArg (fun z => _ >>= z) (funext fun _ => ?_)
      show (forIn _ _ _ >>= _ : StateT SortSt Sem (ForInStep D5)) = hi2 _ _ _ _ _ _ _ _ >>= _
      refine congr (congrArg Bind.bind ?_) (funext fun f => ?_)
      · delta hi2
        refine congrArg (forIn _ _) (funext fun _ => funext fun c => ?_)
        show (ite _ _ _ : StateT SortSt Sem (ForInStep D7)) = ite _ _ _
        refine congr (congrArg (ite _) ?_) ?_
        all_goals
          delta hi2a
          refine congrArg (fun z => _ >>= z) (funext fun _ => ?_)
          refine congrArg (fun z => _ >>= z) (funext fun y => ?_)
          refine congrArg (fun z => _ >>= z) (funext fun r => ?_)
          cases r with
          | none => exact rfl
          | some k =>
            show (ite _ _ _ : StateT SortSt Sem (ForInStep D7)) = ite _ _ _
            refine congr (congrArg (ite _) ?_) ?_
            · show (ite _ _ _ : StateT SortSt Sem (ForInStep D7)) = ite _ _ _
              refine congrArg (ite _ _) ?_
              delta hi2b
              refine congrArg (fun z => _ >>= z) (funext fun z => ?_)
              show (ite _ _ _ : StateT SortSt Sem (ForInStep D7)) = ite _ _ _
              refine congrArg (ite _ _) ?_
              refine congrArg (fun z => _ >>= z) (funext fun y => ?_)
              refine congrArg (fun z => _ >>= z) (funext fun r => ?_)
              cases r with
              | none => exact rfl
              | some k => exact rfl
            · delta hi2b
              refine congrArg (fun z => _ >>= z) (funext fun z => ?_)
              show (ite _ _ _ : StateT SortSt Sem (ForInStep D7)) = ite _ _ _
              refine congrArg (ite _ _) ?_
              refine congrArg (fun z => _ >>= z) (funext fun y => ?_)
              refine congrArg (fun z => _ >>= z) (funext fun r => ?_)
              cases r with
              | none => exact rfl
              | some k => exact rfl
      · obtain ⟨f1, f2⟩ := f
        cases f1 with
        | some r => rfl
        | none => rfl

section
variable {O : KeyOrd} {kf : Keyed → O.α} {G : Keyed → Prop} {a b o : Array Keyed} {p q : Nat}
theorem mem_take {a : Array Keyed} {p : Nat} {y : Keyed} : y ∈ a.toList.take p ↔ ∃ t : Nat, t < p ∧ a[t]? = some y := by
  rw [List.mem_take_iff_getElem]
  constructor
  · rintro ⟨t, ht, rfl⟩
    have h2 : t < a.size := by have := a.length_toList; omega
    exact ⟨t, by omega, by rw [Array.getElem?_eq_getElem h2]; simp⟩
  · rintro ⟨t, ht, e⟩
    obtain ⟨h2, rfl⟩ := Array.getElem?_eq_some_iff.mp e
    exact ⟨t, by simp; omega, by simp⟩
theorem ext0_toList (a : Array Keyed) (p : Nat) : (a.extract 0 p).toList = a.toList.take p := by
  rw [Array.toList_extract, List.extract_eq_take_drop]
  simp
theorem ext0_cut (a : Array Keyed) {u p : Nat} (h : u ≤ p) : a.toList.take u ++ (a.extract u p).toList = a.toList.take p := by
  rw [Array.toList_extract, List.extract_eq_take_drop]
  have e : p = u + (p - u) := by omega
  conv => rhs; rw [e, List.take_add]
theorem mem_cut2 {a : Array Keyed} {u p : Nat} {x : Keyed} (h : x ∈ (a.extract u p).toList) : ∃ t, u ≤ t ∧ t < p ∧ a[t]? = some x := by
  by_cases hup : u ≤ p
  · have e : p = u + (p - u) := by omega
    rw [e] at h
    obtain ⟨t, ht, ex⟩ := mem_cut h
    exact ⟨u + t, by omega, by omega, ex⟩
  · rw [Array.toList_extract, List.extract_eq_take_drop, show p - u = 0 by omega] at h
    simp at h
structure HI (O : KeyOrd) (kf : Keyed → O.α) (a b o : Array Keyed) (p q : Nat) : Prop where
  perm : (a.toList.take p ++ (b.toList.take q ++ o.toList.reverse)).Perm (a.toList ++ b.toList)
  srt : o.toList.Pairwise (fun x y => le O kf y x)
  hi : ∀ x ∈ o.toList, ∀ y ∈ a.toList.take p ++ b.toList.take q, le O kf y x
theorem HI.blockA (h : HI O kf a b o p q) (sa : Srt O kf a 0 a.size) (hp : p ≤ a.size) {u : Nat} (hu : u ≤ p) (hc : ∀ t x, u ≤ t → t < p → a[t]? = some x → ∀ y ∈ b.toList.take q, le O kf y x) : HI O kf a b (o ++ (a.extract u p).reverse) u q := by
  have e := ext0_cut a hu
  refine ⟨?_, ?_, fun x hx y hy => ?_⟩
  · have e2 : (o ++ (a.extract u p).reverse).toList.reverse = (a.extract u p).toList ++ o.toList.reverse := by simp
    rw [e2]
    refine List.Perm.trans ?_ h.perm
    rw [← e, List.append_assoc]
    exact List.Perm.append_left _ (List.perm_append_comm_assoc _ _ _)
  · rw [Array.toList_append, Array.toList_reverse]
    refine List.pairwise_append.mpr ⟨h.srt, ?_, fun x hx y hy => h.hi x hx y (List.mem_append_left _ (by rw [← e]; exact List.mem_append_right _ (List.mem_reverse.mp hy)))⟩
    rw [List.pairwise_reverse]
    exact (sa.pw.sublist (List.take_sublist p _)).sublist (by rw [← e]; exact List.sublist_append_right _ _)
  · rw [Array.toList_append, Array.toList_reverse] at hx
    rcases List.mem_append.mp hx with hx | hx
    · refine h.hi x hx y ?_
      rcases List.mem_append.mp hy with hy | hy
      · exact List.mem_append_left _ (by rw [← e]; exact List.mem_append_left _ hy)
      · exact List.mem_append_right _ hy
    · obtain ⟨t, t1, t2, et⟩ := mem_cut2 (List.mem_reverse.mp hx)
      rcases List.mem_append.mp hy with hy | hy
      · obtain ⟨w, w1, ew⟩ := mem_take.mp hy
        exact sa w t y x (Nat.zero_le _) (by omega) (by omega) ew et
      · exact hc t x t1 t2 et y hy
theorem HI.blockB (h : HI O kf a b o p q) (sb : Srt O kf b 0 b.size) (hq : q ≤ b.size) {u : Nat} (hu : u ≤ q) (hc : ∀ t x, u ≤ t → t < q → b[t]? = some x → ∀ y ∈ a.toList.take p, le O kf y x) : HI O kf a b (o ++ (b.extract u q).reverse) p u := by
  have e := ext0_cut b hu
  refine ⟨?_, ?_, fun x hx y hy => ?_⟩
  · have e2 : (o ++ (b.extract u q).reverse).toList.reverse = (b.extract u q).toList ++ o.toList.reverse := by simp
    rw [e2]
    have := h.perm
    rw [← e, List.append_assoc] at this
    exact this
  · rw [Array.toList_append, Array.toList_reverse]
    refine List.pairwise_append.mpr ⟨h.srt, ?_, fun x hx y hy => h.hi x hx y (List.mem_append_right _ (by rw [← e]; exact List.mem_append_right _ (List.mem_reverse.mp hy)))⟩
    rw [List.pairwise_reverse]
    exact (sb.pw.sublist (List.take_sublist q _)).sublist (by rw [← e]; exact List.sublist_append_right _ _)
  · rw [Array.toList_append, Array.toList_reverse] at hx
    rcases List.mem_append.mp hx with hx | hx
    · refine h.hi x hx y ?_
      rcases List.mem_append.mp hy with hy | hy
      · exact List.mem_append_left _ hy
      · exact List.mem_append_right _ (by rw [← e]; exact List.mem_append_left _ hy)
    · obtain ⟨t, t1, t2, et⟩ := mem_cut2 (List.mem_reverse.mp hx)
      rcases List.mem_append.mp hy with hy | hy
      · exact hc t x t1 t2 et y hy
      · obtain ⟨w, w1, ew⟩ := mem_take.mp hy
        exact sb w t y x (Nat.zero_le _) (by omega) (by omega) ew et
theorem one_rev {a : Array Keyed} {p : Nat} {x : Keyed} (h : 0 < p) (e : a[p - 1]? = some x) : (a.extract (p - 1) p).reverse = #[x] := by
  have := one_ext e
  rw [show p - 1 + 1 = p by omega] at this
  rw [this]
  rfl
theorem HI.pushA (h : HI O kf a b o p q) (sa : Srt O kf a 0 a.size) (hp : p ≤ a.size) (h0 : 0 < p) {x : Keyed} (e : a[p - 1]? = some x) (hc : ∀ y ∈ b.toList.take q, le O kf y x) : HI O kf a b (o.push x) (p - 1) q := by
  have := h.blockA sa hp (u := p - 1) (by omega) (fun t y h1 h2 ey z hz => by
    have : t = p - 1 := by omega
    subst this
    rw [e] at ey
    cases ey
    exact hc z hz)
  rw [one_rev h0 e] at this
  exact this
theorem HI.pushB (h : HI O kf a b o p q) (sb : Srt O kf b 0 b.size) (hq : q ≤ b.size) (h0 : 0 < q) {x : Keyed} (e : b[q - 1]? = some x) (hc : ∀ y ∈ a.toList.take p, le O kf y x) : HI O kf a b (o.push x) p (q - 1) := by
  have := h.blockB sb hq (u := q - 1) (by omega) (fun t y h1 h2 ey z hz => by
    have : t = q - 1 := by omega
    subst this
    rw [e] at ey
    cases ey
    exact hc z hz)
  rw [one_rev h0 e] at this
  exact this
theorem HI.fin (h : HI O kf a b o p q) (sa : Srt O kf a 0 a.size) (sb : Srt O kf b 0 b.size) (z : p = 0 ∨ q = 0) : Mrg O kf a b (a.extract 0 p ++ b.extract 0 q ++ o.reverse) := by
  have e : (a.extract 0 p ++ b.extract 0 q ++ o.reverse).toList = a.toList.take p ++ (b.toList.take q ++ o.toList.reverse) := by
    rw [Array.toList_append, Array.toList_append, ext0_toList, ext0_toList, Array.toList_reverse, List.append_assoc]
  refine ⟨by rw [e]; exact h.perm, ?_⟩
  rw [e, ← List.append_assoc]
  refine List.pairwise_append.mpr ⟨?_, by rw [List.pairwise_reverse]; exact h.srt, fun x hx y hy => h.hi y (List.mem_reverse.mp hy) x hx⟩
  rcases z with z | z
  · subst z
    simpa using sb.pw.sublist (List.take_sublist q _)
  · subst z
    simpa using sa.pw.sublist (List.take_sublist p _)
theorem HI.fst (h : HI O kf a b o p q) (sa : Srt O kf a 0 a.size) (sb : Srt O kf b 0 b.size) (z : ∀ y ∈ b.toList.take q, ∀ x ∈ a.toList.take p, le O kf y x) : Mrg O kf a b (b.extract 0 q ++ a.extract 0 p ++ o.reverse) := by
  have e : (b.extract 0 q ++ a.extract 0 p ++ o.reverse).toList = b.toList.take q ++ (a.toList.take p ++ o.toList.reverse) := by
    rw [Array.toList_append, Array.toList_append, ext0_toList, ext0_toList, Array.toList_reverse, List.append_assoc]
  refine ⟨by rw [e]; exact List.Perm.trans (List.perm_append_comm_assoc _ _ _) h.perm, ?_⟩
  rw [e, ← List.append_assoc]
  refine List.pairwise_append.mpr ⟨List.pairwise_append.mpr ⟨sb.pw.sublist (List.take_sublist q _), sa.pw.sublist (List.take_sublist p _), z⟩, by rw [List.pairwise_reverse]; exact h.srt, fun x hx y hy => h.hi y (List.mem_reverse.mp hy) x ?_⟩
  rcases List.mem_append.mp hx with hx | hx
  · exact List.mem_append_right _ hx
  · exact List.mem_append_left _ hx
theorem Two.firstOne (T : Two O kf G a b) {p q : Nat} (h : q = 1) : ∀ y ∈ b.toList.take q, ∀ x ∈ a.toList.take p, le O kf y x := fun y hy x hx => by
  obtain ⟨t, ht, e⟩ := mem_take.mp hy
  have : t = 0 := by omega
  subst this
  exact T.first x y e (List.mem_of_mem_take hx)
theorem Two.geA (T : Two O kf G a b) {p : Nat} {x : Keyed} (e : a[p - 1]? = some x) : ∀ y ∈ a.toList.take p, le O kf y x := fun y hy => by
  obtain ⟨t, ht, e'⟩ := mem_take.mp hy
  exact T.sa t (p - 1) y x (Nat.zero_le _) (by omega) (Array.getElem?_eq_some_iff.mp e).1 e' e
theorem Two.geB (T : Two O kf G a b) {q : Nat} {x : Keyed} (e : b[q - 1]? = some x) : ∀ y ∈ b.toList.take q, le O kf y x := fun y hy => by
  obtain ⟨t, ht, e'⟩ := mem_take.mp hy
  exact T.sb t (q - 1) y x (Nat.zero_le _) (by omega) (Array.getElem?_eq_some_iff.mp e).1 e' e
end

section
variable {M : Model} {A : Around} {E : Value → Shared → Prop} {s : Shared} {O : KeyOrd} {kf : Keyed → O.α} {κ : SortKind} {G : Keyed → Prop} {a b : Array Keyed}
def EndH (O : KeyOrd) (kf : Keyed → O.α) (a b : Array Keyed) (n : Nat) (c : Option (Array Keyed)) (p q : Nat) (o : Array Keyed) : Prop :=
  (∃ r, c = some r ∧ Mrg O kf a b r) ∨ (c = none ∧ HI O kf a b o p q ∧ 0 < p ∧ p ≤ a.size ∧ 1 < q ∧ q ≤ b.size ∧ p + q ≤ n)
theorem wp_hi1 (L : LtOk M A E s O kf κ G) (T : Two O kf G a b) {mg p q n : Nat} {o : Array Keyed} {st : SortSt} {Q : D6 → SortSt → Prop} (hk : kindOf st = κ) (hI : HI O kf a b o p q) (hp : 0 < p) (hpa : p ≤ a.size) (hq : 1 < q) (hqb : q ≤ b.size) (hn : p + q ≤ n + 1)
    (h : ∀ c : D6, EndH O kf a b n c.1 c.2.1 c.2.2.1 c.2.2.2.1 → Q c st) : wpS M A E s (hi1 a b mg p q o) Q st := by
  unfold hi1
  refine wpS_forRange (I := fun x c st' => st' = st ∧ ∃ p' q' o' ac bc, c = (none, p', q', o', ac, bc) ∧ HI O kf a b o' p' q' ∧ 0 < p' ∧ p' ≤ a.size ∧ 1 < q' ∧ q' ≤ b.size ∧ p' + q' + x ≤ n + 1) ?step ?fin ⟨rfl, p, q, o, 0, 0, rfl, hI, hp, hpa, hq, hqb, by omega⟩
  case fin =>
    rintro c st' ⟨rfl, p', q', o', ac, bc, rfl, h1, h2, h3, h4, h5, h6⟩
    exact h _ (.inr ⟨rfl, h1, h2, h3, h4, h5, by dsimp only; omega⟩)
  case step =>
    rintro x c st' _ hx ⟨rfl, p', q', o', ac, bc, rfl, h1, h2, h3, h4, h5, h6⟩
    dsimp only
    obtain ⟨y, ey, my⟩ := at_some (show q' - 1 < b.size by omega)
    obtain ⟨z, ez, mz⟩ := at_some (show p' - 1 < a.size by omega)
    refine wpS_bind (wp_elem ey (wpS_bind (wp_elem ez (wpS_bind (L y z (T.gb y my) (T.ga z mz) _ _ hk ?_)))))
    cases hb : O.blt (kf y) (kf z) with
    | true =>
      simp only [if_true]
      refine wpS_bind (wp_elem ez ?_)
      have h7 := h1.pushA T.sa h3 h2 ez (fun w hw => le_trans' (T.geB ey w hw) (le_of_lt hb))
      by_cases hfin : p' - 1 = 0
      · rw [if_pos (by simpa using hfin)]
        exact wpS_pure (h _ (.inl ⟨_, rfl, h7.fin T.sa T.sb (.inl hfin)⟩))
      · rw [if_neg (by simpa using hfin)]
        by_cases hg : ac + 1 ≥ mg
        · rw [if_pos hg]
          exact wpS_pure (h _ (.inr ⟨rfl, h7, by dsimp only; omega, by dsimp only; omega, h4, h5, by dsimp only; omega⟩))
        · rw [if_neg hg]
          exact wpS_pure ⟨rfl, _, _, _, _, _, rfl, h7, by omega, by omega, h4, h5, by omega⟩
    | false =>
      simp only [Bool.false_eq_true, if_false]
      refine wpS_bind (wp_elem ey ?_)
      have h7 := h1.pushB T.sb h5 (by omega) ey (fun w hw => le_trans' (T.geA ez w hw) (le_of_not hb))
      by_cases hfin : q' - 1 = 1
      · rw [if_pos (by simpa using hfin)]
        exact wpS_pure (h _ (.inl ⟨_, rfl, h7.fst T.sa T.sb (T.firstOne hfin)⟩))
      · rw [if_neg (by simpa using hfin)]
        by_cases hg : bc + 1 ≥ mg
        · rw [if_pos hg]
          exact wpS_pure (h _ (.inr ⟨rfl, h7, h2, h3, by dsimp only; omega, by dsimp only; omega, by dsimp only; omega⟩))
        · rw [if_neg hg]
          exact wpS_pure ⟨rfl, _, _, _, _, _, rfl, h7, h2, h3, by omega, by omega, by omega⟩
def TurnH (O : KeyOrd) (kf : Keyed → O.α) (a b : Array Keyed) (n : Nat) (r : ForInStep D7) : Prop := match r with
  | .done c => EndH O kf a b n c.1 c.2.1 c.2.2.1 c.2.2.2.1
  | .yield c => c.1 = none ∧ HI O kf a b c.2.2.2.1 c.2.1 c.2.2.1 ∧ 0 < c.2.1 ∧ c.2.1 ≤ a.size ∧ 1 < c.2.2.1 ∧ c.2.2.1 ≤ b.size ∧ c.2.1 + c.2.2.1 ≤ n
theorem wp_hi2c (T : Two O kf G a b) {mg p q ac bc n : Nat} {o : Array Keyed} {z : Keyed} {st : SortSt} {Q : ForInStep D7 → SortSt → Prop} (hI : HI O kf a b o p q) (hp : 0 < p) (hpa : p ≤ a.size) (hq : 1 < q) (hqb : q ≤ b.size) (hn : p + q ≤ n) (ez : a[p - 1]? = some z)
    (hz : ∀ y ∈ b.toList.take q, le O kf y z) (h : ∀ r, TurnH O kf a b n r → Q r st) : wpS M A E s (hi2c a b p q o mg ac bc) Q st := by
  unfold hi2c
  refine wpS_bind (wp_elem ez ?_)
  have h7 := hI.pushA T.sa hpa hp ez hz
  by_cases hfin : p - 1 = 0
  · rw [if_pos (by simpa using hfin)]
    exact wpS_pure (h _ (.inl ⟨_, rfl, h7.fin T.sa T.sb (.inl hfin)⟩))
  · rw [if_neg (by simpa using hfin)]
    by_cases hg : (decide (ac < 7) && decide (bc < 7)) = true
    · rw [if_pos hg]
      exact wpS_pure (h _ (.inr ⟨rfl, h7, by dsimp only; omega, by dsimp only; omega, hq, hqb, by dsimp only; omega⟩))
    · rw [if_neg hg]
      exact wpS_pure (h _ ⟨rfl, h7, by dsimp only; omega, by dsimp only; omega, hq, hqb, by dsimp only; omega⟩)
theorem wp_hi2b (L : LtOk M A E s O kf κ G) (T : Two O kf G a b) {mg p q ac bc n : Nat} {o : Array Keyed} {y : Keyed} {st : SortSt} {Q : ForInStep D7 → SortSt → Prop} (hk : kindOf st = κ) (hI : HI O kf a b o p q) (hp : 0 < p) (hpa : p ≤ a.size) (hq : 1 < q) (hqb : q ≤ b.size) (hn : p + q ≤ n)
    (ey : b[q - 1]? = some y) (hy : ∀ x ∈ a.toList.take p, le O kf x y) (h : ∀ r, TurnH O kf a b n r → Q r st) : wpS M A E s (hi2b a b p q o mg ac bc) Q st := by
  unfold hi2b
  refine wpS_bind (wp_elem ey ?_)
  have h7 := hI.pushB T.sb hqb (by omega) ey hy
  by_cases hfin : q - 1 = 1
  · rw [if_pos (by simpa using hfin)]
    exact wpS_pure (h _ (.inl ⟨_, rfl, h7.fst T.sa T.sb (T.firstOne hfin)⟩))
  · rw [if_neg (by simpa using hfin)]
    obtain ⟨z, ez, mz⟩ := at_some (show p - 1 < a.size by omega)
    refine wpS_bind (wp_elem ez (wpS_bind (wp_galS L hk (T.ga z mz) T.gb (fun i' j' x y h1 h2 h3 => T.sb i' j' x y (Nat.zero_le _) h2 (by omega)) (by omega) (by omega) fun u hu1 hb1 hb2 => ?_)))
    dsimp only
    have rest : ∀ w ∈ b.toList.take u, le O kf w z := fun w hw => by
      obtain ⟨t, ht, e⟩ := mem_take.mp hw
      have := hb1 t w ht (by rw [Nat.zero_add]; exact e)
      unfold pby at this
      simp only [if_true] at this
      exact le_of_lt this
    by_cases hk0 : q - 1 - u > 0
    · rw [if_pos hk0]
      have h8 := h7.blockB T.sb (by omega) (u := u) (by omega) (fun t x t1 t2 ex w hw => by
        have := hb2 t x t1 (by omega) (by rw [Nat.zero_add]; exact ex)
        unfold pby at this
        simp only [if_true] at this
        exact le_trans' (T.geA ez w hw) (le_of_not this))
      by_cases hf1 : u = 1
      · rw [if_pos (by simpa using hf1)]
        exact wpS_pure (h _ (.inl ⟨_, rfl, h8.fst T.sa T.sb (T.firstOne hf1)⟩))
      · rw [if_neg (by simpa using hf1)]
        by_cases hf2 : u = 0
        · rw [if_pos (by simpa using hf2)]
          exact wpS_pure (h _ (.inl ⟨_, rfl, h8.fin T.sa T.sb (.inr hf2)⟩))
        · rw [if_neg (by simpa using hf2)]
          exact wp_hi2c T h8 hp hpa (by omega) (by omega) (by omega) ez rest h
    · rw [if_neg hk0]
      have : u = q - 1 := by omega
      subst this
      exact wp_hi2c T h7 hp hpa (by omega) (by omega) (by omega) ez rest h
theorem wp_hi2a (L : LtOk M A E s O kf κ G) (T : Two O kf G a b) {mg p q ac bc n : Nat} {o : Array Keyed} {st : SortSt} {Q : ForInStep D7 → SortSt → Prop} (hk : kindOf st = κ) (hI : HI O kf a b o p q) (hp : 0 < p) (hpa : p ≤ a.size) (hq : 1 < q) (hqb : q ≤ b.size) (hn : p + q ≤ n)
    (h : ∀ r, TurnH O kf a b n r → Q r (setG st mg)) : wpS M A E s (hi2a a b p q o mg ac bc) Q st := by
  unfold hi2a
  refine wpS_bind (wpS_modify ?_)
  obtain ⟨y, ey, my⟩ := at_some (show q - 1 < b.size by omega)
  have hk' : kindOf (setG st mg) = κ := hk
  refine wpS_bind (wp_elem ey (wpS_bind (wp_galS L hk' (T.gb y my) T.ga (fun i' j' x y h1 h2 h3 => T.sa i' j' x y (Nat.zero_le _) h2 (by omega)) (by omega) (by omega) fun u hu1 ha1 ha2 => ?_)))
  dsimp only
  have rest : ∀ w ∈ a.toList.take u, le O kf w y := fun w hw => by
    obtain ⟨t, ht, e⟩ := mem_take.mp hw
    have := ha1 t w ht (by rw [Nat.zero_add]; exact e)
    unfold pby at this
    simp only [Bool.false_eq_true, if_false, Bool.not_eq_true'] at this
    exact le_of_not this
  by_cases hk0 : p - u > 0
  · rw [if_pos hk0]
    have h8 := hI.blockA T.sa hpa (u := u) (by omega) (fun t x t1 t2 ex w hw => by
      have := ha2 t x t1 (by omega) (by rw [Nat.zero_add]; exact ex)
      unfold pby at this
      simp only [Bool.false_eq_true, if_false, Bool.not_eq_false'] at this
      exact le_trans' (T.geB ey w hw) (le_of_lt this))
    by_cases hf1 : u = 0
    · rw [if_pos (by simpa using hf1)]
      exact wpS_pure (h _ (.inl ⟨_, rfl, h8.fin T.sa T.sb (.inl hf1)⟩))
    · rw [if_neg (by simpa using hf1)]
      exact wp_hi2b L T hk' h8 (by omega) (by omega) hq hqb (by omega) ey rest h
  · rw [if_neg hk0]
    have : u = p := by omega
    subst this
    exact wp_hi2b L T hk' hI hp hpa hq hqb hn ey rest h
theorem wp_hi2 (L : LtOk M A E s O kf κ G) (T : Two O kf G a b) {mg p q ac bc n : Nat} {o : Array Keyed} {st : SortSt} {Q : D7 → SortSt → Prop} (hk : kindOf st = κ) (hI : HI O kf a b o p q) (hp : 0 < p) (hpa : p ≤ a.size) (hq : 1 < q) (hqb : q ≤ b.size) (hn : p + q ≤ n)
    (h : ∀ (c : D7) g, EndH O kf a b n c.1 c.2.1 c.2.2.1 c.2.2.2.1 → Q c (setG st g)) : wpS M A E s (hi2 a b mg p q o ac bc) Q st := by
  unfold hi2
  refine wpS_forRange (I := fun x c st' => (∃ g, st' = setG st g) ∧ ∃ p' q' o' mg ac bc, c = (none, p', q', o', mg, ac, bc) ∧ HI O kf a b o' p' q' ∧ 0 < p' ∧ p' ≤ a.size ∧ 1 < q' ∧ q' ≤ b.size ∧ p' + q' ≤ n) ?step ?fin ⟨⟨gallopOf st, rfl⟩, p, q, o, mg, ac, bc, rfl, hI, hp, hpa, hq, hqb, hn⟩
  case fin =>
    rintro c st' ⟨⟨g, rfl⟩, p', q', o', mg, ac, bc, rfl, h1, h2, h3, h4, h5, h6⟩
    exact h _ g (.inr ⟨rfl, h1, h2, h3, h4, h5, h6⟩)
  case step =>
    rintro x c st' _ hx ⟨⟨g, rfl⟩, p', q', o', mg', ac, bc, rfl, h1, h2, h3, h4, h5, h6⟩
    have go : ∀ m, wpS M A E s (hi2a a b p' q' o' m ac bc) (fun r st' => match r with
        | .done c' => Q c' st'
        | .yield c' => (∃ g, st' = setG st g) ∧ ∃ p' q' o' mg ac bc, c' = (none, p', q', o', mg, ac, bc) ∧ HI O kf a b o' p' q' ∧ 0 < p' ∧ p' ≤ a.size ∧ 1 < q' ∧ q' ≤ b.size ∧ p' + q' ≤ n) (setG st g) := fun m => by
      refine wp_hi2a L T (n := n) hk h1 h2 h3 h4 h5 h6 fun r hr => ?_
      cases r with
      | done c' => exact h _ m hr
      | yield c' =>
        obtain ⟨c1, c2, c3, c4, c5, c6, c7⟩ := c'
        obtain ⟨e, r1, r2, r3, r4, r5, r6⟩ := hr
        have e : c1 = none := e
        subst e
        exact ⟨⟨m, rfl⟩, _, _, _, _, _, _, rfl, r1, r2, r3, r4, r5, r6⟩
    dsimp only
    by_cases hg : mg' > 1
    · rw [if_pos hg]; exact wpS_mono (go _) (fun r st' hh => by cases r <;> exact hh)
    · rw [if_neg hg]; exact wpS_mono (go _) (fun r st' hh => by cases r <;> exact hh)
theorem wp_mhi (L : LtOk M A E s O kf κ G) (T : Two O kf G a b) {st : SortSt} {Q : Array Keyed → SortSt → Prop} (hk : kindOf st = κ) (h : ∀ r g, Mrg O kf a b r → Q r (setG st g)) : wpS M A E s (mhi a b) Q st := by
  rw [mhi_eq]
  refine wpS_bind (wpS_lift (wpAny_rule ⟨rfl, ?_⟩))
  have hpa := T.pa
  have hpb := T.pb
  obtain ⟨y, ey, my⟩ := at_some (show a.size - 1 < a.size by omega)
  refine wpS_bind (wp_elem ey ?_)
  have h0 : HI O kf a b #[] a.size b.size := ⟨by rw [← Array.length_toList, ← Array.length_toList, List.take_length, List.take_length]; simp, by simp, by simp⟩
  have h1 : HI O kf a b #[y] (a.size - 1) b.size := h0.pushA T.sa (Nat.le_refl _) hpa ey (fun x hx => T.last y x ey (List.mem_of_mem_take hx))
  have hst : st = setG st (gallopOf st) := rfl
  by_cases hf1 : a.size - 1 = 0
  · rw [if_pos (by simpa using hf1)]
    exact wpS_pure (by rw [hst]; exact h _ _ (h1.fin T.sa T.sb (.inl hf1)))
  · rw [if_neg (by simpa using hf1)]
    by_cases hf2 : b.size = 1
    · rw [if_pos (by simpa using hf2)]
      exact wpS_pure (by rw [hst]; exact h _ _ (h1.fst T.sa T.sb (T.firstOne hf2)))
    · rw [if_neg (by simpa using hf2)]
      refine wpS_bind (wpS_get ?_)
      refine wpS_bind (wpS_mono (wpS_forRange (I := fun x c st' => (∃ g, st' = setG st g) ∧ ∃ p' q' o' mg, c = (none, p', q', o', mg) ∧ HI O kf a b o' p' q' ∧ 0 < p' ∧ p' ≤ a.size ∧ 1 < q' ∧ q' ≤ b.size ∧ p' + q' + x + 1 ≤ a.size + b.size)
        (Q := fun c st' => (∃ g, st' = setG st g) ∧ ∃ r, c.1 = some r ∧ Mrg O kf a b r) ?step ?fin ⟨⟨_, hst⟩, _, _, _, _, rfl, h1, by omega, by omega, by omega, by omega, by omega⟩) ?post)
      case fin =>
        rintro c st' ⟨_, o', i', j', mg, rfl, r1, r2, r3, r4, r5, r6⟩
        exfalso
        omega
      case post =>
        rintro c st' ⟨⟨g, rfl⟩, r, e, hr⟩
        obtain ⟨c1, c2⟩ := c
        have e : c1 = some r := e
        subst e
        exact wpS_pure (h _ _ hr)
      case step =>
        rintro x c st' _ hx ⟨⟨g, rfl⟩, p', q', o', mg, rfl, r1, r2, r3, r4, r5, r6⟩
        dsimp only
        refine wpS_bind (wp_hi1 L T (st := setG st g) (n := p' + q' - 1) hk r1 r2 r3 r4 r5 (by omega) fun c hc => ?_)
        obtain ⟨c1, c2, c3, c4, c5, c6⟩ := c
        rcases hc with ⟨r, e, hr⟩ | ⟨e, q1, q2, q3, q4, q5, q6⟩
        · have e : c1 = some r := e
          subst e
          exact wpS_pure ⟨⟨g, rfl⟩, r, rfl, hr⟩
        · have e : c1 = none := e
          subst e
          dsimp only at q1 q2 q3 q4 q5 q6 ⊢
          refine wpS_bind (wpS_lift (wpAny_rule ⟨rfl, ?_⟩))
          refine wpS_bind (wp_hi2 L T (st := setG st g) (n := p' + q' - 1) hk q1 q2 q3 q4 q5 q6 fun d g' hd => ?_)
          obtain ⟨d1, d2, d3, d4, d5, d6, d7⟩ := d
          rcases hd with ⟨r, e, hr⟩ | ⟨e, p1, p2, p3, p4, p5, p6⟩
          · have e : d1 = some r := e
            subst e
            exact wpS_pure ⟨⟨g', rfl⟩, r, rfl, hr⟩
          · have e : d1 = none := e
            subst e
            dsimp only at p1 p2 p3 p4 p5 p6 ⊢
            exact wpS_bind (wpS_modify (wpS_pure ⟨⟨_, rfl⟩, _, _, _, _, rfl, p1, p2, p3, p4, p5, by omega⟩))
end
end TS
namespace TS
open PySem PyProof.Rows
section
variable {O : KeyOrd} {kf : Keyed → O.α}
def KA (O : KeyOrd) (kf : Keyed → O.α) (xs : Array Keyed) (i : Nat) : O.α := kf (xs[i]?.getD (Value.none, Value.none))
def Inc (O : KeyOrd) (kf : Keyed → O.α) (xs : Array Keyed) (lo hi : Nat) : Prop := ∀ i j, lo ≤ i → i ≤ j → j < hi → O.kle (KA O kf xs i) (KA O kf xs j)
def Dec (O : KeyOrd) (kf : Keyed → O.α) (xs : Array Keyed) (lo hi : Nat) : Prop := ∀ i j, lo ≤ i → i ≤ j → j < hi → O.kle (KA O kf xs j) (KA O kf xs i)
theorem KA_congr {xs ys : Array Keyed} {i j : Nat} (h : xs[i]? = ys[j]?) : KA O kf xs i = KA O kf ys j := by unfold KA; rw [h]
theorem KA_at {xs : Array Keyed} {i : Nat} {x : Keyed} (h : xs[i]? = some x) : KA O kf xs i = kf x := by unfold KA; rw [h]; rfl
theorem Inc.srt {xs : Array Keyed} {lo hi : Nat} (h : Inc O kf xs lo hi) : Srt O kf xs lo hi := fun i j x y h1 h2 h3 e1 e2 => by
  have := h i j h1 h2 h3
  rw [KA_at e1, KA_at e2] at this
  exact this
theorem Srt.inc {xs : Array Keyed} {lo hi : Nat} (h : Srt O kf xs lo hi) (hh : hi ≤ xs.size) : Inc O kf xs lo hi := fun i j h1 h2 h3 => by
  have e1 := Array.getElem?_eq_getElem (show i < xs.size by omega)
  have e2 := Array.getElem?_eq_getElem (show j < xs.size by omega)
  rw [KA_at e1, KA_at e2]
  exact h i j _ _ h1 h2 h3 e1 e2
theorem KA_mirror {xs : Array Keyed} {i j : Nat} (hj : j ≤ xs.size) (k : Nat) : KA O kf (mirror xs i j ((j - i) / 2)) k = if i ≤ k ∧ k < j then KA O kf xs (i + j - 1 - k) else KA O kf xs k := by
  have e := getElem?_mirror_all (i := i) hj k
  by_cases h : i ≤ k ∧ k < j
  · rw [if_pos h] at e ⊢; exact KA_congr e
  · rw [if_neg h] at e ⊢; exact KA_congr e
theorem KA_mirror_eq {xs : Array Keyed} {i j : Nat} (hj : j ≤ xs.size) (heq : ∀ k, i ≤ k → k < j → KA O kf xs k = KA O kf xs (j - 1)) (k : Nat) : KA O kf (mirror xs i j ((j - i) / 2)) k = KA O kf xs k := by
  rw [KA_mirror hj]
  split
  · rw [heq _ (by omega) (by omega), heq k (by omega) (by omega)]
  · rfl
theorem KA_bubble {xs : Array Keyed} {src d : Nat} (hs : src < xs.size) (hd : d ≤ src) (k : Nat) :
    KA O kf (bubble xs src d) k = if k = src - d then KA O kf xs src else if src - d < k ∧ k ≤ src then KA O kf xs (k - 1) else KA O kf xs k := by
  have e := getElem?_bubble hs d hd k
  by_cases h1 : k = src - d
  · rw [if_pos h1] at e ⊢; exact KA_congr e
  · rw [if_neg h1] at e ⊢
    by_cases h2 : src - d < k ∧ k ≤ src
    · rw [if_pos h2] at e ⊢; exact KA_congr e
    · rw [if_neg h2] at e ⊢; exact KA_congr e
/-- what is turned is a rearrangement, and nothing ahead of lo is touched -/
structure Re (lo : Nat) (xs ys : Array Keyed) : Prop where
  perm : ys.Perm xs
  keep : ∀ k, k < lo → ys[k]? = xs[k]?
theorem Re.refl (lo : Nat) (xs : Array Keyed) : Re lo xs xs := ⟨Array.Perm.refl _, fun _ _ => rfl⟩
theorem Re.trans {lo : Nat} {xs ys zs : Array Keyed} (a : Re lo xs ys) (b : Re lo ys zs) : Re lo xs zs := ⟨b.perm.trans a.perm, fun k h => (b.keep k h).trans (a.keep k h)⟩
theorem Re.size {lo : Nat} {xs ys : Array Keyed} (a : Re lo xs ys) : ys.size = xs.size := a.perm.size_eq
theorem Re.mirror {lo i j : Nat} {xs : Array Keyed} (hi : lo ≤ i) (hj : j ≤ xs.size) : Re lo xs (mirror xs i j ((j - i) / 2)) := ⟨mirror_perm _ _ _ _, fun k h => by
  rw [getElem?_mirror_all hj k, if_neg (by omega)]⟩
theorem Re.bubble {lo src d : Nat} {xs : Array Keyed} (hs : src < xs.size) (hd : lo + d ≤ src) : Re lo xs (bubble xs src d) := ⟨bubble_perm _ _ _, fun k h => by
  rw [getElem?_bubble hs d (by omega), if_neg (by omega), if_neg (by omega)]⟩
theorem Re.mem {lo : Nat} {xs ys : Array Keyed} (a : Re lo xs ys) {G : Keyed → Prop} (h : ∀ x ∈ xs.toList, G x) : ∀ x ∈ ys.toList, G x := fun x hx => h x ((Array.perm_iff_toList_perm.mp a.perm).mem_iff.mp hx)
end

abbrev ASt := Option (Option Nat) × Nat
abbrev BSt := Option (Option Nat) × Nat × Nat
def asc (lo a nrem : Nat) : StateT SortSt Sem ASt :=
  forIn [a:nrem] ((none, a) : ASt) fun _ c => do
    let r ← ltAt' (lo + c.2) (lo + c.2 - 1)
    match r with
    | some sm => if sm = true then pure (.done (none, c.2)) else pure (.yield (none, c.2 + 1))
    | _ => pure (.done (some none, c.2))
def dsc (lo a nrem : Nat) : StateT SortSt Sem BSt :=
  forIn [a:nrem] ((none, a, 0) : BSt) fun _ c => do
    let r ← ltAt' (lo + c.2.1) (lo + c.2.1 - 1)
    match r with
    | some sm =>
      if sm = true then
        if c.2.2 > 0 then do
          reverseSlice' (lo + c.2.1 - (c.2.2 + 1)) (lo + c.2.1)
          pure (.yield (none, c.2.1 + 1, 0))
        else pure (.yield (none, c.2.1 + 1, 0))
      else do
        let r ← ltAt' (lo + c.2.1 - 1) (lo + c.2.1)
        match r with
        | some lg => if lg = true then pure (.done (none, c.2.1, c.2.2)) else pure (.yield (none, c.2.1 + 1, c.2.2 + 1))
        | _ => pure (.done (some none, c.2.1, c.2.2))
    | _ => pure (.done (some none, c.2.1, c.2.2))
def tl3 (lo n nrem : Nat) : StateT SortSt Sem (Option Nat) := do
  reverseSlice' lo (lo + n)
  let c ← asc lo n nrem
  match c.1 with
  | some r => pure r
  | none => pure (some c.2)
def dpt (lo n nrem : Nat) : StateT SortSt Sem (Option Nat) := do
  rule "list.sort.descending-run"
  let c ← dsc lo (n + 1) nrem
  match c.1 with
  | some r => pure r
  | none => if c.2.2 > 0 then do reverseSlice' (lo + c.2.1 - (c.2.2 + 1)) (lo + c.2.1); tl3 lo c.2.1 nrem else tl3 lo c.2.1 nrem
theorem cr_eq (lo nrem : Nat) : countRun' lo nrem = (do
  let c ← asc lo 1 nrem
  match c.1 with
  | some r => pure r
  | none =>
    if (c.2 == nrem) = true then pure (some c.2)
    else if c.2 > 1 then do
      let r ← ltAt' lo (lo + c.2 - 1)
      match r with
      | some rs => if rs = true then pure (some c.2) else do reverseSlice' lo (lo + c.2); dpt lo c.2 nrem
      | _ => pure none
    else dpt lo c.2 nrem) := by
  rw [countRun'_eq]
  show (forIn _ _ _ >>= _ : StateT SortSt Sem (Option Nat)) = asc lo 1 nrem >>= _
  refine congr (congrArg Bind.bind ?_) (funext fun c => ?_)
  · delta asc
    refine congrArg (forIn _ _) (funext fun _ => funext fun c => ?_)
    refine congrArg (fun z => _ >>= z) (funext fun r => ?_)
    cases r with
    | none => exact rfl
    | some sm => exact rfl
  · obtain ⟨c1, c2⟩ := c
    cases c1 with
    | some r => rfl
    | none =>
      show (ite _ _ (ite _ _ _) : StateT SortSt Sem (Option Nat)) = ite _ _ (ite _ _ _)
      refine congrArg (ite _ _) ?_
      refine congr (congrArg (ite _) ?_) ?_
      · refine congrArg (fun z => _ >>= z) (funext fun r => ?_)
        cases r with
        | none => exact rfl
        | some rs =>
          show (ite _ _ _ : StateT SortSt Sem (Option Nat)) = ite _ _ _
          refine congrArg (ite _ _) ?_
          refine congrArg (fun z => _ >>= z) (funext fun _ => ?_)
          delta dpt
          refine congrArg (fun z => _ >>= z) (funext fun _ => ?_)
          show (forIn _ _ _ >>= _ : StateT SortSt Sem (Option Nat)) = dsc lo (c2 + 1) nrem >>= _
          refine congr (congrArg Bind.bind ?_) (funext fun d => ?_)
          · delta dsc
            refine congrArg (forIn _ _) (funext fun _ => funext fun c => ?_)
            refine congrArg (fun z => _ >>= z) (funext fun r => ?_)
            cases r with
            | none => exact rfl
            | some sm =>
              show (ite _ _ _ : StateT SortSt Sem (ForInStep BSt)) = ite _ _ _
              refine congr (congrArg (ite _) ?_) ?_
              · exact rfl
              · refine congrArg (fun z => _ >>= z) (funext fun r => ?_)
                cases r with
                | none => exact rfl
                | some lg => exact rfl
          · obtain ⟨d1, d2, d3⟩ := d
            cases d1 with
            | some r => exact rfl
            | none =>
              show (ite _ _ _ : StateT SortSt Sem (Option Nat)) = ite _ _ _
              refine congr (congrArg (ite _) ?_) ?_
              · refine congrArg (fun z => _ >>= z) (funext fun _ => ?_)
                delta tl3
                refine congrArg (fun z => _ >>= z) (funext fun _ => ?_)
                show (forIn _ _ _ >>= _ : StateT SortSt Sem (Option Nat)) = asc lo d2 nrem >>= _
                refine congr (congrArg Bind.bind ?_) (funext fun e => ?_)
                · delta asc
                  refine congrArg (forIn _ _) (funext fun _ => funext fun c => ?_)
                  refine congrArg (fun z => _ >>= z) (funext fun r => ?_)
                  cases r with
                  | none => exact rfl
                  | some sm => exact rfl
                · obtain ⟨e1, e2⟩ := e
                  cases e1 with
                  | some r => exact rfl
                  | none => exact rfl
              · delta tl3
                refine congrArg (fun z => _ >>= z) (funext fun _ => ?_)
                show (forIn _ _ _ >>= _ : StateT SortSt Sem (Option Nat)) = asc lo d2 nrem >>= _
                refine congr (congrArg Bind.bind ?_) (funext fun e => ?_)
                · delta asc
                  refine congrArg (forIn _ _) (funext fun _ => funext fun c => ?_)
                  refine congrArg (fun z => _ >>= z) (funext fun r => ?_)
                  cases r with
                  | none => exact rfl
                  | some sm => exact rfl
                · obtain ⟨e1, e2⟩ := e
                  cases e1 with
                  | some r => exact rfl
                  | none => exact rfl
      · show _ = dpt lo c2 nrem
        delta dpt
        refine congrArg (fun z => _ >>= z) (funext fun _ => ?_)
        show (forIn _ _ _ >>= _ : StateT SortSt Sem (Option Nat)) = dsc lo (c2 + 1) nrem >>= _
        refine congr (congrArg Bind.bind ?_) (funext fun d => ?_)
        · delta dsc
          refine congrArg (forIn _ _) (funext fun _ => funext fun c => ?_)
          refine congrArg (fun z => _ >>= z) (funext fun r => ?_)
          cases r with
          | none => exact rfl
          | some sm =>
            show (ite _ _ _ : StateT SortSt Sem (ForInStep BSt)) = ite _ _ _
            refine congr (congrArg (ite _) ?_) ?_
            · exact rfl
            · refine congrArg (fun z => _ >>= z) (funext fun r => ?_)
              cases r with
              | none => exact rfl
              | some lg => exact rfl
        · obtain ⟨d1, d2, d3⟩ := d
          cases d1 with
          | some r => exact rfl
          | none =>
            show (ite _ _ _ : StateT SortSt Sem (Option Nat)) = ite _ _ _
            refine congr (congrArg (ite _) ?_) ?_
            · refine congrArg (fun z => _ >>= z) (funext fun _ => ?_)
              delta tl3
              refine congrArg (fun z => _ >>= z) (funext fun _ => ?_)
              show (forIn _ _ _ >>= _ : StateT SortSt Sem (Option Nat)) = asc lo d2 nrem >>= _
              refine congr (congrArg Bind.bind ?_) (funext fun e => ?_)
              · delta asc
                refine congrArg (forIn _ _) (funext fun _ => funext fun c => ?_)
                refine congrArg (fun z => _ >>= z) (funext fun r => ?_)
                cases r with
                | none => exact rfl
                | some sm => exact rfl
              · obtain ⟨e1, e2⟩ := e
                cases e1 with
                | some r => exact rfl
                | none => exact rfl
            · delta tl3
              refine congrArg (fun z => _ >>= z) (funext fun _ => ?_)
              show (forIn _ _ _ >>= _ : StateT SortSt Sem (Option Nat)) = asc lo d2 nrem >>= _
              refine congr (congrArg Bind.bind ?_) (funext fun e => ?_)
              · delta asc
                refine congrArg (forIn _ _) (funext fun _ => funext fun c => ?_)
                refine congrArg (fun z => _ >>= z) (funext fun r => ?_)
                cases r with
                | none => exact rfl
                | some sm => exact rfl
              · obtain ⟨e1, e2⟩ := e
                cases e1 with
                | some r => exact rfl
                | none => exact rfl

section
variable {M : Model} {A : Around} {E : Value → Shared → Prop} {s : Shared} {O : KeyOrd} {kf : Keyed → O.α} {κ : SortKind} {G : Keyed → Prop}
theorem wp_ltAt (L : LtOk M A E s O kf κ G) {st : SortSt} {i j : Nat} {Q : Option Bool → SortSt → Prop} (hk : kindOf st = κ) (hG : ∀ x ∈ (arrOf st).toList, G x) (hi : i < (arrOf st).size) (hj : j < (arrOf st).size)
    (h : Q (some (O.blt (KA O kf (arrOf st) i) (KA O kf (arrOf st) j))) st) : wpS M A E s (ltAt' i j) Q st := by
  rw [ltAt'_eq]
  refine wpS_bind (wpS_get ?_)
  obtain ⟨x, ex, mx⟩ := at_some hi
  obtain ⟨y, ey, my⟩ := at_some hj
  rw [KA_at ex, KA_at ey] at h
  exact wpS_bind (wp_elem ex (wpS_bind (wp_elem ey (L x y (hG x mx) (hG y my) st Q hk h))))
theorem wp_rev {i j : Nat} {st : SortSt} {Q : Unit → SortSt → Prop} (h : Q () (setArr st (mirror (arrOf st) i j ((j - i) / 2)))) : wpS M A E s (reverseSlice' i j) Q st := by
  rw [reverseSlice'_eq]
  exact wpS_modify h
theorem wp_asc (L : LtOk M A E s O kf κ G) {st : SortSt} {lo a nrem : Nat} {Q : ASt → SortSt → Prop} (hk : kindOf st = κ) (hG : ∀ x ∈ (arrOf st).toList, G x) (hn : lo + nrem ≤ (arrOf st).size) (ha : 1 ≤ a) (han : a ≤ nrem)
    (hs : Inc O kf (arrOf st) lo (lo + a))
    (h : ∀ n, a ≤ n → n ≤ nrem → Inc O kf (arrOf st) lo (lo + n) → (n = nrem ∨ O.klt (KA O kf (arrOf st) (lo + n)) (KA O kf (arrOf st) (lo + n - 1))) → Q (none, n) st) : wpS M A E s (asc lo a nrem) Q st := by
  unfold asc
  refine wpS_forRange (I := fun x c st' => st' = st ∧ c = (none, x) ∧ Inc O kf (arrOf st) lo (lo + x)) ?step ?fin ⟨rfl, rfl, hs⟩
  case fin =>
    rintro c st' ⟨rfl, rfl, hs'⟩
    rw [show max a nrem = nrem by omega] at hs' ⊢
    exact h nrem han (Nat.le_refl _) hs' (.inl rfl)
  case step =>
    rintro x c st' hax hxn ⟨rfl, rfl, hs'⟩
    dsimp only
    refine wpS_bind (wp_ltAt L hk hG (by omega) (by omega) ?_)
    cases hb : O.blt (KA O kf (arrOf st') (lo + x)) (KA O kf (arrOf st') (lo + x - 1)) with
    | true =>
      simp only [if_true]
      exact wpS_pure (h x hax (by omega) hs' (.inr hb))
    | false =>
      simp only [Bool.false_eq_true, if_false]
      refine wpS_pure ⟨rfl, rfl, fun i j h1 h2 h3 => ?_⟩
      by_cases hjx : j < lo + x
      · exact hs' i j h1 h2 hjx
      · have : j = lo + x := by omega
        subst this
        by_cases e : i = lo + x
        · subst e; exact KeyOrd.kle_refl _
        · exact KeyOrd.kle_trans (hs' i (lo + x - 1) h1 (by omega) (by omega)) hb
/-- what a run's count leaves -/
def RunAt (O : KeyOrd) (kf : Keyed → O.α) (lo nrem : Nat) (st : SortSt) (Q : Option Nat → SortSt → Prop) : Prop :=
  ∀ m xs, Re lo (arrOf st) xs → 1 ≤ m → m ≤ nrem → Inc O kf xs lo (lo + m) → Q (some m) (setArr st xs)
theorem RunAt.step {lo nrem : Nat} {st : SortSt} {Q : Option Nat → SortSt → Prop} {xs : Array Keyed} (h : RunAt O kf lo nrem st Q) (r : Re lo (arrOf st) xs) : RunAt O kf lo nrem (setArr st xs) Q :=
  fun m ys r' h1 h2 h3 => h m ys (r.trans r') h1 h2 h3
theorem wp_tl3 (L : LtOk M A E s O kf κ G) {st : SortSt} {lo n nrem : Nat} {Q : Option Nat → SortSt → Prop} (hk : kindOf st = κ) (hG : ∀ x ∈ (arrOf st).toList, G x) (hn : lo + nrem ≤ (arrOf st).size) (h1 : 1 ≤ n) (hnn : n ≤ nrem)
    (hs : Dec O kf (arrOf st) lo (lo + n)) (h : RunAt O kf lo nrem st Q) : wpS M A E s (tl3 lo n nrem) Q st := by
  unfold tl3
  refine wpS_bind (wp_rev ?_)
  have r : Re lo (arrOf st) (mirror (arrOf st) lo (lo + n) ((lo + n - lo) / 2)) := Re.mirror (Nat.le_refl _) (by omega)
  refine wpS_bind (wp_asc L (st := setArr st (mirror (arrOf st) lo (lo + n) ((lo + n - lo) / 2))) hk (r.mem hG) (by have := r.size; show lo + nrem ≤ (mirror (arrOf st) lo (lo + n) ((lo + n - lo) / 2)).size; omega) h1 hnn ?_ fun m hm1 hm2 hs2 _ => wpS_pure (h m _ r (by omega) hm2 hs2))
  intro i j h2 h3 h4
  show O.kle (KA O kf (mirror (arrOf st) lo (lo + n) ((lo + n - lo) / 2)) i) (KA O kf (mirror (arrOf st) lo (lo + n) ((lo + n - lo) / 2)) j)
  rw [KA_mirror (by omega), KA_mirror (by omega), if_pos (by omega), if_pos (by omega)]
  exact hs _ _ (by omega) (by omega) (by omega)
theorem wp_dsc (L : LtOk M A E s O kf κ G) {st : SortSt} {lo n nrem : Nat} {Q : BSt → SortSt → Prop} (hk : kindOf st = κ) (hG : ∀ x ∈ (arrOf st).toList, G x) (hn : lo + nrem ≤ (arrOf st).size) (h1 : 1 ≤ n) (hnn : n ≤ nrem)
    (hs : Dec O kf (arrOf st) lo (lo + n))
    (h : ∀ m ne xs, Re lo (arrOf st) xs → n ≤ m → m ≤ nrem → Dec O kf xs lo (lo + m) → ne + 1 ≤ m → (∀ i, lo + m - (ne + 1) ≤ i → i < lo + m → KA O kf xs i = KA O kf xs (lo + m - 1)) → Q (none, m, ne) (setArr st xs)) : wpS M A E s (dsc lo n nrem) Q st := by
  unfold dsc
  refine wpS_forRange (I := fun x c st' => ∃ ne xs, c = (none, x, ne) ∧ st' = setArr st xs ∧ Re lo (arrOf st) xs ∧ Dec O kf xs lo (lo + x) ∧ ne + 1 ≤ x ∧ (∀ i, lo + x - (ne + 1) ≤ i → i < lo + x → KA O kf xs i = KA O kf xs (lo + x - 1))) ?step ?fin
    ⟨0, arrOf st, rfl, rfl, Re.refl _ _, hs, by omega, fun i a b => by congr 1; omega⟩
  case fin =>
    rintro c st' ⟨ne, xs, rfl, rfl, r, hs', hq, he⟩
    rw [show max n nrem = nrem by omega] at hs' hq he ⊢
    exact h nrem ne xs r hnn (Nat.le_refl _) hs' hq he
  case step =>
    rintro x c st' hax hxn ⟨ne, xs, rfl, rfl, r, hs', hq, he⟩
    dsimp only
    have hsz : xs.size = (arrOf st).size := r.size
    refine wpS_bind (wp_ltAt L (st := setArr st xs) hk (r.mem hG) (by show lo + x < xs.size; omega) (by show lo + x - 1 < xs.size; omega) ?_)
    show wpS M A E s _ _ _
    cases hb : O.blt (KA O kf (arrOf (setArr st xs)) (lo + x)) (KA O kf (arrOf (setArr st xs)) (lo + x - 1)) with
    | true =>
      have hb : O.blt (KA O kf xs (lo + x)) (KA O kf xs (lo + x - 1)) = true := hb
      simp only [if_true]
      have step1 : ∀ ys : Array Keyed, (∀ k, KA O kf ys k = KA O kf xs k) → Dec O kf ys lo (lo + (x + 1)) := by
        intro ys hy i j a b d
        rw [hy, hy]
        by_cases hjx : j < lo + x
        · exact hs' i j a b hjx
        · have : j = lo + x := by omega
          subst this
          by_cases e : i = lo + x
          · subst e; exact KeyOrd.kle_refl _
          · exact KeyOrd.kle_trans (KeyOrd.kle_of_klt hb) (hs' i (lo + x - 1) a (by omega) (by omega))
      by_cases hneq : ne > 0
      · rw [if_pos hneq]
        refine wpS_bind (wp_rev (wpS_pure ⟨0, _, rfl, rfl, r.trans (Re.mirror (xs := xs) (by omega) (by omega)), step1 _ (KA_mirror_eq (xs := xs) (by omega) he), by omega, fun i a b => by congr 1; omega⟩))
      · rw [if_neg hneq]
        exact wpS_pure ⟨0, xs, rfl, rfl, r, step1 _ (fun _ => rfl), by omega, fun i a b => by congr 1; omega⟩
    | false =>
      have hb : O.blt (KA O kf xs (lo + x)) (KA O kf xs (lo + x - 1)) = false := hb
      simp only [Bool.false_eq_true, if_false]
      refine wpS_bind (wp_ltAt L (st := setArr st xs) hk (r.mem hG) (by show lo + x - 1 < xs.size; omega) (by show lo + x < xs.size; omega) ?_)
      cases hc : O.blt (KA O kf (arrOf (setArr st xs)) (lo + x - 1)) (KA O kf (arrOf (setArr st xs)) (lo + x)) with
      | true =>
        simp only [if_true]
        exact wpS_pure (h x ne xs r hax (by omega) hs' hq he)
      | false =>
        have hc : O.blt (KA O kf xs (lo + x - 1)) (KA O kf xs (lo + x)) = false := hc
        simp only [Bool.false_eq_true, if_false]
        have heqx : KA O kf xs (lo + x) = KA O kf xs (lo + x - 1) := KeyOrd.kle_antisymm hc hb
        refine wpS_pure ⟨ne + 1, xs, rfl, rfl, r, fun i j a b d => ?_, by omega, fun i a b => ?_⟩
        · by_cases hjx : j < lo + x
          · exact hs' i j a b hjx
          · have : j = lo + x := by omega
            subst this
            by_cases e : i = lo + x
            · subst e; exact KeyOrd.kle_refl _
            · rw [heqx]; exact hs' i (lo + x - 1) a (by omega) (by omega)
        · rw [show lo + (x + 1) - 1 = lo + x by omega]
          by_cases e : i = lo + x
          · rw [e]
          · rw [heqx]; exact he i (by omega) (by omega)
theorem wp_dpt (L : LtOk M A E s O kf κ G) {st : SortSt} {lo n nrem : Nat} {Q : Option Nat → SortSt → Prop} (hk : kindOf st = κ) (hG : ∀ x ∈ (arrOf st).toList, G x) (hn : lo + nrem ≤ (arrOf st).size) (hnn : n + 1 ≤ nrem)
    (hs : Dec O kf (arrOf st) lo (lo + (n + 1))) (h : RunAt O kf lo nrem st Q) : wpS M A E s (dpt lo n nrem) Q st := by
  unfold dpt
  refine wpS_bind (wpS_lift (wpAny_rule ⟨rfl, ?_⟩))
  refine wpS_bind (wp_dsc L hk hG hn (by omega) hnn hs fun m ne xs r h1 h2 h3 h4 h5 => ?_)
  dsimp only
  have hsz : xs.size = (arrOf st).size := r.size
  by_cases hneq : ne > 0
  · rw [if_pos hneq]
    have r2 : Re lo xs (mirror xs (lo + m - (ne + 1)) (lo + m) ((lo + m - (lo + m - (ne + 1))) / 2)) := Re.mirror (by omega) (by omega)
    refine wpS_bind (wp_rev (wp_tl3 L hk (r2.mem (r.mem hG)) (by have := r2.size; show lo + nrem ≤ (mirror xs (lo + m - (ne + 1)) (lo + m) ((lo + m - (lo + m - (ne + 1))) / 2)).size; omega) (by omega) h2 ?_ ((h.step r).step r2)))
    intro i j a b d
    show O.kle (KA O kf (mirror xs _ _ _) j) (KA O kf (mirror xs _ _ _) i)
    rw [KA_mirror_eq (by omega) h5, KA_mirror_eq (by omega) h5]
    exact h3 i j a b d
  · rw [if_neg hneq]
    exact wp_tl3 L (st := setArr st xs) hk (r.mem hG) (by show lo + nrem ≤ xs.size; omega) (by omega) h2 h3 (h.step r)
theorem wp_cr (L : LtOk M A E s O kf κ G) {st : SortSt} {lo nrem : Nat} {Q : Option Nat → SortSt → Prop} (hk : kindOf st = κ) (hG : ∀ x ∈ (arrOf st).toList, G x) (hn : lo + nrem ≤ (arrOf st).size) (h1 : 1 ≤ nrem)
    (h : RunAt O kf lo nrem st Q) : wpS M A E s (countRun' lo nrem) Q st := by
  rw [cr_eq]
  refine wpS_bind (wp_asc L hk hG hn (Nat.le_refl 1) h1 (fun i j a b d => by have : i = j := (by omega); subst this; exact KeyOrd.kle_refl _) fun n hn1 hn2 hsn hor => ?_)
  dsimp only
  by_cases hnn : n = nrem
  · rw [if_pos (by simpa using hnn)]
    exact wpS_pure (h n _ (Re.refl _ _) hn1 hn2 hsn)
  · rw [if_neg (by simpa using hnn)]
    have hlt := hor.resolve_left hnn
    by_cases hgt : n > 1
    · rw [if_pos hgt]
      refine wpS_bind (wp_ltAt L hk hG (by omega) (by omega) ?_)
      cases hr : O.blt (KA O kf (arrOf st) lo) (KA O kf (arrOf st) (lo + n - 1)) with
      | true =>
        simp only [if_true]
        exact wpS_pure (h n _ (Re.refl _ _) hn1 hn2 hsn)
      | false =>
        simp only [Bool.false_eq_true, if_false]
        have hall : ∀ k, lo ≤ k → k < lo + n → KA O kf (arrOf st) k = KA O kf (arrOf st) (lo + n - 1) := by
          intro k a b
          exact KeyOrd.kle_antisymm (hsn k (lo + n - 1) a (by omega) (by omega)) (KeyOrd.kle_trans hr (hsn lo k (Nat.le_refl _) a b))
        have r : Re lo (arrOf st) (mirror (arrOf st) lo (lo + n) ((lo + n - lo) / 2)) := Re.mirror (Nat.le_refl _) (by omega)
        refine wpS_bind (wp_rev (wp_dpt L hk (r.mem hG) (by have := r.size; show lo + nrem ≤ (mirror (arrOf st) lo (lo + n) ((lo + n - lo) / 2)).size; omega) (by omega) ?_ (h.step r)))
        intro i j a b d
        show O.kle (KA O kf (mirror (arrOf st) _ _ _) j) (KA O kf (mirror (arrOf st) _ _ _) i)
        rw [KA_mirror_eq (by omega) hall, KA_mirror_eq (by omega) hall]
        by_cases hjn : j < lo + n
        · rw [hall i (by omega) (by omega), hall j (by omega) hjn]; exact KeyOrd.kle_refl _
        · have : j = lo + n := by omega
          subst this
          by_cases e : i = lo + n
          · subst e; exact KeyOrd.kle_refl _
          · rw [hall i (by omega) (by omega)]; exact KeyOrd.kle_of_klt hlt
    · rw [if_neg hgt]
      have : n = 1 := by omega
      subst this
      refine wp_dpt L hk hG hn (by omega) ?_ h
      intro i j a b d
      by_cases e : i = j
      · subst e; exact KeyOrd.kle_refl _
      · have e1 : i = lo := by omega
        have e2 : j = lo + 1 := by omega
        subst e1 e2
        exact KeyOrd.kle_of_klt (by simpa using hlt)
theorem wp_bin (L : LtOk M A E s O kf κ G) {st : SortSt} {lo n ok : Nat} {Q : Bool → SortSt → Prop} (hk : kindOf st = κ) (hG : ∀ x ∈ (arrOf st).toList, G x) (hn : lo + n ≤ (arrOf st).size) (hok : ok ≤ n) (hs : Inc O kf (arrOf st) lo (lo + ok))
    (h : ∀ xs, Re lo (arrOf st) xs → Inc O kf xs lo (lo + n) → Q true (setArr st xs)) : wpS M A E s (binarySort' lo n ok) Q st := by
  rw [binarySort'_eq]
  refine wpS_bind (wpS_mono (wpS_forRange (I := fun k c st' => c = (none, ()) ∧ ∃ xs, st' = setArr st xs ∧ Re lo (arrOf st) xs ∧ Inc O kf xs lo (lo + min k n))
    (Q := fun c st' => c = (none, ()) ∧ ∃ xs, st' = setArr st xs ∧ Re lo (arrOf st) xs ∧ Inc O kf xs lo (lo + n)) ?step ?fin ?init) ?post)
  case post =>
    rintro c st' ⟨rfl, xs, rfl, r, hs'⟩
    exact wpS_pure (h xs r hs')
  case init =>
    refine ⟨rfl, arrOf st, rfl, Re.refl _ _, fun i j a b d => ?_⟩
    by_cases h1 : ok = 0
    · have : i = j := by omega
      subst this; exact KeyOrd.kle_refl _
    · exact hs i j a b (by omega)
  case fin =>
    rintro c st' ⟨hc, xs, rfl, r, hs'⟩
    refine ⟨hc, xs, rfl, r, ?_⟩
    rwa [show min (max (max ok 1) n) n = n by omega] at hs'
  case step =>
    rintro k c st' hak hkn ⟨rfl, xs, rfl, r, hs'⟩
    rw [show min k n = k by omega] at hs'
    have hsz : xs.size = (arrOf st).size := r.size
    refine wpS_bind (wpS_mono (wpS_forRange (I := fun x c st'' => st'' = setArr st xs ∧ ∃ l u, c = (none, l, u) ∧ l ≤ u ∧ u ≤ k ∧ u - l ≤ k - x ∧
        (∀ i, i < l → O.kle (KA O kf xs (lo + i)) (KA O kf xs (lo + k))) ∧ (∀ i, u ≤ i → i < k → O.klt (KA O kf xs (lo + k)) (KA O kf xs (lo + i))))
      (Q := fun c st'' => st'' = setArr st xs ∧ ∃ l u, c = (none, l, u) ∧ l ≤ k ∧
        (∀ i, i < l → O.kle (KA O kf xs (lo + i)) (KA O kf xs (lo + k))) ∧ (∀ i, l ≤ i → i < k → O.klt (KA O kf xs (lo + k)) (KA O kf xs (lo + i)))) ?istep ?ifin ?iinit) ?ipost)
    case iinit => exact ⟨rfl, 0, k, rfl, by omega, by omega, by omega, fun i hi => by omega, fun i h1 h2 => by omega⟩
    case ifin =>
      rintro c st'' ⟨rfl, l, u, rfl, a, b, d, e, f⟩
      have : l = u := by omega
      subst this
      exact ⟨rfl, l, l, rfl, b, e, f⟩
    case istep =>
      rintro x c st'' _ hxk ⟨rfl, l, u, rfl, a, b, d, e, f⟩
      dsimp only
      by_cases hge : l ≥ u
      · rw [if_pos hge]
        have : l = u := by omega
        subst this
        exact wpS_pure ⟨rfl, l, l, rfl, b, e, f⟩
      · rw [if_neg hge]
        refine wpS_bind (wp_ltAt L (st := setArr st xs) hk (r.mem hG) (by show lo + k < xs.size; omega) (by show lo + (l + u) / 2 < xs.size; omega) ?_)
        cases hb : O.blt (KA O kf (arrOf (setArr st xs)) (lo + k)) (KA O kf (arrOf (setArr st xs)) (lo + (l + u) / 2)) with
        | true =>
          have hb : O.blt (KA O kf xs (lo + k)) (KA O kf xs (lo + (l + u) / 2)) = true := hb
          simp only [if_true]
          refine wpS_pure ⟨rfl, l, (l + u) / 2, rfl, by omega, by omega, by omega, e, fun i h1 h2 => ?_⟩
          exact KeyOrd.klt_of_klt_of_kle hb (hs' _ _ (by omega) (by omega) (by omega))
        | false =>
          have hb : O.blt (KA O kf xs (lo + k)) (KA O kf xs (lo + (l + u) / 2)) = false := hb
          simp only [Bool.false_eq_true, if_false]
          refine wpS_pure ⟨rfl, (l + u) / 2 + 1, u, rfl, by omega, by omega, by omega, fun i h1 => ?_, f⟩
          exact KeyOrd.kle_trans (hs' (lo + i) (lo + (l + u) / 2) (by omega) (by omega) (by omega)) (show O.kle _ _ from hb)
    case ipost =>
      rintro c st'' ⟨rfl, l, u, rfl, hlk, hlo, hhi⟩
      show wpS _ _ _ _ (do moveDown' (lo + k) (lo + l); pure (ForInStep.yield (none, ()))) _ _
      rw [moveDown'_eq]
      have hks : lo + k < xs.size := by omega
      refine wpS_bind (wpS_modify (wpS_pure ⟨rfl, _, rfl, r.trans (Re.bubble hks (d := lo + k - (lo + l)) (by omega)), ?_⟩))
      rw [show min (k + 1) n = k + 1 by omega]
      intro i j a b d
      show O.kle (KA O kf (bubble xs (lo + k) (lo + k - (lo + l))) i) (KA O kf (bubble xs (lo + k) (lo + k - (lo + l))) j)
      rw [KA_bubble hks (by omega), KA_bubble hks (by omega), show lo + k - (lo + k - (lo + l)) = lo + l by omega]
      have lo' : ∀ t, lo ≤ t → t < lo + l → O.kle (KA O kf xs t) (KA O kf xs (lo + k)) := fun t h1 h2 => by
        have := hlo (t - lo) (by omega)
        rwa [show lo + (t - lo) = t by omega] at this
      have hi' : ∀ t, lo + l ≤ t → t < lo + k → O.klt (KA O kf xs (lo + k)) (KA O kf xs t) := fun t h1 h2 => by
        have := hhi (t - lo) (by omega) (by omega)
        rwa [show lo + (t - lo) = t by omega] at this
      repeat' split
      all_goals first
        | (exfalso; omega)
        | exact KeyOrd.kle_refl _
        | exact lo' _ (by omega) (by omega)
        | exact KeyOrd.kle_of_klt (hi' _ (by omega) (by omega))
        | exact hs' _ _ (by omega) (by omega) (by omega)
end
end TS
namespace TS
open PySem PyProof.Rows
abbrev Pd := Nat × Nat × Nat
def wrt (a : Array Keyed) (sa : Nat) (l : List (Keyed × Nat)) : Array Keyed := l.foldl (fun a (p, j) => a.setIfInBounds (sa + j) p) a
theorem wrt_size (sa : Nat) : ∀ (l : List (Keyed × Nat)) (a : Array Keyed), (wrt a sa l).size = a.size
  | [], a => rfl
  | (p, j) :: r, a => by
    show (wrt (a.setIfInBounds (sa + j) p) sa r).size = a.size
    rw [wrt_size sa r, Array.size_setIfInBounds]
theorem wrt_get (sa : Nat) : ∀ (l : List Keyed) (n : Nat) (a : Array Keyed) (k : Nat), sa + n + l.length ≤ a.size → (wrt a sa (l.zipIdx n))[k]? = if sa + n ≤ k ∧ k < sa + n + l.length then l[k - (sa + n)]? else a[k]?
  | [], n, a, k, _ => by
    rw [if_neg (by simp)]
    rfl
  | p :: r, n, a, k, h => by
    show (wrt (a.setIfInBounds (sa + n) p) sa (r.zipIdx (n + 1)))[k]? = _
    have h' : sa + (n + 1) + r.length ≤ a.size := by simp at h; omega
    rw [wrt_get sa r (n + 1) _ k (by rw [Array.size_setIfInBounds]; exact h')]
    by_cases h1 : sa + (n + 1) ≤ k ∧ k < sa + (n + 1) + r.length
    · rw [if_pos h1, if_pos (by simp; omega)]
      rw [show k - (sa + n) = (k - (sa + (n + 1))) + 1 by omega]
      simp
    · rw [if_neg h1]
      by_cases h2 : k = sa + n
      · subst h2
        rw [if_pos (by simp)]
        simp at h
        simp [show sa + n < a.size by omega]
      · rw [if_neg (by simp; omega)]
        rw [Array.getElem?_setIfInBounds_ne (by omega)]
def mga : Nat → StateT SortSt Sem Bool := mergeAt'
def mst (st : SortSt) (xs : Array Keyed) (p : Array Pd) (g : Nat) : SortSt := SortSt.mk' (kindOf st) xs p g (failedOf st)
theorem mga_eq (i : Nat) : mga i = (do
  let s ← get
  match (pendingOf s)[i]?, (pendingOf s)[i + 1]? with
  | some (sa, na, pw), some (sb, nb, _) => do
    set (mst s (arrOf s) (((pendingOf s).setIfInBounds i (sa, na + nb, pw)).eraseIdxIfInBounds (i + 1)) (gallopOf s))
    let y ← elem' (arrOf s) sb
    let r ← gal false y (arrOf s) sa na 0
    match r with
    | some k =>
      if (na - k == 0) = true then pure true
      else do
        let z ← elem' (arrOf s) (sa + k + (na - k) - 1)
        let r ← gal true z (arrOf s) sb nb (nb - 1)
        match r with
        | some nb =>
          if (nb == 0) = true then pure true
          else do
            let m ← if na - k ≤ nb then mlo ((arrOf s).extract (sa + k) sb) ((arrOf s).extract sb (sb + nb)) else mhi ((arrOf s).extract (sa + k) sb) ((arrOf s).extract sb (sb + nb))
            modify fun s => setArr s (wrt (arrOf s) (sa + k) m.toList.zipIdx)
            let s ← get
            pure (failedOf s).isNone
        | _ => pure false
    | _ => pure false
  | _, _ => unsupported "internal:list.sort.pending") := by
  show (get >>= _ : StateT SortSt Sem Bool) = _
  refine congrArg (fun z => get >>= z) (funext fun s => ?_)
  cases e1 : (pendingOf s)[i]? with
  | none => rfl
  | some v =>
    obtain ⟨sa, na, pw⟩ := v
    cases e2 : (pendingOf s)[i + 1]? with
    | none => rfl
    | some u =>
      obtain ⟨sb, nb, pw2⟩ := u
      refine congrArg (fun z => _ >>= z) (funext fun _ => ?_)
      refine congrArg (fun z => _ >>= z) (funext fun y => ?_)
      refine congrArg (fun z => _ >>= z) (funext fun r => ?_)
      cases r with
      | none => rfl
      | some k =>
        show (ite _ _ _ : StateT SortSt Sem Bool) = ite _ _ _
        refine congrArg (ite _ _) ?_
        refine congrArg (fun z => _ >>= z) (funext fun z => ?_)
        refine congrArg (fun z => _ >>= z) (funext fun r => ?_)
        cases r with
        | none => rfl
        | some k => rfl

section
variable {O : KeyOrd} {kf : Keyed → O.α} {G : Keyed → Prop}
/-- the part from lo to hi is put in order, all else stays -/
structure Ord (O : KeyOrd) (kf : Keyed → O.α) (lo hi : Nat) (xs ys : Array Keyed) : Prop where
  perm : ys.Perm xs
  keep : ∀ k, (k < lo ∨ hi ≤ k) → ys[k]? = xs[k]?
  srt : Srt O kf ys lo hi
theorem mem_ext {a : Array Keyed} {u p : Nat} {t : Nat} {x : Keyed} (h1 : u ≤ t) (h2 : t < p) (e : a[t]? = some x) : x ∈ (a.extract u p).toList := by
  have ht : t < a.size := (Array.getElem?_eq_some_iff.mp e).1
  have hlt : t - u < (a.extract u p).size := by rw [Array.size_extract]; omega
  refine List.mem_iff_getElem.mpr ⟨t - u, by rw [Array.length_toList]; exact hlt, ?_⟩
  obtain ⟨_, e'⟩ := Array.getElem?_eq_some_iff.mp e
  rw [← e']
  simp [show u + (t - u) = t by omega]
theorem ext_get {a : Array Keyed} {u p i : Nat} (hp : p ≤ a.size) (hi : i < p - u) : (a.extract u p)[i]? = a[u + i]? := by
  rw [Array.getElem?_extract]
  rw [if_pos (by omega)]
theorem srt_ext {a : Array Keyed} {u p : Nat} (hp : p ≤ a.size) (h : Srt O kf a u p) : Srt O kf (a.extract u p) 0 (a.extract u p).size := fun i j x y _ hij hj e1 e2 => by
  have hs : (a.extract u p).size = p - u := by rw [Array.size_extract]; omega
  rw [ext_get hp (by omega)] at e1 e2
  exact h _ _ x y (by omega) (by omega) (by omega) e1 e2
/-- the merged run is laid where the two stood -/
theorem Ord.merged {xs m : Array Keyed} {sa sb e : Nat} (h1 : sa ≤ sb) (h2 : sb ≤ e) (h3 : e ≤ xs.size) (M : Mrg O kf (xs.extract sa sb) (xs.extract sb e) m) : Ord O kf sa e xs (wrt xs sa m.toList.zipIdx) := by
  have hms : m.size = e - sa := by
    have := M.1.length_eq
    simp at this
    omega
  have get : ∀ k, (wrt xs sa m.toList.zipIdx)[k]? = if sa ≤ k ∧ k < e then m[k - sa]? else xs[k]? := fun k => by
    have := wrt_get sa m.toList 0 xs k (by rw [Array.length_toList]; omega)
    rw [this, Array.length_toList, hms]
    by_cases hc : sa ≤ k ∧ k < e
    · rw [if_pos hc, if_pos (by omega)]
      simp
    · rw [if_neg hc, if_neg (by omega)]
  have hsz : (wrt xs sa m.toList.zipIdx).size = xs.size := wrt_size _ _ _
  refine ⟨?_, fun k hk => by rw [get, if_neg (by omega)], fun i j x y a b c e1 e2 => ?_⟩
  · have e1 : (wrt xs sa m.toList.zipIdx).toList = xs.toList.take sa ++ (m.toList ++ xs.toList.drop e) := by
      apply List.ext_getElem?
      intro k
      have hl1 : (xs.toList.take sa).length = sa := by simp; omega
      have : (wrt xs sa m.toList.zipIdx).toList[k]? = (wrt xs sa m.toList.zipIdx)[k]? := by simp
      rw [this, get]
      by_cases c1 : k < sa
      · rw [if_neg (by omega), List.getElem?_append_left (by omega), List.getElem?_take_of_lt c1]
        simp
      · rw [List.getElem?_append_right (by omega), hl1]
        by_cases c2 : k < e
        · rw [if_pos (by omega), List.getElem?_append_left (by rw [Array.length_toList]; omega)]
          simp
        · rw [if_neg (by omega), List.getElem?_append_right (by rw [Array.length_toList]; omega), Array.length_toList, hms, List.getElem?_drop]
          rw [show e + (k - sa - (e - sa)) = k by omega]
          simp
    have e2 : xs.toList = xs.toList.take sa ++ ((xs.extract sa sb).toList ++ (xs.extract sb e).toList ++ xs.toList.drop e) := by
      have a1 := ext_cut xs sa (sb - sa)
      have a2 := ext_cut xs sb (e - sb)
      rw [show sa + (sb - sa) = sb by omega] at a1
      rw [show sb + (e - sb) = e by omega] at a2
      rw [List.append_assoc, a2, a1, List.take_append_drop]
    rw [Array.perm_iff_toList_perm, e1]
    conv => rhs; rw [e2]
    exact List.Perm.append_left _ (List.Perm.append_right _ M.1)
  · rw [get, if_pos (by omega)] at e1 e2
    exact (Srt.of M.2) _ _ x y (Nat.zero_le _) (by omega) (by omega) e1 e2
end
section
variable {M : Model} {A : Around} {E : Value → Shared → Prop} {s : Shared} {O : KeyOrd} {kf : Keyed → O.α} {κ : SortKind} {G : Keyed → Prop}
theorem wp_mga (L : LtOk M A E s O kf κ G) {st : SortSt} {i sa na pw sb nb pw2 : Nat} {Q : Bool → SortSt → Prop} (hk : kindOf st = κ) (hf : failedOf st = none) (hG : ∀ x ∈ (arrOf st).toList, G x)
    (e1 : (pendingOf st)[i]? = some (sa, na, pw)) (e2 : (pendingOf st)[i + 1]? = some (sb, nb, pw2)) (hsb : sb = sa + na) (pa : 0 < na) (pb : 0 < nb) (hsz : sb + nb ≤ (arrOf st).size)
    (s1 : Srt O kf (arrOf st) sa sb) (s2 : Srt O kf (arrOf st) sb (sb + nb))
    (h : ∀ xs g, Ord O kf sa (sb + nb) (arrOf st) xs → Q true (mst st xs (((pendingOf st).setIfInBounds i (sa, na + nb, pw)).eraseIdxIfInBounds (i + 1)) g)) : wpS M A E s (mga i) Q st := by
  rw [mga_eq]
  refine wpS_bind (wpS_get ?_)
  rw [e1, e2]
  dsimp only
  generalize hst1 : mst st (arrOf st) (((pendingOf st).setIfInBounds i (sa, na + nb, pw)).eraseIdxIfInBounds (i + 1)) (gallopOf st) = st1
  have setS : ∀ {Q' : Unit → SortSt → Prop}, Q' () st1 → wpS M A E s (set st1 : StateT SortSt Sem PUnit) Q' st := fun hq => by
    unfold wpS
    rw [StateT.run_set]
    exact wpAny_pure ⟨rfl, hq⟩
  refine wpS_bind (setS ?_)
  have hk1 : kindOf st1 = κ := by rw [← hst1]; exact hk
  subst hsb
  obtain ⟨y, ey, my⟩ := at_some (show sa + na < (arrOf st).size by omega)
  refine wpS_bind (wp_elem ey (wpS_bind (wp_galS L hk1 (hG y my) hG (fun i' j' x y a b c => s1 i' j' x y a b c) (by omega) (by omega) fun k k1 ka kb => ?_)))
  dsimp only
  have ka' : ∀ t x, sa ≤ t → t < sa + k → (arrOf st)[t]? = some x → le O kf x y := fun t x a b ex => by
    have := ka (t - sa) x (by omega) (by rw [show sa + (t - sa) = t by omega]; exact ex)
    unfold pby at this
    simp only [Bool.false_eq_true, if_false, Bool.not_eq_true'] at this
    exact le_of_not this
  have kb' : ∀ t x, sa + k ≤ t → t < sa + na → (arrOf st)[t]? = some x → le O kf y x := fun t x a b ex => by
    have := kb (t - sa) x (by omega) (by omega) (by rw [show sa + (t - sa) = t by omega]; exact ex)
    unfold pby at this
    simp only [Bool.false_eq_true, if_false, Bool.not_eq_false'] at this
    exact le_of_lt this
  have yb : ∀ t x, sa + na ≤ t → t < sa + na + nb → (arrOf st)[t]? = some x → le O kf y x := fun t x a b ex => s2 (sa + na) t y x (Nat.le_refl _) a b ey ex
  by_cases hna : na - k = 0
  · rw [if_pos (by simpa using hna)]
    refine wpS_pure ?_
    rw [← hst1]
    refine h _ _ ⟨Array.Perm.refl _, fun _ _ => rfl, fun i' j' x z a b c f1 f2 => ?_⟩
    by_cases hi : i' < sa + na
    · by_cases hj : j' < sa + na
      · exact s1 i' j' x z a b hj f1 f2
      · exact le_trans' (ka' i' x a (by omega) f1) (yb j' z (by omega) (by omega) f2)
    · exact s2 i' j' x z (by omega) b (by omega) f1 f2
  · rw [if_neg (by simpa using hna)]
    obtain ⟨z, ez, mz⟩ := at_some (show sa + k + (na - k) - 1 < (arrOf st).size by omega)
    have ez' : (arrOf st)[sa + na - 1]? = some z := by rw [show sa + na - 1 = sa + k + (na - k) - 1 by omega]; exact ez
    refine wpS_bind (wp_elem ez (wpS_bind (wp_galS L hk1 (hG z mz) hG (fun i' j' x y a b c => s2 i' j' x y a b c) (by omega) (by omega) fun u u1 ua ub => ?_)))
    dsimp only
    have ua' : ∀ t x, sa + na ≤ t → t < sa + na + u → (arrOf st)[t]? = some x → le O kf x z := fun t x a b ex => by
      have := ua (t - (sa + na)) x (by omega) (by rw [show sa + na + (t - (sa + na)) = t by omega]; exact ex)
      unfold pby at this
      simp only [if_true] at this
      exact le_of_lt this
    have ub' : ∀ t x, sa + na + u ≤ t → t < sa + na + nb → (arrOf st)[t]? = some x → le O kf z x := fun t x a b ex => by
      have := ub (t - (sa + na)) x (by omega) (by omega) (by rw [show sa + na + (t - (sa + na)) = t by omega]; exact ex)
      unfold pby at this
      simp only [if_true] at this
      exact le_of_not this
    have za : ∀ t x, sa ≤ t → t < sa + na → (arrOf st)[t]? = some x → le O kf x z := fun t x a b ex => s1 t (sa + na - 1) x z a (by omega) (by omega) ex ez'
    by_cases hu : u = 0
    · rw [if_pos (by simpa using hu)]
      refine wpS_pure ?_
      rw [← hst1]
      refine h _ _ ⟨Array.Perm.refl _, fun _ _ => rfl, fun i' j' x w a b c f1 f2 => ?_⟩
      by_cases hi : i' < sa + na
      · by_cases hj : j' < sa + na
        · exact s1 i' j' x w a b hj f1 f2
        · exact le_trans' (za i' x a hi f1) (ub' j' w (by omega) (by omega) f2)
      · exact s2 i' j' x w (by omega) b (by omega) f1 f2
    · rw [if_neg (by simpa using hu)]
      have sxa : ((arrOf st).extract (sa + k) (sa + na)).size = na - k := by rw [Array.size_extract]; omega
      have sxb : ((arrOf st).extract (sa + na) (sa + na + u)).size = u := by rw [Array.size_extract]; omega
      have T : Two O kf G ((arrOf st).extract (sa + k) (sa + na)) ((arrOf st).extract (sa + na) (sa + na + u)) := by
        refine ⟨fun x hx => ?_, fun x hx => ?_, srt_ext (by omega) (fun i' j' x y a b c => s1 i' j' x y (by omega) b c), srt_ext (by omega) (fun i' j' x y a b c => s2 i' j' x y a b (by omega)), by omega, by omega, fun x w ew hx => ?_, fun x w ex hw => ?_⟩
        · obtain ⟨t, _, _, et⟩ := mem_cut2 hx
          exact hG x (by obtain ⟨h1, h2⟩ := Array.getElem?_eq_some_iff.mp et; rw [← h2]; simp)
        · obtain ⟨t, _, _, et⟩ := mem_cut2 hx
          exact hG x (by obtain ⟨h1, h2⟩ := Array.getElem?_eq_some_iff.mp et; rw [← h2]; simp)
        · rw [ext_get (by omega) (by omega), Nat.add_zero, ey] at ew
          cases ew
          obtain ⟨t, t1, t2, et⟩ := mem_cut2 hx
          exact kb' t x t1 t2 et
        · rw [sxa, ext_get (by omega) (by omega), show sa + k + (na - k - 1) = sa + na - 1 by omega, ez'] at ex
          cases ex
          obtain ⟨t, t1, t2, et⟩ := mem_cut2 hw
          exact ua' t w t1 t2 et
      have post : ∀ m g, Mrg O kf ((arrOf st).extract (sa + k) (sa + na)) ((arrOf st).extract (sa + na) (sa + na + u)) m →
          wpS M A E s (do modify fun s => setArr s (wrt (arrOf s) (sa + k) m.toList.zipIdx); let s ← get; pure (failedOf s).isNone) Q (setG st1 g) := fun m g hm => by
        refine wpS_bind (wpS_modify (wpS_bind (wpS_get (wpS_pure ?_))))
        have o1 := Ord.merged (xs := arrOf st) (by omega) (by omega) (by omega) hm
        have e3 : setArr (setG st1 g) (wrt (arrOf (setG st1 g)) (sa + k) m.toList.zipIdx) = mst st (wrt (arrOf st) (sa + k) m.toList.zipIdx) (((pendingOf st).setIfInBounds i (sa, na + nb, pw)).eraseIdxIfInBounds (i + 1)) g := by
          rw [← hst1]
          rfl
        have e4 : (failedOf (setArr (setG st1 g) (wrt (arrOf (setG st1 g)) (sa + k) m.toList.zipIdx))).isNone = true := by
          rw [e3]
          show (failedOf st).isNone = true
          rw [hf]
          rfl
        rw [e4, e3]
        refine h _ g ⟨o1.perm, fun t ht => o1.keep t (by omega), fun i' j' x w a b c f1 f2 => ?_⟩
        -- where the element of the middle stood
        have mid : ∀ t x, sa + k ≤ t → t < sa + na + u → (wrt (arrOf st) (sa + k) m.toList.zipIdx)[t]? = some x → ∃ r, sa + k ≤ r ∧ r < sa + na + u ∧ (arrOf st)[r]? = some x := fun t x a b ex => by
          have hmem : x ∈ m.toList := by
            have hms : m.size = na - k + u := by
              have := hm.1.length_eq
              simp at this
              omega
            have := wrt_get (sa + k) m.toList 0 (arrOf st) t (by rw [Array.length_toList]; omega)
            rw [if_pos (by rw [Array.length_toList]; omega)] at this
            rw [this] at ex
            exact List.mem_of_getElem? ex
          rcases List.mem_append.mp (hm.1.mem_iff.mp hmem) with q | q
          · obtain ⟨r, r1, r2, er⟩ := mem_cut2 q
            exact ⟨r, r1, by omega, er⟩
          · obtain ⟨r, r1, r2, er⟩ := mem_cut2 q
            exact ⟨r, by omega, r2, er⟩
        by_cases hi1 : i' < sa + k
        · rw [o1.keep i' (.inl hi1)] at f1
          have hx := ka' i' x a hi1 f1
          by_cases hj1 : j' < sa + k
          · rw [o1.keep j' (.inl hj1)] at f2
            exact s1 i' j' x w a b (by omega) f1 f2
          · by_cases hj2 : j' < sa + na + u
            · obtain ⟨r, r1, r2, er⟩ := mid j' w (by omega) hj2 f2
              by_cases hr : r < sa + na
              · exact s1 i' r x w a (by omega) hr f1 er
              · exact le_trans' hx (yb r w (by omega) (by omega) er)
            · rw [o1.keep j' (.inr (by omega))] at f2
              exact le_trans' hx (yb j' w (by omega) (by omega) f2)
        · by_cases hi2 : i' < sa + na + u
          · by_cases hj2 : j' < sa + na + u
            · exact o1.srt i' j' x w (by omega) b hj2 f1 f2
            · rw [o1.keep j' (.inr (by omega))] at f2
              obtain ⟨r, r1, r2, er⟩ := mid i' x (by omega) hi2 f1
              by_cases hr : r < sa + na
              · exact le_trans' (za r x (by omega) hr er) (ub' j' w (by omega) (by omega) f2)
              · exact s2 r j' x w (by omega) (by omega) (by omega) er f2
          · rw [o1.keep i' (.inr (by omega))] at f1
            rw [o1.keep j' (.inr (by omega))] at f2
            exact s2 i' j' x w (by omega) b (by omega) f1 f2
      by_cases hle : na - k ≤ u
      · rw [if_pos hle]
        exact wpS_bind (wp_mlo L T hk1 post)
      · rw [if_neg hle]
        exact wpS_bind (wp_mhi L T hk1 post)
end
end TS
namespace TS
open PySem PyProof.Rows
section
variable {O : KeyOrd} {kf : Keyed → O.α} {G : Keyed → Prop}
/-- runs in order, one behind the other, from a to b -/
def Runs (O : KeyOrd) (kf : Keyed → O.α) (xs : Array Keyed) : List Pd → Nat → Nat → Prop
  | [], a, b => a = b
  | (s, n, _) :: r, a, b => s = a ∧ 0 < n ∧ Srt O kf xs s (s + n) ∧ Runs O kf xs r (s + n) b
theorem Runs.le {xs : Array Keyed} : ∀ {p : List Pd} {a b : Nat}, Runs O kf xs p a b → a + p.length ≤ b
  | [], a, b, h => Nat.le_of_eq h
  | (s, n, w) :: r, a, b, h => by
    obtain ⟨rfl, h1, _, h2⟩ := h
    have := Runs.le h2
    simp
    omega
theorem Runs.app {xs : Array Keyed} : ∀ {p q : List Pd} {a c : Nat}, Runs O kf xs (p ++ q) a c ↔ ∃ b, Runs O kf xs p a b ∧ Runs O kf xs q b c
  | [], q, a, c => ⟨fun h => ⟨a, rfl, h⟩, fun ⟨b, h1, h2⟩ => by
      have h1 : a = b := h1
      rw [h1]; exact h2⟩
  | (s, n, w) :: r, q, a, c => by
    constructor
    · rintro ⟨h1, h2, h3, h4⟩
      obtain ⟨b, h5, h6⟩ := Runs.app.mp h4
      exact ⟨b, ⟨h1, h2, h3, h5⟩, h6⟩
    · rintro ⟨b, ⟨h1, h2, h3, h5⟩, h6⟩
      exact ⟨h1, h2, h3, Runs.app.mpr ⟨b, h5, h6⟩⟩
theorem Srt.congr {xs ys : Array Keyed} {lo hi : Nat} (h : Srt O kf xs lo hi) (k : ∀ t, lo ≤ t → t < hi → ys[t]? = xs[t]?) : Srt O kf ys lo hi := fun i j x y a b c e1 e2 => by
  rw [k i a (by omega)] at e1
  rw [k j (by omega) c] at e2
  exact h i j x y a b c e1 e2
theorem Runs.congr {xs ys : Array Keyed} : ∀ {p : List Pd} {a b : Nat}, Runs O kf xs p a b → (∀ t, a ≤ t → t < b → ys[t]? = xs[t]?) → Runs O kf ys p a b
  | [], a, b, h, _ => h
  | (s, n, w) :: r, a, b, h, k => by
    obtain ⟨rfl, h1, h2, h3⟩ := h
    have := Runs.le h3
    exact ⟨rfl, h1, h2.congr fun t c d => k t c (by omega), Runs.congr h3 fun t c d => k t (by omega) d⟩
theorem two_at {p : Array Pd} {i : Nat} (h : i + 1 < p.size) : ∃ pre x y post, p.toList = pre ++ x :: y :: post ∧ pre.length = i ∧ p[i]? = some x ∧ p[i + 1]? = some y := by
  have h1 : i < p.toList.length := by rw [Array.length_toList]; omega
  have h2 : i + 1 < p.toList.length := by rw [Array.length_toList]; omega
  refine ⟨p.toList.take i, p.toList[i], p.toList[i + 1], p.toList.drop (i + 2), ?_, by simp; omega, by simp [show i < p.size by omega], by simp [h]⟩
  conv => lhs; rw [← List.take_append_drop i p.toList]
  rw [List.drop_eq_getElem_cons h1, List.drop_eq_getElem_cons h2]
theorem merge_list {p : Array Pd} {pre post : List Pd} {x y v : Pd} (e : p.toList = pre ++ x :: y :: post) : ((p.setIfInBounds pre.length v).eraseIdxIfInBounds (pre.length + 1)).toList = pre ++ v :: post := by
  rw [Array.toList_eraseIdxIfInBounds, Array.toList_setIfInBounds, e]
  rw [List.set_append_right _ _ (Nat.le_refl _), Nat.sub_self, List.set_cons_zero, List.eraseIdx_append_of_length_le (by omega)]
  simp
/-- the state between two steps -/
structure Good (O : KeyOrd) (kf : Keyed → O.α) (κ : SortKind) (a0 : Array Keyed) (lo : Nat) (st : SortSt) : Prop where
  kind : kindOf st = κ
  ok : failedOf st = none
  perm : (arrOf st).Perm a0
  runs : Runs O kf (arrOf st) (pendingOf st).toList 0 lo
theorem Runs.same {xs : Array Keyed} : ∀ {p q : List Pd} {a b : Nat}, p.map (fun v => (v.1, v.2.1)) = q.map (fun v => (v.1, v.2.1)) → Runs O kf xs p a b → Runs O kf xs q a b
  | [], [], _, _, _, h => h
  | [], _ :: _, _, _, e, _ => by simp at e
  | _ :: _, [], _, _, e, _ => by simp at e
  | (s, n, w) :: r, (s', n', w') :: r', a, b, e, h => by
    simp at e
    obtain ⟨⟨rfl, rfl⟩, e⟩ := e
    obtain ⟨h1, h2, h3, h4⟩ := h
    exact ⟨h1, h2, h3, Runs.same (by simpa using e) h4⟩
theorem Good.push {κ : SortKind} {a0 : Array Keyed} {lo n : Nat} {st : SortSt} (g : Good O kf κ a0 lo st) (hs : Srt O kf (arrOf st) lo (lo + n)) (hn : 1 ≤ n) : Good O kf κ a0 (lo + n) (setPending st ((pendingOf st).push (lo, n, 0))) :=
  ⟨g.kind, g.ok, g.perm, by
    show Runs O kf (arrOf st) ((pendingOf st).push (lo, n, 0)).toList 0 (lo + n)
    rw [Array.toList_push]
    exact Runs.app.mpr ⟨lo, g.runs, rfl, hn, hs, rfl⟩⟩
theorem Good.pow {κ : SortKind} {a0 : Array Keyed} {lo : Nat} {st : SortSt} (g : Good O kf κ a0 lo st) (pw : Nat) : Good O kf κ a0 lo (setPending st ((pendingOf st).modify ((pendingOf st).size - 1) fun x => (x.1, x.2.1, pw))) :=
  ⟨g.kind, g.ok, g.perm, by
    show Runs O kf (arrOf st) ((pendingOf st).modify ((pendingOf st).size - 1) fun x => (x.1, x.2.1, pw)).toList 0 lo
    refine Runs.same ?_ g.runs
    rw [Array.toList_modify]
    apply List.ext_getElem?
    intro k
    rw [List.getElem?_map, List.getElem?_map, List.getElem?_modify]
    cases (pendingOf st).toList[k]? with
    | none => simp
    | some v => simp; split <;> exact ⟨rfl, rfl⟩⟩
theorem Good.mem {κ : SortKind} {a0 : Array Keyed} {lo : Nat} {st : SortSt} (g : Good O kf κ a0 lo st) (h : ∀ x ∈ a0.toList, G x) : ∀ x ∈ (arrOf st).toList, G x := fun x hx => h x ((Array.perm_iff_toList_perm.mp g.perm).mem_iff.mp hx)
theorem Good.size {κ : SortKind} {a0 : Array Keyed} {lo : Nat} {st : SortSt} (g : Good O kf κ a0 lo st) : (arrOf st).size = a0.size := g.perm.size_eq
end
section
variable {M : Model} {A : Around} {E : Value → Shared → Prop} {s : Shared} {O : KeyOrd} {kf : Keyed → O.α} {κ : SortKind} {G : Keyed → Prop} {a0 : Array Keyed}
theorem wp_mgr (L : LtOk M A E s O kf κ G) (h0 : ∀ x ∈ a0.toList, G x) {st : SortSt} {lo i : Nat} {Q : Bool → SortSt → Prop} (g : Good O kf κ a0 lo st) (hlo : lo ≤ a0.size) (hi : i + 1 < (pendingOf st).size)
    (h : ∀ st', Good O kf κ a0 lo st' → (pendingOf st').size + 1 = (pendingOf st).size → (∀ k, lo ≤ k → (arrOf st')[k]? = (arrOf st)[k]?) → Q true st') : wpS M A E s (mergeAt' i) Q st := by
  obtain ⟨pre, ⟨sa, na, pw⟩, ⟨sb, nb, pw2⟩, post, e, rfl, e1, e2⟩ := two_at hi
  have hr := g.runs
  rw [e] at hr
  obtain ⟨b, r1, rfl, pa, s1, r2, pb, s2, r3⟩ := Runs.app.mp hr
  have l3 := Runs.le r3
  have hz := g.size
  refine wp_mga L g.kind g.ok (g.mem h0) e1 e2 r2 pa pb (by omega) (by rw [r2]; exact s1) (by rw [r2] at s2 ⊢; exact s2) fun xs gl o => h _ ⟨g.kind, g.ok, o.perm.trans g.perm, ?_⟩ ?_ (fun k hk => o.keep k (.inr (by omega)))
  · show Runs O kf xs _ 0 lo
    show Runs O kf xs (((pendingOf st).setIfInBounds pre.length (sa, na + nb, pw)).eraseIdxIfInBounds (pre.length + 1)).toList 0 lo
    rw [merge_list e]
    subst r2
    refine Runs.app.mpr ⟨sa, r1.congr fun t a b => o.keep t (.inl b), rfl, by omega, ?_, ?_⟩
    · have := o.srt
      rwa [Nat.add_assoc] at this
    · rw [← Nat.add_assoc]
      exact r3.congr fun t a b => o.keep t (.inr a)
  · show (((pendingOf st).setIfInBounds pre.length (sa, na + nb, pw)).eraseIdxIfInBounds (pre.length + 1)).size + 1 = (pendingOf st).size
    rw [← Array.length_toList, merge_list e, ← Array.length_toList, e]
    simp
    omega
theorem wp_runs (L : LtOk M A E s O kf κ G) (h0 : ∀ x ∈ a0.toList, G x) {st : SortSt} {Q : Unit → SortSt → Prop} (hk : kindOf st = κ) (hf : failedOf st = none) (ha : arrOf st = a0) (hp : pendingOf st = #[])
    (h : ∀ st', (arrOf st').Perm a0 → failedOf st' = none → Srt O kf (arrOf st') 0 a0.size → Q () st') : wpS M A E s sortRuns' Q st := by
  rw [sortRuns'_eq]
  refine wpS_bind (wpS_get ?_)
  dsimp only
  rw [ha]
  have g0 : Good O kf κ a0 0 st := ⟨hk, hf, by rw [ha], by rw [hp]; rfl⟩
  refine wpS_bind (wpS_mono (wpS_forRange
    (I := fun x c st' => ∃ lo, c = (none, lo) ∧ lo ≤ a0.size ∧ x ≤ lo ∧ Good O kf κ a0 lo st')
    (Q := fun c st' => c = (none, a0.size) ∧ Good O kf κ a0 a0.size st') ?step ?fin ⟨0, rfl, Nat.zero_le _, Nat.zero_le _, g0⟩) ?post)
  case fin =>
    rintro c st' ⟨lo, rfl, h1, h2, g⟩
    have : lo = a0.size := by omega
    subst this
    exact ⟨rfl, g⟩
  case step =>
    rintro x c st' _ hx ⟨lo, rfl, h1, h2, g⟩
    dsimp only
    by_cases hge : lo ≥ a0.size
    · rw [if_pos hge]
      have : lo = a0.size := by omega
      subst this
      exact wpS_pure ⟨rfl, g⟩
    · rw [if_neg hge]
      have hz := g.size
      refine wpS_bind (wp_cr L g.kind (g.mem h0) (by omega) (by omega) fun m xs r m1 m2 im => ?_)
      dsimp only
      have g1 : Good O kf κ a0 lo (setArr st' xs) := ⟨g.kind, g.ok, r.perm.trans g.perm, g.runs.congr fun t _ b => r.keep t b⟩
      have hz1 : xs.size = a0.size := r.size.trans hz
      by_cases hm : m < minRun' a0.size a0.size 0
      · rw [if_pos hm]
        refine wpS_bind (wpS_lift (wpAny_rule ⟨rfl, ?_⟩))
        refine wpS_bind (wp_bin L (st := setArr st' xs) g.kind (g1.mem h0) (by show _ ≤ xs.size; omega) (by omega) im fun ys r2 im2 => ?_)
        simp only [Bool.not_true, Bool.false_eq_true, if_false]
        have g2 : Good O kf κ a0 lo (setArr (setArr st' xs) ys) := ⟨g.kind, g.ok, r2.perm.trans g1.perm, g1.runs.congr fun t _ b => r2.keep t b⟩
        have s2 : Srt O kf ys lo (lo + (min (a0.size - lo) (minRun' a0.size a0.size 0))) := im2.srt
        have n1 : 1 ≤ (min (a0.size - lo) (minRun' a0.size a0.size 0)) := by omega
        have n2 : lo + (min (a0.size - lo) (minRun' a0.size a0.size 0)) ≤ a0.size := by omega
        refine wpS_bind (wpS_get ?_)
        cases hb : (pendingOf (setArr (setArr st' xs) ys)).back? with
        | none =>
          dsimp only
          exact wpS_bind (wpS_modify (wpS_pure ⟨lo + (min (a0.size - lo) (minRun' a0.size a0.size 0)), rfl, n2, by omega, g2.push s2 n1⟩))
        | some v =>
          obtain ⟨v1, v2, v3⟩ := v
          dsimp only
          refine wpS_bind (wpS_mono (wpS_forRange (I := fun _ c st3 => c = (none, ()) ∧ Good O kf κ a0 lo st3 ∧ Srt O kf (arrOf st3) lo (lo + (min (a0.size - lo) (minRun' a0.size a0.size 0))))
            (Q := fun c st3 => c = (none, ()) ∧ Good O kf κ a0 lo st3 ∧ Srt O kf (arrOf st3) lo (lo + (min (a0.size - lo) (minRun' a0.size a0.size 0)))) ?_ (fun _ _ hh => hh) ⟨rfl, g2, s2⟩) ?_)
          · rintro y c st3 _ _ ⟨rfl, g3, s3⟩
            refine wpS_bind (wpS_get ?_)
            by_cases hp : (pendingOf st3).size > 1
            · rw [if_pos hp]
              cases hv : (pendingOf st3)[(pendingOf st3).size - 2]? with
              | none =>
                exfalso
                have := Array.getElem?_eq_none_iff.mp hv
                omega
              | some u =>
                obtain ⟨u1, u2, u3⟩ := u
                dsimp only
                by_cases ho : u3 ≤ power' a0.size (2 * v1 + v2) (2 * v1 + v2 + v2 + (min (a0.size - lo) (minRun' a0.size a0.size 0))) a0.size
                · rw [if_pos ho]
                  exact wpS_pure ⟨rfl, g3, s3⟩
                · rw [if_neg ho]
                  refine wpS_bind (wp_mgr L h0 g3 h1 (by omega) fun st4 g4 _ k4 => ?_)
                  simp only [Bool.not_true, Bool.false_eq_true, if_false]
                  exact wpS_pure ⟨rfl, g4, s3.congr fun t a _ => k4 t a⟩
            · rw [if_neg hp]
              exact wpS_pure ⟨rfl, g3, s3⟩
          · rintro c st3 ⟨rfl, g3, s3⟩
            dsimp only
            exact wpS_bind (wpS_modify (wpS_bind (wpS_modify (wpS_pure ⟨lo + (min (a0.size - lo) (minRun' a0.size a0.size 0)), rfl, n2, by omega, (g3.pow _).push s3 n1⟩))))
      · rw [if_neg hm]
        have g2 := g1
        have s2 : Srt O kf xs lo (lo + m) := im.srt
        have n1 : 1 ≤ m := m1
        have n2 : lo + m ≤ a0.size := by omega
        refine wpS_bind (wpS_get ?_)
        cases hb : (pendingOf (setArr st' xs)).back? with
        | none =>
          dsimp only
          exact wpS_bind (wpS_modify (wpS_pure ⟨lo + m, rfl, n2, by omega, g2.push s2 n1⟩))
        | some v =>
          obtain ⟨v1, v2, v3⟩ := v
          dsimp only
          refine wpS_bind (wpS_mono (wpS_forRange (I := fun _ c st3 => c = (none, ()) ∧ Good O kf κ a0 lo st3 ∧ Srt O kf (arrOf st3) lo (lo + m))
            (Q := fun c st3 => c = (none, ()) ∧ Good O kf κ a0 lo st3 ∧ Srt O kf (arrOf st3) lo (lo + m)) ?_ (fun _ _ hh => hh) ⟨rfl, g2, s2⟩) ?_)
          · rintro y c st3 _ _ ⟨rfl, g3, s3⟩
            refine wpS_bind (wpS_get ?_)
            by_cases hp : (pendingOf st3).size > 1
            · rw [if_pos hp]
              cases hv : (pendingOf st3)[(pendingOf st3).size - 2]? with
              | none =>
                exfalso
                have := Array.getElem?_eq_none_iff.mp hv
                omega
              | some u =>
                obtain ⟨u1, u2, u3⟩ := u
                dsimp only
                by_cases ho : u3 ≤ power' a0.size (2 * v1 + v2) (2 * v1 + v2 + v2 + m) a0.size
                · rw [if_pos ho]
                  exact wpS_pure ⟨rfl, g3, s3⟩
                · rw [if_neg ho]
                  refine wpS_bind (wp_mgr L h0 g3 h1 (by omega) fun st4 g4 _ k4 => ?_)
                  simp only [Bool.not_true, Bool.false_eq_true, if_false]
                  exact wpS_pure ⟨rfl, g4, s3.congr fun t a _ => k4 t a⟩
            · rw [if_neg hp]
              exact wpS_pure ⟨rfl, g3, s3⟩
          · rintro c st3 ⟨rfl, g3, s3⟩
            dsimp only
            exact wpS_bind (wpS_modify (wpS_bind (wpS_modify (wpS_pure ⟨lo + m, rfl, n2, by omega, (g3.pow _).push s3 n1⟩))))
  case post =>
    rintro c st1 ⟨rfl, g1⟩
    dsimp only
    refine wpS_bind (wpS_mono (wpS_forRange (I := fun x c st2 => c = (none, ()) ∧ Good O kf κ a0 a0.size st2 ∧ ((pendingOf st2).size ≤ 1 ∨ (pendingOf st2).size + x ≤ a0.size))
      (Q := fun c st2 => c = (none, ()) ∧ Good O kf κ a0 a0.size st2 ∧ (pendingOf st2).size ≤ 1) ?_ ?_ ⟨rfl, g1, .inr ?_⟩) ?_)
    · rintro x c st2 _ hx ⟨rfl, g2, hz⟩
      refine wpS_bind (wpS_get ?_)
      by_cases hp : (pendingOf st2).size ≤ 1
      · rw [if_pos hp]
        exact wpS_pure ⟨rfl, g2, hp⟩
      · rw [if_neg hp]
        have go : ∀ i, i + 1 < (pendingOf st2).size → wpS M A E s (mergeAt' i) (fun r st3 => r = true ∧ Good O kf κ a0 a0.size st3 ∧ (pendingOf st3).size + (x + 1) ≤ a0.size) st2 := fun i hi =>
          wp_mgr L h0 g2 (Nat.le_refl _) hi fun st3 g3 e3 _ => ⟨rfl, g3, by omega⟩
        refine wpS_bind (wpS_mono (go _ ?_) fun r st3 hr => ?_)
        · have hite : ∀ (c : Prop) [Decidable c], (if c then (pendingOf st2).size - 2 - 1 else (pendingOf st2).size - 2) + 1 < (pendingOf st2).size := fun c _ => by split <;> omega
          exact hite _
        · obtain ⟨rfl, g3, e3⟩ := hr
          simp only [Bool.not_true, Bool.false_eq_true, if_false]
          exact wpS_pure ⟨rfl, g3, .inr e3⟩
    · rintro c st2 ⟨rfl, g2, hz⟩
      exact ⟨rfl, g2, by omega⟩
    · have := Runs.le g1.runs
      rw [Array.length_toList] at this
      omega
    · rintro c st2 ⟨rfl, g2, hz⟩
      dsimp only
      refine wpS_pure (h st2 g2.perm g2.ok ?_)
      have hr := g2.runs
      have hl : (pendingOf st2).toList.length ≤ 1 := by rw [Array.length_toList]; exact hz
      match hq : (pendingOf st2).toList, hl, hr with
      | [], _, hr =>
        have hr : 0 = a0.size := hr
        intro i j x y _ _ hj
        omega
      | [(u1, u2, u3)], _, hr =>
        obtain ⟨rfl, _, sr, e⟩ := hr
        have e : 0 + u2 = a0.size := e
        rw [← e]
        exact sr
end
end TS
namespace TS
open PySem PyProof.Rows
section
variable {prog : Program} {w : World} {A : Around} {E : Value → Shared → Prop} {s : Shared} {O : KeyOrd} {kf : Keyed → O.α} {κ : SortKind}
/-- what a state that has grown keeps -/
def Grown (s s1 : Shared) : Prop := ∀ b o, s.heap.get? b = some o → s1.heap.get? b = some o
/-- what is asked of the things that are sorted: their kind, and how two of them are compared; all that stands at s stands there -/
structure Sorts (prog : Program) (w : World) (s : Shared) (vs : List Value) (O : KeyOrd) (kf : Keyed → O.α) (κ : SortKind) : Prop where
  kind : 2 ≤ vs.length → ∀ (A : Around) (E : Value → Shared → Prop) (s1 : Shared) (Q : SortKind → Shared → Prop), Grown s s1 → Q κ s1 → wpAny (model prog w) A (keyKind' vs.toArray) Q E s1
  lt : ∀ (A : Around) (E : Value → Shared → Prop) (s1 : Shared), Grown s s1 → LtOk (model prog w) A E s1 O kf κ (fun x => x ∈ (pairsOf vs).toList)
theorem sort_at {s0 : Shared} {a : Addr} {vs : List Value} {n : Nat} {P : PySem.Fin → Shared → Prop} (S : Sorts prog w s0 vs O kf κ) (ho : s.heap.get? a = some (seqObj "list" vs.toArray n)) (hsz : vs.length ≤ sizeLine)
    (hg : ∀ b o, s0.heap.get? b = some o → s.heap.get? b = some o ∧ b ≠ a)
    (h : ∀ st' : SortSt, (arrOf st').Perm (pairsOf vs) → Srt O kf (arrOf st') 0 (pairsOf vs).size → P (.done (.ret .none)) { s with heap := sortedHeap s.heap a vs ((arrOf st').map (·.2)) }) :
    wpAny (model prog w) A (Builtin.«list.sort» ⟨[.ref a], []⟩) P E s := by
  rw [list_sort_plain]
  have ha : a < s.heap.objs.size := Heap.lt_size ho
  have hv : vs.toArray.size = vs.length := by simp
  refine wpAny_bind (listItems_at ho rfl (wpAny_bind (listUpdate_at ho rfl ?_ (by rw [hv]; exact hsz) (Nat.zero_le _))))
  obtain ⟨n1, ho1⟩ : ∃ n1, (s.heap.update a (Obj.mapSeq fun _ => #[])).get? a = some (seqObj "list" #[] n1) := ⟨_, get?_update_seq ho (fun _ => #[])⟩
  refine wpAny_bind (seqEpoch_at ho1 rfl (wpAny_bind (wpAny_newTuple ?_ (by simpa using hsz))))
  refine wpAny_bind (wpAny_newList (wpAny_holding ?_) (Nat.zero_le _))
  generalize hh : (((s.heap.update a (Obj.mapSeq fun _ => #[])).push (seqObj "tuple" vs.toArray 0)).push (seqObj "list" #[] 0)) = h6
  have ho6 : h6.get? a = some (seqObj "list" #[] n1) := by
    rw [← hh]
    exact Heap.get?_push_of_some _ (Heap.get?_push_of_some _ ho1)
  have grown : Grown s0 { s with heap := h6 } := fun b o e => by
    obtain ⟨e1, ne⟩ := hg b o e
    show h6.get? b = some o
    rw [← hh]
    exact Heap.get?_push_of_some _ (Heap.get?_push_of_some _ (by rw [Heap.get?_update_ne _ _ _ _ ne]; exact e1))
  have fin : ∀ st' : SortSt, (arrOf st').Perm (pairsOf vs) → Srt O kf (arrOf st') 0 (pairsOf vs).size → P (.done (.ret .none)) { s with heap := h6.update a (Obj.mapSeq fun _ => (arrOf st').map (·.2)) } := fun st' a1 a2 => by
    have := h st' a1 a2
    unfold sortedHeap at this
    rw [hh] at this
    exact this
  have small : ∀ st' : SortSt, (arrOf st').Perm (pairsOf vs) → ((arrOf st').map (·.2)).size ≤ sizeLine + 1 := fun st' hp => by
    rw [Array.size_map, hp.size_eq, pairsOf_size]
    omega
  show wpAny (model prog w) A _ P E { s with heap := h6 }
  dsimp only
  by_cases h2 : vs.toArray.size < 2
  · rw [if_pos h2, if_pos h2]
    refine wpAny_bind (wpAny_pure ?_)
    rw [StateT.run_pure]
    refine wpAny_bind (wpAny_pure ?_)
    dsimp only
    refine wpAny_bind (seqEpoch_at ho6 rfl ?_)
    refine wpAny_bind (listUpdate_at ho6 rfl ?_ (Nat.zero_le _) (small (SortSt.mk' general' (vs.toArray.zip vs.toArray) #[] 7 none) (Array.Perm.refl _)))
    simp only [bne_self_eq_false, Bool.false_eq_true, if_false]
    refine wpAny_pure (fin (SortSt.mk' general' (vs.toArray.zip vs.toArray) #[] 7 none) (Array.Perm.refl _) ?_)
    intro i j x y _ b c d e
    have : i = j := by rw [pairsOf_size] at c; omega
    subst this
    rw [d] at e
    cases e
    exact KeyOrd.kle_refl _
  · rw [if_neg h2, if_neg h2]
    refine wpAny_bind (S.kind (by omega) A E _ _ grown ?_)
    refine wpAny_bind (wpAny_mono (wp_runs (S.lt A E _ grown) (a0 := pairsOf vs) (st := SortSt.mk' κ (vs.toArray.zip vs.toArray) #[] 7 none) (fun x hx => hx) rfl rfl rfl rfl
      (Q := fun _ st' => (arrOf st').Perm (pairsOf vs) ∧ failedOf st' = none ∧ Srt O kf (arrOf st') 0 (pairsOf vs).size) fun st' a1 a2 a3 => ⟨a1, a2, a3⟩) ?_ fun _ _ e => e)
    rintro ⟨⟨⟩, st'⟩ s' ⟨rfl, hp, hf, hs⟩
    dsimp only
    refine wpAny_bind (seqEpoch_at ho6 rfl (wpAny_bind (listUpdate_at ho6 rfl ?_ (Nat.zero_le _) (small st' hp))))
    rw [hf]
    simp only [bne_self_eq_false, Bool.false_eq_true, if_false]
    exact wpAny_pure (fin st' hp hs)
theorem sorted_raw {l : Addr} {vs : List Value} {Q : Value → Shared → Prop} (S : Sorts prog w s vs O kf κ) (hl : s.heap.IsList l vs.toArray) (hsz : vs.length ≤ sizeLine)
    (h : ∀ st' : SortSt, (arrOf st').Perm (pairsOf vs) → Srt O kf (arrOf st') 0 (pairsOf vs).size → Q (.ref (s.heap.objs.size + 1)) { s with heap := sortedAll s.heap vs ((arrOf st').map (·.2)) }) :
    wpAny (model prog w) A (call (.builtin "sorted") [.ref l]) Q E s := by
  refine Calls.call_function_entry kind_sorted plain_sorted entry_sorted (args_sorted1 _) ?_
  unfold Builtin.«sorted»
  refine wpAny_bind (m := checkCount "sorted" 1 1 _) (wpAny_pure (wpAny_bind (collect_list hl ?_ hsz)))
  refine wpAny_bind (wpAny_newList ?_ hsz)
  have hz : ((s.heap.push (seqObj "list" #[] 0)).update s.heap.objs.size (Obj.mapSeq (· ++ vs.toArray))).objs.size = s.heap.objs.size + 1 := by rw [Heap.size_update, size_push']
  show wpAny _ _ _ _ _ { s with heap := ((s.heap.push (seqObj "list" #[] 0)).update s.heap.objs.size (Obj.mapSeq (· ++ vs.toArray))).push (seqObj "list" vs.toArray 0) }
  rw [hz]
  generalize hh : ((s.heap.push (seqObj "list" #[] 0)).update s.heap.objs.size (Obj.mapSeq (· ++ vs.toArray))).push (seqObj "list" vs.toArray 0) = h6
  have hoL : h6.get? (s.heap.objs.size + 1) = some (seqObj "list" vs.toArray 0) := by
    rw [← hh, ← hz]; exact Heap.get?_push_size _ rfl
  have old : ∀ b o, s.heap.get? b = some o → h6.get? b = some o ∧ b ≠ s.heap.objs.size + 1 := fun b o e => by
    have hlt : b < s.heap.objs.size := Heap.lt_size e
    refine ⟨?_, Nat.ne_of_lt (Nat.lt_succ_of_lt hlt)⟩
    rw [← hh]
    refine Heap.get?_push_of_some _ ?_
    rw [Heap.get?_update_ne _ _ _ _ (Nat.ne_of_lt hlt)]
    exact Heap.get?_push_of_some _ e
  have hr : ∀ st' : SortSt, (arrOf st').Perm (pairsOf vs) → Srt O kf (arrOf st') 0 (pairsOf vs).size → Q (.ref (s.heap.objs.size + 1)) { s with heap := sortedHeap h6 (s.heap.objs.size + 1) vs ((arrOf st').map (·.2)) } := fun st' a1 a2 => by
    have := h st' a1 a2
    unfold sortedAll at this
    rw [hh] at this
    exact this
  refine wpAny_bind (wpAny_holding (wpAny_call_entry slot_list_sort ⟨_, hoL, rfl⟩ entry_list_sort (sort_at S hoL hsz old fun st' a1 a2 => ⟨_, rfl, ?_⟩) (args_list_sort _)))
  exact wpAny_pure ⟨_, rfl, hr st' a1 a2⟩
end
end TS
namespace TS
open PySem PyProof.Rows
/-- pairs of ints, the first ahead of the second -/
def pO : KeyOrd where
  α := Int × Int
  blt p q := decide (p.1 < q.1) || (decide (p.1 = q.1) && decide (p.2 < q.2))
  irrefl a := by simp
  trans a b c h1 h2 := by
    simp at h1 h2 ⊢
    omega
  negTrans a b c h := by
    simp at h ⊢
    omega
  total a b h1 h2 := by
    obtain ⟨a1, a2⟩ := a
    obtain ⟨b1, b2⟩ := b
    simp at h1 h2
    have e1 : a1 = b1 := by omega
    subst e1
    have e2 : a2 = b2 := by omega
    rw [e2]
def nOf : Value → Int
  | .int n _ => n
  | _ => 0
def pairAt (h : Heap) (v : Value) : Int × Int := match v with
  | .ref a => match h.get? a with
    | some o => match o.data with
      | .seq xs _ => (nOf (xs.getD 0 .none), nOf (xs.getD 1 .none))
      | _ => (0, 0)
    | none => (0, 0)
  | _ => (0, 0)
/-- a tuple of two ints stands at v -/
def Two2 (h : Heap) (v : Value) (p : Int × Int) : Prop := ∃ a t u, v = .ref a ∧ IsTup h a #[.int p.1 t, .int p.2 u]
theorem Two2.pair {h : Heap} {v : Value} {p : Int × Int} (e : Two2 h v p) : pairAt h v = p := by
  obtain ⟨a, t, u, rfl, o, ho, hc, n, hd⟩ := e
  unfold pairAt
  simp only [ho, hd]
  rfl
theorem Two2.grow {s s1 : Shared} {v : Value} {p : Int × Int} (e : Two2 s.heap v p) (g : Grown s s1) : Two2 s1.heap v p := by
  obtain ⟨a, t, u, rfl, o, ho, hc, n, hd⟩ := e
  exact ⟨a, t, u, rfl, o, g a o ho, hc, n, hd⟩
section
variable {prog : Program} {w : World} {A : Around} {E : Value → Shared → Prop} {s : Shared}
theorem lt_two {x y : Value} {p q : Int × Int} {Q : Bool → Shared → Prop} (hx : Two2 s.heap x p) (hy : Two2 s.heap y q) (h : Q (pO.blt p q) s) : wpAny (model prog w) A (keyLt' (tuples' true) x y) Q E s := by
  obtain ⟨a, t, u, rfl, o, ho, hc, n, hd⟩ := hx
  obtain ⟨b, t', u', rfl, o', ho', hc', n', hd'⟩ := hy
  refine PySem.W.kat_lt ho hd ho' hd' ?_
  show PySem.W.KatLex prog w A true _ Q [(.int p.1 t, .int q.1 t'), (.int p.2 u, .int q.2 u')] 0 s
  refine PySem.W.kat_cons (wpAny_eqBool_int ?_)
  by_cases e1 : p.1 = q.1
  · rw [show (p.1 == q.1) = true by simpa using e1]
    refine PySem.W.kat_yes (PySem.W.kat_cons (wpAny_eqBool_int ?_))
    by_cases e2 : p.2 = q.2
    · rw [show (p.2 == q.2) = true by simpa using e2]
      refine PySem.W.kat_yes (PySem.W.kat_nil ?_)
      have : pO.blt p q = false := by
        unfold pO
        simp [e1, e2]
      rw [this] at h
      exact h
    · rw [show (p.2 == q.2) = false by simpa using e2]
      refine PySem.W.kat_no (PySem.W.kat_one _ _ (lt_int ?_))
      have : pO.blt p q = decide (p.2 < q.2) := by
        unfold pO
        simp [e1]
      rw [this] at h
      exact h
  · rw [show (p.1 == q.1) = false by simpa using e1]
    refine PySem.W.kat_no ?_
    have : pO.blt p q = decide (p.1 < q.1) := by
      unfold pO
      simp [e1]
    rw [this] at h
    exact oneLt_int h
theorem tups_of : ∀ {vs : List Value} {ps : List (Int × Int)}, Paired (Two2 s.heap) vs ps → ∃ fs, PySem.W.KatTups s.heap vs fs ∧ fs.length = vs.length ∧ ∀ v ∈ fs, ∃ n t, v = Value.int n t
  | _, _, .nil => ⟨[], trivial, rfl, fun _ h => nomatch h⟩
  | _, _, .cons r rs => by
    obtain ⟨a, t, u, rfl, o, ho, hc, n, hd⟩ := r
    obtain ⟨fs, h1, h2, h3⟩ := tups_of rs
    refine ⟨_ :: fs, PySem.W.KatTups.cons ho hc hd rfl h1, by simp [h2], fun v hv => ?_⟩
    rcases List.mem_cons.mp hv with rfl | hv
    · exact ⟨_, _, rfl⟩
    · exact h3 v hv
theorem pairs_mem {vs : List Value} {x : Keyed} (h : x ∈ (pairsOf vs).toList) : x.1 = x.2 ∧ x.1 ∈ vs := by
  rw [pairsOf_toList] at h
  exact mem_zip_self h
theorem Paired.at_mem {α β : Type} {R : α → β → Prop} : ∀ {l : List α} {m : List β}, Paired R l m → ∀ a ∈ l, ∃ b ∈ m, R a b
  | _, _, .nil, _, h => nomatch h
  | _, _, .cons r rs, a, h => by
    rcases List.mem_cons.mp h with rfl | h
    · exact ⟨_, List.mem_cons_self, r⟩
    · obtain ⟨b, hb, q⟩ := Paired.at_mem rs a h
      exact ⟨b, List.mem_cons_of_mem _ hb, q⟩
theorem Paired.grow2 {s s1 : Shared} (g : Grown s s1) : ∀ {vs : List Value} {ps : List (Int × Int)}, Paired (Two2 s.heap) vs ps → Paired (Two2 s1.heap) vs ps
  | _, _, .nil => .nil
  | _, _, .cons r rs => .cons (r.grow g) (Paired.grow2 g rs)
theorem sorts_two {vs : List Value} {ps : List (Int × Int)} (h : Paired (Two2 s.heap) vs ps) : Sorts prog w s vs pO (fun x => pairAt s.heap x.1) (tuples' true) where
  kind := fun h2 A E s1 Q g q => by
    obtain ⟨fs, t1, t2, t3⟩ := tups_of (Paired.grow2 g h)
    refine PySem.W.kat_kind t1 (by omega) (T := Value.type "int") (fun v hv => ?_) rfl q
    obtain ⟨n, t, rfl⟩ := t3 v hv
    exact .now
  lt := fun A E s1 g x y hx hy st Q hk q => by
    obtain ⟨p, _, hp⟩ := Paired.at_mem h _ (pairs_mem hx).2
    obtain ⟨p', _, hp'⟩ := Paired.at_mem h _ (pairs_mem hy).2
    have q : Q (some (pO.blt (pairAt s.heap x.1) (pairAt s.heap y.1))) st := q
    rw [hp.pair, hp'.pair] at q
    rw [lt'_eq]
    refine wpS_bind (wpS_get ?_)
    rw [hk]
    refine wpS_bind (wpS_lift (wpAny_attempt (lt_two (hp.grow g) (hp'.grow g) ⟨rfl, ?_⟩)))
    exact wpS_pure q
end
/-- a rearrangement of the one side of pairs is one of the other -/
theorem Paired.perm {α β : Type} {R : α → β → Prop} {us us' : List β} (p : us'.Perm us) : ∀ {xs : List α}, Paired R xs us → ∃ xs', xs'.Perm xs ∧ Paired R xs' us' := by
  induction p with
  | nil => exact fun {xs} h => ⟨xs, List.Perm.refl _, h⟩
  | cons x _ ih =>
    intro xs h
    cases h with
    | cons r rs =>
      obtain ⟨xs', h1, h2⟩ := ih rs
      exact ⟨_ :: xs', h1.cons _, .cons r h2⟩
  | swap x y l =>
    intro xs h
    cases h with
    | cons r rs =>
      cases rs with
      | cons r' rs => exact ⟨_ :: _ :: _, List.Perm.swap .., .cons r' (.cons r rs)⟩
  | trans _ _ ih1 ih2 =>
    intro xs h
    obtain ⟨x1, h1, h2⟩ := ih2 h
    obtain ⟨x2, h3, h4⟩ := ih1 h2
    exact ⟨x2, h3.trans h1, h4⟩
end TS
namespace L2
open PySem PySem.Spec PyProof.Rows
/-- v is a tuple of the two ints of p -/
def P2 (K : PySem.W.Frag) (H : Hp) (v : V) (p : Int × Int) : Prop := ∃ a, v = .ref a ∧ H a = some (.tup [.int p.1, .int p.2])
def lexle (p q : Int × Int) : Prop := p.1 < q.1 ∨ (p.1 = q.1 ∧ p.2 ≤ q.2)
section
variable {X : Cx}
theorem P2.raw {pins : List (Addr × Obj)} {σ : St} {H : Hp} {s : Shared} {v : V} {u : Value} {p : Int × Int} (I : Inv X pins σ H s) (h : P2 X.K H v p) (r : RelV v u) : TS.Two2 s.heap u p := by
  obtain ⟨a, rfl, hq⟩ := h
  obtain rfl : u = Value.ref a := r
  obtain ⟨its, rv, pl, _⟩ := I.tuple (SqT.of hq)
  obtain ⟨u1, u2, rfl, ⟨t1, rfl⟩, ⟨t2, rfl⟩⟩ := vals2 rv
  exact ⟨a, t1, t2, rfl, pl⟩
theorem call_sorted2 : CallR X (.builtin "sorted") (fun vs H Q => ∃ p xs ps, vs = [.ref p] ∧ SqL X.K H p xs ∧ Paired (P2 X.K H) xs ps ∧
    ∀ l ys qs, H l = none → Paired (P2 X.K H) ys qs → ys.Perm xs → qs.Perm ps → qs.Pairwise lexle → Q (.ref l) (upd H l (.lst ys))) := by
  intro pins s σ H xs us Q I r h
  obtain ⟨p, xs, ps, rfl, hq, hp, q⟩ := h
  obtain ⟨u, rfl, rx⟩ := vals1 r
  cases rx
  obtain ⟨its, rv, pl, hz⟩ := I.list hq
  have hlen := rv.length
  -- each thing: its value, its pair
  have three : ∀ {xs : List V} {its : List Value} {ps : List (Int × Int)}, Vals xs its → Paired (P2 X.K H) xs ps → Paired (fun (z : V × (Int × Int)) u => RelV z.1 u ∧ P2 X.K H z.1 z.2 ∧ TS.Two2 s.heap u z.2) (xs.zip ps) its ∧ Paired (TS.Two2 s.heap) its ps ∧ xs.length = ps.length := by
    intro xs its ps a b
    induction a generalizing ps with
    | nil => cases b; exact ⟨.nil, .nil, rfl⟩
    | cons r rs ih =>
      cases b with
      | cons b bs =>
        obtain ⟨i1, i2, i3⟩ := ih bs
        have t := P2.raw I b r
        exact ⟨.cons ⟨r, b, t⟩ i1, .cons t i2, by simp [i3]⟩
  obtain ⟨t1, t2, t3⟩ := three rv hp
  refine TS.sorted_raw (TS.sorts_two t2) pl.isList (by omega) fun st' pm sr => ?_
  have hl : (arrOf st').toList.Perm (its.zip its) := by
    have := Array.perm_iff_toList_perm.mp pm
    rwa [pairsOf_toList] at this
  have hout : ((arrOf st').map (·.2)).toList.Perm its := by
    rw [Array.toList_map]
    have := hl.map (·.2)
    rwa [List.map_snd_zip (Nat.le_refl _)] at this
  obtain ⟨zs, z1, z2⟩ := TS.Paired.perm hout t1
  have hys : (zs.map (·.1)).Perm xs := by
    have := z1.map (·.1)
    rwa [List.map_fst_zip (by omega)] at this
  have hqs : (zs.map (·.2)).Perm ps := by
    have := z1.map (·.2)
    rwa [List.map_snd_zip (by omega)] at this
  have hv : Vals (zs.map (·.1)) ((arrOf st').map (·.2)).toList := by
    clear z1 hys hqs
    generalize ((arrOf st').map (·.2)).toList = ol at z2
    induction z2 with
    | nil => exact .nil
    | cons r _ ih => exact .cons r.1 ih
  have hP : Paired (P2 X.K H) (zs.map (·.1)) (zs.map (·.2)) := by
    clear z1 hys hqs hv
    generalize ((arrOf st').map (·.2)).toList = ol at z2
    induction z2 with
    | nil => exact .nil
    | cons r _ ih => exact .cons r.2.1 ih
  have hkeys : ((arrOf st').map (·.2)).toList.map (TS.pairAt s.heap) = zs.map (·.2) := by
    clear z1 hys hqs hv hP
    generalize ((arrOf st').map (·.2)).toList = ol at z2
    induction z2 with
    | nil => rfl
    | cons r _ ih => rw [List.map_cons, List.map_cons, ih, r.2.2.pair]
  have hsrt : (zs.map (·.2)).Pairwise lexle := by
    rw [← hkeys, Array.toList_map, List.map_map]
    have h0 : (arrOf st').size = (pairsOf its).size := pm.size_eq
    rw [← h0] at sr
    have := sr.pw
    refine List.pairwise_map.mpr ?_
    refine List.Pairwise.imp_of_mem (fun {a b} ha hb hab => ?_) this
    have ea := (mem_zip_self (hl.mem_iff.mp ha)).1
    have eb := (mem_zip_self (hl.mem_iff.mp hb)).1
    have hab : TS.pO.blt (TS.pairAt s.heap b.1) (TS.pairAt s.heap a.1) = false := hab
    rw [ea, eb] at hab
    unfold TS.pO at hab
    simp at hab
    show lexle (TS.pairAt s.heap a.2) (TS.pairAt s.heap b.2)
    unfold lexle
    omega
  obtain ⟨e, he⟩ := sortedAll_at s.heap its ((arrOf st').map (·.2))
  have hz2 : (zs.map (·.1)).length ≤ sizeLine := by rw [hys.length_eq]; exact hz
  refine ⟨.ref (s.heap.objs.size + 1), _, I.laid (t' := s.toks) (fun b o eb => sortedAll_old eb) (Nat.le_succ _) (show ObjOk X.prog X.w _ _ _ (.lst (zs.map (·.1))) from ⟨hz2, _, e, hv, ?_⟩), rfl, q _ _ _ (I.hok.fresh (Nat.le_succ _)) hP hys hqs hsrt⟩
  rw [Array.toArray_toList]
  exact he
end
end L2
namespace L2
open PySem PySem.Spec PyProof.Rows
/-! ### the names of a comprehension's block -/
def cloOf (env : Env) (ns : List (Str × NameKind)) (acc : List (Str × Addr)) : List (Str × Addr) := ns.foldl (fun cs x => if x.2 == .free then (x.1, (env.cells.lookup x.1).getD 0) :: cs else cs) acc
theorem clo_go {env : Env} : ∀ (ns : List (Str × NameKind)) (acc : List (Str × Addr)), (∀ x ∈ ns, x.2 = .free → ∃ c, env.cells.lookup x.1 = some c) →
    (forIn ns acc fun (x : Str × NameKind) (cs : List (Str × Addr)) => (match x with | (name, kind) => if kind == .free then (do let c ← cellOf env name; pure (ForInStep.yield ((name, c) :: cs)) : Sem (ForInStep (List (Str × Addr)))) else pure (ForInStep.yield cs))) = (pure (cloOf env ns acc) : Sem (List (Str × Addr)))
  | [], acc, _ => by rw [List.forIn_nil]; rfl
  | (n, k) :: r, acc, h => by
    rw [List.forIn_cons]
    have hr := clo_go (env := env) r
    by_cases hk : k = .free
    · subst hk
      obtain ⟨c, hc⟩ := h (n, .free) List.mem_cons_self rfl
      have e1 : cellOf env n = pure c := by unfold cellOf; rw [hc]
      simp only [beq_self_eq_true, if_true, e1, pure_bind]
      rw [hr _ fun x hx => h x (List.mem_cons_of_mem _ hx)]
      unfold cloOf
      simp [hc]
    · have hb : (k == NameKind.free) = false := by simpa using hk
      simp only [hb, Bool.false_eq_true, if_false, pure_bind]
      rw [hr _ fun x hx => h x (List.mem_cons_of_mem _ hx)]
      unfold cloOf
      rw [List.foldl_cons]
      simp only [hb, Bool.false_eq_true, if_false]
theorem clo_eq {env : Env} {scope : Scope} (h : ∀ x ∈ scope.names, x.2 = .free → ∃ c, env.cells.lookup x.1 = some c) : closureFor scope env = pure (cloOf env scope.names []) := by
  unfold closureFor
  have := clo_go scope.names [] h
  simp only [bind_pure_comp] at this
  simp only [bind_pure_comp, id_map', this]
  rfl
theorem clo_sub {env : Env} : ∀ (ns : List (Str × NameKind)) (acc : List (Str × Addr)), (∀ x ∈ ns, x.2 = .free → ∃ c, env.cells.lookup x.1 = some c) → (∀ x c, acc.lookup x = some c → env.cells.lookup x = some c) →
    ∀ x c, (cloOf env ns acc).lookup x = some c → env.cells.lookup x = some c
  | [], _, _, h => h
  | (n, k) :: r, acc, hf, h => by
    have ih := clo_sub (env := env) r (if k == .free then (n, (env.cells.lookup n).getD 0) :: acc else acc) (fun x hx => hf x (List.mem_cons_of_mem _ hx)) (fun x c e => by
      by_cases hk : k = .free
      · subst hk
        simp only [beq_self_eq_true, if_true] at e
        obtain ⟨c', hc⟩ := hf (n, .free) List.mem_cons_self rfl
        rw [List.lookup_cons] at e
        by_cases hx : x = n
        · subst hx
          simp [hc] at e
          rw [hc, e]
        · rw [show (x == n) = false by simpa using hx] at e
          exact h x c e
      · rw [show (k == NameKind.free) = false by simpa using hk] at e
        exact h x c e)
    exact ih
theorem clo_sub0 {env : Env} {ns : List (Str × NameKind)} (h : ∀ x ∈ ns, x.2 = .free → ∃ c, env.cells.lookup x.1 = some c) : ∀ x c, (cloOf env ns []).lookup x = some c → env.cells.lookup x = some c := clo_sub ns [] h fun _ _ e => by cases e
theorem clo_acc {env : Env} : ∀ (ns : List (Str × NameKind)) (acc : List (Str × Addr)) (x : Str) (c : Addr), acc.lookup x = some c → ∃ c, (cloOf env ns acc).lookup x = some c
  | [], _, _, c, h => ⟨c, h⟩
  | (n, k) :: r, acc, x, c, h => by
    show ∃ c, (cloOf env r (if k == .free then (n, (env.cells.lookup n).getD 0) :: acc else acc)).lookup x = some c
    by_cases hk : k = .free
    · subst hk
      simp only [beq_self_eq_true, if_true]
      by_cases hx : x = n
      · subst hx
        exact clo_acc r _ x ((env.cells.lookup x).getD 0) (by rw [List.lookup_cons]; simp)
      · exact clo_acc r _ x c (by rw [List.lookup_cons, show (x == n) = false by simpa using hx]; exact h)
    · rw [show (k == NameKind.free) = false by simpa using hk]
      exact clo_acc r _ x c h
theorem clo_has {env : Env} : ∀ (ns : List (Str × NameKind)) (acc : List (Str × Addr)) (x : Str), (x, NameKind.free) ∈ ns → ∃ c, (cloOf env ns acc).lookup x = some c
  | (n, k) :: r, acc, x, h => by
    show ∃ c, (cloOf env r (if k == .free then (n, (env.cells.lookup n).getD 0) :: acc else acc)).lookup x = some c
    rcases List.mem_cons.mp h with e | h
    · injection e with e1 e2
      subst e1 e2
      simp only [beq_self_eq_true, if_true]
      exact clo_acc r _ x ((env.cells.lookup x).getD 0) (by rw [List.lookup_cons]; simp)
    · exact clo_has r _ x h
theorem rel_free {env : Env} : ∀ {names : List (Str × NameKind)} {x : Str}, names.lookup x = some .free →
    (names.map fun (n, k) => if (k == NameKind.free && env.scope.kind == .function && env.kindOf n == some .cell) then (n, NameKind.cell) else (n, k)).lookup x = some .cell ∨
    (names.map fun (n, k) => if (k == NameKind.free && env.scope.kind == .function && env.kindOf n == some .cell) then (n, NameKind.cell) else (n, k)).lookup x = some .free
  | [], _, h => by simp at h
  | (n, k) :: r, x, h => by
    simp only [List.map_cons]
    by_cases hx : x = n
    · subst hx
      simp [List.lookup_cons] at h
      subst h
      by_cases hc : (NameKind.free == NameKind.free && env.scope.kind == .function && env.kindOf x == some .cell) = true
      · rw [if_pos hc]; left; simp [List.lookup_cons]
      · rw [if_neg hc]; right; simp [List.lookup_cons]
    · have hb : (x == n) = false := by simpa using hx
      rw [List.lookup_cons, hb] at h
      have ih := rel_free (env := env) h
      by_cases hc : (k == NameKind.free && env.scope.kind == .function && env.kindOf n == some .cell) = true
      · rw [if_pos hc]; simp only [List.lookup_cons, hb]; exact ih
      · rw [if_neg hc]; simp only [List.lookup_cons, hb]; exact ih
theorem rel_of {env : Env} : ∀ {names : List (Str × NameKind)} {x : Str} {k' : NameKind}, (names.map fun (n, k) => if (k == NameKind.free && env.scope.kind == .function && env.kindOf n == some .cell) then (n, NameKind.cell) else (n, k)).lookup x = some k' →
    k' = .cell ∨ k' = .free → (x, NameKind.free) ∈ names ∨ (x, NameKind.cell) ∈ names
  | [], _, _, h, _ => by simp at h
  | (n, k) :: r, x, k', h, hk => by
    simp only [List.map_cons] at h
    by_cases hx : x = n
    · subst hx
      by_cases hc : (k == NameKind.free && env.scope.kind == .function && env.kindOf x == some .cell) = true
      · have : k = .free := by simp at hc; exact hc.1.1
        subst this
        exact .inl List.mem_cons_self
      · rw [if_neg hc] at h
        simp [List.lookup_cons] at h
        subst h
        rcases hk with rfl | rfl
        · exact .inr List.mem_cons_self
        · exact .inl List.mem_cons_self
    · have hb : (x == n) = false := by simpa using hx
      have ih := rel_of (env := env) (names := r) (x := x) (k' := k') (by
        by_cases hc : (k == NameKind.free && env.scope.kind == .function && env.kindOf n == some .cell) = true
        · rw [if_pos hc] at h; simp only [List.lookup_cons, hb] at h; exact h
        · rw [if_neg hc] at h; simp only [List.lookup_cons, hb] at h; exact h) hk
      exact ih.imp (List.mem_cons_of_mem _) (List.mem_cons_of_mem _)

/-! ### the block's context -/
def blk (X : Cx) (N : List Str) (scope : Scope) (cl : List (Str × Addr)) (C : Addr) (fp : List Addr) (s2 : Shared) (H2 : Hp) : Cx :=
  { X with N := N, s₀ := s2, H₀ := H2, env := compEnvC scope cl C X.env, outer := X.stack, stack := X.stack, ex := fp, fn := fun _ => false, pn := [], xe := fun _ _ => False }
/-- what a comprehension's own table of names must be (all by rfl, by decide) -/
structure BlkScope (X : Cx) (own : List Str) (fr : List Nat) (scope : Scope) : Prop where
  kind : scope.kind = .function
  nocell : ∀ x ∈ scope.names, x.2 ≠ .cell
  names : ∀ x ∈ scope.names, x.2 = .local → scope.names.lookup x.1 = some .local
  free : ∀ x ∈ scope.names, x.2 = .free → X.env.kindOf x.1 = some .cell ∨ X.env.kindOf x.1 = some .free
  look : ∀ i ∈ fr, scope.names.lookup (X.N.getD i "") = some .free
def blkN (X : Cx) (own : List Str) (fr : List Nat) : List Str := own ++ fr.map fun i => X.N.getD i ""
def blkSt (own : List Str) (fr : List Nat) (σ : St) : St := (own.map fun _ => none) ++ fr.map fun i => (σ[i]?).join
section
variable {X : Cx} {pins : List (Addr × Obj)} {σ : St} {H : Hp} {s : Shared} {own : List Str} {fr : List Nat} {scope : Scope}
abbrev lobj (its : List Value) (n : Nat) : Obj := { cls := .type "list", data := .seq its.toArray n }
theorem blk_ok {C : Addr} {fp : List Addr} (B : BlkScope X own fr scope) (I : Inv X pins σ H s) (hf : ∀ b ∈ fp, FpOk X pins H b) (hfo : ∀ b ∈ fp, b < s.heap.objs.size) (hC : s.heap.objs.size ≤ C) :
    (blk X (blkN X own fr) scope (cloOf X.env scope.names []) C fp s H).Ok where
  mod := I.ok.mod
  kind := B.kind
  glob := I.ok.glob
  blt := I.ok.blt
  above := hC
  inj := fun x y c h1 h2 => I.ok.inj x y c (clo_sub0 (fun z hz e => I.ok.has _ (B.free z hz e)) x c h1) (clo_sub0 (fun z hz e => I.ok.has _ (B.free z hz e)) y c h2)
  has := fun x h => by
    have h' : (x, NameKind.free) ∈ scope.names ∨ (x, NameKind.cell) ∈ scope.names := by
      rcases h with h | h
      · exact rel_of (env := X.env) h (.inl rfl)
      · exact rel_of (env := X.env) h (.inr rfl)
    rcases h' with h' | h'
    · exact clo_has _ _ _ h'
    · exact absurd rfl (B.nocell _ h')
  cab := fun x c h => nomatch h
  hd := I.ok.hd
  frames := I.ok.frames
  stk := .inl rfl
  exf := fun b hb => ⟨Nat.ne_of_lt (Nat.lt_of_lt_of_le (hfo b hb) hC), fun x c e => (hf b hb).2.2.2.2.1 x c (clo_sub0 (fun z hz e => I.ok.has _ (B.free z hz e)) x c e)⟩
  bs := I.bs
  bsz := Nat.le_trans I.ok.bsz I.sz
  noex := fun b o e hb => by
    rcases (hf b hb).2.2.2.1 with z | z
    · exact I.ok.noex b o e z
    · exact absurd (Nat.lt_of_lt_of_le (Heap.lt_size (I.ok.bs b o e).1) z) (Nat.lt_irrefl _)
  exfs := fun b hb z => by
    rcases List.mem_cons.mp (I.stkSub b z) with e | e
    · exact (hf b hb).2.1 e
    · exact (hf b hb).2.2.1 e
  funs := I.stack
  frf := I.stkFree
theorem blk_start {C D : Addr} {fp : List Addr} {h4 : Heap} {tk : Nat} {n : Nat} (B : BlkScope X own fr scope) (I : Inv X pins σ H s) (hf : ∀ b ∈ fp, FpOk X pins H b) (hfo : ∀ b ∈ fp, b < s.heap.objs.size) (hC : s.heap.objs.size ≤ C) (hD : s.heap.objs.size ≤ D) (hDC : D ≠ C)
    (k : ∀ b o, s.heap.get? b = some o → h4.get? b = some o) (hn : h4.Ns C fun _ => none) (hl : h4.get? D = some (lobj [] n)) :
    Inv (blk X (blkN X own fr) scope (cloOf X.env scope.names []) C fp s H) [(D, lobj [] n)] (blkSt own fr σ) H { s with heap := h4, toks := tk } := by
  have sub := clo_sub0 (env := X.env) (ns := scope.names) (fun z hz e => I.ok.has _ (B.free z hz e))
  refine ⟨blk_ok B I hf hfo hC, rfl, I.bare, Un.kept k, ⟨_, hn, fun i x v h1 h2 h3 => ?_⟩, fun x c e => ?_, I.hok.fresh hC, fun x c e => I.freeC x c (sub x c e), fun p hp => ?_, I.hok.kept k, ?_⟩
  · have h1 : (blkN X own fr)[i]? = some x := h1
    unfold blkN at h1
    unfold blkSt at h2
    by_cases hi : i < own.length
    · rw [List.getElem?_append_left (by simpa using hi), List.getElem?_map] at h2
      cases q : own[i]? with
      | none => rw [q] at h2; cases h2
      | some a => rw [q] at h2; cases h2
    · rw [List.getElem?_append_right (by simpa using hi), List.getElem?_map] at h2
      rw [List.getElem?_append_right (by simpa using hi), List.getElem?_map] at h1
      rw [List.length_map] at h2
      cases q : fr[i - own.length]? with
      | none => rw [q] at h2; cases h2
      | some j =>
        rw [q] at h1 h2
        have h1 : X.N.getD j "" = x := Option.some.inj h1
        have h2 : (σ[j]?).join = some v := Option.some.inj h2
        have h2' : σ[j]? = some (some v) := by
          cases w : σ[j]? with
          | none => rw [w] at h2; cases h2
          | some y => rw [w] at h2; cases y with
            | none => cases h2
            | some y => cases h2; rfl
        have hjl : j < X.N.length := by rw [← I.len]; exact (List.getElem?_eq_some_iff.mp h2').1
        have hN : X.N[j]? = some x := by
          rw [← h1, List.getElem?_eq_getElem hjl]
          simp [hjl]
        have hfree : scope.names.lookup x = some .free := by rw [← h1]; exact B.look j (List.mem_of_getElem? q)
        have hk := B.free (x, .free) (PySem.mem_of_lookup hfree) rfl
        obtain ⟨m, _, hloc⟩ := I.loc
        obtain ⟨u, r, l⟩ := hloc j x v hN h2' (by
          rcases hk with z | z
          · exact .inr (.inl z)
          · exact .inr (.inr z))
        refine ⟨u, r, .inr ⟨?_, ?_⟩⟩
        · exact rel_free (env := X.env) hfree
        · rcases l with ⟨l, _⟩ | ⟨_, c, hc, o, ho, hd⟩
          · have hk : X.env.kindOf x = some .cell ∨ X.env.kindOf x = some .free := hk
            rw [l] at hk
            rcases hk with z | z <;> cases z
          · obtain ⟨c', hc'⟩ := clo_has (env := X.env) scope.names [] x (PySem.mem_of_lookup hfree)
            have := sub x c' hc'
            rw [hc] at this
            cases this
            exact ⟨c, hc', o, k _ _ ho, hd⟩
  · obtain ⟨v, o, ho, hd⟩ := I.cell x c (sub x c e)
    exact ⟨v, o, k _ _ ho, hd⟩
  · have hp : p ∈ [(D, lobj [] n)] := by simpa [blk] using hp
    obtain rfl := List.mem_singleton.mp hp
    refine ⟨hl, I.hok.fresh hD, hDC, fun z => ?_, fun v e => by cases e⟩
    rcases List.mem_cons.mp (I.stkSub D z) with e | e
    · exact Nat.ne_of_lt (Nat.lt_of_lt_of_le I.lt hD) e.symm
    · exact I.nofs hD e
  · show (blkSt own fr σ).length = (blkN X own fr).length
    unfold blkSt blkN
    simp
end
end L2
namespace L2
open PySem PySem.Spec PyProof.Rows
/-- the tests of a comprehension -/
def PIf (X : Cx) (ifs : List Expr) (t : TT) : Prop :=
  ∀ (pins : List (Addr × Obj)) (s : Shared) (σ : St) (H : Hp) (Q : Bool → Hp → Prop), Inv X pins σ H s → t σ H Q →
    wpAny (model X.prog X.w) X.A (forIn ifs true fun c r => if r = true then do let ok ← isTrue c X.env (eval c X.env); pure (ForInStep.yield ok) else pure (ForInStep.yield r)) (TP X pins σ Q) X.xe s
def tYes : TT := fun _ H Q => Q true H
section
variable {X : Cx} {pins : List (Addr × Obj)} {σ : St} {H : Hp} {s : Shared} {own : List Str} {fr : List Nat} {scope : Scope}
theorem pif_nil : PIf X [] tYes := fun _ _ _ H _ I h => wpAny_tests_nil ⟨H, I, h⟩
theorem pif_one {c : Expr} {t : TT} (h : PT X c t) : PIf X [c] t := fun pins s σ H Q I hw => wpAny_tests_one (h pins s σ H Q I hw)
/-- W: what holds by the turn, a measure, what is made so far, the block's names -/
def compLoopR (J : It) (g : TG) (tc : TT) (te : TE) (fin : List V → Hp → Prop) (W : Nat → Nat → List V → St → Hp → Prop) : Prop :=
  ∀ i m ys σ' H', W i m ys σ' H' → (J.stop i H' ∧ fin ys H') ∨
    (J.go i H' ∧ ys.length < sizeLine ∧ ∃ N : List V → St → Hp → Prop, (∀ ys' σ2 H2, N ys' σ2 H2 → ∃ m', m' < m ∧ W (i + 1) m' ys' σ2 H2) ∧
      ∀ x H2, J.yld i H' x H2 → g x σ' H2 fun σ2 H3 => tc σ2 H3 fun b H4 => if b = true then te σ2 H4 fun y H5 => N (ys ++ [y]) σ2 H5 else N ys σ2 H4)
def tComp (own : List Str) (fr : List Nat) (wi : TI) (g : TG) (tc : TT) (te : TE) : TE := fun σ H Q => wi σ H fun J H1 =>
  ∃ W : Nat → Nat → List V → St → Hp → Prop, (∃ m, W 0 m [] (blkSt own fr σ) H1) ∧ compLoopR J g tc te (fun ys H' => ∀ l, H' l = none → Q (.ref l) (upd H' l (.lst ys))) W
theorem blk_end {N : List Str} {cl : List (Str × Addr)} {C l : Addr} {fp : List Addr} {s4 : Shared} {H' : Hp} {σ' : St} {its : List Value} {k : Nat} {ys : List V} (I : Inv X pins σ H s) (hf : ∀ b ∈ fp, FpOk X pins H b) (hl : s.heap.objs.size ≤ l)
    (I4 : Inv (blk X N scope cl C fp s H) [(l, lobj its k)] σ' H' s4) (rv : Vals ys its) (hz : ys.length ≤ sizeLine) : Inv X pins σ (upd H' l (.lst ys)) s4 := by
  have base : Un (frs X.stack) fp H H' s.heap s4.heap := I4.base
  have pin := I4.pin (l, lobj its k) (List.mem_append_right _ List.mem_cons_self)
  have nl : ∀ b o, s.heap.get? b = some o → b ≠ l := fun b o e => Nat.ne_of_lt (Nat.lt_of_lt_of_le (Heap.lt_size e) hl)
  have nh : ∀ b u, H' b = some u → b ≠ l := fun b u e => ne_of_none e pin.2.1
  refine I.call' (ch := fp) I4.os ⟨base.keep, base.slot, fun b o e n hx => ?_, base.there, fun b xs e => ?_, fun b o u e => ?_, fun b ps e => ?_⟩ (fun b u e => ?_) I4.bare (fun b hb => ⟨(hf b hb).2.2.2.1, (hf b hb).2.1, (hf b hb).2.2.2.2.1, (hf b hb).2.2.2.2.2⟩)
  · rw [upd_ne (nl b o e)]; exact base.free b o e n hx
  · have := base.tups b xs e
    rw [upd_ne (nh b _ this)]; exact this
  · have := base.frzs b o u e
    rw [upd_ne (nh b _ this)]; exact this
  · obtain ⟨more, this⟩ := base.tbls b ps e
    exact ⟨more, by rw [upd_ne (nh b _ this)]; exact this⟩
  · by_cases hb : b = l
    · subst hb
      rw [upd_same] at e
      cases e
      exact ⟨hz, its, k, rv, pin.1⟩
    · rw [upd_ne hb] at e
      exact (I4.hok b u e).stay (fun c v _ q => q) (fun c q => by rw [upd_ne (nh c _ q)]; exact q) fun c xs q => by rw [upd_ne (nh c _ q)]; exact q
/-- the block, walked -/
theorem comp_core {elt iter tg : Expr} {ifs : List Expr} {pos : Pos} {g : TG} {tc : TT} {te : TE} {it : Addr} {fp : List Addr} {tn : Nat → Heap → Prop} {J : It} {fin : List V → Hp → Prop} {W : Nat → Nat → List V → St → Hp → Prop} {m0 : Nat}
    {RR : Value → Addr → Result → Shared → Prop} {E : Value → Shared → Prop} (hc : X.calm = true) (B : BlkScope X own fr scope)
    (hg : ∀ cl C fp s2 H2, PG (blk X (blkN X own fr) scope cl C fp s2 H2) tg g) (ht : ∀ cl C fp s2 H2, PIf (blk X (blkN X own fr) scope cl C fp s2 H2) ifs tc) (he : ∀ cl C fp s2 H2, PE (blk X (blkN X own fr) scope cl C fp s2 H2) elt te)
    (I : Inv X pins σ H s) (T : Turn X.prog X.w X.K tg J fp it tn) (st0 : tn 0 s.heap) (hf : ∀ b ∈ fp, FpOk X pins H b) (w0 : W 0 m0 [] (blkSt own fr σ) H) (hW : compLoopR J g tc te fin W)
    (post : ∀ (l C : Addr) (s4 : Shared) (ys : List V) (H' : Hp) (m : Str → Option Value), s.heap.objs.size ≤ C → H' C = none → H' l = none → l ≠ C → s4.heap.Ns C m → Inv X pins σ (upd H' l (.lst ys)) s4 → fin ys H' → RR (.ref l) C (.ok .next) s4) :
    wpAny (model X.prog X.w) X.A (newList []) (fun acc s₃ => wpAny (model X.prog X.w) X.A (newFunctionEnv scope X.env.globals (cloOf X.env scope.names []) [] X.env.qual none .none (some X.env)) (fun cenv s₄ =>
      codeAny (model X.prog X.w) X.A (.compStart (.ListComp elt [⟨tg, iter, ifs, 0⟩] scope pos) 0 (.ref it) acc { cenv with scope := relabel scope X.env }) (RR acc cenv.locals) s₄) E s₃) E s := by
  have hfo : ∀ b ∈ fp, b < s.heap.objs.size := fun b hb => by
    obtain ⟨o, e, _⟩ := T.obj _ _ st0 b hb
    exact Heap.lt_size e
  refine wpAny_newObj_type (wpAny_newFunctionEnv B.nocell (by intro y hy; simp at hy) (fun h1 hns hsb => ?_) B.kind)
  dsimp only at hns hsb ⊢
  generalize hH2 : s.heap.push { cls := .type "list", dict := none, data := .seq ([] : List Value).toArray } = h2 at hns hsb ⊢
  have hC : h2.objs.size = s.heap.objs.size + 1 := by rw [← hH2, Heap.size_push]
  have hDC : s.heap.objs.size ≠ h2.objs.size := by rw [hC]; exact Nat.ne_of_lt (Nat.lt_succ_self _)
  have hCle : s.heap.objs.size ≤ h2.objs.size := by rw [hC]; exact Nat.le_succ _
  have old : ∀ b o, s.heap.get? b = some o → h1.get? b = some o := fun b o e => hsb.extBut b o (by rw [hC]; exact Nat.ne_of_lt (Nat.lt_succ_of_lt (Heap.lt_size e))) (Heap.get?_push_of_some _ (hH2 ▸ Heap.get?_push_of_some _ e))
  have hacc : h1.get? s.heap.objs.size = some (lobj [] 0) := hsb.extBut _ _ hDC (Heap.get?_push_of_some _ (hH2 ▸ Heap.get?_push_size _ rfl))
  have hns' : h1.Ns h2.objs.size fun _ => none := hns
  have I0 := blk_start (tk := s.toks + ([] : List (Str × Value)).length) B I hf hfo hCle (Nat.le_refl _) hDC old hns' hacc
  have st1 : tn 0 h1 := T.keep _ _ _ st0 fun b hb o e => old b o e
  have loop : codeAny (model X.prog X.w) X.A (.compLoop (.ListComp elt [⟨tg, iter, ifs, 0⟩] scope pos) 0 (.ref it) (.ref s.heap.objs.size) (compEnvC scope (cloOf X.env scope.names []) h2.objs.size X.env))
      (RR (.ref s.heap.objs.size) h2.objs.size) { s with heap := h1, toks := s.toks + ([] : List (Str × Value)).length } := by
    generalize hl : s.heap.objs.size = l at *
    generalize hCC : h2.objs.size = C at *
    -- what stays true of the iterator's objects
    have stat : ∀ {H' : Hp} {o : Obj}, (∀ b ∈ fp, H' b = none) → ∀ b ∈ fp, FpOk (blk X (blkN X own fr) scope (cloOf X.env scope.names []) C fp s H) [(l, o)] H' b := fun {H' o} hn b hb => by
      refine ⟨hn b hb, fun e => ?_, fun z => ?_, .inl hb, fun x c e z => ?_, fun p hp z => ?_⟩
      · exact Nat.ne_of_lt (Nat.lt_of_lt_of_le (hfo b hb) hCle) e
      · rcases List.mem_cons.mp (I.stkSub b z) with e | e
        · exact (hf b hb).2.1 e
        · exact (hf b hb).2.2.1 e
      · exact (hf b hb).2.2.2.2.1 x c (clo_sub0 (fun z hz e => I.ok.has _ (B.free z hz e)) x c e) z
      · have hp : p ∈ [(l, o)] := by simpa [blk] using hp
        obtain rfl := List.mem_singleton.mp hp
        exact Nat.ne_of_lt (hfo b hb) z.symm
    refine codeAny_loop rfl (fun n s' => ∃ i ys σ' H' its k, Inv (blk X (blkN X own fr) scope (cloOf X.env scope.names []) C fp s H) [(l, lobj its k)] σ' H' s' ∧ Vals ys its ∧ ys.length ≤ sizeLine ∧ tn i s'.heap ∧ (∀ b ∈ fp, H' b = none) ∧ W i n ys σ' H')
      (fun n s3 hI => ?_) m0 ⟨0, [], blkSt own fr σ, H, [], 0, I0, .nil, Nat.zero_le _, st1, fun b hb => (hf b hb).1, w0⟩
    show wpAny _ X.A ((compTurn (.ListComp elt [⟨tg, iter, ifs, 0⟩] scope pos) 0 (.ref it) (.ref l) (compEnvC scope (cloOf X.env scope.names []) C X.env)).onRaise (fun x => do noteFrame x (compEnvC scope (cloOf X.env scope.names []) C X.env); theTreesLotGoes x)) _ _ s3
    refine wpAny_noted ?_
    rw [compTurn_list]
    obtain ⟨i, ys, σ3, H3, its, k, I3, rv, hz, st3, fr3, w3⟩ := hI
    refine wpAny_bind (wpAny_standAt (wpAny_bind ?_))
    rcases hW i n ys σ3 H3 w3 with ⟨stop, qn⟩ | ⟨go, hlt, N, hN, step⟩
    · refine thn (T.done (blk X (blkN X own fr) scope (cloOf X.env scope.names []) C fp s H) rfl rfl rfl hc i _ s3 σ3 H3 _ I3 (stat fr3) st3 stop) fun r s4 ⟨hr, I4⟩ => ?_
      subst hr
      obtain ⟨m, hm, _⟩ := I4.loc
      exact wpAny_pure (post l C s4 ys H3 m hCle I4.free (I4.pin (l, lobj its k) (List.mem_append_right _ List.mem_cons_self)).2.1 hDC hm (blk_end I hf (Nat.le_of_eq hl) I4 rv hz) qn)
    · refine thn (T.item (blk X (blkN X own fr) scope (cloOf X.env scope.names []) C fp s H) rfl rfl rfl hc i _ s3 σ3 H3 _ I3 (stat fr3) st3 go) fun r s4 ⟨u, hr, h4⟩ => ?_
      subst hr
      refine wpAny_bind (thn h4 fun _ s5 ⟨x, H5, I5, r5, y5, st5, fr5⟩ => ?_)
      have I5' := I5.pinned (stat fr5) (T.obj _ _ st5)
      refine wpAny_bind (wpAny_mono (hg _ _ _ _ _ _ s5 σ3 H5 x u _ I5' r5 (step x H5 y5)) (fun _ s6 ⟨σ6, H6, I6, q6⟩ => ?_) fun _ _ z => z.elim)
      refine wpAny_bind (wpAny_mono (ht _ _ _ _ _ _ s6 σ6 H6 _ I6 q6) (fun b s7 ⟨H7, I7, q7⟩ => ?_) fun _ _ z => z.elim)
      -- the iterator stands as it stood
      have back : ∀ {σ8 : St} {H8 : Hp} {s8 : Shared}, Inv (blk X (blkN X own fr) scope (cloOf X.env scope.names []) C fp s H) ([(l, lobj its k)] ++ pinsAt fp s5.heap) σ8 H8 s8 → (∀ b ∈ fp, ∀ o, s5.heap.get? b = some o → s8.heap.get? b = some o) ∧ ∀ b ∈ fp, H8 b = none := fun I8 => by
        refine ⟨fun b hb o e => (I8.pin (b, o) (List.mem_append_right _ (List.mem_append_right _ (mem_pinsAt hb e)))).1, fun b hb => ?_⟩
        obtain ⟨o, e, _⟩ := T.obj _ _ st5 b hb
        exact (I8.pin (b, o) (List.mem_append_right _ (List.mem_append_right _ (mem_pinsAt hb e)))).2.1
      cases b with
      | false =>
        obtain ⟨k1, k2⟩ := back I7
        simp only [Bool.false_eq_true, if_false] at q7 ⊢
        obtain ⟨m', hm', w7⟩ := hN _ _ _ q7
        exact wpAny_pure ⟨rfl, m', hm', i + 1, ys, σ6, H7, its, k, I7.unpinned, rv, hz, T.keep _ _ _ st5 k1, k2, w7⟩
      | true =>
        simp only [if_true] at q7 ⊢
        refine wpAny_bind (wpAny_bind (wpAny_mono (he _ _ _ _ _ _ s7 σ6 H7 _ I7 q7) (fun w s8 ⟨y, H8, I8, r8, q8⟩ => ?_) fun _ _ z => z.elim))
        obtain ⟨k1, k2⟩ := back I8
        obtain ⟨m', hm', w8⟩ := hN _ _ _ q8
        have pin := I8.pin (l, lobj its k) (List.mem_append_right _ (List.mem_append_left _ List.mem_cons_self))
        have hil : its.length = ys.length := rv.length.symm
        refine wpAny_bind (append_at pin.1 (fun h9 hs9 hD9 => ?_) (by rw [List.size_toArray, hil]; exact hz))
        have new : h9.get? l = some (lobj (its ++ [w]) (k + 1)) := by rw [hD9, List.push_toArray]
        have Ia : Inv (blk X (blkN X own fr) scope (cloOf X.env scope.names []) C fp s H) [] σ6 H8 s8 := I8.pins_of (fun p hp => nomatch hp)
        have Ib : Inv (blk X (blkN X own fr) scope (cloOf X.env scope.names []) C fp s H) [] σ6 H8 { s8 with heap := h9 } := Ia.turned (t' := s8.toks) (fun b o hb e => hs9.extBut b o hb e) pin.2.1 pin.2.2.1 (.inr (Nat.le_of_eq hl)) (fun x c e z => by
          obtain ⟨v, o, ho, hd⟩ := I8.cell x c e
          rw [z, pin.1] at ho
          cases ho
          cases hd) (fun p hp => by
            have hp : p ∈ ([] : List (Addr × Obj)) := by simpa [blk] using hp
            cases hp)
        have Ic : Inv (blk X (blkN X own fr) scope (cloOf X.env scope.names []) C fp s H) [(l, lobj (its ++ [w]) (k + 1))] σ6 H8 { s8 with heap := h9 } := Ib.pins_of fun p hp => by
          obtain rfl := List.mem_singleton.mp hp
          exact ⟨new, pin.2.1, pin.2.2.1, pin.2.2.2.1, fun v e => by cases e⟩
        refine wpAny_pure (wpAny_pure ⟨rfl, m', hm', i + 1, ys ++ [y], σ6, H8, its ++ [w], k + 1, Ic, rv.append (.cons r8 .nil), by rw [List.length_append]; exact hlt, T.keep _ _ _ st5 fun b hb o e => ?_, k2, w8⟩)
        exact hs9.extBut b o (Nat.ne_of_lt (hfo b hb)) (k1 b hb o e)
  exact codeAny_compStart_list loop (T.self _ 0 _ _ _ st1 loop)
/-- what is let go behind the block is not ours -/
theorem Inv.letgo {s2 s4 : Shared} {H2 H4 : Hp} {C : Addr} {h' : Heap} (I2 : Inv X pins σ H2 s2) {σ4 : St} (I4 : Inv X pins σ4 H4 s4) (hC : s2.heap.objs.size ≤ C) (hn : H4 C = none) (hs : Heap.SameBut C s4.heap h') : Inv X pins σ4 H4 { s4 with heap := h' } := by
  obtain ⟨f0, f1, _, f3, f4, f5⟩ := I2.fpOk hC hn
  exact I4.turned (t' := s4.toks) (fun b o hb e => hs.extBut b o hb e) f0 f1 f3 f4 f5
theorem pe_comp {elt iter tg : Expr} {ifs : List Expr} {pos : Pos} {g : TG} {tc : TT} {te : TE} {wi : TI} (own : List Str) (fr : List Nat) (hc : X.calm = true) (B : BlkScope X own fr scope) (hi : PI X tg iter wi)
    (hg : ∀ cl C fp s2 H2, PG (blk X (blkN X own fr) scope cl C fp s2 H2) tg g) (ht : ∀ cl C fp s2 H2, PIf (blk X (blkN X own fr) scope cl C fp s2 H2) ifs tc) (he : ∀ cl C fp s2 H2, PE (blk X (blkN X own fr) scope cl C fp s2 H2) elt te)
    (hs : ∀ x, foldedSetIterable iter X.env x = pure x := by intro _; rfl) : PE X (.ListComp elt [⟨tg, iter, ifs, 0⟩] scope pos) (tComp own fr wi g tc te) := by
  intro pins s σ H Q I h
  rw [eval_ListComp]
  refine wpAny_comprehension_free (use := none) rfl hs (clo_eq fun z hz e => I.ok.has _ (B.free z hz e)) B.kind B.names ?_
  refine thn (hi pins s σ H _ I h) fun v s1 h1 => thn h1 fun itv s2 h2 => ?_
  obtain ⟨it, fp, tn, J, H2, e, I2, T, st2, f2, W, ⟨m0, w0⟩, hW⟩ := h2
  subst e
  refine comp_core hc B hg ht he I2 T st2 f2 w0 hW fun l C s4 ys H' m hC nC nl hlC hm I4 fin => ?_
  exact ⟨m, hm, fun h' hs' => ⟨.ref l, _, I2.letgo I4 hC (by rw [upd_ne (Ne.symm hlC)]; exact nC) hs', rfl, fin l nl⟩⟩
/-- name = [..]: the store comes ahead of the letting go -/
theorem ps_setC {elt iter tg : Expr} {ifs : List Expr} {pos pos' cpos : Pos} {g : TG} {tc : TT} {te : TE} {wi : TI} {i : Nat} {x : Str} (own : List Str) (fr : List Nat) (hN : X.N.Nodup) (hxi : X.N[i]? = some x) (hx : X.env.scope.names.lookup x = some .local) (hc : X.calm = true) (B : BlkScope X own fr scope) (hi : PI X tg iter wi)
    (hg : ∀ cl C fp s2 H2, PG (blk X (blkN X own fr) scope cl C fp s2 H2) tg g) (ht : ∀ cl C fp s2 H2, PIf (blk X (blkN X own fr) scope cl C fp s2 H2) ifs tc) (he : ∀ cl C fp s2 H2, PE (blk X (blkN X own fr) scope cl C fp s2 H2) elt te)
    (hsw : swapsWith (.ListComp elt [⟨tg, iter, ifs, 0⟩] scope cpos) (some (.Name x pos')) pos.line X.env = pure true := by rfl)
    (hs : ∀ x, foldedSetIterable iter X.env x = pure x := by intro _; rfl) : PS X (.Assign [.Name x pos'] (.ListComp elt [⟨tg, iter, ifs, 0⟩] scope cpos) pos) (tAsg (tComp own fr wi g tc te) (gName i)) := by
  intro pins s σ H D I h
  rw [exec_Assign_Name_used _ _ _ _ hsw]
  refine wpAny_bind (wpAny_standAt (wpAny_bind ?_))
  show wpAny _ X.A (do let _ ← comprehension (.ListComp elt [⟨tg, iter, ifs, 0⟩] scope cpos) scope X.env _ (newList []) false (eval iter X.env) (some (assign (.Name x pos') X.env))) _ _ s
  refine wpAny_bind (wpAny_mono (wpAny_comprehension_free (use := some (assign (.Name x pos') X.env)) (Q := fun _ s' => SP X pins D .next s') rfl hs (clo_eq fun z hz e => I.ok.has _ (B.free z hz e)) B.kind B.names ?_) (fun _ s' hq => wpAny_pure (wpAny_pure hq)) fun _ _ e => e)
  refine thn (hi pins s σ H _ I h) fun v s1 h1 => thn h1 fun itv s2 h2 => ?_
  obtain ⟨it, fp, tn, J, H2, e, I2, T, st2, f2, W, ⟨m0, w0⟩, hW⟩ := h2
  subst e
  refine comp_core (RR := fun acc C => compPost (model X.prog X.w) X.A X.xe (some (assign (.Name x pos') X.env)) (fun _ s' => SP X pins D .next s') acc C) hc B hg ht he I2 T st2 f2 w0 hW fun l C s4 ys H' m hC nC nl hlC hm I4 fin => ?_
  show wpAny _ X.A (assign (.Name x pos') X.env (.ref l)) _ _ s4
  refine wpAny_assign_Name (store_ok2 I4 hN hxi (.inl hx) (v := .ref l) rfl (fun s5 I5 hsb => ?_) (.inr hx))
  obtain ⟨a, sb, ha⟩ := hsb
  have hCa : C ≠ a := by
    rcases ha with rfl | ha
    · exact Nat.ne_of_gt (Nat.lt_of_lt_of_le I2.lt hC)
    · obtain ⟨v, q⟩ := I2.cell x a ha
      exact Nat.ne_of_gt (Nat.lt_of_lt_of_le q.lt hC)
  exact ⟨m, hm.sameBut sb hCa, fun h' hs' => ⟨_, _, I2.letgo I5 hC (by rw [upd_ne (Ne.symm hlC)]; exact nC) hs', fin l nl⟩⟩
end
end L2
namespace L2
open PySem PySem.Spec PyProof.Rows
/-! ### things by their data -/
mutual
def DV (K : PySem.W.Frag) (H : Hp) : PyData → V → Prop
  | .none, v => v = .non
  | .bool b, v => v = .bl b
  | .int i, v => v = .int i
  | .str x, v => v = .str x
  | .list ds, v => ∃ a xs, v = .ref a ∧ SqL K H a xs ∧ DVs K H ds xs
  | .tuple ds, v => ∃ a xs, v = .ref a ∧ SqT K H a xs ∧ DVs K H ds xs
  | .dict _, _ => False
def DVs (K : PySem.W.Frag) (H : Hp) : List PyData → List V → Prop
  | [], xs => xs = []
  | d :: ds, xs => ∃ x r, xs = x :: r ∧ DV K H d x ∧ DVs K H ds r
end
section
variable {X : Cx} {pins : List (Addr × Obj)} {σ : St} {H : Hp} {s : Shared}
mutual
theorem DV.reads (I : Inv X pins σ H s) : ∀ {d : PyData} {v : V} {u : Value}, DV X.K H d v → RelV v u → ∃ as, Reads s.heap u d as
  | .none, v, u, h, r => by
    have h : v = .non := by simpa [DV] using h
    subst h; cases r; exact ⟨_, Reads.none⟩
  | .bool b, v, u, h, r => by
    have h : v = .bl b := by simpa [DV] using h
    subst h; cases r; exact ⟨_, Reads.bool b⟩
  | .int i, v, u, h, r => by
    have h : v = .int i := by simpa [DV] using h
    subst h; obtain ⟨t, rfl⟩ := r; exact ⟨_, Reads.int i t⟩
  | .str x, v, u, h, r => by
    have h : v = .str x := by simpa [DV] using h
    subst h; obtain ⟨t, rfl⟩ := r; exact ⟨_, Reads.str x t⟩
  | .list ds, v, u, h, r => by
    have h : ∃ a xs, v = .ref a ∧ SqL X.K H a xs ∧ DVs X.K H ds xs := by simpa [DV] using h
    obtain ⟨a, xs, rfl, hq, hd⟩ := h
    cases r
    obtain ⟨its, rv, pl, _⟩ := I.list hq
    obtain ⟨as, ra⟩ := DVs.reads I hd rv
    obtain ⟨o, ho, hc, n, hdd⟩ := pl.isList
    exact ⟨_, reads_list_at ho hc hdd (by simpa using ra)⟩
  | .tuple ds, v, u, h, r => by
    have h : ∃ a xs, v = .ref a ∧ SqT X.K H a xs ∧ DVs X.K H ds xs := by simpa [DV] using h
    obtain ⟨a, xs, rfl, hq, hd⟩ := h
    cases r
    obtain ⟨its, rv, pl, _⟩ := I.tuple hq
    obtain ⟨as, ra⟩ := DVs.reads I hd rv
    obtain ⟨o, ho, hc, n, hdd⟩ := pl
    exact ⟨_, reads_tuple_at ho hc hdd (by simpa using ra)⟩
  | .dict _, v, u, h, r => by simp [DV] at h
theorem DVs.reads (I : Inv X pins σ H s) : ∀ {ds : List PyData} {vs : List V} {us : List Value}, DVs X.K H ds vs → Vals vs us → ∃ as, ReadsAll s.heap us ds as
  | [], vs, us, h, r => by
    have h : vs = [] := by simpa [DVs] using h
    subst h; cases r; exact ⟨_, ReadsAll.nil⟩
  | d :: ds, vs, us, h, r => by
    have h : ∃ x r, vs = x :: r ∧ DV X.K H d x ∧ DVs X.K H ds r := by simpa [DVs] using h
    obtain ⟨x, rr, rfl, h1, h2⟩ := h
    cases r with
    | cons r1 r2 =>
      obtain ⟨as, ra⟩ := DV.reads I h1 r1
      obtain ⟨bs, rb⟩ := DVs.reads I h2 r2
      exact ⟨_, ReadsAll.cons ra rb⟩
end
def rEqD (K : PySem.W.Frag) : R2 := fun x y H Q => ∃ d e, DV K H d x ∧ DV K H e y ∧ SeqAt.shaped d = true ∧ SeqAt.shaped e = true ∧ Q (.bl (PyData.eqv d e)) H
def rNeD (K : PySem.W.Frag) : R2 := fun x y H Q => ∃ d e, DV K H d x ∧ DV K H e y ∧ SeqAt.shaped d = true ∧ SeqAt.shaped e = true ∧ Q (.bl (!PyData.eqv d e)) H
theorem op_eqD (hu : X.A.units + 64 < cLine) : OpR X (compareOp .Eq) (rEqD X.K) := by
  intro pins s σ H x y v u Q I rx ry h
  obtain ⟨d, e, hd, he, sd, se, q⟩ := h
  obtain ⟨as, ra⟩ := DV.reads I hd rx
  obtain ⟨bs, rb⟩ := DV.reads I he ry
  exact eq_dataH ra rb sd se hu ⟨.bl _, H, I, rfl, q⟩
theorem op_neD (hu : X.A.units + 64 < cLine) : OpR X (compareOp .NotEq) (rNeD X.K) := by
  intro pins s σ H x y v u Q I rx ry h
  obtain ⟨d, e, hd, he, sd, se, q⟩ := h
  obtain ⟨as, ra⟩ := DV.reads I hd rx
  obtain ⟨bs, rb⟩ := DV.reads I he ry
  exact ne_dataH ra rb sd se hu ⟨.bl _, H, I, rfl, q⟩
/-! ### pairs as data -/
def pd (p : Int × Int) : PyData := .tuple [.int p.1, .int p.2]
def pds (ps : List (Int × Int)) : PyData := .list (ps.map pd)
theorem pds_dvs {xs : List V} {ps : List (Int × Int)} (h : Paired (P2 X.K H) xs ps) : DVs X.K H (ps.map pd) xs := by
  induction h with
  | nil => simp [DVs]
  | cons r _ ih =>
    obtain ⟨a, rfl, hq⟩ := r
    simp only [List.map_cons, DVs]
    refine ⟨_, _, rfl, ?_, ih⟩
    simp only [pd, DV]
    exact ⟨a, _, rfl, SqT.of hq, by simp [DVs, DV]⟩
theorem pds_dv {a : Addr} {xs : List V} {ps : List (Int × Int)} (hq : SqL X.K H a xs) (h : Paired (P2 X.K H) xs ps) : DV X.K H (pds ps) (.ref a) := by
  simp only [pds, DV]
  exact ⟨a, xs, rfl, hq, pds_dvs h⟩
theorem pds_shaped (ps : List (Int × Int)) : SeqAt.shaped (pds ps) = true := by
  have h : ∀ ps : List (Int × Int), PyData.canLayAll0 (ps.map pd) = true ∧ PyData.depthAll (ps.map pd) ≤ 1 := by
    intro ps
    induction ps with
    | nil => simp [PyData.canLayAll0, PyData.depthAll]
    | cons p ps ih => simp [PyData.canLayAll0, PyData.depthAll, PyData.canLay0, PyData.depth, pd, ih]
  obtain ⟨h1, h2⟩ := h ps
  simp [SeqAt.shaped, pds, PyData.canLay0, PyData.depth, h1]
  omega
theorem pds_eqv : ∀ ps qs : List (Int × Int), PyData.eqv (pds ps) (pds qs) = decide (ps = qs) := by
  have h : ∀ ps qs : List (Int × Int), PyData.eqvAll (ps.map pd) (qs.map pd) = decide (ps = qs) := by
    intro ps
    induction ps with
    | nil => intro qs; cases qs <;> simp [PyData.eqvAll]
    | cons p ps ih =>
      intro qs
      cases qs with
      | nil => simp [PyData.eqvAll]
      | cons q qs =>
        obtain ⟨p1, p2⟩ := p
        obtain ⟨q1, q2⟩ := q
        rw [List.map_cons, List.map_cons]
        simp only [PyData.eqvAll, pd, PyData.eqv, ih qs, Bool.and_true]
        by_cases e1 : p1 = q1 <;> by_cases e2 : p2 = q2 <;> by_cases e3 : ps = qs <;> simp [e1, e2, e3]
  intro ps qs
  simp only [pds, PyData.eqv]
  exact h ps qs
/-! ### isinstance, any, all, [::-1] -/
theorem call_isi : CallR X (.builtin "isinstance") (fun vs H Q => ∃ x n t b, vs = [x, .ty n] ∧ TyOf X.K H x t ∧ PySem.W.kitOne X.K t (.type n) = some b ∧ Q (.bl b) H) := by
  intro pins s σ H xs us Q I r h
  obtain ⟨x, n, t, b, rfl, ty, e, q⟩ := h
  obtain ⟨u, w, rfl, rx, rn⟩ := vals2 r
  cases rn
  exact isinst_ok I rx ty e fun tk => ⟨.bl b, H, I.tok tk, rfl, q⟩
theorem range_all : ∀ (bs : List Bool), ((List.range bs.length).all fun i => bs.getD i false) = bs.all id := by
  intro bs
  rw [Bool.eq_iff_iff, List.all_eq_true, List.all_eq_true]
  constructor
  · intro h x hx
    obtain ⟨i, hi, rfl⟩ := List.mem_iff_getElem.mp hx
    have := h i (List.mem_range.mpr hi)
    simpa [hi] using this
  · intro h i hi
    have hi := List.mem_range.mp hi
    have := h bs[i] (List.getElem_mem hi)
    simpa [hi] using this
theorem range_any : ∀ (bs : List Bool), ((List.range bs.length).any fun i => bs.getD i false) = bs.any id := by
  intro bs
  rw [Bool.eq_iff_iff, List.any_eq_true, List.any_eq_true]
  constructor
  · rintro ⟨i, hi, h⟩
    have hi := List.mem_range.mp hi
    exact ⟨bs[i], List.getElem_mem hi, by simpa [hi] using h⟩
  · rintro ⟨x, hx, h⟩
    obtain ⟨i, hi, rfl⟩ := List.mem_iff_getElem.mp hx
    exact ⟨i, List.mem_range.mpr hi, by simpa [hi] using h⟩
theorem bools_walk {p : Addr} {bs : List Bool} (hc : X.calm = true) (I : Inv X pins σ H s) (hq : SqL X.K H p (bs.map V.bl)) {Q : VK} {k : Bool} (q : Q (.bl k) H) (f : (Nat → Bool) → Bool) (hk : f (fun i => bs.getD i false) = k) :
    wpAny (model X.prog X.w) X.A.in1 (pyIter (.ref p)) (fun it s2 => ∃ I fp wr n P St tr, it = .ref I ∧ Walks X.prog X.w X.A.in1 I fp wr n P St ∧ St 0 s2.heap ∧ TruthOf X.prog X.w X.A.in1 P tr ∧ n = bs.length ∧
      ∀ h' tk, (∀ b o, b ∉ wr → s2.heap.get? b = some o → h'.get? b = some o) → tr = (fun i => bs.getD i false) ∧ EP X pins σ Q (.bool k) { s2 with heap := h', toks := tk }) X.xe s := by
  obtain ⟨its, rv, pl, hz⟩ := I.list hq
  have hlt : p < s.heap.objs.size := by obtain ⟨_, e, _⟩ := pl.isList; exact Heap.lt_size e
  refine wpAny_pyIter_list pl.isList ?_
  refine ⟨s.heap.objs.size, _, _, _, _, _, fun i => bs.getD i false, rfl, Walks.list (prog := X.prog) (w := X.w) (A := X.A.in1) (show X.A.in1.handled = none from I.ok.hd hc) _ p (Nat.ne_of_lt hlt) its.toArray, ⟨⟨_, Heap.get?_push_size _ rfl, rfl, rfl⟩, pl.isList.push _⟩, ?_, ?_, fun h' tk kp => ⟨rfl, .bl k, H, ?_, rfl, q⟩⟩
  · intro i v s' Q' E' hv hq'
    have hv : its[i]? = some v := by simpa using hv
    have hi : i < its.length := (List.getElem?_eq_some_iff.mp hv).1
    have hl := rv.length
    rw [List.length_map] at hl
    have hb : (bs.map V.bl)[i]? = some (.bl (bs.getD i false)) := by
      rw [List.getElem?_map, List.getElem?_eq_getElem (by omega)]
      simp [show i < bs.length by omega]
    obtain ⟨u, hu, ru⟩ := rv.get hb
    rw [hv] at hu
    cases hu
    cases ru
    exact wpAny_truthy_bool hq'
  · have hl := rv.length
    rw [List.length_map] at hl
    simp [hl]
  · refine I.kept (t' := tk) fun b o e => kp b o (fun hb => ?_) (Heap.get?_push_of_some _ e)
    have : b = s.heap.objs.size := by simpa using hb
    exact Nat.ne_of_lt (Heap.lt_size e) this
theorem call_allB (hc : X.calm = true) : CallR X (.builtin "all") (fun vs H Q => ∃ (p : Addr) (bs : List Bool), vs = [.ref p] ∧ SqL X.K H p (bs.map V.bl) ∧ Q (.bl (bs.all id)) H) := by
  intro pins s σ H xs us Q I r h
  obtain ⟨p, bs, rfl, hq, q⟩ := h
  obtain ⟨u, rfl, rx⟩ := vals1 r
  cases rx
  refine call_all_walk (thn (bools_walk hc I hq q (fun f => (List.range bs.length).all f) (range_all bs)) fun it s2 h2 => ?_)
  obtain ⟨I', fp, wr, n, P, St, tr, rfl, W, st, tt, hn, fin⟩ := h2
  subst hn
  refine ⟨I', fp, wr, _, P, St, tr, rfl, W, st, tt, fun h' tk kp => ?_⟩
  obtain ⟨rfl, e⟩ := fin h' tk kp
  rw [range_all]
  exact e
theorem call_anyB (hc : X.calm = true) : CallR X (.builtin "any") (fun vs H Q => ∃ (p : Addr) (bs : List Bool), vs = [.ref p] ∧ SqL X.K H p (bs.map V.bl) ∧ Q (.bl (bs.any id)) H) := by
  intro pins s σ H xs us Q I r h
  obtain ⟨p, bs, rfl, hq, q⟩ := h
  obtain ⟨u, rfl, rx⟩ := vals1 r
  cases rx
  refine call_any_walk (thn (bools_walk hc I hq q (fun f => (List.range bs.length).any f) (range_any bs)) fun it s2 h2 => ?_)
  obtain ⟨I', fp, wr, n, P, St, tr, rfl, W, st, tt, hn, fin⟩ := h2
  subst hn
  refine ⟨I', fp, wr, _, P, St, tr, rfl, W, st, tt, fun h' tk kp => ?_⟩
  obtain ⟨rfl, e⟩ := fin h' tk kp
  rw [range_any]
  exact e
/-- xs[lo:hi:step], the step an expression -/
def tSlS (te : TE) (tl th : TO) (ts : TE) (K : PySem.W.Frag) : TE := fun σ H Q => te σ H fun x H1 => tl σ H1 fun l H2 => th σ H2 fun u H3 => ts σ H3 fun z H4 =>
  ∃ a xs st ys, x = .ref a ∧ SqL K H4 a xs ∧ z = .int st ∧ st ≠ 0 ∧ ys.length ≤ xs.length ∧ (∀ its : List Value, Vals xs its → Vals ys (slicePick its.toArray l u (some st)).toList) ∧ ∀ p, H4 p = none → Q (.ref p) (upd H4 p (.lst ys))
theorem pe_sliceS {e st : Expr} {te ts : TE} {lo hi : Option Expr} {tl th : TO} {pos p2 : Pos} (he : PE X e te) (hl : PO X lo tl) (hu : PO X hi th) (hst : PE X st ts) : PE X (.Subscript e (.Slice lo hi (some st) p2) pos) (tSlS te tl th ts X.K) := by
  intro pins s σ H Q I h
  refine Subscript_ (thn (he pins s σ H _ I h) fun v s1 ⟨x, H1, I1, r1, q1⟩ => ?_)
  refine wpAny_Slice (thn (hl pins s1 σ H1 _ I1 q1) fun vl s2 ⟨l, H2, I2, pl, q2⟩ => thn (hu pins s2 σ H2 _ I2 q2) fun vu s3 ⟨u, H3, I3, pu, q3⟩ => ?_)
  rw [evalPart_some]
  refine thn (hst pins s3 σ H3 _ I3 q3) fun vs s4 ⟨z, H4, I4, r4, q4⟩ => ?_
  obtain ⟨a, xs, k, ys, rfl, hq, rfl, h0, hle, hys, q⟩ := q4
  cases r1
  obtain ⟨t, rfl⟩ := r4
  have I5 : Inv X pins σ H4 { s4 with heap := s4.heap.push { cls := .type "slice", data := .fields #[vl, vu, .int k t] } } := I4.kept (t' := s4.toks) fun b ob q => Heap.get?_push_of_some _ q
  obtain ⟨its, rv, ht, hz⟩ := I5.list hq
  have hlen := rv.length
  show wpAny (model X.prog X.w) X.A (subscriptTail e (.Slice lo hi (some st) p2) (.ref a) (.ref s4.heap.objs.size)) (EP X pins σ Q) X.xe { s4 with heap := s4.heap.push { cls := .type "slice", data := .fields #[vl, vu, .int k t] } }
  refine tail_any ht.isList.typeIs slot_list_getitem.lookup ?_ rfl
  refine wpAny_getItem_list_slice ht.isList (Heap.IsSliceOf.new ..) pl pu (.int k t) (fun e => h0 (Option.some.inj e)) ?_ (by rw [List.size_toArray]; omega)
  have hv := hys its rv
  generalize hP : slicePick its.toArray l u (some k) = P at hv ⊢
  refine ⟨.ref _, _, I5.laid (t' := s4.toks) (o := .lst ys) (fun b ob q => Heap.get?_push_of_some _ q) (Nat.le_refl _) ?_, rfl, q _ (I5.hok.fresh (Nat.le_refl _))⟩
  exact ⟨by omega, P.toList, 0, hv, by rw [Array.toArray_toList]; exact Heap.get?_push_size _ rfl⟩
/-- xs[::-1] -/
theorem rev_pick {xs : List V} : ∀ its : List Value, Vals xs its → Vals xs.reverse (slicePick its.toArray none none (some (-1))).toList := fun its r => by
  rw [PySem.W.krv_pick]
  exact r.reverse
end
end L2
set_option maxHeartbeats 4000000
namespace L2
open PySem PySem.Spec PyProof.Rows
section
variable {X : Cx}
/-- whole numbers in the heap are the layer's -/
theorem ints_items : ∀ {ns : List Int} {its : List Value}, Vals (ns.map V.int) its → ∃ xs : List (Int × Tok), its = xs.map (fun p => Value.int p.1 p.2) ∧ ns = xs.map (·.1)
  | [], _, .nil => ⟨[], rfl, rfl⟩
  | n :: ns, _, .cons r t => by
    obtain ⟨xs, rfl, rfl⟩ := ints_items t
    obtain ⟨k, rfl⟩ := r
    exact ⟨(n, k) :: xs, rfl, rfl⟩
theorem call_sumI (hc : X.calm = true) : CallR X (.builtin "sum") (fun vs H Q => ∃ (p : Addr) (ns : List Int), vs = [.ref p] ∧ SqL X.K H p (ns.map V.int) ∧ Q (.int ns.sum) H) := by
  intro pins s σ H xs us Q I r h
  obtain ⟨p, ns, rfl, hq, q⟩ := h
  obtain ⟨u, rfl, rx⟩ := vals1 r
  cases rx
  obtain ⟨its, rv, pl, hz⟩ := I.list hq
  obtain ⟨zs, rfl, rfl⟩ := ints_items rv
  have hl : s.heap.IsList p (intItems zs.toArray) := by
    have e : (zs.map fun p => Value.int p.1 p.2).toArray = intItems zs.toArray := by simp [intItems]
    rw [← e]
    exact pl.isList
  refine sum_intListG (I.ok.hd hc) hl fun h' tk t' hk => ?_
  refine ⟨.int _, H, I.kept (t' := tk) hk, ⟨t', ?_⟩, q⟩
  rw [preSum_eq, List.take_of_length_le (by simp)]
/-- xs[lo:hi:step] of the layer's values -/
def pickV (xs : List V) (lo hi st : Option Int) : List V :=
  (sliceRange (sliceBounds lo hi st xs.length).1 (sliceBounds lo hi st xs.length).2.1 (sliceBounds lo hi st xs.length).2.2).filterMap (xs[·]?)
theorem pick_vals {xs : List V} {lo hi st : Option Int} : ∀ its : List Value, Vals xs its → Vals (pickV xs lo hi st) (slicePick its.toArray lo hi st).toList := fun its r => by
  unfold pickV slicePick
  rw [List.size_toArray, r.length]
  generalize sliceRange _ _ _ = l
  induction l with
  | nil => exact .nil
  | cons i l ih =>
    cases h : xs[i]? with
    | none =>
      have := r.none_of h
      simpa [List.filterMap_cons, h, this] using ih
    | some x =>
      obtain ⟨u, hu, ru⟩ := r.get h
      have ih' : Vals (l.filterMap (xs[·]?)) (l.filterMap (its[·]?)) := by simpa using ih
      have : Vals (x :: l.filterMap (xs[·]?)) (u :: l.filterMap (its[·]?)) := .cons ru ih'
      simpa [List.filterMap_cons, h, hu] using this
theorem pick_len (xs : List V) (lo hi st : Option Int) : (pickV xs lo hi st).length ≤ xs.length := by
  have h := pick_vals (xs := xs) (lo := lo) (hi := hi) (st := st)
  have e : Vals (List.replicate xs.length V.non) (List.replicate xs.length Value.none) := by
    generalize xs.length = n
    induction n with
    | zero => exact .nil
    | succ n ih => exact .cons rfl ih
  have h2 := pick_vals (lo := lo) (hi := hi) (st := st) _ e
  have h3 := h2.length
  have h4 := slicePick_size_le (List.replicate xs.length Value.none).toArray lo hi st
  have h5 : (List.replicate xs.length Value.none).toArray.size = xs.length := by simp
  rw [h5] at h4
  have e1 : (pickV (List.replicate xs.length V.non) lo hi st).length = (pickV xs lo hi st).length := by
    unfold pickV
    rw [List.length_replicate]
    generalize sliceRange _ _ _ = l
    induction l with
    | nil => rfl
    | cons i l ih =>
      by_cases hi : i < xs.length
      · simp [List.filterMap_cons, hi, ih]
      · simp [List.filterMap_cons, hi, ih]
  rw [← e1, h3]
  exact h4
theorem pick_mem {xs : List V} {lo hi st : Option Int} {v : V} (h : v ∈ pickV xs lo hi st) : v ∈ xs := by
  unfold pickV at h
  obtain ⟨i, _, e⟩ := List.mem_filterMap.mp h
  exact List.mem_of_getElem? e
end
end L2
namespace L2
open PySem PySem.Spec PyProof.Rows

/-! ### lists of pairs as tables -/
section
variable {κ : Type} [DecidableEq κ]
def valV (kvs : List (κ × V)) (k : κ) : Option V := (kvs.find? fun kv => decide (kv.1 = k)).map (·.2)
/-- in its place, or at the end -/
def putK (kvs : List (κ × V)) (k : κ) (v : V) : List (κ × V) :=
  if (kvs.any fun kv => decide (kv.1 = k)) = true then kvs.map (fun kv => if kv.1 = k then (kv.1, v) else kv) else kvs ++ [(k, v)]
def dropK (kvs : List (κ × V)) (k : κ) : List (κ × V) := kvs.filter fun kv => decide (kv.1 ≠ k)

theorem valV_nil {k : κ} : valV ([] : List (κ × V)) k = none := rfl
theorem valV_pos {p : κ × V} {r : List (κ × V)} {k : κ} (e : p.1 = k) : valV (p :: r) k = some p.2 := by simp [valV, List.find?_cons, e]
theorem valV_neg {p : κ × V} {r : List (κ × V)} {k : κ} (e : ¬ p.1 = k) : valV (p :: r) k = valV r k := by simp [valV, List.find?_cons, e]
theorem valV_any (k : κ) : ∀ kvs : List (κ × V), (kvs.any fun kv => decide (kv.1 = k)) = (valV kvs k).isSome
  | [] => rfl
  | p :: r => by
    rw [List.any_cons]
    by_cases e : p.1 = k
    · simp only [valV_pos e, decide_eq_true e, Bool.true_or, Option.isSome_some]
    · rw [valV_neg e, decide_eq_false e, Bool.false_or]; exact valV_any k r
theorem valV_map (k j : κ) (y : V) : ∀ kvs : List (κ × V), valV (kvs.map fun kv => if kv.1 = k then (kv.1, y) else kv) j = (valV kvs j).map fun x => if j = k then y else x
  | [] => rfl
  | p :: r => by
    have ih := valV_map k j y r
    rw [List.map_cons]
    by_cases h : p.1 = k
    · rw [if_pos h]
      by_cases e : p.1 = j
      · rw [valV_pos (p := (p.1, y)) e, valV_pos e, Option.map_some, if_pos (e.symm.trans h)]
      · rw [valV_neg (p := (p.1, y)) e, valV_neg e, ih]
    · rw [if_neg h]
      by_cases e : p.1 = j
      · rw [valV_pos (p := p) e, valV_pos e, Option.map_some, if_neg (fun z => h (e.trans z))]
      · rw [valV_neg (p := p) e, valV_neg e, ih]
theorem valV_snoc (k j : κ) (y : V) : ∀ kvs : List (κ × V), valV kvs k = none → valV (kvs ++ [(k, y)]) j = if j = k then some y else valV kvs j
  | [], _ => by
    by_cases e : k = j
    · rw [if_pos e.symm]; exact valV_pos (p := (k, y)) e
    · rw [if_neg (fun z => e z.symm)]; exact valV_neg (p := (k, y)) e
  | p :: r, hn => by
    rw [List.cons_append]
    have hk : ¬ p.1 = k := fun z => by rw [valV_pos z] at hn; cases hn
    rw [valV_neg hk] at hn
    have ih := valV_snoc k j y r hn
    by_cases e : p.1 = j
    · rw [valV_pos e, valV_pos e, if_neg (fun z => hk (e.trans z))]
    · rw [valV_neg e, valV_neg e, ih]
theorem valV_put (kvs : List (κ × V)) (k j : κ) (y : V) : valV (putK kvs k y) j = if j = k then some y else valV kvs j := by
  unfold putK
  by_cases a : (kvs.any fun kv => decide (kv.1 = k)) = true
  · rw [if_pos a, valV_map]
    rw [valV_any] at a
    by_cases e : j = k
    · obtain ⟨x, hx⟩ := Option.isSome_iff_exists.mp a
      rw [if_pos e, e, hx, Option.map_some, if_pos rfl]
    · rw [if_neg e]
      cases valV kvs j with
      | none => rfl
      | some x => rw [Option.map_some, if_neg e]
  · rw [if_neg a]
    refine valV_snoc k j y kvs ?_
    rw [valV_any] at a
    cases q : valV kvs k with
    | none => rfl
    | some x => rw [q] at a; exact (a rfl).elim
theorem length_putK (kvs : List (κ × V)) (k : κ) (v : V) : (putK kvs k v).length ≤ kvs.length + 1 := by
  unfold putK
  split
  · rw [List.length_map]; omega
  · rw [List.length_append, List.length_cons, List.length_nil]; omega
theorem putK_new {kvs : List (κ × V)} {k : κ} (v : V) (h : valV kvs k = none) : putK kvs k v = kvs ++ [(k, v)] := by
  unfold putK
  rw [valV_any, h]
  exact if_neg (by decide)

theorem RelO.isSome_eq {o : Option V} {u : Option Value} (r : RelO o u) : o.isSome = u.isSome := by
  cases o with
  | none => cases u with
    | none => rfl
    | some _ => exact (show False from r).elim
  | some _ => cases u with
    | none => exact (show False from r).elim
    | some _ => rfl
theorem RelO.getD {o : Option V} {u : Option Value} {d : V} {d' : Value} (r : RelO o u) (rd : RelV d d') : RelV (o.getD d) (u.getD d') := by
  cases o with
  | none => cases u with
    | none => exact rd
    | some _ => exact (show False from r).elim
  | some _ => cases u with
    | none => exact (show False from r).elim
    | some _ => exact r

/-- raw tables of the same keys -/
theorem KV.val {kvs : List (κ × V)} {vs : List (κ × Value)} (r : KV kvs vs) (k : κ) : RelO (valV kvs k) (valueAt vs k) := by
  unfold KV at r
  induction r with
  | nil => exact True.intro
  | @cons p q ps qs h t ih =>
    obtain ⟨h1, h2⟩ := h
    by_cases e : p.1 = k
    · have e' : q.1 = k := h1.symm.trans e
      have b : valueAt (q :: qs) k = some q.2 := by simp [valueAt, List.find?_cons, e']
      rw [valV_pos e, b]; exact h2
    · have e' : ¬ q.1 = k := fun z => e (h1.trans z)
      have b : valueAt (q :: qs) k = valueAt qs k := by simp [valueAt, List.find?_cons, e']
      rw [valV_neg e, b]; exact ih
theorem KV.any {kvs : List (κ × V)} {vs : List (κ × Value)} (r : KV kvs vs) (k : κ) : (kvs.any fun kv => decide (kv.1 = k)) = vs.any fun kv => decide (kv.1 = k) := by
  unfold KV at r
  induction r with
  | nil => rfl
  | cons h t ih => rw [List.any_cons, List.any_cons, ih, h.1]
theorem KV.repl {kvs : List (κ × V)} {vs : List (κ × Value)} (r : KV kvs vs) (k : κ) {y : V} {u : Value} (ry : RelV y u) :
    KV (kvs.map fun kv => if kv.1 = k then (kv.1, y) else kv) (vs.map fun kv => if kv.1 = k then (kv.1, u) else kv) := by
  unfold KV at r ⊢
  induction r with
  | nil => exact .nil
  | @cons p q ps qs h t ih =>
    rw [List.map_cons, List.map_cons]
    refine .cons ?_ ih
    obtain ⟨h1, h2⟩ := h
    by_cases e : p.1 = k
    · rw [if_pos e, if_pos (h1.symm.trans e)]; exact ⟨h1, ry⟩
    · rw [if_neg e, if_neg (fun z => e (h1.trans z))]; exact ⟨h1, h2⟩
theorem KV.put {kvs : List (κ × V)} {vs : List (κ × Value)} (r : KV kvs vs) (k : κ) {y : V} {u : Value} (ry : RelV y u) : KV (putK kvs k y) (stored vs k u) := by
  unfold putK stored
  rw [r.any k]
  by_cases e : (vs.any fun kv => decide (kv.1 = k)) = true
  · rw [if_pos e, if_pos e]; exact r.repl k ry
  · rw [if_neg e, if_neg e]; exact Paired.snoc r ⟨rfl, ry⟩
theorem KV.drop {kvs : List (κ × V)} {vs : List (κ × Value)} (r : KV kvs vs) (k : κ) : KV (dropK kvs k) (without vs k) := by
  unfold KV at r ⊢
  unfold dropK without
  induction r with
  | nil => exact .nil
  | @cons p q ps qs h t ih =>
    obtain ⟨h1, h2⟩ := h
    rw [List.filter_cons, List.filter_cons]
    by_cases e : p.1 = k
    · have a : ¬ decide (p.1 ≠ k) = true := by simp [e]
      have b : ¬ decide (q.1 ≠ k) = true := by simp [h1.symm.trans e]
      rw [if_neg a, if_neg b]; exact ih
    · have e' : ¬ q.1 = k := fun z => e (h1.trans z)
      have a : decide (p.1 ≠ k) = true := by simp [e]
      have b : decide (q.1 ≠ k) = true := by simp [e']
      rw [if_pos a, if_pos b]; exact .cons ⟨h1, h2⟩ ih
theorem KV.keys {kvs : List (κ × V)} {vs : List (κ × Value)} (r : KV kvs vs) : kvs.map (·.1) = vs.map (·.1) := by
  unfold KV at r
  induction r with
  | nil => rfl
  | cons h t ih => rw [List.map_cons, List.map_cons, ih, h.1]
theorem KV.length {kvs : List (κ × V)} {vs : List (κ × Value)} (r : KV kvs vs) : kvs.length = vs.length := Paired.length r
theorem dropK_le (kvs : List (κ × V)) (k : κ) : (dropK kvs k).length ≤ kvs.length := List.length_filter_le _ _
end


/-! ### a tracked dict, its keys ints and texts or tuples of these -/
theorem kV_is {P : Program} {w : World} {k : Key} {u : Value} (r : RelV (kV k) u) : (mixKind P w).is k u = true := by
  cases k with
  | inl i => obtain ⟨t, e⟩ := (show ∃ t, u = Value.int i t from r); subst e; exact mixKind_int P w i t
  | inr x => obtain ⟨t, e⟩ := (show ∃ t, u = Value.str x t from r); subst e; exact mixKind_str P w x t
theorem kV_inj {a b : Key} (e : kV a = kV b) : a = b := by
  cases a with
  | inl i => cases b with
    | inl j => have e' : V.int i = V.int j := e; injection e' with e'; rw [e']
    | inr y => exact nomatch (show V.int i = V.str y from e)
  | inr x => cases b with
    | inl j => exact nomatch (show V.str x = V.int j from e)
    | inr y => have e' : V.str x = V.str y := e; injection e' with e'; rw [e']
theorem kVs_inj : ∀ {a b : List Key}, a.map kV = b.map kV → a = b
  | [], [], _ => rfl
  | [], _ :: _, e => by simp at e
  | _ :: _, [], e => by simp at e
  | x :: xs, y :: ys, e => by
    rw [List.map_cons, List.map_cons] at e
    injection e with e1 e2
    rw [kV_inj e1, kVs_inj e2]
theorem items_are {P : Program} {w : World} : ∀ {ks : List Key} {us : List Value}, Vals (ks.map kV) us → ItemsAre (mixKind P w) ks us
  | [], _, r => by rw [List.map_nil] at r; cases r; exact .nil
  | k :: ks, _, r => by
    rw [List.map_cons] at r
    cases r with
    | cons h t => exact .cons (kV_is h) (items_are t)

/-- raw entries of a dict with tuple keys -/
abbrev KT (H : Hp) : List (List Key × V) → List (List Key × Addr × Value) → Prop := Paired fun p q => p.1 = q.1 ∧ H q.2.1 = some (.tup (p.1.map kV)) ∧ RelV p.2 q.2.2
theorem KT.val {H : Hp} {kvs : List (List Key × V)} {xs : List (List Key × Addr × Value)} (r : KT H kvs xs) (k : List Key) : RelO (valV kvs k) ((atKey xs k).map (·.2)) := by
  induction r with
  | nil => exact True.intro
  | @cons p q ps qs h t ih =>
    obtain ⟨h1, _, h2⟩ := h
    by_cases e : p.1 = k
    · have e' : q.1 = k := h1.symm.trans e
      have b : atKey (q :: qs) k = some q.2 := by simp [atKey, List.find?_cons, e']
      rw [valV_pos e, b]; exact h2
    · have e' : ¬ q.1 = k := fun z => e (h1.trans z)
      have b : atKey (q :: qs) k = atKey qs k := by simp [atKey, List.find?_cons, e']
      rw [valV_neg e, b]; exact ih
theorem KT.repl {H : Hp} {kvs : List (List Key × V)} {xs : List (List Key × Addr × Value)} (r : KT H kvs xs) (k : List Key) {y : V} {u : Value} (ry : RelV y u) :
    KT H (kvs.map fun kv => if kv.1 = k then (kv.1, y) else kv) (xs.map (putAt k u)) := by
  induction r with
  | nil => exact .nil
  | @cons p q ps qs h t ih =>
    rw [List.map_cons, List.map_cons]
    refine .cons ?_ ih
    obtain ⟨h1, h2, h3⟩ := h
    unfold putAt
    by_cases e : p.1 = k
    · rw [if_pos e, if_pos (h1.symm.trans e)]; exact ⟨h1, h2, ry⟩
    · rw [if_neg e, if_neg (fun z => e (h1.trans z))]; exact ⟨h1, h2, h3⟩
theorem KT.put {H : Hp} {kvs : List (List Key × V)} {xs : List (List Key × Addr × Value)} (r : KT H kvs xs) (k : List Key) {b : Addr} {y : V} {u : Value} (hb : H b = some (.tup (k.map kV))) (ry : RelV y u) :
    KT H (putK kvs k y) (storedH xs k b u) := by
  have e : (kvs.any fun kv => decide (kv.1 = k)) = (atKey xs k).isSome := by
    rw [valV_any, (r.val k).isSome_eq, Option.isSome_map]
  unfold putK storedH
  rw [e]
  by_cases q : (atKey xs k).isSome = true
  · rw [if_pos q, if_pos q]; exact r.repl k ry
  · rw [if_neg q, if_neg q]; exact Paired.snoc r ⟨rfl, hb, ry⟩
theorem KT.keeps {H H' : Hp} {kvs : List (List Key × V)} {xs : List (List Key × Addr × Value)} (r : KT H kvs xs) (ht : ∀ b ys, H b = some (.tup ys) → H' b = some (.tup ys)) : KT H' kvs xs :=
  Paired.mapP r fun _ _ z => ⟨z.1, ht _ _ z.2.1, z.2.2⟩

section
variable {P : Program} {w : World} {H : Hp} {h : Heap} {a : Addr}
theorem rd_of {u : HO} (ok : HOk P w H h) (e : Rd H a u) : ObjOk P w H h a u := e.ok ok
theorem dk_rd {kvs : List (Key × V)} (ok : HOk P w H h) (e : Rd H a (.dK kvs)) : kvs.length ≤ sizeLine ∧ (a == sysModules) = false ∧ ∃ vs, KV kvs vs ∧ h.DictOf (mixKind P w) a vs :=
  show ObjOk P w H h a (.dK kvs) from rd_of ok e
theorem dk_of {kvs : List (Key × V)} (ok : HOk P w H h) (e : H a = some (.dK kvs)) : kvs.length ≤ sizeLine ∧ (a == sysModules) = false ∧ ∃ vs, KV kvs vs ∧ h.DictOf (mixKind P w) a vs := dk_rd ok (.inl e)
/-- a tracked tuple of ints and texts is a key -/
theorem key_of {ks : List Key} (ok : HOk P w H h) (e : H a = some (.tup (ks.map kV))) : (tupleKind (mixKind P w)).is h ks a := by
  obtain ⟨_, its, r, o, h1, h2, n, h3⟩ := (show ObjOk P w H h a (.tup (ks.map kV)) from ok a _ e)
  exact ⟨o, its.toArray, n, h1, h2, h3, by simpa using items_are r⟩
theorem dt_rd {kvs : List (List Key × V)} (ok : HOk P w H h) (e : Rd H a (.dT kvs)) : kvs.length ≤ sizeLine ∧ (a == sysModules) = false ∧
    ∃ xs, KT H kvs xs ∧ h.DictOfH (tupleKind (mixKind P w)) a xs := by
  obtain ⟨z, y, xs, r, o, es, ep, h1, h2, h3, h4, h5⟩ := (show ObjOk P w H h a (.dT kvs) from rd_of ok e)
  refine ⟨z, y, xs, r, o, es, ep, h1, h2, h3, h4, fun x hx => ?_, h5⟩
  have all : ∀ {l : List (List Key × V)} {m : List (List Key × Addr × Value)}, KT H l m → ∀ x ∈ m, (tupleKind (mixKind P w)).is h x.1 x.2.1 := by
    intro l m q
    induction q with
    | nil => intro x hx; exact nomatch hx
    | @cons p q ps qs hq t ih =>
      intro x hx
      rcases List.mem_cons.mp hx with e | hx
      · subst e
        exact key_of ok (by rw [← hq.1]; exact hq.2.1)
      · exact ih x hx
  exact all r x hx
theorem dt_of {kvs : List (List Key × V)} (ok : HOk P w H h) (e : H a = some (.dT kvs)) : kvs.length ≤ sizeLine ∧ (a == sysModules) = false ∧
    ∃ xs, KT H kvs xs ∧ h.DictOfH (tupleKind (mixKind P w)) a xs := dt_rd ok (.inl e)
end

/-- what the dict at a holds at the key y -/
def DGet (H : Hp) (a : Addr) (y : V) (r : Option V) : Prop :=
  (∃ kvs k, Rd H a (.dK kvs) ∧ y = kV k ∧ r = valV kvs k) ∨ ∃ kvs k b, Rd H a (.dT kvs) ∧ y = .ref b ∧ H b = some (.tup (k.map kV)) ∧ r = valV kvs k
/-- the heap behind a[y] = v -/
def DPut (H : Hp) (a : Addr) (y v : V) (H' : Hp) : Prop :=
  (∃ kvs k, H a = some (.dK kvs) ∧ y = kV k ∧ kvs.length < sizeLine ∧ H' = upd H a (.dK (putK kvs k v))) ∨
  ∃ kvs k b, H a = some (.dT kvs) ∧ y = .ref b ∧ H b = some (.tup (k.map kV)) ∧ kvs.length < sizeLine ∧ H' = upd H a (.dT (putK kvs k v))
theorem DGet.k {H : Hp} {a : Addr} {kvs : List (Key × V)} {k : Key} (e : H a = some (.dK kvs)) : DGet H a (kV k) (valV kvs k) := .inl ⟨kvs, k, .inl e, rfl, rfl⟩
theorem DGet.t {H : Hp} {a b : Addr} {kvs : List (List Key × V)} {k : List Key} (e : H a = some (.dT kvs)) (eb : H b = some (.tup (k.map kV))) : DGet H a (.ref b) (valV kvs k) := .inr ⟨kvs, k, b, .inl e, rfl, eb, rfl⟩
theorem DPut.k {H : Hp} {a : Addr} {kvs : List (Key × V)} {k : Key} {v : V} (e : H a = some (.dK kvs)) (hl : kvs.length < sizeLine) : DPut H a (kV k) v (upd H a (.dK (putK kvs k v))) := .inl ⟨kvs, k, e, rfl, hl, rfl⟩
theorem DPut.t {H : Hp} {a b : Addr} {kvs : List (List Key × V)} {k : List Key} {v : V} (e : H a = some (.dT kvs)) (eb : H b = some (.tup (k.map kV))) (hl : kvs.length < sizeLine) :
    DPut H a (.ref b) v (upd H a (.dT (putK kvs k v))) := .inr ⟨kvs, k, b, e, rfl, eb, hl, rfl⟩


section
variable {X : Cx} {pins : List (Addr × Obj)} {σ : St} {H : Hp} {s : Shared} {a : Addr} {y v : V} {u r : Value} {o : Option V} {A : Around} {E : Value → Shared → Prop}

theorem Inv.big (I : Inv X pins σ H s) : sysModules < s.heap.objs.size := by
  have h : mainGlobals < s.heap.objs.size := (I.mod.glob.keeps I.bk).lt
  exact Nat.lt_trans (by decide) h

/-- d[y], there -/
theorem d_getItem {Q : Value → Shared → Prop} (hu : A.units + 1 < cLine) (I : Inv X pins σ H s) (g : DGet H a y (some v)) (ry : RelV y u) (h : ∀ w' s', Inv X pins σ H s' → RelV v w' → Q w' s') :
    wpAny (model X.prog X.w) A (getItem (.ref a) u) Q E s := by
  rcases g with ⟨kvs, k, e, ey, l⟩ | ⟨kvs, k, b, e, ey, eb, l⟩
  · subst ey
    obtain ⟨z, hd, vs, rel, dd⟩ := dk_rd I.hok e
    obtain ⟨w', hw, rw'⟩ := RelO.some_of (v := v) (o := valueAt vs k) (by rw [l]; exact rel.val k)
    exact wpAny_getItem_of (kV_is ry) dd.mapOf hw (h w' _ (I.tok _) rw')
  · subst ey
    cases (show u = Value.ref b from ry)
    obtain ⟨z, hd, xs, rel, dd⟩ := dt_rd I.hok e
    obtain ⟨w', hw, rw'⟩ := RelO.some_of (v := v) (o := (atKey xs k).map (·.2)) (by rw [l]; exact rel.val k)
    obtain ⟨p, hp, hp2⟩ := Option.map_eq_some_iff.mp hw
    refine wpAny_getItem_heap (tupleKind_room_in1 hu) (key_of I.hok eb) dd hp ?_
    rw [hp2]
    exact h w' _ (I.tok _) rw'
/-- y in d -/
theorem d_in {Q : Value → Shared → Prop} (hu : A.units + 1 < cLine) (I : Inv X pins σ H s) (g : DGet H a y o) (ry : RelV y u) (h : ∀ s', Inv X pins σ H s' → Q (.bool o.isSome) s') :
    wpAny (model X.prog X.w) A (compareOp .In u (.ref a)) Q E s := by
  rcases g with ⟨kvs, k, e, ey, l⟩ | ⟨kvs, k, b, e, ey, eb, l⟩
  · subst ey
    obtain ⟨z, hd, vs, rel, dd⟩ := dk_rd I.hok e
    refine wpAny_in_of (kV_is ry) hd dd.mapOf ?_
    rw [← (rel.val k).isSome_eq, ← l]
    exact h _ (I.tok _)
  · subst ey
    cases (show u = Value.ref b from ry)
    obtain ⟨z, hd, xs, rel, dd⟩ := dt_rd I.hok e
    refine wpAny_in_heap (tupleKind_room_in1 hu) (key_of I.hok eb) hd dd ?_
    have q := (rel.val k).isSome_eq
    rw [Option.isSome_map] at q
    rw [← q, ← l]
    exact h _ (I.tok _)
theorem d_notIn {Q : Value → Shared → Prop} (hu : A.units + 1 < cLine) (I : Inv X pins σ H s) (g : DGet H a y o) (ry : RelV y u) (h : ∀ s', Inv X pins σ H s' → Q (.bool (!o.isSome)) s') :
    wpAny (model X.prog X.w) A (compareOp .NotIn u (.ref a)) Q E s := by
  rcases g with ⟨kvs, k, e, ey, l⟩ | ⟨kvs, k, b, e, ey, eb, l⟩
  · subst ey
    obtain ⟨z, hd, vs, rel, dd⟩ := dk_rd I.hok e
    refine wpAny_notIn_of (kV_is ry) hd dd.mapOf ?_
    rw [← (rel.val k).isSome_eq, ← l]
    exact h _ (I.tok _)
  · subst ey
    cases (show u = Value.ref b from ry)
    obtain ⟨z, hd, xs, rel, dd⟩ := dt_rd I.hok e
    refine wpAny_notIn_heap (tupleKind_room_in1 hu) (key_of I.hok eb) hd dd ?_
    have q := (rel.val k).isSome_eq
    rw [Option.isSome_map] at q
    rw [← q, ← l]
    exact h _ (I.tok _)
/-- a dict's object is replaced -/
theorem d_write {h' : Heap} {t' : Nat} {ob : HO} (I : Inv X pins σ H s) (mu : Mut (H a)) (hs : Heap.SameBut a s.heap h') (he : ∃ q, h'.get? a = some q) (new : ObjOk X.prog X.w (upd H a ob) h' a ob) :
    Inv X pins σ (upd H a ob) { s with heap := h', toks := t' } :=
  I.write (x := a) (e := a) mu (.inl rfl) (fun b q hb z => (hs.2 b hb).trans z) he new
theorem dk_new {P : Program} {w : World} {H' : Hp} {h' : Heap} {kvs : List (Key × V)} {vs : List (Key × Value)} (z : kvs.length ≤ sizeLine) (hd : (a == sysModules) = false) (rel : KV kvs vs) (dd : h'.DictOf (mixKind P w) a vs) :
    ObjOk P w H' h' a (.dK kvs) := ⟨z, hd, vs, rel, dd⟩
/-- d[y] = v -/
theorem d_setItem {H' : Hp} {Q : Unit → Shared → Prop} (hu : A.units + 1 < cLine) (I : Inv X pins σ H s) (g : DPut H a y v H') (ry : RelV y u) (rv : RelV v r) (h : ∀ s', Inv X pins σ H' s' → Q () s') :
    wpAny (model X.prog X.w) A (setItem (.ref a) u r) Q E s := by
  rcases g with ⟨kvs, k, e, ey, l, eH⟩ | ⟨kvs, k, b, e, ey, eb, l, eH⟩
  · subst ey eH
    obtain ⟨z, hd, vs, rel, dd⟩ := dk_of I.hok e
    have hz : vs.length ≤ sizeLine := by rw [← rel.length]; exact z
    have hl : (putK kvs k v).length ≤ sizeLine := by have := length_putK kvs k v; omega
    refine wpAny_setItem_pairs (hsz := hz) (kV_is ry) dd fun h' dd' hs => h _ ?_
    have he : ∃ q, h'.get? a = some q := let ⟨q, _, _, hq, _⟩ := dd'; ⟨q, hq⟩
    exact d_write I (by rw [e]; exact True.intro) hs he (dk_new hl hd (rel.put k rv) dd')
  · subst ey eH
    cases (show u = Value.ref b from ry)
    obtain ⟨z, hd, xs, rel, dd⟩ := dt_of I.hok e
    have hz : xs.length ≤ sizeLine := by rw [← Paired.length rel]; exact z
    have hl : (putK kvs k v).length ≤ sizeLine := by have := length_putK kvs k v; omega
    refine wpAny_setItem_heap (hsz := hz) (tupleKind_room_in1 hu) (key_of I.hok eb) dd fun h' dd' hs => h _ ?_
    obtain ⟨q, es, ep, hq, h2, h3, h4, _, h5⟩ := dd'
    refine d_write I (by rw [e]; exact True.intro) hs ⟨q, hq⟩ ⟨hl, hd, _, (rel.put k eb rv).keeps fun c ys ec => ?_, q, es, ep, hq, h2, h3, h4, h5⟩
    rw [upd_ne (ne_of ec e (fun z => nomatch z))]
    exact ec
end

section
variable {X : Cx} {pins : List (Addr × Obj)} {σ : St} {H : Hp} {s : Shared} {a : Addr} {kvs : List (Key × V)} {k : Key} {u : Value} {A : Around} {E : Value → Shared → Prop}
/-- del d[k] -/
theorem d_delItem {Q : Unit → Shared → Prop} (I : Inv X pins σ H s) (e : H a = some (.dK kvs)) (ry : RelV (kV k) u) (l : (valV kvs k).isSome = true) (h : ∀ s', Inv X pins σ (upd H a (.dK (dropK kvs k))) s' → Q () s') :
    wpAny (model X.prog X.w) A (delItem (.ref a) u) Q E s := by
  obtain ⟨z, hd, vs, rel, dd⟩ := dk_of I.hok e
  refine wpAny_delItem_slot dd.typeIs (by decide) PySem.F.slot_dict_delitem
    (call_meetsIn PySem.F.slot_dict_delitem dd.typeIs PySem.F.entry_dict_delitem (PySem.F.args_dict_delitem_2 _ _) (meets_dict_delitem_pairs (mixKind X.prog X.w) a (kV_is ry)) ⟨vs, dd, by rw [← rel.length]; exact z, by rw [← (rel.val k).isSome_eq]; exact l, fun h' dd' hs => h _ ?_⟩)
  have he : ∃ q, h'.get? a = some q := let ⟨q, _, _, hq, _⟩ := dd'; ⟨q, hq⟩
  exact d_write I (by rw [e]; exact True.intro) hs he (dk_new (Nat.le_trans (dropK_le kvs k) z) hd (rel.drop k) dd')
/-- d.pop(k[, x]), there -/
theorem d_pop {v : V} {more : List Value} {Q : Value → Shared → Prop} (I : Inv X pins σ H s) (e : H a = some (.dK kvs)) (ry : RelV (kV k) u) (l : valV kvs k = some v) (hm : more = [] ∨ ∃ x, more = [x])
    (h : ∀ w' s', Inv X pins σ (upd H a (.dK (dropK kvs k))) s' → RelV v w' → Q w' s') : wpAny (model X.prog X.w) A (call (.builtin "dict.pop") (.ref a :: u :: more)) Q E s := by
  obtain ⟨z, hd, vs, rel, dd⟩ := dk_of I.hok e
  obtain ⟨w', hw, rw'⟩ := RelO.some_of (v := v) (o := valueAt vs k) (by rw [← l]; exact rel.val k)
  have hp : (keyPart u).isSome = true := by
    cases k with
    | inl i => obtain ⟨t, q⟩ := (show ∃ t, u = Value.int i t from ry); subst q; rfl
    | inr x => obtain ⟨t, q⟩ := (show ∃ t, u = Value.str x t from ry); subst q; rfl
  have ha : argsOk "dict.pop" ⟨.ref a :: u :: more, []⟩ := by
    rcases hm with q | ⟨x, q⟩
    · subst q; exact PySem.F.args_dict_pop_2 _ _
    · subst q; exact PySem.F.args_dict_pop_3 _ _ _
  refine call_meetsIn PySem.F.slot_dict_pop dd.typeIs PySem.F.entry_dict_pop ha (meets_dict_pop_there (mixKind X.prog X.w) a (kV_is ry) more hm hp)
    ⟨vs, w', dd, by rw [← rel.length]; exact z, hw, fun h' dd' hs => h w' _ ?_ rw'⟩
  have he : ∃ q, h'.get? a = some q := let ⟨q, _, _, hq, _⟩ := dd'; ⟨q, hq⟩
  exact d_write I (by rw [e]; exact True.intro) hs he (dk_new (Nat.le_trans (dropK_le kvs k) z) hd (rel.drop k) dd')
/-- d.pop(k, x), not there -/
theorem d_popD {r : Value} {Q : Value → Shared → Prop} (I : Inv X pins σ H s) (e : H a = some (.dK kvs)) (ry : RelV (kV k) u) (l : valV kvs k = none) (h : ∀ s', Inv X pins σ H s' → Q r s') :
    wpAny (model X.prog X.w) A (call (.builtin "dict.pop") [.ref a, u, r]) Q E s := by
  obtain ⟨z, hd, vs, rel, dd⟩ := dk_of I.hok e
  have hn : valueAt vs k = none := RelO.none_of (by rw [← l]; exact rel.val k)
  have hp : (keyPart u).isSome = true := by
    cases k with
    | inl i => obtain ⟨t, q⟩ := (show ∃ t, u = Value.int i t from ry); subst q; rfl
    | inr x => obtain ⟨t, q⟩ := (show ∃ t, u = Value.str x t from ry); subst q; rfl
  exact call_meetsIn PySem.F.slot_dict_pop dd.typeIs PySem.F.entry_dict_pop (PySem.F.args_dict_pop_3 _ _ _) (meets_dict_pop_default (mixKind X.prog X.w) a (kV_is ry) hd hp r) ⟨vs, dd, hn, h _ (I.tok _)⟩
/-- d.clear() -/
theorem d_clear {Q : Value → Shared → Prop} (I : Inv X pins σ H s) (e : H a = some (.dK kvs)) (h : ∀ s', Inv X pins σ (upd H a (.dK [])) s' → Q .none s') : wpAny (model X.prog X.w) A (call (.builtin "dict.clear") [.ref a]) Q E s := by
  obtain ⟨z, hd, vs, rel, dd⟩ := dk_of I.hok e
  refine call_meetsIn PySem.F.slot_dict_clear dd.typeIs PySem.F.entry_dict_clear (PySem.F.args_dict_clear_1 _) (meets_dict_clear (mixKind X.prog X.w) a) ⟨vs, dd, by rw [← rel.length]; exact z, fun h' dd' hs => h _ ?_⟩
  have he : ∃ q, h'.get? a = some q := let ⟨q, _, _, hq, _⟩ := dd'; ⟨q, hq⟩
  exact d_write (t' := s.toks) I (by rw [e]; exact True.intro) hs he (dk_new (Nat.zero_le _) hd .nil dd')
/-- len(d) -/
theorem d_len {Q : Value → Shared → Prop} (I : Inv X pins σ H s) (e : Rd H a (.dK kvs)) (h : ∀ t s', Inv X pins σ H s' → Q (.int kvs.length t) s') : wpAny (model X.prog X.w) A (call (.builtin "len") [.ref a]) Q E s := by
  obtain ⟨z, hd, vs, rel, dd⟩ := dk_rd I.hok e
  refine call_len_dict hd dd (by rw [← rel.length]; rw [sizeLine_eq] at z; omega) ?_
  rw [← rel.length]
  exact h _ _ (I.tok _)
/-- if d -/
theorem d_truth {Q : Bool → Shared → Prop} (I : Inv X pins σ H s) (e : Rd H a (.dK kvs)) (h : ∀ s', Inv X pins σ H s' → Q (!kvs.isEmpty) s') : wpAny (model X.prog X.w) A (truthy (.ref a)) Q E s := by
  obtain ⟨z, hd, vs, rel, dd⟩ := dk_rd I.hok e
  refine wpAny_truthy_dict hd dd (by rw [← rel.length]; rw [sizeLine_eq] at z; omega) ?_
  have q : kvs.isEmpty = vs.isEmpty := by cases rel <;> rfl
  rw [← q]
  exact h _ (I.tok _)
end


/-! ### readings and rules -/
/-- the element of a subscription, not a slice -/
def NoSl (i : Expr) : Prop := ∀ ov iv, subscripted i false ov iv = operate [ov, iv] (getItem ov iv)
theorem subD_of {prog : Program} {w : World} {A : Around} {E : Value → Shared → Prop} {s : Shared} {env : Env} {value slice : Expr} {pos : Pos} {T id : String} {Q : Value → Shared → Prop}
    (hl : typeLookup (.type T) "__getitem__" = pure (some (.builtin id))) (hs : NoSl slice)
    (h : wpAny (model prog w) A (eval value env) (fun o s₁ => wpAny (model prog w) A (eval slice env) (fun i s₂ => s₂.TypeIs o T ∧ wpAny (model prog w) A (getItem o i) Q E s₂) E s₁) E s) :
    wpAny (model prog w) A (eval (.Subscript value slice pos) env) Q E s := by
  refine Subscript_ (wpAny_mono h (fun o s₁ h₁ => wpAny_mono h₁ (fun i s₂ h₂ => ?_) fun _ _ x => x) fun _ _ x => x)
  obtain ⟨hT, h₂⟩ := h₂
  unfold subscriptTail
  refine wpAny_bind ?_
  rw [getitemInPython_of_ne hT.not_modules]
  refine wpAny_bind (wpAny_specialOf hT hl ?_)
  have fin : wpAny (model prog w) A (subscripted slice false o i) (fun r s₃ => wpAny (model prog w) A (letTemporaryGo value o r >>= fun _ => pure r) Q E s₃) E s₂ := by
    rw [hs o i]
    exact wpAny_operating (wpAny_mono h₂ (fun r s₃ h₃ => wpAny_bind (wpAny_letTemporaryGo (wpAny_pure h₃))) fun _ _ x => x)
  first
    | exact wpAny_pure (wpAny_bind fin)
    | exact wpAny_bind (wpAny_pure (wpAny_bind fin))
    | exact wpAny_bind fin

theorem dict_typeIs {X : Cx} {pins : List (Addr × Obj)} {σ : St} {H : Hp} {s : Shared} {a : Addr} {y : V} {o : Option V} (I : Inv X pins σ H s) (g : DGet H a y o) : s.TypeIs (.ref a) "dict" := by
  rcases g with ⟨kvs, k, e, _, _⟩ | ⟨kvs, k, b, e, _, _, _⟩
  · obtain ⟨_, _, vs, _, dd⟩ := dk_rd I.hok e
    exact dd.typeIs
  · obtain ⟨_, _, xs, _, dd⟩ := dt_rd I.hok e
    exact dd.typeIs
theorem dict_noDict {X : Cx} {pins : List (Addr × Obj)} {σ : St} {H : Hp} {s : Shared} {a : Addr} {y : V} {o : Option V} (I : Inv X pins σ H s) (g : DGet H a y o) :
    ∀ b, Value.ref a = .ref b → ∃ ob, s.heap.get? b = some ob ∧ ob.dict = none := fun b q => by
  cases q
  rcases g with ⟨kvs, k, e, _, _⟩ | ⟨kvs, k, b, e, _, _, _⟩
  · obtain ⟨_, _, vs, _, ob, _, _, h1, h2, _⟩ := dk_rd I.hok e
    exact ⟨ob, h1, h2.2.1⟩
  · obtain ⟨_, _, xs, _, ob, _, _, h1, h2, _⟩ := dt_rd I.hok e
    exact ⟨ob, h1, h2.2.1⟩

/-- d[y] -/
def tDGet (td ty : TE) : TE := fun σ H Q => td σ H fun x H1 => ty σ H1 fun y H2 => ∃ a v, x = .ref a ∧ DGet H2 a y (some v) ∧ Q v H2
/-- y in d, y not in d -/
def tDIn (ty td : TE) : TE := fun σ H Q => ty σ H fun y H1 => td σ H1 fun x H2 => ∃ a o, x = .ref a ∧ DGet H2 a y o ∧ Q (.bl o.isSome) H2
def tDNotIn (ty td : TE) : TE := fun σ H Q => ty σ H fun y H1 => td σ H1 fun x H2 => ∃ a o, x = .ref a ∧ DGet H2 a y o ∧ Q (.bl (!o.isSome)) H2
/-- d[y] = v -/
def sDPut (td ty tv : TE) : TS := fun D σ H => tv σ H fun v H1 => td σ H1 fun x H2 => ty σ H2 fun y H3 => ∃ a H4, x = .ref a ∧ DPut H3 a y v H4 ∧ D.nx σ H4
/-- d[y] op= v -/
def sDAug (td ty tv : TE) (rd : V → V → Hp → VK → Prop) : TS := fun D σ H => td σ H fun x H1 => ty σ H1 fun y H2 => ∃ a v, x = .ref a ∧ DGet H2 a y (some v) ∧
  tv σ H2 fun y2 H3 => rd v y2 H3 fun z H4 => ∃ H5, DPut H4 a y z H5 ∧ D.nx σ H5
/-- del d[y] -/
def sDDel (td ty : TE) : TS := fun D σ H => td σ H fun x H1 => ty σ H1 fun y H2 => ∃ a kvs k, x = .ref a ∧ H2 a = some (.dK kvs) ∧ y = kV k ∧ (valV kvs k).isSome = true ∧ D.nx σ (upd H2 a (.dK (dropK kvs k)))

section
variable {X : Cx} {o i e value : Expr} {pos pos' tpos : Pos} {td ty tv : TE}
theorem pe_dget (hu : X.A.units + 1 < cLine) (ho : PE X o td) (hi : PE X i ty) (hs : NoSl i) : PE X (.Subscript o i pos) (tDGet td ty) := by
  intro pins s σ H Q I h
  refine subD_of PySem.F.slot_dict_getitem.lookup hs (thn (ho pins s σ H _ I h) fun u s1 ⟨x, H1, I1, rx, q1⟩ => thn (hi pins s1 σ H1 _ I1 q1) fun iv s2 ⟨y, H2, I2, ry, a, v, ex, g, q2⟩ => ?_)
  subst ex
  obtain rfl : u = Value.ref a := rx
  exact ⟨dict_typeIs I2 g, d_getItem hu I2 g ry fun w' s3 I3 rw' => ⟨v, H2, I3, rw', q2⟩⟩
theorem pc_din (hu : X.A.units + 1 < cLine) (hi : PE X i ty) (ho : PE X o td) : PC X .In i o (tDIn ty td) := by
  intro pins s σ H Q I h
  refine thn (hi pins s σ H _ I h) fun iv s1 ⟨y, H1, I1, ry, q1⟩ => thn (ho pins s1 σ H1 _ I1 q1) fun u s2 ⟨x, H2, I2, rx, a, ov, ex, g, q2⟩ => ?_
  subst ex
  obtain rfl : u = Value.ref a := rx
  exact d_in hu I2 g ry fun s3 I3 => ⟨.bl ov.isSome, H2, I3, rfl, q2⟩
theorem pc_dnotin (hu : X.A.units + 1 < cLine) (hi : PE X i ty) (ho : PE X o td) : PC X .NotIn i o (tDNotIn ty td) := by
  intro pins s σ H Q I h
  refine thn (hi pins s σ H _ I h) fun iv s1 ⟨y, H1, I1, ry, q1⟩ => thn (ho pins s1 σ H1 _ I1 q1) fun u s2 ⟨x, H2, I2, rx, a, ov, ex, g, q2⟩ => ?_
  subst ex
  obtain rfl : u = Value.ref a := rx
  exact d_notIn hu I2 g ry fun s3 I3 => ⟨.bl (!ov.isSome), H2, I3, rfl, q2⟩
theorem ps_dput (hu : X.A.units + 1 < cLine) (ho : PE X o td) (hi : PE X i ty) (hv : PE X value tv) (hs : swapsWith value (some (.Subscript o i pos')) pos.line X.env = pure false) :
    PS X (.Assign [.Subscript o i pos'] value pos) (sDPut td ty tv) := by
  intro pins s σ H D I h
  refine wpAny_Assign_Subscript (thn (hv pins s σ H _ I h) fun r s1 ⟨v, H1, I1, rv, q1⟩ => thn (ho pins s1 σ H1 _ I1 q1) fun u s2 ⟨x, H2, I2, rx, q2⟩ => thn (hi pins s2 σ H2 _ I2 q2) fun iv s3 ⟨y, H3, I3, ry, a, H4, ex, g, q3⟩ => ?_) hs
  subst ex
  obtain rfl : u = Value.ref a := rx
  exact d_setItem hu I3 g ry rv fun s4 I4 => ⟨σ, H4, I4, q3⟩
theorem ps_daug {op : Operator} {rd : V → V → Hp → VK → Prop} (hu : X.A.units + 1 < cLine) (ho : PE X o td) (hi : PE X i ty) (hv : PE X value tv) (hop : InOp X op rd)
    (ha : ∀ ov iv new, augStore i ov iv new = (do holding [new, ov, iv] (setItem ov iv new); release [new, ov, iv] []; pure .next)) : PS X (.AugAssign (.Subscript o i tpos) op value pos) (sDAug td ty tv rd) := by
  intro pins s σ H D I h
  refine wpAny_AugAssign_SubscriptAny (thn (ho pins s σ H _ I h) fun u s1 ⟨x, H1, I1, rx, q1⟩ => thn (hi pins s1 σ H1 _ I1 q1) fun iv s2 ⟨y, H2, I2, ry, a, v, ex, g, q2⟩ => ?_) ha
  subst ex
  obtain rfl : u = Value.ref a := rx
  refine d_getItem hu I2 g ry fun w' s3 I3 rw' => thn (hv pins s3 σ H2 _ I3 q2) fun w2 s4 ⟨y2, H3, I4, ry2, q3⟩ => thn (hop pins s4 σ H3 v y2 w' w2 _ I4 rw' ry2 q3) fun w3 s5 ⟨z, H4, I5, rz, H5, g5, q4⟩ => ?_
  exact d_setItem hu I5 g5 ry rz fun s6 I6 => ⟨σ, H5, I6, q4⟩
theorem ps_ddel (ho : PE X o td) (hi : PE X i ty) : PS X (.Delete [.Subscript o i tpos] pos) (sDDel td ty) := by
  intro pins s σ H D I h
  refine wpAny_Delete (wpAny_deleteEach_cons (wpAny_delete_Subscript (thn (ho pins s σ H _ I h) fun u s1 ⟨x, H1, I1, rx, q1⟩ => thn (hi pins s1 σ H1 _ I1 q1) fun iv s2 ⟨y, H2, I2, ry, a, kvs, k, ex, e, ey, l, q2⟩ => ?_)))
  subst ex ey
  obtain rfl : u = Value.ref a := rx
  exact d_delItem I2 e ry l fun s3 I3 => wpAny_deleteEach_nil ⟨σ, _, I3, q2⟩
end


/-! ### displays -/
theorem dk_empty {P : Program} {w : World} {H : Hp} (h : Heap) (hb : sysModules < h.objs.size) : ObjOk P w H (h.push { cls := .type "dict", data := .dict #[] }) h.objs.size (.dK []) :=
  ⟨Nat.zero_le _, beq_eq_false_iff_ne.mpr (Ne.symm (Nat.ne_of_lt hb)), [], .nil, Heap.DictOf.new h⟩
theorem dt_empty {P : Program} {w : World} {H : Hp} (h : Heap) (hb : sysModules < h.objs.size) : ObjOk P w H (h.push { cls := .type "dict", data := .dict #[] }) h.objs.size (.dT []) :=
  ⟨Nat.zero_le _, beq_eq_false_iff_ne.mpr (Ne.symm (Nat.ne_of_lt hb)), [], .nil, _, #[], 0, Heap.get?_push_size _ rfl, ⟨rfl, rfl, rfl⟩, rfl, rfl, List.nodup_nil⟩
/-- {}, to be a dict of the kind that is wanted -/
def tDNewK : TE := fun _ H Q => ∀ p, H p = none → Q (.ref p) (upd H p (.dK []))
def tDNewT : TE := fun _ H Q => ∀ p, H p = none → Q (.ref p) (upd H p (.dT []))
section
variable {X : Cx} {pos : Pos}
theorem pe_dnewK : PE X (.Dict [] [] pos) tDNewK := fun pins s σ H Q I h =>
  wpAny_Dict_empty ⟨.ref s.heap.objs.size, _, I.laid (a := s.heap.objs.size) (o := .dK []) (t' := s.toks) (fun _ _ q => Heap.get?_push_of_some _ q) (Nat.le_refl _) (dk_empty s.heap I.big), rfl, h _ (I.hok.fresh (Nat.le_refl _))⟩
theorem pe_dnewT : PE X (.Dict [] [] pos) tDNewT := fun pins s σ H Q I h =>
  wpAny_Dict_empty ⟨.ref s.heap.objs.size, _, I.laid (a := s.heap.objs.size) (o := .dT []) (t' := s.toks) (fun _ _ q => Heap.get?_push_of_some _ q) (Nat.le_refl _) (dt_empty s.heap I.big), rfl, h _ (I.hok.fresh (Nat.le_refl _))⟩
end

/-- the pairs of a display, from the left -/
def tPairs : List (TE × TE) → St → Hp → (List (V × V) → Hp → Prop) → Prop
  | [], _, H, Q => Q [] H
  | (tk, tv) :: r, σ, H, Q => tk σ H fun x H1 => tv σ H1 fun y H2 => tPairs r σ H2 fun ps H3 => Q ((x, y) :: ps) H3
abbrev VV : List (V × V) → List (Value × Value) → Prop := Paired fun p q => RelV p.1 q.1 ∧ RelV p.2 q.2
def PPs (X : Cx) (pos : Pos) (keys : List (Option Expr)) (values : List Expr) (trs : List (TE × TE)) : Prop :=
  ∀ (pins : List (Addr × Obj)) (s : Shared) (σ : St) (H : Hp) (Q : List (V × V) → Hp → Prop), Inv X pins σ H s → tPairs trs σ H Q →
    wpAny (model X.prog X.w) X.A (evalPairs (pairTrees keys values X.env pos)) (fun vs s' => ∃ ps H', Inv X pins σ H' s' ∧ VV ps vs ∧ Q ps H') X.xe s
theorem pps_nil {X : Cx} {pos : Pos} : PPs X pos [] [] [] := fun pins s σ H Q I h => pairTrees_nil_walk ⟨[], H, I, .nil, h⟩
theorem pps_cons {X : Cx} {pos : Pos} {k v : Expr} {ks : List (Option Expr)} {vs : List Expr} {tk tv : TE} {trs : List (TE × TE)} (hk : PE X k tk) (hv : PE X v tv) (hr : PPs X pos ks vs trs) :
    PPs X pos (some k :: ks) (v :: vs) ((tk, tv) :: trs) := fun pins s σ H Q I h =>
  pairTrees_cons_walk (thn (hk pins s σ H _ I h) fun u s1 ⟨x, H1, I1, rx, q1⟩ => thn (hv pins s1 σ H1 _ I1 q1) fun w2 s2 ⟨y, H2, I2, ry, q2⟩ =>
    thn (hr pins s2 σ H2 _ I2 q2) fun ws s3 ⟨ps, H3, I3, rel, q3⟩ => ⟨(x, y) :: ps, H3, I3, .cons ⟨rx, ry⟩ rel, q3⟩)

def mergeK (kvs more : List (Key × V)) : List (Key × V) := more.foldl (fun acc kv => putK acc kv.1 kv.2) kvs
theorem KV.merge : ∀ {more : List (Key × V)} {rs : List (Key × Value)} {kvs : List (Key × V)} {vs : List (Key × Value)}, KV more rs → KV kvs vs → KV (mergeK kvs more) (merged vs rs) := by
  intro more rs kvs vs r
  unfold KV at r
  induction r generalizing kvs vs with
  | nil => intro q; exact q
  | @cons p q ps qs h t ih =>
    intro r0
    have e : KV (putK kvs p.1 p.2) (stored vs q.1 q.2) := by
      have := r0.put p.1 h.2
      rw [← h.1]; exact this
    exact ih e
theorem length_mergeK : ∀ (more kvs : List (Key × V)), (mergeK kvs more).length ≤ kvs.length + more.length
  | [], kvs => by show kvs.length ≤ kvs.length + 0; omega
  | p :: r, kvs => by
    have h1 := length_mergeK r (putK kvs p.1 p.2)
    have h2 := length_putK kvs p.1 p.2
    show (mergeK (putK kvs p.1 p.2) r).length ≤ _
    rw [List.length_cons]; omega
theorem carries_of {P : Program} {w : World} : ∀ {kvs : List (Key × V)} {ws : List (Value × Value)}, VV (kvs.map fun kv => (kV kv.1, kv.2)) ws → ∃ rs, Carries (mixKind P w) ws rs ∧ KV kvs rs
  | [], _, r => by rw [List.map_nil] at r; cases r; exact ⟨[], True.intro, .nil⟩
  | p :: kvs, _, r => by
    rw [List.map_cons] at r
    cases r with
    | @cons a b as bs h t =>
      obtain ⟨rs, c, q⟩ := carries_of (P := P) (w := w) t
      obtain ⟨b1, b2⟩ := b
      exact ⟨(p.1, b2) :: rs, ⟨kV_is h.1, rfl, c⟩, .cons ⟨rfl, h.2⟩ q⟩
/-- {k: v, ..} with keys ints and texts; the new dict stands empty while the pairs are made -/
def tDisp (trs : List (TE × TE)) : TE := fun σ H Q => ∀ p, H p = none → tPairs trs σ (upd H p (.dK [])) fun ps H2 => H2 p = some (.dK []) ∧ ∃ kvs : List (Key × V), ps = kvs.map (fun kv => (kV kv.1, kv.2)) ∧ kvs.length ≤ 15 ∧ Q (.ref p) (upd H2 p (.dK (mergeK [] kvs)))
theorem pe_disp {X : Cx} {pos : Pos} {keys : List (Option Expr)} {values : List Expr} {trs : List (TE × TE)} (h : PPs X pos keys values trs) (hall : keys.all (·.isSome) = true) (hl : keys.length = values.length) (h0 : keys ≠ [])
    (h15 : keys.length ≤ 15) : PE X (.Dict keys values pos) (tDisp trs) := by
  intro pins s σ H Q I q
  have hn := I.hok.fresh (Nat.le_refl s.heap.objs.size)
  have I1 := I.laid (a := s.heap.objs.size) (o := .dK []) (h' := s.heap.push { cls := .type "dict", data := .dict #[] }) (t' := s.toks) (fun _ _ q => Heap.get?_push_of_some _ q) (Nat.le_refl _) (dk_empty s.heap I.big)
  refine wpAny_Dict_walk (knd := mixKind X.prog X.w) hall hl h0 h15 (thn (h pins _ σ _ _ I1 (q _ hn)) fun ws s2 ⟨ps, H2, I2, rel, e, kvs, ep, lk, q2⟩ => ?_)
  subst ep
  obtain ⟨rs, c, rk⟩ := carries_of (P := X.prog) (w := X.w) rel
  obtain ⟨z, hd, vs0, r0, dd⟩ := dk_of I2.hok e
  cases r0
  refine ⟨rs, c, dd, fun h' dd' hs => ⟨.ref s.heap.objs.size, _, ?_, rfl, q2⟩⟩
  have hz : (mergeK [] kvs).length ≤ sizeLine := by
    have h1 := length_mergeK kvs []
    rw [List.length_nil] at h1
    rw [sizeLine_eq]; omega
  have he : ∃ q, h'.get? s.heap.objs.size = some q := let ⟨q, _, _, hq, _⟩ := dd'; ⟨q, hq⟩
  exact d_write I2 (by rw [e]; exact True.intro) hs he (dk_new hz hd (rk.merge .nil) dd')


/-! ### methods -/
/-- a method call o.m(e) of a built-in, with one argument: what must be seen of the text -/
structure M1 (X : Cx) (o : Expr) (m : Str) (apos : Pos) (e : Expr) (cpos : Pos) : Prop where
  base : attributeBase o m X.env (eval o X.env) = eval o X.env
  few : ((backTo cpos (starEach [e] X.env)).all (fun x => !x.1) && (backToKw cpos (keywordEach [] X.env)).all (fun x => x.1.isSome)
    && decide (([e] : List Expr).length + ([] : List Keyword).length + (if ([] : List Keyword).isEmpty then 0 else 1) < 30)) = true
  line : (apos.endLine == cpos.line) = true
  trees : backTo cpos (starEach [e] X.env) = [(false, eval e X.env)]
structure M2 (X : Cx) (o : Expr) (m : Str) (apos : Pos) (e f : Expr) (cpos : Pos) : Prop where
  base : attributeBase o m X.env (eval o X.env) = eval o X.env
  few : ((backTo cpos (starEach [e, f] X.env)).all (fun x => !x.1) && (backToKw cpos (keywordEach [] X.env)).all (fun x => x.1.isSome)
    && decide (([e, f] : List Expr).length + ([] : List Keyword).length + (if ([] : List Keyword).isEmpty then 0 else 1) < 30)) = true
  line : (apos.endLine == cpos.line) = true
  trees : backTo cpos (starEach [e, f] X.env) = [(false, eval e X.env), (false, eval f X.env)]

/-- a is a dict, whatever its keys -/
def IsD (H : Hp) (a : Addr) : Prop := (∃ kvs, Rd H a (.dK kvs)) ∨ ∃ kvs, Rd H a (.dT kvs)
theorem isD_at {X : Cx} {pins : List (Addr × Obj)} {σ : St} {H : Hp} {s : Shared} {a : Addr} (I : Inv X pins σ H s) (d : IsD H a) :
    s.TypeIs (.ref a) "dict" ∧ (∀ b, Value.ref a = .ref b → ∃ ob, s.heap.get? b = some ob ∧ ob.dict = none) ∧ (a == sysModules) = false := by
  rcases d with ⟨kvs, e⟩ | ⟨kvs, e⟩
  · obtain ⟨_, hd, vs, _, dd⟩ := dk_rd I.hok e
    refine ⟨dd.typeIs, fun b q => ?_, hd⟩
    cases q
    obtain ⟨ob, _, _, h1, h2, _⟩ := dd
    exact ⟨ob, h1, h2.2.1⟩
  · obtain ⟨_, hd, xs, _, dd⟩ := dt_rd I.hok e
    refine ⟨dd.typeIs, fun b q => ?_, hd⟩
    cases q
    obtain ⟨ob, _, _, h1, h2, _⟩ := dd
    exact ⟨ob, h1, h2.2.1⟩

section
variable {X : Cx} {pins : List (Addr × Obj)} {σ : St} {H : Hp} {s : Shared} {a : Addr} {y d : V} {u r : Value} {o : Option V} {A : Around} {E : Value → Shared → Prop}
/-- d.get(y) -/
theorem d_get1 {Q : Value → Shared → Prop} (hu : A.units + 1 < cLine) (I : Inv X pins σ H s) (g : DGet H a y o) (ry : RelV y u) (h : ∀ w' s', Inv X pins σ H s' → RelV (o.getD .non) w' → Q w' s') :
    wpAny (model X.prog X.w) A (call (.builtin "dict.get") [.ref a, u]) Q E s := by
  rcases g with ⟨kvs, k, e, ey, l⟩ | ⟨kvs, k, b, e, ey, eb, l⟩
  · subst ey
    obtain ⟨z, hd, vs, rel, dd⟩ := dk_rd I.hok e
    refine call_meetsIn PySem.F.slot_dict_get dd.typeIs PySem.F.entry_dict_get (PySem.F.args_dict_get_2 _ _) (meets_dict_get (mixKind X.prog X.w) a (kV_is ry) hd) ⟨_, dd.mapOf, h _ _ (I.tok _) ?_⟩
    rw [l]
    exact (rel.val k).getD rfl
  · subst ey
    cases (show u = Value.ref b from ry)
    obtain ⟨z, hd, xs, rel, dd⟩ := dt_rd I.hok e
    refine call_meetsIn PySem.F.slot_dict_get dd.typeIs PySem.F.entry_dict_get (PySem.F.args_dict_get_2 _ _) (meetsH_dict_get (tupleKind (mixKind X.prog X.w)) a b hd) ⟨tupleKind_room_in1 hu, k, xs, key_of I.hok eb, dd, h _ _ (I.tok _) ?_⟩
    rw [l]
    exact (rel.val k).getD rfl
/-- d.get(y, x) -/
theorem d_get2 {Q : Value → Shared → Prop} (hu : A.units + 1 < cLine) (I : Inv X pins σ H s) (g : DGet H a y o) (ry : RelV y u) (rd : RelV d r) (h : ∀ w' s', Inv X pins σ H s' → RelV (o.getD d) w' → Q w' s') :
    wpAny (model X.prog X.w) A (call (.builtin "dict.get") [.ref a, u, r]) Q E s := by
  rcases g with ⟨kvs, k, e, ey, l⟩ | ⟨kvs, k, b, e, ey, eb, l⟩
  · subst ey
    obtain ⟨z, hd, vs, rel, dd⟩ := dk_rd I.hok e
    refine call_meetsIn PySem.F.slot_dict_get dd.typeIs PySem.F.entry_dict_get (PySem.F.args_dict_get_3 _ _ _) (meets_dict_get_default (mixKind X.prog X.w) a (kV_is ry) hd r) ⟨_, dd.mapOf, h _ _ (I.tok _) ?_⟩
    rw [l]
    exact (rel.val k).getD rd
  · subst ey
    cases (show u = Value.ref b from ry)
    obtain ⟨z, hd, xs, rel, dd⟩ := dt_rd I.hok e
    refine call_meetsIn PySem.F.slot_dict_get dd.typeIs PySem.F.entry_dict_get (PySem.F.args_dict_get_3 _ _ _) (meetsH_dict_get_default (tupleKind (mixKind X.prog X.w)) a b hd r) ⟨tupleKind_room_in1 hu, k, xs, key_of I.hok eb, dd, h _ _ (I.tok _) ?_⟩
    rw [l]
    exact (rel.val k).getD rd
end

def tDGet1 (td ty : TE) : TE := fun σ H Q => td σ H fun x H1 => ∃ a, x = .ref a ∧ IsD H1 a ∧ ty σ H1 fun y H2 => ∃ o, DGet H2 a y o ∧ Q (o.getD .non) H2
def tDGet2 (td ty tx : TE) : TE := fun σ H Q => td σ H fun x H1 => ∃ a, x = .ref a ∧ IsD H1 a ∧ ty σ H1 fun y H2 => tx σ H2 fun z H3 => ∃ o, DGet H3 a y o ∧ Q (o.getD z) H3
/-- d.pop(k): there; d.pop(k, x): there or not -/
def tDPop1 (td ty : TE) : TE := fun σ H Q => td σ H fun x H1 => ∃ a, x = .ref a ∧ IsD H1 a ∧ ty σ H1 fun y H2 => ∃ kvs k v, H2 a = some (.dK kvs) ∧ y = kV k ∧ valV kvs k = some v ∧ Q v (upd H2 a (.dK (dropK kvs k)))
def tDPop2 (td ty tx : TE) : TE := fun σ H Q => td σ H fun x H1 => ∃ a, x = .ref a ∧ IsD H1 a ∧ ty σ H1 fun y H2 => tx σ H2 fun z H3 => ∃ kvs k, H3 a = some (.dK kvs) ∧ y = kV k ∧
  (∀ v, valV kvs k = some v → Q v (upd H3 a (.dK (dropK kvs k)))) ∧ (valV kvs k = none → Q z H3)
section
variable {X : Cx} {o e f : Expr} {apos cpos : Pos} {td ty tx : TE}
theorem pe_dget1 (hu : X.A.units + 1 < cLine) (ho : PE X o td) (he : PE X e ty) (m : M1 X o "get" apos e cpos) : PE X (.Call (.Attribute o "get" apos) [e] [] cpos) (tDGet1 td ty) := by
  intro pins s σ H Q I h
  refine wpAny_Call_method m.base m.few m.line PySem.F.plainAttrs_dict PySem.F.slot_dict_get PySem.F.type_dict_get (thn (ho pins s σ H _ I h) fun u s1 ⟨x, H1, I1, rx, a, ex, d, q1⟩ => ?_)
  subst ex
  obtain rfl : u = Value.ref a := rx
  obtain ⟨t1, t2, _⟩ := isD_at I1 d
  refine ⟨t1, t2, ?_⟩
  rw [m.trees]
  refine Calls.callWith_builtin rfl (Calls.evalArgs_plain (Calls.spliced_cons (thn (he pins s1 σ H1 _ I1 q1) fun iv s2 ⟨y, H2, I2, ry, ov, g, q2⟩ => Calls.spliced_nil ?_)))
  exact d_get1 hu I2 g ry fun w' s3 I3 rw' => ⟨_, H2, I3, rw', q2⟩
theorem pe_dget2 (hu : X.A.units + 1 < cLine) (ho : PE X o td) (he : PE X e ty) (hf : PE X f tx) (m : M2 X o "get" apos e f cpos) : PE X (.Call (.Attribute o "get" apos) [e, f] [] cpos) (tDGet2 td ty tx) := by
  intro pins s σ H Q I h
  refine wpAny_Call_method m.base m.few m.line PySem.F.plainAttrs_dict PySem.F.slot_dict_get PySem.F.type_dict_get (thn (ho pins s σ H _ I h) fun u s1 ⟨x, H1, I1, rx, a, ex, d, q1⟩ => ?_)
  subst ex
  obtain rfl : u = Value.ref a := rx
  obtain ⟨t1, t2, _⟩ := isD_at I1 d
  refine ⟨t1, t2, ?_⟩
  rw [m.trees]
  refine Calls.callWith_builtin rfl (Calls.evalArgs_plain (Calls.spliced_cons (thn (he pins s1 σ H1 _ I1 q1) fun iv s2 ⟨y, H2, I2, ry, q2⟩ =>
    Calls.spliced_cons (thn (hf pins s2 σ H2 _ I2 q2) fun fv s3 ⟨z, H3, I3, rz, ov, g, q3⟩ => Calls.spliced_nil ?_))))
  exact d_get2 hu I3 g ry rz fun w' s4 I4 rw' => ⟨_, H3, I4, rw', q3⟩
theorem pe_dpop1 (ho : PE X o td) (he : PE X e ty) (m : M1 X o "pop" apos e cpos) : PE X (.Call (.Attribute o "pop" apos) [e] [] cpos) (tDPop1 td ty) := by
  intro pins s σ H Q I h
  refine wpAny_Call_method m.base m.few m.line PySem.F.plainAttrs_dict PySem.F.slot_dict_pop PySem.F.type_dict_pop (thn (ho pins s σ H _ I h) fun u s1 ⟨x, H1, I1, rx, a, ex, d, q1⟩ => ?_)
  subst ex
  obtain rfl : u = Value.ref a := rx
  obtain ⟨t1, t2, _⟩ := isD_at I1 d
  refine ⟨t1, t2, ?_⟩
  rw [m.trees]
  refine Calls.callWith_builtin rfl (Calls.evalArgs_plain (Calls.spliced_cons (thn (he pins s1 σ H1 _ I1 q1) fun iv s2 ⟨y, H2, I2, ry, kvs, k, v, ea, ey, l, q2⟩ => Calls.spliced_nil ?_)))
  subst ey
  exact d_pop I2 ea ry l (.inl rfl) fun w' s3 I3 rw' => ⟨v, _, I3, rw', q2⟩
theorem pe_dpop2 (ho : PE X o td) (he : PE X e ty) (hf : PE X f tx) (m : M2 X o "pop" apos e f cpos) : PE X (.Call (.Attribute o "pop" apos) [e, f] [] cpos) (tDPop2 td ty tx) := by
  intro pins s σ H Q I h
  refine wpAny_Call_method m.base m.few m.line PySem.F.plainAttrs_dict PySem.F.slot_dict_pop PySem.F.type_dict_pop (thn (ho pins s σ H _ I h) fun u s1 ⟨x, H1, I1, rx, a, ex, d, q1⟩ => ?_)
  subst ex
  obtain rfl : u = Value.ref a := rx
  obtain ⟨t1, t2, _⟩ := isD_at I1 d
  refine ⟨t1, t2, ?_⟩
  rw [m.trees]
  refine Calls.callWith_builtin rfl (Calls.evalArgs_plain (Calls.spliced_cons (thn (he pins s1 σ H1 _ I1 q1) fun iv s2 ⟨y, H2, I2, ry, q2⟩ =>
    Calls.spliced_cons (thn (hf pins s2 σ H2 _ I2 q2) fun fv s3 ⟨z, H3, I3, rz, kvs, k, ea, ey, q3, q4⟩ => Calls.spliced_nil ?_))))
  subst ey
  cases l : valV kvs k with
  | some v => exact d_pop I3 ea ry l (.inr ⟨fv, rfl⟩) fun w' s4 I4 rw' => ⟨v, _, I4, rw', q3 v l⟩
  | none => exact d_popD I3 ea ry l fun s4 I4 => ⟨z, H3, I4, rz, q4 l⟩
end

/-! ### dict(d): a copy -/
section
variable {X : Cx} {pins : List (Addr × Obj)} {σ : St} {H : Hp} {s : Shared} {a : Addr} {kvs : List (Key × V)} {A : Around} {E : Value → Shared → Prop}
theorem d_copyOf {Q : Value → Shared → Prop} (I : Inv X pins σ H s) (e : Rd H a (.dK kvs)) (h : ∀ p s', H p = none → Inv X pins σ (upd H p (.dK kvs)) s' → Q (.ref p) s') : wpAny (model X.prog X.w) A (call (.type "dict") [.ref a]) Q E s := by
  obtain ⟨z, hd, vs, rel, dd⟩ := dk_rd I.hok e
  refine kt_call_dict hd dd (by rw [← rel.length]; exact z) fun h' dd' hs => ?_
  refine h _ _ (I.hok.fresh (Nat.le_refl _)) (I.laid (a := s.heap.objs.size) (o := .dK kvs) (t' := s.toks) (fun b q hq => ?_) (Nat.le_refl _) (dk_new z (beq_eq_false_iff_ne.mpr (Ne.symm (Nat.ne_of_lt I.big))) rel dd'))
  exact (hs.2 b (Nat.ne_of_lt (Heap.lt_size hq))).trans (Heap.get?_push_of_some _ hq)
end


section
variable {X : Cx} {pins : List (Addr × Obj)} {σ : St} {H : Hp} {s : Shared} {a : Addr} {y : V} {u : Value} {A : Around} {E : Value → Shared → Prop}
/-- d[y], not there: a KeyError -/
theorem d_missing {Q : Value → Shared → Prop} (hu : A.units + 1 < cLine) (hh : A.handled = none) (I : Inv X pins σ H s) (g : DGet H a y none) (ry : RelV y u)
    (h : ∀ h' e t', Heap.NewExc s.heap h' e "KeyError" → E (.ref e) { s with heap := h', toks := t' }) : wpAny (model X.prog X.w) A (getItem (.ref a) u) Q E s := by
  rcases g with ⟨kvs, k, e, ey, l⟩ | ⟨kvs, k, b, e, ey, eb, l⟩
  · subst ey
    obtain ⟨z, hd, vs, rel, dd⟩ := dk_rd I.hok e
    have hn : valueAt vs k = none := RelO.none_of (by rw [l]; exact rel.val k)
    exact wpAny_getItem_missing_of (kV_is ry) hd hh dd.mapOf hn fun h' ex ne => h h' ex _ ne
  · subst ey
    cases (show u = Value.ref b from ry)
    obtain ⟨z, hd, xs, rel, dd⟩ := dt_rd I.hok e
    have hn : (atKey xs k).map (·.2) = none := RelO.none_of (by rw [l]; exact rel.val k)
    exact wpAny_getItem_missing_heap (tupleKind_room_in1 hu) (key_of I.hok eb) hd hh dd (Option.map_eq_none_iff.mp hn) fun h' ex ne => h h' ex _ ne
end
end L2
namespace L2
open PySem PySem.Spec PyProof.Rows
section
variable {X : Cx}
theorem call_lenD : CallR X (.builtin "len") (fun xs H Q => ∃ a kvs, xs = [V.ref a] ∧ H a = some (.dK kvs) ∧ Q (.int kvs.length) H) := by
  intro pins s σ H xs us Q I r h
  obtain ⟨a, kvs, rfl, ha, q⟩ := h
  obtain ⟨u, rfl, ru⟩ := vals1 r
  cases ru
  exact d_len I (.inl ha) fun t s' I' => ⟨.int kvs.length, H, I', ⟨t, rfl⟩, q⟩
end
end L2
set_option maxHeartbeats 4000000
namespace L2
open PySem PySem.Spec PyProof.Rows
/-! ### the table of a block's names, by a check -/
def blkCheck (osc : Scope) (N : List Str) (fr : List Nat) (sc : Scope) : Bool :=
  sc.kind == .function && (sc.names.all fun x => x.2 != .cell && (x.2 != .local || sc.names.lookup x.1 == some .local) && (x.2 != .free || (osc.names.lookup x.1 == some .cell || osc.names.lookup x.1 == some .free))) && fr.all fun i => sc.names.lookup (N.getD i "") == some .free
theorem blkS {X : Cx} {own : List Str} {fr : List Nat} {sc : Scope} (osc : Scope) (N : List Str) (h : blkCheck osc N fr sc = true) (h1 : X.env.scope = osc := by rfl) (h2 : X.N = N := by rfl) : BlkScope X own fr sc := by
  unfold blkCheck at h
  simp only [Bool.and_eq_true, List.all_eq_true] at h
  obtain ⟨⟨hk, hn⟩, hf⟩ := h
  refine ⟨by simpa using hk, fun x hx => by simpa using (hn x hx).1.1, fun x hx e => ?_, fun x hx e => ?_, fun i hi => ?_⟩
  · have := (hn x hx).1.2
    simpa [e] using this
  · have := (hn x hx).2
    show X.env.scope.names.lookup x.1 = _ ∨ X.env.scope.names.lookup x.1 = _
    rw [h1]
    simpa [e] using this
  · rw [h2]
    simpa using hf i hi
theorem Same.seqT {K : PySem.W.Frag} {H H' : Hp} {a : Addr} {xs : List V} (e : Same H H') (h : SqT K H a xs) : SqT K H' a xs := by
  rcases h with (h | ⟨o, h⟩) | h
  · exact .inl (.inl (e _ _ h))
  · exact .inl (.inr ⟨o, e _ _ h⟩)
  · exact .inr h
theorem Same.upd {H : Hp} {a : Addr} {o : HO} (h : H a = none) : Same H (upd H a o) := fun b u e => by
  rw [upd_ne (ne_of_none e h)]
  exact e
theorem P2.same {K : PySem.W.Frag} {H H' : Hp} (e : Same H H') {v : V} {p : Int × Int} (h : P2 K H v p) : P2 K H' v p := by
  obtain ⟨a, rfl, q⟩ := h
  exact ⟨a, rfl, e _ _ q⟩
theorem P2s.same {K : PySem.W.Frag} {H H' : Hp} (e : Same H H') {vs : List V} {ps : List (Int × Int)} (h : Paired (P2 K H) vs ps) : Paired (P2 K H') vs ps := Paired.mapP h fun _ _ r => r.same e
/-- a list of pairs stands at a -/
def PL (K : PySem.W.Frag) (H : Hp) (a : Addr) (ps : List (Int × Int)) : Prop := ∃ xs, SqL K H a xs ∧ Paired (P2 K H) xs ps
theorem PL.same {K : PySem.W.Frag} {H H' : Hp} (e : Same H H') {a : Addr} {ps : List (Int × Int)} (h : PL K H a ps) : PL K H' a ps := by
  obtain ⟨xs, h1, h2⟩ := h
  exact ⟨xs, e.seq h1, P2s.same e h2⟩
theorem Paired.atL {α β : Type} {R : α → β → Prop} : ∀ {l : List α} {m : List β} {i : Nat} {x : α}, Paired R l m → l[i]? = some x → ∃ y, m[i]? = some y ∧ R x y
  | _, _, _, _, .nil, e => by simp at e
  | _, _, 0, _, .cons r _, e => by simp at e; subst e; exact ⟨_, rfl, r⟩
  | _, _, i + 1, x, .cons _ t, e => by
    obtain ⟨y, h1, h2⟩ := Paired.atL (i := i) (x := x) t (by simpa using e)
    exact ⟨y, by simpa using h1, h2⟩
theorem Paired.atR {α β : Type} {R : α → β → Prop} : ∀ {l : List α} {m : List β} {i : Nat} {y : β}, Paired R l m → m[i]? = some y → ∃ x, l[i]? = some x ∧ R x y
  | _, _, _, _, .nil, e => by simp at e
  | _, _, 0, _, .cons r _, e => by simp at e; subst e; exact ⟨_, rfl, r⟩
  | _, _, i + 1, x, .cons _ t, e => by
    obtain ⟨y, h1, h2⟩ := Paired.atR (i := i) (y := x) t (by simpa using e)
    exact ⟨y, by simpa using h1, h2⟩
/-! ### within a block K is the outer one's -/
theorem pg_tupK {X : Cx} (K : PySem.W.Frag) {es : List Expr} {k : Nat} {t : TGs} {n : Nat} {pos : Pos} (hK : X.K = K) (hc : X.calm = true) (h : PGs X es t)
    (hn : (assignEach es X.env).length = n := by rfl) (hst : (assignEach es X.env).findIdx? (·.1) = none := by rfl) : PG X (.Tuple es k pos) (gTup K n t) := by
  subst hK
  exact pg_tup hc h hn hst
theorem ix_tupK {X : Cx} (K : PySem.W.Frag) (hK : X.K = K) : IxR X (rIxT K) := by subst hK; exact ix_tup
theorem ix_listK {X : Cx} (K : PySem.W.Frag) (hK : X.K = K) : IxR X (rIxL K) := by subst hK; exact ix_list
theorem op_inK {X : Cx} (K : PySem.W.Frag) (hK : X.K = K) : OpR X (compareOp .In) (rIn K false) := by subst hK; exact op_in_seq
/-- a comprehension over a list that stays: one new thing a turn, all kept -/
theorem comp_list {K : PySem.W.Frag} {a : Addr} {xs : List V} {g : TG} {tc : TT} {te : TE} {σ0 : St} {H : Hp} {fin : List V → Hp → Prop} (Pv : Nat → List V → St → Hp → Prop) (h0 : Pv 0 [] σ0 H) (hx : xs.length ≤ sizeLine)
    (hl : ∀ i ys σ H, i ≤ xs.length → Pv i ys σ H → SqL K H a xs ∧ ys.length ≤ i)
    (hs : ∀ i x ys σ H, xs[i]? = some x → Pv i ys σ H → g x σ H fun σ2 H2 => tc σ2 H2 fun b H3 => if b = true then te σ2 H3 fun y H4 => Pv (i + 1) (ys ++ [y]) σ2 H4 else Pv (i + 1) ys σ2 H3)
    (hd : ∀ ys σ H, Pv xs.length ys σ H → fin ys H) :
    ∃ W : Nat → Nat → List V → St → Hp → Prop, (∃ m, W 0 m [] σ0 H) ∧ compLoopR (Itl K a) g tc te fin W := by
  refine ⟨fun i m ys σ H => m = xs.length - i ∧ i ≤ xs.length ∧ Pv i ys σ H, ⟨xs.length, by simp, Nat.zero_le _, h0⟩, ?_⟩
  rintro i m ys σ H ⟨rfl, hi, p⟩
  obtain ⟨q, hy⟩ := hl i ys σ H hi p
  by_cases hlt : i < xs.length
  · refine .inr ⟨⟨xs, xs[i], q, by simp [hlt]⟩, by omega, Pv (i + 1), fun ys' σ' H' p' => ⟨xs.length - (i + 1), by omega, rfl, hlt, p'⟩, fun x H' y => ?_⟩
    obtain ⟨e, y⟩ := y
    subst e
    exact hs i x ys σ _ (y xs q) p
  · have e : i = xs.length := by omega
    subst e
    exact .inl ⟨⟨xs, q, Nat.le_refl _⟩, hd ys σ H p⟩
theorem comp_tup {K : PySem.W.Frag} {a : Addr} {xs : List V} {g : TG} {tc : TT} {te : TE} {σ0 : St} {H : Hp} {fin : List V → Hp → Prop} (Pv : Nat → List V → St → Hp → Prop) (h0 : Pv 0 [] σ0 H) (hx : xs.length ≤ sizeLine)
    (hl : ∀ i ys σ H, i ≤ xs.length → Pv i ys σ H → SqT K H a xs ∧ ys.length ≤ i)
    (hs : ∀ i x ys σ H, xs[i]? = some x → Pv i ys σ H → g x σ H fun σ2 H2 => tc σ2 H2 fun b H3 => if b = true then te σ2 H3 fun y H4 => Pv (i + 1) (ys ++ [y]) σ2 H4 else Pv (i + 1) ys σ2 H3)
    (hd : ∀ ys σ H, Pv xs.length ys σ H → fin ys H) :
    ∃ W : Nat → Nat → List V → St → Hp → Prop, (∃ m, W 0 m [] σ0 H) ∧ compLoopR (Itt K a) g tc te fin W := by
  refine ⟨fun i m ys σ H => m = xs.length - i ∧ i ≤ xs.length ∧ Pv i ys σ H, ⟨xs.length, by simp, Nat.zero_le _, h0⟩, ?_⟩
  rintro i m ys σ H ⟨rfl, hi, p⟩
  obtain ⟨q, hy⟩ := hl i ys σ H hi p
  by_cases hlt : i < xs.length
  · refine .inr ⟨⟨xs, xs[i], q, by simp [hlt]⟩, by omega, Pv (i + 1), fun ys' σ' H' p' => ⟨xs.length - (i + 1), by omega, rfl, hlt, p'⟩, fun x H' y => ?_⟩
    obtain ⟨e, y⟩ := y
    subst e
    exact hs i x ys σ _ (y xs q) p
  · have e : i = xs.length := by omega
    subst e
    exact .inl ⟨⟨xs, q, Nat.le_refl _⟩, hd ys σ H p⟩
end L2
namespace L2
open PySem
/-- the tuples stay -/
def TK (H H' : Hp) : Prop := ∀ b xs, H b = some (.tup xs) → H' b = some (.tup xs)
theorem TK.of {H H' : Hp} (e : Same H H') : TK H H' := fun b xs h => e b _ h
theorem TK.trans {H H1 H2 : Hp} (a : TK H H1) (b : TK H1 H2) : TK H H2 := fun c xs h => b c xs (a c xs h)
theorem TK.upd {H : Hp} {a : Addr} {xs : List V} {o : HO} (h : H a = some (.lst xs)) : TK H (upd H a o) := fun b ys e => by
  rw [upd_ne (ne_of e h (by intro z; cases z))]
  exact e
theorem P2.tk {K : PySem.W.Frag} {H H' : Hp} (e : TK H H') {v : V} {p : Int × Int} (h : P2 K H v p) : P2 K H' v p := by
  obtain ⟨a, rfl, q⟩ := h
  exact ⟨a, rfl, e _ _ q⟩
theorem P2s.tk {K : PySem.W.Frag} {H H' : Hp} (e : TK H H') {vs : List V} {ps : List (Int × Int)} (h : PySem.Paired (P2 K H) vs ps) : PySem.Paired (P2 K H') vs ps := Paired.mapP h fun _ _ r => r.tk e
theorem Paired.snoc {α β : Type} {R : α → β → Prop} : ∀ {l : List α} {m : List β} {x : α} {y : β}, PySem.Paired R l m → R x y → PySem.Paired R (l ++ [x]) (m ++ [y])
  | _, _, _, _, .nil, r => .cons r .nil
  | _, _, _, _, .cons q t, r => .cons q (Paired.snoc t r)
theorem Paired.unsnoc {α β : Type} {R : α → β → Prop} : ∀ {m : List β} {l : List α} {y : β}, PySem.Paired R l (m ++ [y]) → ∃ l' x, l = l' ++ [x] ∧ PySem.Paired R l' m ∧ R x y
  | [], _, _, .cons r .nil => ⟨[], _, rfl, .nil, r⟩
  | _ :: m, _, _, .cons r t => by
    obtain ⟨l', x, rfl, h1, h2⟩ := Paired.unsnoc (m := m) t
    exact ⟨_ :: l', x, rfl, .cons r h1, h2⟩
end L2
set_option maxHeartbeats 4000000
namespace TS
open PySem PyProof.Rows
/-- ints -/
def iO : KeyOrd where
  α := Int
  blt p q := decide (p < q)
  irrefl a := by simp
  trans a b c h1 h2 := by
    simp at h1 h2 ⊢
    omega
  negTrans a b c h := by
    simp at h ⊢
    omega
  total a b h1 h2 := by
    simp at h1 h2
    omega
theorem ints_are : ∀ {ns : List Int} {vs : List Value}, L2.Vals (ns.map L2.V.int) vs → IntsAre vs ns
  | [], _, .nil => .nil
  | n :: ns, _, .cons r t => by
    obtain ⟨k, rfl⟩ := r
    exact .cons _ _ (ints_are t)
theorem ints_mem : ∀ {ns : List Int} {vs : List Value}, L2.Vals (ns.map L2.V.int) vs → ∀ v ∈ vs, ∃ n t, v = Value.int n t
  | [], _, .nil, _, h => nomatch h
  | n :: ns, _, .cons r rs, v, h => by
    rcases List.mem_cons.mp h with rfl | h
    · obtain ⟨k, rfl⟩ := r
      exact ⟨n, k, rfl⟩
    · exact ints_mem rs v h
theorem ints_nOf : ∀ {ns : List Int} {vs : List Value}, L2.Vals (ns.map L2.V.int) vs → vs.map nOf = ns
  | [], _, .nil => rfl
  | n :: ns, _, .cons r rs => by
    obtain ⟨k, rfl⟩ := r
    rw [List.map_cons, ints_nOf rs]
    rfl
theorem ints_back : ∀ {vs : List Value}, (∀ v ∈ vs, ∃ n t, v = Value.int n t) → L2.Vals ((vs.map nOf).map L2.V.int) vs
  | [], _ => .nil
  | v :: vs, h => by
    obtain ⟨n, t, rfl⟩ := h v List.mem_cons_self
    exact .cons ⟨t, rfl⟩ (ints_back fun u hu => h u (List.mem_cons_of_mem _ hu))
section
variable {prog : Program} {w : World} {A : Around} {E : Value → Shared → Prop} {s : Shared}
theorem sorts_ints {vs : List Value} {ns : List Int} (h : L2.Vals (ns.map L2.V.int) vs) : Sorts prog w s vs iO (fun x => nOf x.1) oneType' where
  kind := fun h2 A E s1 Q g q => by
    rw [ksk_kind (keys := vs.toArray) (kz := ns) (ints_are h) (by simpa using h2)]
    exact wpAny_pure q
  lt := fun A E s1 g x y hx hy st Q hk q => by
    obtain ⟨n, t, e1⟩ := ints_mem h _ (pairs_mem hx).2
    obtain ⟨m, u, e2⟩ := ints_mem h _ (pairs_mem hy).2
    have q : Q (some (iO.blt (nOf x.1) (nOf y.1))) st := q
    rw [lt'_eq]
    refine wpS_bind (wpS_get ?_)
    rw [hk]
    rw [e1, e2] at q ⊢
    rw [keyLt'_oneType]
    refine wpS_bind (wpS_lift (wpAny_attempt (oneLt_int ⟨rfl, ?_⟩)))
    exact wpS_pure q
theorem srt_ints {vs : List Value} {ns : List Int} (h : L2.Vals (ns.map L2.V.int) vs) {st' : SortSt} (pm : (arrOf st').Perm (pairsOf vs)) (sr : Srt iO (fun x => nOf x.1) (arrOf st') 0 (pairsOf vs).size) :
    ∃ ms : List Int, L2.Vals (ms.map L2.V.int) ((arrOf st').map (·.2)).toList ∧ ms.Perm ns ∧ ms.Pairwise (· ≤ ·) := by
  have hl : (arrOf st').toList.Perm (vs.zip vs) := by
    have := Array.perm_iff_toList_perm.mp pm
    rwa [pairsOf_toList] at this
  have hout : ((arrOf st').map (·.2)).toList.Perm vs := by
    rw [Array.toList_map]
    have := hl.map (·.2)
    rwa [List.map_snd_zip (Nat.le_refl _)] at this
  refine ⟨((arrOf st').map (·.2)).toList.map nOf, ints_back fun v hv => ints_mem h v (hout.mem_iff.mp hv), ?_, ?_⟩
  · have := hout.map nOf
    rwa [ints_nOf h] at this
  · rw [Array.toList_map, List.map_map]
    have h0 : (arrOf st').size = (pairsOf vs).size := pm.size_eq
    rw [← h0] at sr
    have := sr.pw
    refine List.pairwise_map.mpr ?_
    refine List.Pairwise.imp_of_mem (fun {a b} ha hb hab => ?_) this
    have ea := (mem_zip_self (hl.mem_iff.mp ha)).1
    have eb := (mem_zip_self (hl.mem_iff.mp hb)).1
    have hab : iO.blt (nOf b.1) (nOf a.1) = false := hab
    rw [ea, eb] at hab
    unfold iO at hab
    simp at hab
    exact hab
/-- sorted of what is collected by turns -/
theorem sorted_col {v : Value} {Q : Value → Shared → Prop}
    (hc : ∀ A' : Around, A'.handled = A.handled → wpAny (model prog w) A' (collect v) (fun vs s1 => ∃ ns, L2.Vals (ns.map L2.V.int) vs ∧ vs.length ≤ sizeLine ∧
      ∀ (h2 : Heap) (ms : List Int) (ws : Array Value) (e : Nat), L2.Vals (ms.map L2.V.int) ws.toList → ms.Perm ns → ms.Pairwise (· ≤ ·) → (∀ b o, s1.heap.get? b = some o → h2.get? b = some o) → h2.get? s1.heap.objs.size = some (seqObj "list" ws e) → Q (.ref s1.heap.objs.size) { s1 with heap := h2 }) (fun _ _ => False) s) :
    wpAny (model prog w) A (call (.builtin "sorted") [v]) Q E s := by
  refine Calls.call_function_entry kind_sorted plain_sorted entry_sorted (args_sorted1 _) ?_
  unfold Builtin.«sorted»
  refine wpAny_bind (m := checkCount "sorted" 1 1 _) (wpAny_pure (wpAny_bind ?_))
  refine wpAny_mono (hc _ rfl) (fun vs s1 h => ?_) (fun _ _ h => h.elim)
  obtain ⟨ns, hv, hsz, h⟩ := h
  refine wpAny_bind (wpAny_newList ?_ hsz)
  show wpAny _ _ _ _ _ { s1 with heap := s1.heap.push (seqObj "list" vs.toArray 0) }
  have hoL : (s1.heap.push (seqObj "list" vs.toArray 0)).get? s1.heap.objs.size = some (seqObj "list" vs.toArray 0) := Heap.get?_push_size _ rfl
  have old : ∀ b o, s1.heap.get? b = some o → (s1.heap.push (seqObj "list" vs.toArray 0)).get? b = some o ∧ b ≠ s1.heap.objs.size := fun b o e =>
    ⟨Heap.get?_push_of_some _ e, Nat.ne_of_lt (Heap.lt_size e)⟩
  have S : Sorts prog w s1 vs iO (fun x => nOf x.1) oneType' := sorts_ints hv
  have fin : ∀ st' : SortSt, (arrOf st').Perm (pairsOf vs) → Srt iO (fun x => nOf x.1) (arrOf st') 0 (pairsOf vs).size → Q (.ref s1.heap.objs.size) { s1 with heap := sortedHeap (s1.heap.push (seqObj "list" vs.toArray 0)) s1.heap.objs.size vs ((arrOf st').map (·.2)) } := fun st' pm sr => by
    obtain ⟨ms, h1, h2, h3⟩ := srt_ints hv pm sr
    obtain ⟨e, he⟩ := sortedHeap_at (out := (arrOf st').map (·.2)) hoL
    refine h _ ms _ e h1 h2 h3 (fun b o eb => ?_) he
    have hlt := Heap.lt_size eb
    rw [sortedHeap_old (Nat.ne_of_lt hlt) (by rw [size_push']; exact Nat.lt_succ_of_lt hlt)]
    exact Heap.get?_push_of_some _ eb
  refine wpAny_bind (wpAny_holding (wpAny_call_entry slot_list_sort ⟨_, hoL, rfl⟩ entry_list_sort (sort_at S hoL hsz old fun st' a1 a2 => ⟨_, rfl, ?_⟩) (args_list_sort _)))
  exact wpAny_pure ⟨_, rfl, fin st' a1 a2⟩
end
end TS
namespace L2
open PySem PySem.Spec PyProof.Rows
section
variable {X : Cx}
theorem call_sortedI : CallR X (.builtin "sorted") (fun vs H Q => ∃ p ns, vs = [.ref p] ∧ SqL X.K H p (ns.map V.int) ∧
    ∀ l (ms : List Int), H l = none → ms.Perm ns → ms.Pairwise (· ≤ ·) → Q (.ref l) (upd H l (.lst (ms.map V.int)))) := by
  intro pins s σ H xs us Q I r h
  obtain ⟨p, ns, rfl, hq, q⟩ := h
  obtain ⟨u, rfl, rx⟩ := vals1 r
  cases rx
  obtain ⟨its, rv, pl, hz⟩ := I.list hq
  have hlen := rv.length
  refine TS.sorted_raw (TS.sorts_ints rv) pl.isList (by omega) fun st' pm sr => ?_
  obtain ⟨ms, h1, h2, h3⟩ := TS.srt_ints rv pm sr
  obtain ⟨e, he⟩ := sortedAll_at s.heap its ((arrOf st').map (·.2))
  have hz2 : (ms.map V.int).length ≤ sizeLine := by rw [List.length_map, h2.length_eq, ← List.length_map (f := V.int)]; exact hz
  refine ⟨.ref (s.heap.objs.size + 1), _, I.laid (t' := s.toks) (fun b o eb => sortedAll_old eb) (Nat.le_succ _) (show ObjOk X.prog X.w _ _ _ (.lst (ms.map V.int)) from ⟨hz2, _, e, h1, ?_⟩), rfl, q _ _ (I.hok.fresh (Nat.le_succ _)) h2 h3⟩
  rw [Array.toArray_toList]
  exact he
/-- the dict at d of the days ns, each True, in this order: known whole -/
def dk (ns : List Int) : List (Key × V) := ns.map fun n => (Sum.inl n, V.bl true)
def FD (H : Hp) (d : Addr) (ns : List Int) : Prop := ∃ o, H d = some (.frz o (.dK (dk ns)))
theorem FD.same {H H' : Hp} {d : Addr} {ns : List Int} (h : FD H d ns) (e : Same H H') : FD H' d ns := by
  obtain ⟨o, q⟩ := h
  exact ⟨o, e _ _ q⟩
theorem fd_at {pins : List (Addr × Obj)} {σ : St} {H : Hp} {s : Shared} {d : Addr} {o : Obj} {ns : List Int} (I : Inv X pins σ H s) (h : H d = some (.frz o (.dK (dk ns)))) :
    (dk ns).length ≤ sizeLine ∧ (d == sysModules) = false ∧ ∃ vs ep, KV (dk ns) vs ∧ s.heap.DictAt (mixKind X.prog X.w) d vs ep ∧ s.heap.get? d = some o ∧ ∃ es, o.data = .dict es ep := by
  obtain ⟨ho, z, hd, vs, rel, o', es, ep, h1, h2, h3, h4⟩ := (show ObjOk X.prog X.w H s.heap d (.frz o (.dK (dk ns))) from I.hok d _ h)
  rw [ho] at h1
  cases h1
  exact ⟨z, hd, vs, ep, rel, ⟨o, es, ho, h2, h3, h4⟩, ho, es, h3⟩
theorem dk_keys {ns : List Int} {vs : List (Key × Value)} (r : KV (dk ns) vs) : vs.map (·.1) = ns.map Sum.inl := by
  rw [← KV.keys r]
  simp [dk]
theorem rel_key {prog : Program} {w : World} {k : Key} {v : Value} (h : (mixKind prog w).is k v = true) : RelV (kV k) v := by
  rw [mixKind_is] at h
  rcases keyIs_shape h with ⟨i, t, rfl, rfl⟩ | ⟨x, t, rfl, rfl⟩
  · exact ⟨t, rfl⟩
  · exact ⟨t, rfl⟩
theorem call_sortedD (hc : X.calm = true) : CallR X (.builtin "sorted") (fun vs H Q => ∃ d ns, vs = [.ref d] ∧ FD H d ns ∧
    ∀ l (ms : List Int), H l = none → ms.Perm ns → ms.Pairwise (· ≤ ·) → Q (.ref l) (upd H l (.lst (ms.map V.int)))) := by
  intro pins s σ H xs us Q I r h
  obtain ⟨d, ns, rfl, ⟨o, hd⟩, q⟩ := h
  obtain ⟨u, rfl, rx⟩ := vals1 r
  cases rx
  obtain ⟨z, hsys, vs, ep, rel, da, _, _, _⟩ := fd_at I hd
  have hkeys := dk_keys rel
  have hvl : vs.length = ns.length := by
    have := congrArg List.length hkeys
    simpa using this
  have hzn : ns.length ≤ sizeLine := by simpa [dk] using z
  refine TS.sorted_col fun A' hA => PySem.W.kdu_collect (PySem.W.kdl_dict (knd := mixKind X.prog X.w) (kvs := vs) (ep := ep) hsys) (hA.trans (I.ok.hd hc)) da (by omega) fun h' tk acc hk hit => ?_
  have hv : Vals (ns.map V.int) acc.toList := by
    have hsz : acc.toList.length = ns.length := by
      have := hit.1
      simp only [Array.length_toList]
      omega
    have key : ∀ (i : Nat) (n : Int), ns[i]? = some n → ∃ u, acc.toList[i]? = some u ∧ RelV (V.int n) u := fun i n hi => by
      have hil : i < acc.toList.length := by rw [hsz]; exact (List.getElem?_eq_some_iff.mp hi).1
      have e : acc[i]? = some acc.toList[i] := by
        rw [← Array.getElem?_toList]
        exact List.getElem?_eq_getElem hil
      obtain ⟨k, x, hx, hke⟩ := hit.2 i _ e
      have : (vs.map (·.1))[i]? = some k := by rw [List.getElem?_map, hx]; rfl
      rw [hkeys, List.getElem?_map, hi] at this
      cases this
      exact ⟨_, List.getElem?_eq_getElem hil, rel_key (k := Sum.inl n) hke⟩
    clear hit z rel hkeys hvl hzn q hd
    generalize acc.toList = l at hsz key
    induction ns generalizing l with
    | nil =>
      cases l with
      | nil => exact .nil
      | cons _ _ => simp at hsz
    | cons n ns ih =>
      cases l with
      | nil => simp at hsz
      | cons u l =>
        obtain ⟨u', e, r⟩ := key 0 n rfl
        cases e
        exact .cons r (ih l (by simpa using hsz) fun i m hm => key (i + 1) m (by simpa using hm))
  refine ⟨ns, hv, by simp only [Array.length_toList]; have := hit.1; omega, fun h2 ms ws e h1 hp hs old he => ?_⟩
  have hz2 : (ms.map V.int).length ≤ sizeLine := by rw [List.length_map, hp.length_eq]; exact hzn
  have I2 : Inv X pins σ H { s with heap := h', toks := tk } := I.kept (t' := tk) hk
  refine ⟨.ref h'.objs.size, _, I2.laid (t' := tk) (fun b o eb => old b o eb) (Nat.le_refl _) (show ObjOk X.prog X.w _ _ _ (.lst (ms.map V.int)) from ⟨hz2, _, e, h1, ?_⟩), rfl, q _ _ (I2.hok.fresh (Nat.le_refl _)) hp hs⟩
  rw [Array.toArray_toList]
  exact he
theorem call_lenF : CallR X (.builtin "len") (fun vs H Q => ∃ d ns, vs = [.ref d] ∧ FD H d ns ∧ Q (.int ns.length) H) := by
  intro pins s σ H xs us Q I r h
  obtain ⟨d, ns, rfl, ⟨o, hd⟩, q⟩ := h
  obtain ⟨u, rfl, ru⟩ := vals1 r
  cases ru
  refine d_len I (.inr ⟨o, hd⟩) fun t s' I' => ⟨.int ns.length, H, I', ⟨t, ?_⟩, q⟩
  simp [dk]
theorem valV_dk (n : Int) : ∀ ns : List Int, (valV (dk ns) (Sum.inl n)).isSome = decide (n ∈ ns)
  | [] => rfl
  | m :: ns => by
    show (valV ((Sum.inl m, V.bl true) :: dk ns) (Sum.inl n)).isSome = _
    by_cases h : m = n
    · subst h
      rw [valV_pos rfl]
      simp
    · rw [valV_neg (by intro e; exact h (Sum.inl.inj e)), valV_dk n ns]
      have : n ≠ m := fun e => h e.symm
      simp [this]
theorem FD.get {H : Hp} {d : Addr} {ns : List Int} (h : FD H d ns) (n : Int) : DGet H d (.int n) (valV (dk ns) (Sum.inl n)) := by
  obtain ⟨o, hd⟩ := h
  exact .inl ⟨dk ns, Sum.inl n, .inr ⟨o, hd⟩, rfl, rfl⟩
theorem dk_put (ns : List Int) (n : Int) : putK (dk ns) (Sum.inl n) (V.bl true) = dk (if n ∈ ns then ns else ns ++ [n]) := by
  unfold putK
  have ha : ((dk ns).any fun kv => decide (kv.1 = Sum.inl n)) = decide (n ∈ ns) := by rw [valV_any, valV_dk]
  rw [ha]
  by_cases h : n ∈ ns
  · rw [if_pos h, decide_eq_true h, if_pos rfl]
    unfold dk
    rw [List.map_map]
    refine List.map_congr_left fun m _ => ?_
    simp only [Function.comp]
    split <;> rfl
  · rw [if_neg h, decide_eq_false h, if_neg (by decide)]
    simp [dk]
/-- a dict that is written no more is known whole -/
def tFrz (te : TE) : TE := fun σ H Q => te σ H fun x H1 => ∃ d kvs, x = .ref d ∧ H1 d = some (.dK kvs) ∧ ∀ o, Q x (upd H1 d (.frz o (.dK kvs)))
theorem pe_frz {e : Expr} {te : TE} (he : PE X e te) : PE X e (tFrz te) := by
  intro pins s σ H Q I h
  refine thn (he pins s σ H _ I h) fun v s1 ⟨x, H1, I1, r1, q1⟩ => ?_
  obtain ⟨d, kvs, rfl, hd, q⟩ := q1
  have ok := (show ObjOk X.prog X.w H1 s1.heap d (.dK kvs) from I1.hok d _ hd)
  obtain ⟨z, hsys, vs, rel, o, es, ep, h1, h2⟩ := id ok
  have ne : ∀ {b u}, H1 b = some u → u ≠ .dK kvs → b ≠ d := fun e n => ne_of e hd n
  have nn : ∀ {b}, H1 b = none → b ≠ d := fun e => fun z => by rw [z, hd] at e; cases e
  refine ⟨.ref d, upd H1 d (.frz o (.dK kvs)), ⟨I1.ok, I1.os, I1.bare, ⟨I1.base.keep, I1.base.slot, fun b ob q n hx => ?_, I1.base.there, fun b xs e => ?_, fun b ob u e => ?_, fun b ps e => ?_⟩, I1.loc, I1.cell, ?_, fun x c e => ?_, fun p hp => ?_, fun b u e => ?_, I1.len⟩, r1, q o⟩
  · have := I1.base.free b ob q n hx
    rw [upd_ne (nn this)]
    exact this
  · have := I1.base.tups b xs e
    rw [upd_ne (ne this (by intro z; cases z))]
    exact this
  · have := I1.base.frzs b ob u e
    rw [upd_ne (ne this (by intro z; cases z))]
    exact this
  · obtain ⟨more, this⟩ := I1.base.tbls b ps e
    rw [upd_ne (ne this (by intro z; cases z))]
    exact ⟨more, this⟩
  · rw [upd_ne (nn I1.free)]
    exact I1.free
  · rw [upd_ne (nn (I1.freeC x c e))]
    exact I1.freeC x c e
  · obtain ⟨p1, p2, p3⟩ := I1.pin p hp
    refine ⟨p1, ?_, p3⟩
    rw [upd_ne (nn p2)]
    exact p2
  · have st : ∀ {c : Addr} {v : HO}, ObjOk X.prog X.w H1 s1.heap c v → ObjOk X.prog X.w (upd H1 d (.frz o (.dK kvs))) s1.heap c v := fun x =>
      x.stay (fun _ _ _ q => q) (fun b q => by rw [upd_ne (ne q (by intro z; cases z))]; exact q) (fun b xs q => by rw [upd_ne (ne q (by intro z; cases z))]; exact q)
    by_cases hb : b = d
    · subst hb
      rw [upd_same] at e
      cases e
      exact ⟨h1, st ok⟩
    · rw [upd_ne hb] at e
      exact st (I1.hok b u e)
/-- the keys of a dict that is known whole, in their order -/
def Itd (d : Addr) (o : Obj) (ns : List Int) : It :=
  ⟨fun i H => H d = some (.frz o (.dK (dk ns))) ∧ i < ns.length, fun i H x H' => H' = H ∧ ∃ n, ns[i]? = some n ∧ x = .int n, fun i H => H d = some (.frz o (.dK (dk ns))) ∧ ns.length ≤ i⟩
theorem turn_dict {P : Program} {w : World} {K : PySem.W.Frag} {tg : Expr} {o : Obj} {ns : List Int} {ep : Nat} (hep : ∃ es, o.data = .dict es ep) (d it : Addr) : Turn P w K tg (Itd d o ns) [it] it (fun i h => h.IsKeyIter it d i ns.length ep) where
  mem := by simp
  obj := fun i h st b hb => by
    have e : b = it := by simpa using hb
    subst e
    obtain ⟨o, e, c, d⟩ := st
    exact ⟨o, e, fun v z => by rw [d] at z; cases z⟩
  keep := fun i h h' st k => st.at fun o e => k it (by simp) o e
  item := by
    intro X hP hw hK hc i pins s σ H E I hf st hg
    subst hP hw hK
    obtain ⟨hd, hi⟩ := hg
    obtain ⟨z, hsys, vs, ep', rel, da, _, es', e'⟩ := fd_at I hd
    obtain ⟨es, e⟩ := hep
    rw [e] at e'
    cases e'
    have hkeys := dk_keys rel
    have hvl : vs.length = ns.length := by
      have := congrArg List.length hkeys
      simpa using this
    obtain ⟨f0, f1, f2, f3, f4, f5⟩ := hf it (by simp)
    have hx : vs[i]? = some vs[i] := List.getElem?_eq_getElem (by omega)
    have hkey : vs[i].1 = Sum.inl ns[i] := by
      have h1 : (vs.map (·.1))[i]? = some vs[i].1 := by rw [List.getElem?_map, hx]; rfl
      rw [hkeys, List.getElem?_map, List.getElem?_eq_getElem hi] at h1
      exact (Option.some.inj h1).symm
    rw [← hvl] at st
    refine wpAny_pyNext_dict_item st da (k := vs[i].1) (v := vs[i].2) hx fun u h' hku st' sb => ?_
    have I1 : Inv X pins σ H { s with heap := h' } := I.turned (t' := s.toks) (fun b o hb e => (sb.2 b hb).trans e) f0 f1 f3 f4 f5
    rw [hkey] at hku
    rw [hvl] at st'
    obtain ⟨o2, e2, c2, d2⟩ := id st'
    exact ⟨u, rfl, go_of (s := { s with heap := h' }) e2 c2 d2 (by decide) ⟨.int ns[i], H, I1, rel_key (k := Sum.inl ns[i]) hku, ⟨rfl, ns[i], List.getElem?_eq_getElem hi, rfl⟩, st', fun b hb => (hf b hb).1⟩⟩
  done := by
    intro X hP hw hK hc i pins s σ H E I hf st hg
    subst hP hw hK
    obtain ⟨hd, hi⟩ := hg
    obtain ⟨z, hsys, vs, ep', rel, da, _, es', e'⟩ := fd_at I hd
    obtain ⟨es, e⟩ := hep
    rw [e] at e'
    cases e'
    have hkeys := dk_keys rel
    have hvl : vs.length = ns.length := by
      have := congrArg List.length hkeys
      simpa using this
    obtain ⟨f0, f1, f2, f3, f4, f5⟩ := hf it (by simp)
    rw [← hvl] at st
    exact wpAny_pyNext_dict_end (I.ok.hd hc) st da (by simp; omega) fun h' eb => ⟨rfl, I.turned (t' := s.toks) (fun b o hb e => eb b o hb e) f0 f1 f3 f4 f5⟩
  self := fun _ _ _ _ _ st h => wpAny_pyIter_keyiter st h
def iDict (tl : TE) : TI := fun σ H R => tl σ H fun x H1 => ∃ d o ns, x = .ref d ∧ H1 d = some (.frz o (.dK (dk ns))) ∧ R (Itd d o ns) H1
theorem pi_dict {tg l : Expr} {tl : TE} (hl : PE X l tl) : PI X tg l (iDict tl) := by
  intro pins s σ H R I h
  refine thn (hl pins s σ H _ I h) fun v s1 ⟨x, H1, I1, r1, q1⟩ => ?_
  obtain ⟨d, o, ns, e, hd, q⟩ := q1
  subst e
  cases r1
  obtain ⟨z, hsys, vs, ep, rel, da, _, hep⟩ := fd_at I1 hd
  have hvl : vs.length = ns.length := by
    have := congrArg List.length (dk_keys rel)
    simpa using this
  refine wpAny_pyIter_dict hsys da ?_
  refine ⟨s1.heap.objs.size, [s1.heap.objs.size], _, _, H1, rfl, I1.kept (t' := s1.toks) fun b o e => Heap.get?_push_of_some _ e, turn_dict hep d _, ⟨_, Heap.get?_push_size _ rfl, rfl, by rw [hvl]; rfl⟩, fun b hb => ?_, q⟩
  have e : b = s1.heap.objs.size := by simpa using hb
  subst e
  exact I1.fpOk (Nat.le_refl _) (I1.hok.fresh (Nat.le_refl _))
theorem comp_dict {d : Addr} {o : Obj} {ns : List Int} {g : TG} {tc : TT} {te : TE} {σ0 : St} {H : Hp} {fin : List V → Hp → Prop} (Pv : Nat → List V → St → Hp → Prop) (h0 : Pv 0 [] σ0 H) (hx : ns.length ≤ sizeLine)
    (hl : ∀ i ys σ H, i ≤ ns.length → Pv i ys σ H → H d = some (.frz o (.dK (dk ns))) ∧ ys.length ≤ i)
    (hs : ∀ i n ys σ H, ns[i]? = some n → Pv i ys σ H → g (.int n) σ H fun σ2 H2 => tc σ2 H2 fun b H3 => if b = true then te σ2 H3 fun y H4 => Pv (i + 1) (ys ++ [y]) σ2 H4 else Pv (i + 1) ys σ2 H3)
    (hd : ∀ ys σ H, Pv ns.length ys σ H → fin ys H) :
    ∃ W : Nat → Nat → List V → St → Hp → Prop, (∃ m, W 0 m [] σ0 H) ∧ compLoopR (Itd d o ns) g tc te fin W := by
  refine ⟨fun i m ys σ H => m = ns.length - i ∧ i ≤ ns.length ∧ Pv i ys σ H, ⟨ns.length, by simp, Nat.zero_le _, h0⟩, ?_⟩
  rintro i m ys σ H ⟨rfl, hi, p⟩
  obtain ⟨q, hy⟩ := hl i ys σ H hi p
  by_cases hlt : i < ns.length
  · refine .inr ⟨⟨q, hlt⟩, by omega, Pv (i + 1), fun ys' σ' H' p' => ⟨ns.length - (i + 1), by omega, rfl, hlt, p'⟩, fun x H' y => ?_⟩
    obtain ⟨e, n, hn, rfl⟩ := y
    subst e
    exact hs i n ys σ _ hn p
  · have e : i = ns.length := by omega
    subst e
    exact .inl ⟨⟨q, Nat.le_refl _⟩, hd ys σ H p⟩
end
end L2
/-! Spreads of days, as lists of pairs -/
namespace Dy
abbrev P := Int × Int
def Day (fs : List P) (d : Int) : Prop := ∃ p ∈ fs, p.1 ≤ d ∧ d ≤ p.2
structure Spr (fs : List P) : Prop where
  ok : ∀ p ∈ fs, p.1 ≤ p.2
  gap : fs.Pairwise fun p q => p.2 + 2 ≤ q.1
def lex (p q : P) : Prop := p.1 < q.1 ∨ (p.1 = q.1 ∧ p.2 ≤ q.2)
/-- one more stretch -/
def stp (acc : List P) (p : P) : List P := match acc.getLast? with
  | some l => if p.1 ≤ l.2 + 1 then acc.dropLast ++ [(l.1, if p.2 > l.2 then p.2 else l.2)] else acc ++ [p]
  | none => [p]
theorem stp_nil (p : P) : stp [] p = [p] := rfl
theorem stp_snoc (a : List P) (l p : P) : stp (a ++ [l]) p = if p.1 ≤ l.2 + 1 then a ++ [(l.1, if p.2 > l.2 then p.2 else l.2)] else (a ++ [l]) ++ [p] := by
  unfold stp
  rw [List.getLast?_append]
  simp
theorem snoc_of {α : Type} (l : List α) : l = [] ∨ ∃ a x, l = a ++ [x] := by
  cases l with
  | nil => exact .inl rfl
  | cons a r => exact .inr ⟨(a :: r).dropLast, (a :: r).getLast (by simp), (List.dropLast_concat_getLast (by simp)).symm⟩
theorem day_app {a b : List P} {d : Int} : Day (a ++ b) d ↔ Day a d ∨ Day b d := by
  unfold Day
  constructor
  · rintro ⟨p, hp, h⟩
    rcases List.mem_append.mp hp with q | q
    · exact .inl ⟨p, q, h⟩
    · exact .inr ⟨p, q, h⟩
  · rintro (⟨p, hp, h⟩ | ⟨p, hp, h⟩)
    · exact ⟨p, List.mem_append_left _ hp, h⟩
    · exact ⟨p, List.mem_append_right _ hp, h⟩
theorem day_one {p : P} {d : Int} : Day [p] d ↔ p.1 ≤ d ∧ d ≤ p.2 := by
  unfold Day
  constructor
  · rintro ⟨q, hq, h⟩
    rw [List.mem_singleton.mp hq] at h
    exact h
  · intro h
    exact ⟨p, List.mem_singleton.mpr rfl, h⟩
theorem day_perm {a b : List P} (h : a.Perm b) (d : Int) : Day a d ↔ Day b d := by
  unfold Day
  constructor
  · rintro ⟨p, hp, q⟩
    exact ⟨p, h.mem_iff.mp hp, q⟩
  · rintro ⟨p, hp, q⟩
    exact ⟨p, h.mem_iff.mpr hp, q⟩
/-- what holds between two turns: done so far, what is found -/
structure Run (done acc : List P) : Prop where
  spr : Spr acc
  day : ∀ d, Day acc d ↔ Day done d
  low : ∀ a l, acc = a ++ [l] → ∃ q ∈ done, q.1 = l.1
  len : acc.length ≤ done.length
  emp : acc = [] → done = []
theorem run_nil : Run [] [] := ⟨⟨(fun _ h => nomatch h), List.Pairwise.nil⟩, fun _ => Iff.rfl, fun a l e => by simp at e, Nat.le_refl _, fun _ => rfl⟩
theorem run_step {done acc : List P} {p : P} (R : Run done acc) (hp : p.1 ≤ p.2) (hs : ∀ q ∈ done, q.1 ≤ p.1) : Run (done ++ [p]) (stp acc p) := by
  rcases snoc_of acc with rfl | ⟨a, l, rfl⟩
  · have hd := R.emp rfl
    subst hd
    rw [stp_nil]
    refine ⟨⟨fun q hq => by rw [List.mem_singleton.mp hq]; exact hp, by simp⟩, fun d => by simp, fun a l e => ?_, by simp, fun e => by simp at e⟩
    refine ⟨p, by simp, ?_⟩
    have : a = [] ∧ p = l := by
      cases a with
      | nil => simpa using e
      | cons x r => simp at e
    rw [this.2]
  · rw [stp_snoc]
    obtain ⟨q0, hq0, e0⟩ := R.low a l rfl
    have hl : l.1 ≤ p.1 := by rw [← e0]; exact hs q0 hq0
    have hlo := R.spr.ok l (by simp)
    have hg := List.pairwise_append.mp R.spr.gap
    by_cases hc : p.1 ≤ l.2 + 1
    · rw [if_pos hc]
      refine ⟨⟨fun q hq => ?_, ?_⟩, fun d => ?_, fun a' l' e => ?_, ?_, fun e => by simp at e⟩
      · rcases List.mem_append.mp hq with h | h
        · exact R.spr.ok q (List.mem_append_left _ h)
        · rw [List.mem_singleton.mp h]
          dsimp only
          split <;> omega
      · refine List.pairwise_append.mpr ⟨hg.1, by simp, fun x hx y hy => ?_⟩
        rw [List.mem_singleton.mp hy]
        exact hg.2.2 x hx l (by simp)
      · rw [day_app, day_one, day_app, day_one, ← R.day d, day_app, day_one]
        dsimp only
        constructor
        · rintro (h | h)
          · exact .inl (.inl h)
          · by_cases h2 : d ≤ l.2
            · exact .inl (.inr ⟨h.1, h2⟩)
            · right
              have := h.2
              split at this <;> omega
        · rintro ((h | h) | h)
          · exact .inl h
          · right
            refine ⟨h.1, ?_⟩
            split <;> omega
          · right
            refine ⟨by omega, ?_⟩
            split <;> omega
      · have : l'.1 = l.1 := by
          have := (List.append_inj' e rfl).2
          simp at this
          rw [← this]
        exact ⟨q0, List.mem_append_left _ hq0, by rw [this]; exact e0⟩
      · have := R.len
        simp at this ⊢
        omega
    · rw [if_neg hc]
      refine ⟨⟨fun q hq => ?_, ?_⟩, fun d => ?_, fun a' l' e => ?_, ?_, fun e => by simp at e⟩
      · rcases List.mem_append.mp hq with h | h
        · exact R.spr.ok q h
        · rw [List.mem_singleton.mp h]; exact hp
      · refine List.pairwise_append.mpr ⟨R.spr.gap, by simp, fun x hx y hy => ?_⟩
        rw [List.mem_singleton.mp hy]
        rcases List.mem_append.mp hx with h | h
        · have := hg.2.2 x h l (by simp)
          omega
        · rw [List.mem_singleton.mp h]; omega
      · rw [day_app (a := a ++ [l]), day_app (a := done), R.day d]
      · have := (List.append_inj' e rfl).2
        simp at this
        exact ⟨p, by simp, by rw [this]⟩
      · have := R.len
        simp at this ⊢
        omega
theorem run_all {qs : List P} (hs : qs.Pairwise lex) (hq : ∀ p ∈ qs, p.1 ≤ p.2) : ∀ n, n ≤ qs.length → Run (qs.take n) ((qs.take n).foldl stp []) := by
  intro n
  induction n with
  | zero => intro _; simpa using run_nil
  | succ n ih =>
    intro hn
    have e : qs.take (n + 1) = qs.take n ++ [qs[n]] := by rw [List.take_succ_eq_append_getElem (by omega)]
    rw [e, List.foldl_append]
    refine run_step (ih (by omega)) (hq _ (List.getElem_mem _)) fun q hq' => ?_
    obtain ⟨i, hi, rfl⟩ := List.mem_take_iff_getElem.mp hq'
    have := List.pairwise_iff_getElem.mp hs i n (by omega) (by omega) (by omega)
    rcases this with h | h
    · omega
    · omega
/-- a spread's stretch ends where it ends -/
theorem Spr.ends {fs : List P} (S : Spr fs) {p : P} (hp : p ∈ fs) : ¬ Day fs (p.2 + 1) ∧ ¬ Day fs (p.1 - 1) := by
  have key : ∀ q ∈ fs, q = p ∨ q.2 + 2 ≤ p.1 ∨ p.2 + 2 ≤ q.1 := by
    intro q hq
    obtain ⟨i, hi, rfl⟩ := List.mem_iff_getElem.mp hq
    obtain ⟨j, hj, rfl⟩ := List.mem_iff_getElem.mp hp
    have g := List.pairwise_iff_getElem.mp S.gap
    rcases Nat.lt_trichotomy i j with h | h | h
    · exact .inr (.inl (g i j hi hj h))
    · subst h; exact .inl rfl
    · exact .inr (.inr (g j i hj hi h))
  have hpp := S.ok p hp
  constructor
  · rintro ⟨q, hq, h1, h2⟩
    rcases key q hq with rfl | h | h <;> omega
  · rintro ⟨q, hq, h1, h2⟩
    rcases key q hq with rfl | h | h <;> omega
theorem Spr.same {fs gs : List P} (S : Spr fs) (T : Spr gs) (h : ∀ d, Day fs d ↔ Day gs d) : fs = gs := by
  have sub : ∀ {fs gs : List P}, Spr fs → Spr gs → (∀ d, Day fs d ↔ Day gs d) → ∀ p ∈ fs, p ∈ gs := by
    intro fs gs S T h p hp
    have hpp := S.ok p hp
    obtain ⟨q, hq, h1, h2⟩ := (h p.1).mp ⟨p, hp, Int.le_refl _, hpp⟩
    obtain ⟨e1, e2⟩ := T.ends hq
    obtain ⟨f1, f2⟩ := S.ends hp
    have a1 : q.1 = p.1 := by
      by_cases hlt : q.1 = p.1
      · exact hlt
      · exact absurd ((h (p.1 - 1)).mpr ⟨q, hq, by omega, by omega⟩) f2
    have a2 : q.2 = p.2 := by
      rcases Int.lt_trichotomy q.2 p.2 with hlt | hlt | hlt
      · exact absurd ((h (q.2 + 1)).mp ⟨p, hp, by omega, by omega⟩) e1
      · exact hlt
      · exact absurd ((h (p.2 + 1)).mpr ⟨q, hq, by omega, by omega⟩) f1
    have : q = p := Prod.ext a1 a2
    rw [← this]; exact hq
  -- two lists in the same strict order with the same members
  have strict : ∀ {fs : List P}, Spr fs → fs.Pairwise (fun p q => p.1 < q.1) := fun {fs} S => by
    refine List.Pairwise.imp_of_mem (fun {p q} hp hq hg => ?_) S.gap
    have := S.ok p hp
    omega
  have uniq : ∀ (fs gs : List P), fs.Pairwise (fun p q => p.1 < q.1) → gs.Pairwise (fun p q => p.1 < q.1) → (∀ p, p ∈ fs ↔ p ∈ gs) → fs = gs := by
    intro fs
    induction fs with
    | nil =>
      intro gs _ _ h
      cases gs with
      | nil => rfl
      | cons g gs => exact absurd ((h g).mpr (by simp)) (by simp)
    | cons p fs ih =>
      intro gs h1 h2 h
      cases gs with
      | nil => exact absurd ((h p).mp (by simp)) (by simp)
      | cons q gs =>
        have p1 := List.pairwise_cons.mp h1
        have p2 := List.pairwise_cons.mp h2
        have e : p = q := by
          rcases List.mem_cons.mp ((h p).mp (by simp)) with e | e
          · exact e
          · rcases List.mem_cons.mp ((h q).mpr (by simp)) with e' | e'
            · exact e'.symm
            · have := p1.1 q e'
              have := p2.1 p e
              omega
        subst e
        have hne : ∀ x, x ∈ fs → x ≠ p := fun x hx e => by subst e; have := p1.1 x hx; omega
        have hne' : ∀ x, x ∈ gs → x ≠ p := fun x hx e => by subst e; have := p2.1 x hx; omega
        rw [ih gs p1.2 p2.2 fun x => ⟨fun hx => by
          rcases List.mem_cons.mp ((h x).mp (List.mem_cons_of_mem _ hx)) with e | e
          · exact absurd e (hne x hx)
          · exact e, fun hx => by
          rcases List.mem_cons.mp ((h x).mpr (List.mem_cons_of_mem _ hx)) with e | e
          · exact absurd e (hne' x hx)
          · exact e⟩]
  exact uniq fs gs (strict S) (strict T) fun p => ⟨sub S T h p, sub T S (fun d => (h d).symm) p⟩
end Dy
namespace Dy
/-! two spreads: what is in both -/
structure BI (A B : List P) (i j : Nat) (F : List P) : Prop where
  spr : Spr F
  day : ∀ d, Day F d ↔ ∃ (m n : Nat) (p q : P), A[m]? = some p ∧ B[n]? = some q ∧ (m < i ∨ n < j) ∧ p.1 ≤ d ∧ d ≤ p.2 ∧ q.1 ≤ d ∧ d ≤ q.2
  low : ∀ f ∈ F, ∀ (m n : Nat) (p q : P), A[m]? = some p → B[n]? = some q → i ≤ m → j ≤ n → f.2 + 2 ≤ p.1 ∨ f.2 + 2 ≤ q.1
  len : F.length ≤ i + j
theorem bi_start (A B : List P) : BI A B 0 0 [] := by
  refine ⟨⟨(fun _ h => nomatch h), List.Pairwise.nil⟩, fun d => ⟨fun h => ?_, fun h => ?_⟩, (fun _ h => nomatch h), Nat.le_refl _⟩
  · obtain ⟨p, hp, _⟩ := h
    cases hp
  · obtain ⟨m, n, p, q, _, _, h, _⟩ := h
    omega
theorem gap_at {A : List P} (S : Spr A) {i m : Nat} {p q : P} (h : i < m) (e1 : A[i]? = some p) (e2 : A[m]? = some q) : p.2 + 2 ≤ q.1 := by
  obtain ⟨h1, rfl⟩ := List.getElem?_eq_some_iff.mp e1
  obtain ⟨h2, rfl⟩ := List.getElem?_eq_some_iff.mp e2
  exact List.pairwise_iff_getElem.mp S.gap i m h1 h2 h
def cutF (F : List P) (p q : P) : List P :=
  if (if q.1 > p.1 then q.1 else p.1) ≤ (if q.2 < p.2 then q.2 else p.2) then F ++ [((if q.1 > p.1 then q.1 else p.1), (if q.2 < p.2 then q.2 else p.2))] else F
theorem cutF_day {F : List P} {p q : P} {d : Int} : Day (cutF F p q) d ↔ Day F d ∨ (p.1 ≤ d ∧ d ≤ p.2 ∧ q.1 ≤ d ∧ d ≤ q.2) := by
  unfold cutF
  by_cases hc : (if q.1 > p.1 then q.1 else p.1) ≤ (if q.2 < p.2 then q.2 else p.2)
  · rw [if_pos hc, day_app, day_one]
    constructor
    · rintro (h | h)
      · exact .inl h
      · right
        obtain ⟨h1, h2⟩ := h
        dsimp only at h1 h2
        split at h1 <;> split at h2 <;> omega
    · rintro (h | h)
      · exact .inl h
      · right
        dsimp only
        constructor <;> split <;> omega
  · rw [if_neg hc]
    constructor
    · exact .inl
    · rintro (h | h)
      · exact h
      · exfalso
        apply hc
        split <;> split <;> omega
theorem bi_step {A B : List P} (SA : Spr A) (SB : Spr B) {i j : Nat} {F : List P} {p q : P} (I : BI A B i j F) (e1 : A[i]? = some p) (e2 : B[j]? = some q) :
    (p.2 < q.2 → BI A B (i + 1) j (cutF F p q)) ∧ (¬ p.2 < q.2 → BI A B i (j + 1) (cutF F p q)) := by
  have spr : Spr (cutF F p q) := by
    unfold cutF
    by_cases hc : (if q.1 > p.1 then q.1 else p.1) ≤ (if q.2 < p.2 then q.2 else p.2)
    · rw [if_pos hc]
      refine ⟨fun f hf => ?_, List.pairwise_append.mpr ⟨I.spr.gap, by simp, fun x hx y hy => ?_⟩⟩
      · rcases List.mem_append.mp hf with h | h
        · exact I.spr.ok f h
        · rw [List.mem_singleton.mp h]; exact hc
      · rw [List.mem_singleton.mp hy]
        have := I.low x hx i j p q e1 e2 (Nat.le_refl _) (Nat.le_refl _)
        dsimp only
        split <;> omega
    · rw [if_neg hc]; exact I.spr
  have mem : ∀ f ∈ cutF F p q, f ∈ F ∨ (f.2 ≤ p.2 ∧ f.2 ≤ q.2) := by
    intro f hf
    unfold cutF at hf
    by_cases hc : (if q.1 > p.1 then q.1 else p.1) ≤ (if q.2 < p.2 then q.2 else p.2)
    · rw [if_pos hc] at hf
      rcases List.mem_append.mp hf with h | h
      · exact .inl h
      · right
        rw [List.mem_singleton.mp h]
        dsimp only
        split <;> omega
    · rw [if_neg hc] at hf; exact .inl hf
  have len : (cutF F p q).length ≤ i + j + 1 := by
    have := I.len
    unfold cutF
    by_cases hc : (if q.1 > p.1 then q.1 else p.1) ≤ (if q.2 < p.2 then q.2 else p.2)
    · rw [if_pos hc, List.length_append, List.length_singleton]; omega
    · rw [if_neg hc]; omega
  constructor
  · intro hlt
    refine ⟨spr, fun d => ?_, fun f hf m n p' q' f1 f2 h1 h2 => ?_, by omega⟩
    · rw [cutF_day, I.day d]
      constructor
      · rintro (⟨m, n, p', q', f1, f2, h, r⟩ | h)
        · exact ⟨m, n, p', q', f1, f2, by omega, r⟩
        · exact ⟨i, j, p, q, e1, e2, by omega, h⟩
      · rintro ⟨m, n, p', q', f1, f2, h, r⟩
        by_cases hm : m < i ∨ n < j
        · exact .inl ⟨m, n, p', q', f1, f2, hm, r⟩
        · have hmi : m = i := by omega
          subst hmi
          rw [e1] at f1
          cases f1
          by_cases hn : n = j
          · subst hn
            rw [e2] at f2
            cases f2
            exact .inr r
          · have := gap_at SB (show j < n by omega) e2 f2
            omega
    · rcases mem f hf with h | h
      · exact I.low f h m n p' q' f1 f2 (by omega) h2
      · have := gap_at SA (show i < m by omega) e1 f1
        left
        omega
  · intro hge
    refine ⟨spr, fun d => ?_, fun f hf m n p' q' f1 f2 h1 h2 => ?_, by omega⟩
    · rw [cutF_day, I.day d]
      constructor
      · rintro (⟨m, n, p', q', f1, f2, h, r⟩ | h)
        · exact ⟨m, n, p', q', f1, f2, by omega, r⟩
        · exact ⟨i, j, p, q, e1, e2, by omega, h⟩
      · rintro ⟨m, n, p', q', f1, f2, h, r⟩
        by_cases hm : m < i ∨ n < j
        · exact .inl ⟨m, n, p', q', f1, f2, hm, r⟩
        · have hnj : n = j := by omega
          subst hnj
          rw [e2] at f2
          cases f2
          by_cases hn : m = i
          · subst hn
            rw [e1] at f1
            cases f1
            exact .inr r
          · have := gap_at SA (show i < m by omega) e1 f1
            omega
    · rcases mem f hf with h | h
      · exact I.low f h m n p' q' f1 f2 h1 (by omega)
      · have := gap_at SB (show j < n by omega) e2 f2
        right
        omega
theorem day_at {A : List P} {d : Int} : Day A d ↔ ∃ (m : Nat) (p : P), A[m]? = some p ∧ p.1 ≤ d ∧ d ≤ p.2 := by
  unfold Day
  constructor
  · rintro ⟨p, hp, h⟩
    obtain ⟨m, hm, rfl⟩ := List.mem_iff_getElem.mp hp
    exact ⟨m, _, List.getElem?_eq_getElem hm, h⟩
  · rintro ⟨m, p, e, h⟩
    exact ⟨p, List.mem_of_getElem? e, h⟩
theorem bi_end {A B : List P} {i j : Nat} {F : List P} (I : BI A B i j F) (h : A.length ≤ i ∨ B.length ≤ j) : ∀ d, Day F d ↔ Day A d ∧ Day B d := fun d => by
  rw [I.day d, day_at, day_at]
  constructor
  · rintro ⟨m, n, p, q, f1, f2, _, r1, r2, r3, r4⟩
    exact ⟨⟨m, p, f1, r1, r2⟩, n, q, f2, r3, r4⟩
  · rintro ⟨⟨m, p, f1, r1, r2⟩, n, q, f2, r3, r4⟩
    have h1 := (List.getElem?_eq_some_iff.mp f1).1
    have h2 := (List.getElem?_eq_some_iff.mp f2).1
    exact ⟨m, n, p, q, f1, f2, by omega, r1, r2, r3, r4⟩
/-! what is not in one, from first on -/
structure OI (B : List P) (first : Int) (k : Nat) (b : Int) (F : List P) : Prop where
  ge : first ≤ b
  done : ∀ (m : Nat) (p : P), m < k → B[m]? = some p → p.2 < b
  spr : Spr F
  low : ∀ f ∈ F, f.2 + 2 ≤ b
  day : ∀ d, first ≤ d → d < b → (Day F d ↔ ¬ Day B d)
  len : F.length ≤ k
theorem oi_start (B : List P) (first : Int) : OI B first 0 first [] :=
  ⟨Int.le_refl _, fun m p h => by omega, ⟨(fun _ h => nomatch h), List.Pairwise.nil⟩, (fun _ h => nomatch h), fun d h1 h2 => by omega, Nat.le_refl _⟩
def addF (F : List P) (b e : Int) : List P := if b ≤ e then F ++ [(b, e)] else F
theorem addF_day {F : List P} {b e d : Int} : Day (addF F b e) d ↔ Day F d ∨ (b ≤ d ∧ d ≤ e) := by
  unfold addF
  split
  · rw [day_app, day_one]
  · constructor
    · exact .inl
    · rintro (h | h)
      · exact h
      · omega
theorem addF_spr {F : List P} {b e : Int} (S : Spr F) (low : ∀ f ∈ F, f.2 + 2 ≤ b) : Spr (addF F b e) := by
  unfold addF
  split
  · rename_i hc
    refine ⟨fun f hf => ?_, List.pairwise_append.mpr ⟨S.gap, by simp, fun x hx y hy => ?_⟩⟩
    · rcases List.mem_append.mp hf with h | h
      · exact S.ok f h
      · rw [List.mem_singleton.mp h]; exact hc
    · rw [List.mem_singleton.mp hy]
      exact low x hx
  · exact S
theorem no_day {F : List P} {b d : Int} (low : ∀ f ∈ F, f.2 + 2 ≤ b) (h : b ≤ d) : ¬ Day F d := by
  rintro ⟨f, hf, h1, h2⟩
  have := low f hf
  omega
theorem oi_step {B : List P} (SB : Spr B) {first : Int} {k : Nat} {b : Int} {F : List P} {t : P} (I : OI B first k b F) (e : B[k]? = some t) :
    OI B first (k + 1) (if t.2 + 1 > b then t.2 + 1 else b) (addF F b (t.1 - 1)) := by
  have ht : t.1 ≤ t.2 := SB.ok t (List.mem_of_getElem? e)
  have hge := I.ge
  refine ⟨by split <;> omega, fun m p hm ep => ?_, addF_spr I.spr I.low, fun f hf => ?_, fun d h1 h2 => ?_, ?_⟩
  · by_cases hk : m = k
    · subst hk
      rw [e] at ep
      cases ep
      split <;> omega
    · have := I.done m p (by omega) ep
      split <;> omega
  · unfold addF at hf
    split at hf
    · rcases List.mem_append.mp hf with h | h
      · have := I.low f h
        split <;> omega
      · rw [List.mem_singleton.mp h]
        dsimp only
        split <;> omega
    · have := I.low f hf
      split <;> omega
  · rw [addF_day]
    by_cases hb : d < b
    · have := I.day d h1 hb
      constructor
      · rintro (h | h)
        · exact this.mp h
        · omega
      · intro h
        exact .inl (this.mpr h)
    · have hno := no_day I.low (show b ≤ d by omega)
      have hd2 : d ≤ t.2 := by split at h2 <;> omega
      constructor
      · rintro (h | h)
        · exact absurd h hno
        · rw [day_at]
          rintro ⟨m, p, ep, g1, g2⟩
          rcases Nat.lt_trichotomy m k with hm | hm | hm
          · have := I.done m p hm ep
            omega
          · subst hm
            rw [e] at ep
            cases ep
            omega
          · have := gap_at SB hm e ep
            omega
      · intro h
        right
        refine ⟨by omega, ?_⟩
        by_cases hc : d ≤ t.1 - 1
        · exact hc
        · exact absurd (day_at.mpr ⟨k, t, e, by omega, hd2⟩) h
  · have := I.len
    unfold addF
    split
    · simp; omega
    · omega
theorem oi_end {B : List P} {first last : Int} {b : Int} {F : List P} (I : OI B first B.length b F) : Spr (addF F b last) ∧ (∀ d, first ≤ d → d ≤ last → (Day (addF F b last) d ↔ ¬ Day B d)) ∧ (addF F b last).length ≤ B.length + 1 := by
  refine ⟨addF_spr I.spr I.low, fun d h1 h2 => ?_, ?_⟩
  · rw [addF_day]
    by_cases hb : d < b
    · have := I.day d h1 hb
      constructor
      · rintro (h | h)
        · exact this.mp h
        · omega
      · intro h
        exact .inl (this.mpr h)
    · constructor
      · intro _
        rw [day_at]
        rintro ⟨m, p, ep, g1, g2⟩
        have := I.done m p (List.getElem?_eq_some_iff.mp ep).1 ep
        omega
      · intro _
        exact .inr ⟨by omega, h2⟩
  · have := I.len
    unfold addF
    split
    · simp; omega
    · omega
theorem Spr.bounds {A : List P} (S : Spr A) {p q : P} (hp : A.head? = some p) (hq : A.getLast? = some q) : ∀ d, Day A d → p.1 ≤ d ∧ d ≤ q.2 := by
  intro d hd
  obtain ⟨m, r, er, h1, h2⟩ := day_at.mp hd
  have e0 : A[0]? = some p := by rw [← hp]; cases A <;> rfl
  have el : A[A.length - 1]? = some q := by rw [← hq, List.getLast?_eq_getElem?]
  have hm := (List.getElem?_eq_some_iff.mp er).1
  have hr := S.ok r (List.mem_of_getElem? er)
  have hpp := S.ok p (List.mem_of_getElem? e0)
  have hqq := S.ok q (List.mem_of_getElem? el)
  constructor
  · by_cases h0 : m = 0
    · subst h0; rw [e0] at er; cases er; exact h1
    · have := gap_at S (show 0 < m by omega) e0 er
      omega
  · by_cases h0 : m = A.length - 1
    · subst h0; rw [el] at er; cases er; exact h2
    · have := gap_at S (show m < A.length - 1 by omega) er el
      omega
/-! how many days -/
def sz (A : List P) : Int := (A.map fun p => p.2 - p.1 + 1).sum
def cnt (f : Int → Bool) (lo : Int) : Nat → Int
  | 0 => 0
  | n + 1 => cnt f lo n + (if f (lo + n) then 1 else 0)
def dayB (A : List P) (d : Int) : Bool := A.any fun p => decide (p.1 ≤ d) && decide (d ≤ p.2)
theorem dayB_iff {A : List P} {d : Int} : dayB A d = true ↔ Day A d := by
  unfold dayB Day
  simp [List.any_eq_true]
theorem cnt_add {f g h : Int → Bool} {lo : Int} : ∀ n : Nat, (∀ d, lo ≤ d → d < lo + n → (f d = true ↔ g d = true ∨ h d = true)) → (∀ d, lo ≤ d → d < lo + n → ¬ (g d = true ∧ h d = true)) → cnt f lo n = cnt g lo n + cnt h lo n
  | 0, _, _ => rfl
  | n + 1, h1, h2 => by
    have ih := cnt_add (f := f) (g := g) (h := h) n (fun d a b => h1 d a (by omega)) (fun d a b => h2 d a (by omega))
    have a := h1 (lo + n) (by omega) (by omega)
    have b := h2 (lo + n) (by omega) (by omega)
    simp only [cnt]
    rw [ih]
    cases hg : g (lo + n) <;> cases hh : h (lo + n) <;> cases hf : f (lo + n) <;> simp_all <;> omega
theorem cnt_none {f : Int → Bool} {lo : Int} : ∀ n : Nat, (∀ d, lo ≤ d → d < lo + n → f d = false) → cnt f lo n = 0
  | 0, _ => rfl
  | n + 1, h => by
    simp only [cnt]
    rw [cnt_none n fun d a b => h d a (by omega), h (lo + n) (by omega) (by omega)]
    rfl
theorem cnt_one {lo a b : Int} : ∀ n : Nat, lo ≤ a → a ≤ b + 1 → cnt (fun d => decide (a ≤ d) && decide (d ≤ b)) lo n = if lo + n ≤ a then 0 else if lo + n ≤ b + 1 then lo + n - a else b - a + 1
  | 0, h1, h2 => by
    simp only [cnt]
    split
    · rfl
    · split <;> omega
  | n + 1, h1, h2 => by
    simp only [cnt]
    rw [cnt_one n h1 h2]
    by_cases c1 : a ≤ lo + n
    · by_cases c2 : lo + n ≤ b
      · simp only [decide_eq_true c1, decide_eq_true c2, Bool.and_self, if_true]
        repeat' split
        all_goals omega
      · simp only [decide_eq_true c1, decide_eq_false c2, Bool.and_false, Bool.false_eq_true, if_false]
        repeat' split
        all_goals omega
    · simp only [decide_eq_false c1, Bool.false_and, Bool.false_eq_true, if_false]
      repeat' split
      all_goals omega
theorem sz_cnt {lo : Int} {n : Nat} : ∀ {A : List P}, Spr A → (∀ d, Day A d → lo ≤ d ∧ d < lo + n) → sz A = cnt (dayB A) lo n
  | [], _, _ => by
    have := cnt_none (f := dayB []) (lo := lo) n (fun d _ _ => rfl)
    rw [this]
    rfl
  | p :: A, S, hb => by
    have S' : Spr A := ⟨fun q hq => S.ok q (List.mem_cons_of_mem _ hq), (List.pairwise_cons.mp S.gap).2⟩
    have hp := S.ok p List.mem_cons_self
    have ih := sz_cnt (A := A) S' fun d hd => hb d (by obtain ⟨q, hq, h⟩ := hd; exact ⟨q, List.mem_cons_of_mem _ hq, h⟩)
    have e : cnt (dayB (p :: A)) lo n = cnt (fun d => decide (p.1 ≤ d) && decide (d ≤ p.2)) lo n + cnt (dayB A) lo n := by
      refine cnt_add n (fun d _ _ => ?_) (fun d _ _ h => ?_)
      · show (((decide (p.1 ≤ d) && decide (d ≤ p.2)) || dayB A d) = true) ↔ _
        simp
      · obtain ⟨h1, h2⟩ := h
        simp at h1
        obtain ⟨q, hq, g1, g2⟩ := dayB_iff.mp h2
        have := (List.pairwise_cons.mp S.gap).1 q hq
        omega
    have h1 := hb p.1 ⟨p, List.mem_cons_self, Int.le_refl _, hp⟩
    have h2 := hb p.2 ⟨p, List.mem_cons_self, hp, Int.le_refl _⟩
    rw [e, cnt_one n h1.1 (by omega), ← ih]
    show (p.2 - p.1 + 1) + sz A = _
    repeat' split
    all_goals omega
theorem sz_bound (As : List (List P)) : ∃ (lo : Int) (n : Nat), ∀ A ∈ As, ∀ d, Day A d → lo ≤ d ∧ d < lo + n := by
  have one : ∀ A : List P, ∃ (lo : Int) (n : Nat), ∀ d, Day A d → lo ≤ d ∧ d < lo + n := by
    intro A
    induction A with
    | nil =>
      refine ⟨0, 0, fun d h => ?_⟩
      obtain ⟨_, hp, _⟩ := h
      cases hp
    | cons p A ih =>
      obtain ⟨lo, n, h⟩ := ih
      refine ⟨min lo p.1, (max (lo + n) (p.2 + 1) - min lo p.1).toNat, fun d hd => ?_⟩
      obtain ⟨q, hq, h1, h2⟩ := hd
      rcases List.mem_cons.mp hq with rfl | hq
      · omega
      · have := h d ⟨q, hq, h1, h2⟩
        omega
  induction As with
  | nil => exact ⟨0, 0, fun A h => nomatch h⟩
  | cons A As ih =>
    obtain ⟨lo, n, h⟩ := ih
    obtain ⟨lo', n', h'⟩ := one A
    refine ⟨min lo lo', (max (lo + n) (lo' + n') - min lo lo').toNat, fun B hB d hd => ?_⟩
    rcases List.mem_cons.mp hB with rfl | hB
    · have := h' d hd
      omega
    · have := h B hB d hd
      omega
/-- a set parted in two -/
theorem sz_parts {U A B : List P} (SU : Spr U) (SA : Spr A) (SB : Spr B) (h : ∀ d, Day U d ↔ Day A d ∨ Day B d) (hn : ∀ d, ¬ (Day A d ∧ Day B d)) : sz U = sz A + sz B := by
  obtain ⟨lo, n, hb⟩ := sz_bound [U, A, B]
  rw [sz_cnt SU (hb U (by simp)), sz_cnt SA (hb A (by simp)), sz_cnt SB (hb B (by simp))]
  refine cnt_add n (fun d _ _ => ?_) (fun d _ _ h => hn d ⟨dayB_iff.mp h.1, dayB_iff.mp h.2⟩)
  rw [dayB_iff, dayB_iff, dayB_iff]
  exact h d
end Dy
namespace Dy
/-! a spread of single days that come in order -/
def dstp (acc : List P) (d : Int) : List P := match acc.getLast? with
  | some l => if l.2 = d - 1 then acc.dropLast ++ [(l.1, d)] else acc ++ [(d, d)]
  | none => [(d, d)]
theorem dstp_snoc (a : List P) (l : P) (d : Int) : dstp (a ++ [l]) d = if l.2 = d - 1 then a ++ [(l.1, d)] else (a ++ [l]) ++ [(d, d)] := by
  unfold dstp
  rw [List.getLast?_append]
  simp
structure RD (done : List Int) (acc : List P) : Prop where
  spr : Spr acc
  day : ∀ d, Day acc d ↔ d ∈ done
  end' : ∀ a l, acc = a ++ [l] → l.2 ∈ done
  sz : sz acc = done.length
  emp : acc = [] → done = []
  len : acc.length ≤ done.length
theorem rd_nil : RD [] [] := by
  refine ⟨⟨(fun _ h => nomatch h), List.Pairwise.nil⟩, fun d => ⟨fun h => ?_, fun h => nomatch h⟩, fun a l e => by simp at e, rfl, fun _ => rfl, Nat.le_refl _⟩
  obtain ⟨_, h, _⟩ := h
  cases h
theorem sz_app (a b : List P) : sz (a ++ b) = sz a + sz b := by
  unfold sz
  rw [List.map_append, List.sum_append]
theorem sz_one (p : P) : sz [p] = p.2 - p.1 + 1 := by simp [sz]
theorem rd_step {done : List Int} {acc : List P} {d : Int} (R : RD done acc) (hd : ∀ x ∈ done, x < d) : RD (done ++ [d]) (dstp acc d) := by
  rcases snoc_of acc with rfl | ⟨a, l, rfl⟩
  · have h0 := R.emp rfl
    subst h0
    refine ⟨⟨fun p hp => ?_, by simp [dstp]⟩, fun x => ?_, fun a l e => ?_, ?_, fun e => by simp [dstp] at e, by simp [dstp]⟩
    · rw [show dstp [] d = [(d, d)] from rfl] at hp
      rw [List.mem_singleton.mp hp]
      exact Int.le_refl _
    · rw [show dstp [] d = [(d, d)] from rfl, day_one]
      simp
      omega
    · rw [show dstp [] d = [] ++ [(d, d)] from rfl] at e
      have := (List.append_inj' e rfl).2
      cases this
      simp
    · rw [show dstp [] d = [(d, d)] from rfl, sz_one]
      simp
  · have hl := hd _ (R.end' a l rfl)
    have hll := R.spr.ok l (by simp)
    have hgap := List.pairwise_append.mp R.spr.gap
    rw [dstp_snoc]
    by_cases hc : l.2 = d - 1
    · rw [if_pos hc]
      refine ⟨⟨fun p hp => ?_, List.pairwise_append.mpr ⟨hgap.1, by simp, fun x hx y hy => ?_⟩⟩, fun x => ?_, fun a' l' e => ?_, ?_, fun e => by simp at e, ?_⟩
      · rcases List.mem_append.mp hp with h | h
        · exact R.spr.ok p (List.mem_append_left _ h)
        · rw [List.mem_singleton.mp h]
          dsimp only
          omega
      · rw [List.mem_singleton.mp hy]
        exact hgap.2.2 x hx l (by simp)
      · have h1 := R.day x
        rw [day_app, day_one] at h1
        rw [day_app, day_one, List.mem_append, List.mem_singleton, ← h1]
        dsimp only
        constructor
        · rintro (h | h)
          · exact .inl (.inl h)
          · by_cases e : x = d
            · exact .inr e
            · exact .inl (.inr (by omega))
        · rintro ((h | h) | h)
          · exact .inl h
          · exact .inr (by omega)
          · exact .inr (by omega)
      · have := (List.append_inj' e rfl).2
        cases this
        simp
      · have h1 := R.sz
        rw [sz_app, sz_one] at h1
        rw [sz_app, sz_one, List.length_append, List.length_singleton]
        dsimp only
        omega
      · have := R.len
        rw [List.length_append, List.length_singleton] at this ⊢
        rw [List.length_append, List.length_singleton]
        omega
    · rw [if_neg hc]
      refine ⟨⟨fun p hp => ?_, List.pairwise_append.mpr ⟨R.spr.gap, by simp, fun x hx y hy => ?_⟩⟩, fun x => ?_, fun a' l' e => ?_, ?_, fun e => by simp at e, ?_⟩
      · rcases List.mem_append.mp hp with h | h
        · exact R.spr.ok p h
        · rw [List.mem_singleton.mp h]
          exact Int.le_refl _
      · rw [List.mem_singleton.mp hy]
        dsimp only
        rcases List.mem_append.mp hx with h | h
        · have := hgap.2.2 x h l (by simp)
          omega
        · rw [List.mem_singleton.mp h]
          omega
      · rw [day_app, R.day x, day_one, List.mem_append, List.mem_singleton]
        dsimp only
        constructor
        · rintro (h | h)
          · exact .inl h
          · exact .inr (by omega)
        · rintro (h | h)
          · exact .inl h
          · exact .inr (by omega)
      · have := (List.append_inj' e rfl).2
        cases this
        simp
      · rw [sz_app, R.sz, sz_one, List.length_append, List.length_singleton]
        dsimp only
        omega
      · have := R.len
        rw [List.length_append, List.length_singleton, List.length_append (as := done), List.length_singleton]
        omega
theorem rd_all {ms : List Int} (h : ms.Pairwise (· < ·)) : ∀ i, i ≤ ms.length → RD (ms.take i) ((ms.take i).foldl dstp [])
  | 0, _ => by simpa using rd_nil
  | i + 1, hi => by
    have ih := rd_all h i (by omega)
    rw [List.take_succ_eq_append_getElem (by omega), List.foldl_append]
    refine rd_step ih fun x hx => ?_
    obtain ⟨j, hj, rfl⟩ := List.mem_iff_getElem.mp hx
    rw [List.getElem_take]
    rw [List.length_take] at hj
    exact List.pairwise_iff_getElem.mp h j i (by omega) (by omega) (by omega)
theorem strict_of {ms : List Int} (h : ms.Pairwise (· ≤ ·)) (hn : ms.Nodup) : ms.Pairwise (· < ·) := by
  have := List.Pairwise.and h hn
  exact this.imp fun {a b} q => by have h1 := q.1; have h2 := q.2; omega
/-! moved -/
def mv (by' : Int) (ps : List P) : List P := ps.map fun p => (p.1 + by', p.2 + by')
theorem mv_spr {b : Int} {ps : List P} (S : Spr ps) : Spr (mv b ps) := by
  refine ⟨fun p hp => ?_, ?_⟩
  · obtain ⟨q, hq, rfl⟩ := List.mem_map.mp hp
    have := S.ok q hq
    dsimp only
    omega
  · refine List.pairwise_map.mpr (S.gap.imp fun {p q} h => ?_)
    dsimp only
    omega
theorem mv_day {b : Int} {ps : List P} {d : Int} : Day (mv b ps) d ↔ Day ps (d - b) := by
  constructor
  · rintro ⟨p, hp, h1, h2⟩
    obtain ⟨q, hq, rfl⟩ := List.mem_map.mp hp
    dsimp only at h1 h2
    exact ⟨q, hq, by omega, by omega⟩
  · rintro ⟨q, hq, h1, h2⟩
    exact ⟨_, List.mem_map.mpr ⟨q, hq, rfl⟩, by dsimp only; omega, by dsimp only; omega⟩
theorem mv_sz {b : Int} : ∀ {ps : List P}, sz (mv b ps) = sz ps
  | [] => rfl
  | p :: ps => by
    have ih := mv_sz (b := b) (ps := ps)
    have e1 : sz (mv b (p :: ps)) = (p.2 + b - (p.1 + b) + 1) + sz (mv b ps) := by simp [sz, mv]
    have e2 : sz (p :: ps) = (p.2 - p.1 + 1) + sz ps := by simp [sz]
    rw [e1, e2, ih]
    omega
theorem mv_len {b : Int} {ps : List P} : (mv b ps).length = ps.length := by simp [mv]
end Dy
set_option maxHeartbeats 4000000
namespace K2
open PySem L2 Dy
def top (i : Nat) : Stmt := PySem.Challenge.pw_daysgate_k02_spreads_of_two.main.body.getD i (.Pass ⟨0, 0, 0, 0⟩)
abbrev sBoth : Stmt := top 1
abbrev sOutside : Stmt := top 2
abbrev sLess : Stmt := top 3
abbrev sSize : Stmt := top 4
abbrev sHolds : Stmt := top 5
abbrev sStretches : Stmt := top 7
abbrev sSpread : Stmt := top 8
abbrev sDays : Stmt := top 9
abbrev sTold : Stmt := top 10
abbrev sMoved : Stmt := top 11
abbrev sLaw : Stmt := top 12
/-- the names of the built-ins that the text leaves as they are -/
structure Txt (mg : Str → Option Value) : Prop where
  srt : mg "sorted" = none
  mx : mg "max" = none
  mn : mg "min" = none
  len : mg "len" = none
  sum : mg "sum" = none
  rng : mg "range" = none
  isi : mg "isinstance" = none
  lst : mg "list" = none
  tup : mg "tuple" = none
  bool : mg "bool" = none
  int : mg "int" = none
section
variable {P : Program} {w : World} {K : PySem.W.Frag} {mg : Str → Option Value} {base : Heap}
/-- a new tuple put behind a list of ours: what stays -/
theorem app_keep {K : PySem.W.Frag} {H H2 : Hp} {l t2 : Addr} {ys : List V} {acc : List (Int × Int)} {q : Int × Int} (hl : H l = none) (h1 : H2 l = some (.lst ys)) (sm : Same H H2) (ht2 : H2 t2 = none) (hp : Paired (P2 K H2) ys acc) :
    (upd (upd H2 t2 (.tup [.int q.1, .int q.2])) l (.lst (ys ++ [.ref t2]))) l = some (.lst (ys ++ [.ref t2])) ∧ Same H (upd (upd H2 t2 (.tup [.int q.1, .int q.2])) l (.lst (ys ++ [.ref t2]))) ∧
    Paired (P2 K (upd (upd H2 t2 (.tup [.int q.1, .int q.2])) l (.lst (ys ++ [.ref t2])))) (ys ++ [.ref t2]) (acc ++ [q]) := by
  have ntl : t2 ≠ l := Ne.symm (ne_of_none h1 ht2)
  have s3 : Same H2 (upd H2 t2 (.tup [.int q.1, .int q.2])) := Same.upd ht2
  have tk : TK H2 (upd (upd H2 t2 (.tup [.int q.1, .int q.2])) l (.lst (ys ++ [.ref t2]))) := (TK.of s3).trans (TK.upd (s3 _ _ h1))
  refine ⟨upd_same, fun c u e => ?_, L2.Paired.snoc (P2s.tk tk hp) ⟨t2, rfl, ?_⟩⟩
  · rw [upd_ne (ne_of_none e hl)]
    exact s3 _ _ (sm c u e)
  · rw [upd_ne ntl, upd_same]
/-! both -/
def spBoth (K : PySem.W.Frag) : Sp := fun vs H Q _ => ∃ (a b : Addr) (ps qs : List (Int × Int)), vs = [.ref a, .ref b] ∧ PL K H a ps ∧ PL K H b qs ∧ ps.length ≤ 400 ∧ qs.length ≤ 400 ∧ Spr ps ∧ Spr qs ∧
  ∀ (l : Addr) (ys : List V) (fs : List (Int × Int)) (H' : Hp), H l = none → H' l = some (.lst ys) → Same H H' → Paired (P2 K H') ys fs → Spr fs → (∀ d, Day fs d ↔ Day ps d ∧ Day qs d) → fs.length ≤ ps.length + qs.length → Q (.ref l) H'
theorem scBoth : FnScope ["one", "other", "found", "here", "there", "first", "last"] ["one", "other"] (defScope sBoth) := ⟨rfl, rfl, rfl, by decide +kernel, rfl, by decide +kernel, by decide +kernel⟩
theorem ok_both {f : Addr} {fd : FuncData} (F : Fun K "both" "both" sBoth f fd) (T : Txt mg) : FnOk P w K mg base CX0 1 f fd ["one", "other"] (spBoth K) := by
  refine F.ok scBoth (fun vs H Q E h => ?_) (fun cdv A outer s H vs Q E hr h => ?_)
  · obtain ⟨a, b, ps, qs, rfl, _⟩ := h
    rfl
  · obtain ⟨a, b, ps, qs, rfl, ⟨xs, hx, hpx⟩, ⟨zs, hz, hpz⟩, hl1, hl2, S1, S2, k⟩ := h
    refine ⟨_, pss_cons (ps_set (i := 2) scBoth.nd rfl (Or.inl rfl) (pe_lst pa_nil))
      (pss_cons (ps_set (i := 3) scBoth.nd rfl (Or.inl rfl) pe_int)
      (pss_cons (ps_set (i := 4) scBoth.nd rfl (Or.inl rfl) pe_int)
      (pss_cons (ps_while PassesOwn.never (PW.pt (pw_and (pt_cmpR op_lt (pv 3) (pe_callB call_len_seq (by rfl) T.len PySem.boot_len (pa_cons (pv 0) pa_nil)) (nomark _)) (pw_and1 (pt_cmpR op_lt (pv 4) (pe_callB call_len_seq (by rfl) T.len PySem.boot_len (pa_cons (pv 1) pa_nil)) (nomark _)))))
        (pss_cons (ps_set (i := 5) scBoth.nd rfl (Or.inl rfl) (pe_callB (call_max2 rfl) (by rfl) T.mx PyProof.Rows.boot_max (pa_cons (pe_ix ix_tup (pe_ix ix_list (pv 0) (pv 3) (fun _ _ => rfl)) pe_int (fun _ _ => rfl)) (pa_cons (pe_ix ix_tup (pe_ix ix_list (pv 1) (pv 4) (fun _ _ => rfl)) pe_int (fun _ _ => rfl)) pa_nil))))
        (pss_cons (ps_set (i := 6) scBoth.nd rfl (Or.inl rfl) (pe_callB (call_min2 rfl) (by rfl) T.mn PyProof.Rows.boot_min (pa_cons (pe_ix ix_tup (pe_ix ix_list (pv 0) (pv 3) (fun _ _ => rfl)) pe_int (fun _ _ => rfl)) (pa_cons (pe_ix ix_tup (pe_ix ix_list (pv 1) (pv 4) (fun _ _ => rfl)) pe_int (fun _ _ => rfl)) pa_nil))))
        (pss_cons (ps_if (pt_cmpR op_le (pv 5) (pv 6) (nomark _))
          (pss_one (ps_expr (pe_bm PySem.F.plainAttrs_list PySem.F.slot_list_append PySem.F.type_list_append mt_append (pv 2) (pa_cons (pe_tup (pa_cons (pv 5) (pa_cons (pv 6) pa_nil))) pa_nil)))) pss_nil)
        (pss_one (ps_if (pt_cmpR op_lt (pe_ix ix_tup (pe_ix ix_list (pv 0) (pv 3) (fun _ _ => rfl)) pe_int (fun _ _ => rfl)) (pe_ix ix_tup (pe_ix ix_list (pv 1) (pv 4) (fun _ _ => rfl)) pe_int (fun _ _ => rfl)) (nomark _))
          (pss_one (ps_set (i := 3) scBoth.nd rfl (Or.inl rfl) (pe_op op_add (pv 3) pe_int)))
          (pss_one (ps_set (i := 4) scBoth.nd rfl (Or.inl rfl) (pe_op op_add (pv 4) pe_int)))))))))
      (pss_one (ps_ret (pv 2)))))), ?_⟩
    have z0 : (0 : Nat) ≤ sizeLine := Nat.zero_le _
    have two : (2 : Nat) ≤ sizeLine := Nat.le_of_lt (small1000 (by decide))
    have hxl : xs.length = ps.length := Paired.length hpx
    have hzl : zs.length = qs.length := Paired.length hpz
    refine ⟨z0, fun l hl => ?_⟩
    have s1 : Same H (upd H l (.lst [])) := Same.upd hl
    refine ⟨fun m σ H2 => ∃ (i j : Nat) (ys : List V) (fs : List (Int × Int)) (v5 v6 : Option V), m = (ps.length - i) + (qs.length - j) ∧ i ≤ ps.length ∧ j ≤ qs.length ∧ σ = [some (V.ref a), some (V.ref b), some (V.ref l), some (V.int i), some (V.int j), v5, v6] ∧ H2 l = some (.lst ys) ∧ Same H H2 ∧ Paired (P2 K H2) ys fs ∧ BI ps qs i j fs,
      ⟨_, 0, 0, [], [], none, none, rfl, Nat.zero_le _, Nat.zero_le _, rfl, upd_same, s1, .nil, bi_start _ _⟩, ?_⟩
    rintro m σ H2 ⟨i, j, ys, fs, v5, v6, rfl, hi, hj, rfl, h1, h3, h5, I⟩
    have hx2 := h3.seq hx
    have hz2 := h3.seq hz
    refine ⟨_, rfl, _, rfl, a, xs, rfl, .inl hx2, _, _, rfl, rfl, _, rfl, ?_⟩
    have fin : (ps.length ≤ i ∨ qs.length ≤ j) → Q (.ref l) H2 := fun hd => by
      refine k l ys fs H2 hl h1 h3 h5 I.spr (bi_end I hd) ?_
      have := I.len
      omega
    by_cases c1 : i < ps.length
    case neg =>
      rw [decide_eq_false (by rw [hxl]; omega)]
      exact ⟨_, rfl, fin (.inl (by omega))⟩
    rw [decide_eq_true (by rw [hxl]; omega)]
    refine ⟨_, rfl, _, rfl, b, zs, rfl, .inl hz2, _, _, rfl, rfl, _, rfl, ?_⟩
    by_cases c2 : j < qs.length
    case neg =>
      rw [decide_eq_false (by rw [hzl]; omega)]
      exact ⟨_, rfl, fin (.inr (by omega))⟩
    rw [decide_eq_true (by rw [hzl]; omega)]
    refine ⟨fun σ' H' => ∃ m', m' < (ps.length - i) + (qs.length - j) ∧ ∃ (i j : Nat) (ys : List V) (fs : List (Int × Int)) (v5 v6 : Option V), m' = (ps.length - i) + (qs.length - j) ∧ i ≤ ps.length ∧ j ≤ qs.length ∧ σ' = [some (V.ref a), some (V.ref b), some (V.ref l), some (V.int i), some (V.int j), v5, v6] ∧ H' l = some (.lst ys) ∧ Same H H' ∧ Paired (P2 K H') ys fs ∧ BI ps qs i j fs, fun _ _ h => h, ?_⟩
    obtain ⟨v, ev, t, rfl, ht0⟩ := Paired.atR hpx (List.getElem?_eq_getElem c1)
    obtain ⟨v, ev2, u, rfl, hu0⟩ := Paired.atR hpz (List.getElem?_eq_getElem c2)
    have e1 : ps[i]? = some ps[i] := List.getElem?_eq_getElem c1
    have e2 : qs[j]? = some qs[j] := List.getElem?_eq_getElem c2
    generalize ps[i] = p at ht0 e1
    generalize qs[j] = q at hu0 e2
    have ht := h3 _ _ ht0
    have hu := h3 _ _ hu0
    have ax := atI_nat ev
    have az := atI_nat ev2
    obtain ⟨st1, st2⟩ := bi_step S1 S2 I e1 e2
    have hlen := I.len
    have hyl : ys.length = fs.length := Paired.length h5
    refine ⟨_, rfl, _, rfl, a, _, _, _, rfl, rfl, hx2, ax, t, _, _, _, rfl, rfl, SqT.of ht, rfl, _, rfl, _, rfl, b, _, _, _, rfl, rfl, hz2, az, u, _, _, _, rfl, rfl, SqT.of hu, rfl, _, _, rfl, ?_⟩
    refine ⟨_, rfl, _, rfl, a, _, _, _, rfl, rfl, hx2, ax, t, _, _, _, rfl, rfl, SqT.of ht, rfl, _, rfl, _, rfl, b, _, _, _, rfl, rfl, hz2, az, u, _, _, _, rfl, rfl, SqT.of hu, rfl, _, _, rfl, ?_⟩
    refine ⟨_, rfl, _, rfl, _, _, rfl, rfl, _, rfl, ?_⟩
    by_cases hc : (if q.1 > p.1 then q.1 else p.1) ≤ (if q.2 < p.2 then q.2 else p.2)
    case' pos =>
      rw [decide_eq_true hc]
      refine ⟨_, rfl, .inl ⟨rfl, _, SqL.of h1⟩, _, rfl, _, rfl, two, fun t2 ht2 => ⟨l, _, _, rfl, rfl, Same.upd ht2 _ _ h1, small1000 (by omega), ?_⟩⟩
      obtain ⟨w1, w2, w3⟩ := app_keep (q := ((if q.1 > p.1 then q.1 else p.1), (if q.2 < p.2 then q.2 else p.2))) hl h1 h3 ht2 h5
      have ec : cutF fs p q = fs ++ [((if q.1 > p.1 then q.1 else p.1), (if q.2 < p.2 then q.2 else p.2))] := if_pos hc
      rw [← ec] at w3
      dsimp only at w1 w2 w3
      generalize upd (upd H2 t2 _) l _ = H3 at w1 w2 w3 ⊢
      generalize ys ++ [V.ref t2] = ys3 at w1 w3
    case' neg =>
      rw [decide_eq_false hc]
      have w1 := h1
      have w2 := h3
      have w3 : Paired (P2 K H2) ys (cutF fs p q) := by
        have ec : cutF fs p q = fs := if_neg hc
        rw [ec]
        exact h5
      generalize hH3 : H2 = H3 at w1 w2 w3 ⊢
      generalize hys3 : ys = ys3 at w1 w3
    all_goals
      have ht3 := w2 _ _ ht0
      have hu3 := w2 _ _ hu0
      refine ⟨_, rfl, _, rfl, a, _, _, _, rfl, rfl, w2.seq hx, ax, t, _, _, _, rfl, rfl, SqT.of ht3, rfl, _, rfl, _, rfl, b, _, _, _, rfl, rfl, w2.seq hz, az, u, _, _, _, rfl, rfl, SqT.of hu3, rfl, _, _, rfl, rfl, _, rfl, ?_⟩
      by_cases c3 : p.2 < q.2
      · rw [decide_eq_true c3]
        refine ⟨_, rfl, _, _, rfl, rfl, _, ?_, i + 1, j, ys3, _, _, _, rfl, c1, hj, rfl, w1, w2, w3, st1 c3⟩
        omega
      · rw [decide_eq_false c3]
        refine ⟨_, rfl, _, _, rfl, rfl, _, ?_, i, j + 1, ys3, _, _, _, rfl, hi, c2, rfl, w1, w2, w3, st2 c3⟩
        omega
/-! outside -/
def spOutside (K : PySem.W.Frag) : Sp := fun vs H Q _ => ∃ (b : Addr) (qs : List (Int × Int)) (f0 l0 : Int), vs = [.ref b, .int f0, .int l0] ∧ PL K H b qs ∧ qs.length ≤ 400 ∧ Spr qs ∧
  ∀ (l : Addr) (ys : List V) (fs : List (Int × Int)) (H' : Hp), H l = none → H' l = some (.lst ys) → Same H H' → Paired (P2 K H') ys fs → Spr fs → (∀ d, f0 ≤ d → d ≤ l0 → (Day fs d ↔ ¬ Day qs d)) → fs.length ≤ qs.length + 1 → Q (.ref l) H'
theorem scOutside : FnScope ["one", "first", "last", "found", "begin", "taken"] ["one", "first", "last"] (defScope sOutside) := ⟨rfl, rfl, rfl, by decide +kernel, rfl, by decide +kernel, by decide +kernel⟩
theorem ok_outside {f : Addr} {fd : FuncData} (F : Fun K "outside" "outside" sOutside f fd) (T : Txt mg) : FnOk P w K mg base CX0 1 f fd ["one", "first", "last"] (spOutside K) := by
  refine F.ok scOutside (fun vs H Q E h => ?_) (fun cdv A outer s H vs Q E hr h => ?_)
  · obtain ⟨b, qs, f0, l0, rfl, _⟩ := h
    rfl
  · obtain ⟨b, qs, f0, l0, rfl, ⟨xs, hx, hpx⟩, hl1, S1, k⟩ := h
    refine ⟨_, pss_cons (ps_set (i := 3) scOutside.nd rfl (Or.inl rfl) (pe_lst pa_nil))
      (pss_cons (ps_set (i := 4) scOutside.nd rfl (Or.inl rfl) (pv 1))
      (pss_cons (ps_for PassesOwn.never rfl (pi_list (pv 0)) (pg_name (i := 5) scOutside.nd rfl (Or.inl rfl))
        (pss_cons (ps_if (pt_cmpR op_lt (pv 4) (pe_ix ix_tup (pv 5) pe_int (fun _ _ => rfl)) (nomark _))
          (pss_one (ps_expr (pe_bm PySem.F.plainAttrs_list PySem.F.slot_list_append PySem.F.type_list_append mt_append (pv 3) (pa_cons (pe_tup (pa_cons (pv 4) (pa_cons (pe_op op_sub (pe_ix ix_tup (pv 5) pe_int (fun _ _ => rfl)) pe_int) pa_nil))) pa_nil)))) pss_nil)
        (pss_one (ps_set (i := 4) scOutside.nd rfl (Or.inl rfl) (pe_callB (call_max2 rfl) (by rfl) T.mx PyProof.Rows.boot_max (pa_cons (pv 4) (pa_cons (pe_op op_add (pe_ix ix_tup (pv 5) pe_int (fun _ _ => rfl)) pe_int) pa_nil)))))))
      (pss_cons (ps_if (pt_cmpR op_le (pv 4) (pv 2) (nomark _))
        (pss_one (ps_expr (pe_bm PySem.F.plainAttrs_list PySem.F.slot_list_append PySem.F.type_list_append mt_append (pv 3) (pa_cons (pe_tup (pa_cons (pv 4) (pa_cons (pv 2) pa_nil))) pa_nil)))) pss_nil)
      (pss_one (ps_ret (pv 3)))))), ?_⟩
    have z0 : (0 : Nat) ≤ sizeLine := Nat.zero_le _
    have two : (2 : Nat) ≤ sizeLine := Nat.le_of_lt (small1000 (by decide))
    have hxl : xs.length = qs.length := Paired.length hpx
    refine ⟨z0, fun l hl => ?_⟩
    have s1 : Same H (upd H l (.lst [])) := Same.upd hl
    refine ⟨_, rfl, _, rfl, b, rfl, ⟨xs, s1.seq hx⟩, for_list (K := K) (a := b) (xs := xs) (fun i σ H2 => ∃ (ys : List V) (fs : List (Int × Int)) (bg : Int) (v5 : Option V), σ = [some (V.ref b), some (V.int f0), some (V.int l0), some (V.ref l), some (V.int bg), v5] ∧ H2 l = some (.lst ys) ∧ Same H H2 ∧ Paired (P2 K H2) ys fs ∧ OI qs f0 i bg fs)
      ⟨[], [], f0, none, rfl, upd_same, s1, .nil, oi_start _ _⟩ (fun i σ H2 _ h => ?_) (fun i x σ H2 hi h => ?_) (fun σ H2 h => ?_)⟩
    · obtain ⟨ys, fs, bg, v5, rfl, h1, h3, h5, I⟩ := h
      exact h3.seq hx
    · obtain ⟨ys, fs, bg, v5, rfl, h1, h3, h5, I⟩ := h
      obtain ⟨p, ep, t, rfl, ht0⟩ := Paired.atL hpx hi
      have ht := h3 _ _ ht0
      have hil : i < qs.length := (List.getElem?_eq_some_iff.mp ep).1
      have st := oi_step S1 I ep
      have hlen := I.len
      have hyl : ys.length = fs.length := Paired.length h5
      refine ⟨_, rfl, _, rfl, t, _, _, _, rfl, rfl, SqT.of ht, rfl, _, _, rfl, rfl, _, rfl, ?_⟩
      by_cases hc : bg < p.1
      case' pos =>
        rw [decide_eq_true hc]
        refine ⟨_, rfl, .inl ⟨rfl, _, SqL.of h1⟩, _, rfl, _, rfl, t, _, _, _, rfl, rfl, SqT.of ht, rfl, _, _, rfl, rfl, two, fun t2 ht2 => ⟨l, _, _, rfl, rfl, Same.upd ht2 _ _ h1, small1000 (by omega), ?_⟩⟩
        obtain ⟨w1, w2, w3⟩ := app_keep (q := (bg, p.1 - 1)) hl h1 h3 ht2 h5
        have ec : addF fs bg (p.1 - 1) = fs ++ [(bg, p.1 - 1)] := if_pos (by omega)
        rw [← ec] at w3
        dsimp only at w1 w2 w3
        generalize upd (upd H2 t2 _) l _ = H3 at w1 w2 w3 ⊢
        generalize ys ++ [V.ref t2] = ys3 at w1 w3
      case' neg =>
        rw [decide_eq_false hc]
        have w1 := h1
        have w2 := h3
        have w3 : Paired (P2 K H2) ys (addF fs bg (p.1 - 1)) := by
          have ec : addF fs bg (p.1 - 1) = fs := if_neg (by omega)
          rw [ec]
          exact h5
        generalize hH3 : H2 = H3 at w1 w2 w3 ⊢
        generalize hys3 : ys = ys3 at w1 w3
      all_goals
        have ht3 := w2 _ _ ht0
        exact ⟨_, rfl, _, rfl, t, _, _, _, rfl, rfl, SqT.of ht3, rfl, _, _, rfl, rfl, _, _, rfl, ys3, _, _, _, rfl, w1, w2, w3, st⟩
    · obtain ⟨ys, fs, bg, v5, rfl, h1, h3, h5, I⟩ := h
      rw [hxl] at I
      obtain ⟨o1, o2, o3⟩ := oi_end (last := l0) I
      have hlen := I.len
      have hyl : ys.length = fs.length := Paired.length h5
      refine ⟨_, rfl, _, rfl, _, _, rfl, rfl, _, rfl, ?_⟩
      by_cases hc : bg ≤ l0
      · rw [decide_eq_true hc]
        refine ⟨_, rfl, .inl ⟨rfl, _, SqL.of h1⟩, _, rfl, _, rfl, two, fun t2 ht2 => ⟨l, _, _, rfl, rfl, Same.upd ht2 _ _ h1, small1000 (by omega), ?_⟩⟩
        obtain ⟨w1, w2, w3⟩ := app_keep (q := (bg, l0)) hl h1 h3 ht2 h5
        have ec : addF fs bg l0 = fs ++ [(bg, l0)] := if_pos hc
        rw [← ec] at w3
        exact ⟨_, rfl, k l _ _ _ hl w1 w2 w3 o1 o2 o3⟩
      · rw [decide_eq_false hc]
        have ec : addF fs bg l0 = fs := if_neg hc
        rw [ec] at o1 o2 o3
        exact ⟨_, rfl, k l _ _ _ hl h1 h3 h5 o1 o2 o3⟩
/-! size -/
def spSize (K : PySem.W.Frag) : Sp := fun vs H Q _ => ∃ (a : Addr) (ps : List (Int × Int)), vs = [.ref a] ∧ PL K H a ps ∧ ps.length ≤ 1000 ∧ ∀ H', Same H H' → Q (.int (sz ps)) H'
theorem scSize : FnScope ["one"] ["one"] (defScope sSize) := ⟨rfl, rfl, rfl, by decide +kernel, rfl, by decide +kernel, by decide +kernel⟩
theorem ndS : (["first", "last"] : List Str).Nodup := by decide +kernel
theorem ok_size {f : Addr} {fd : FuncData} (F : Fun K "size" "size" sSize f fd) (T : Txt mg) : FnOk P w K mg base CX0 1 f fd ["one"] (spSize K) := by
  refine F.ok scSize (fun vs H Q E h => ?_) (fun cdv A outer s H vs Q E hr h => ?_)
  · obtain ⟨a, ps, rfl, _⟩ := h
    rfl
  · obtain ⟨a, ps, rfl, ⟨xs, hq, hp⟩, hl, k⟩ := h
    refine ⟨_, pss_one (ps_ret (pe_callB (call_sumI rfl) (by rfl) T.sum PyProof.Rows.boot_sum (pa_cons (pe_comp ["first", "last"] [] rfl (blkS (defScope sSize) ["one"] (by decide +kernel)) (pi_list (pv 0))
      (fun _ _ _ _ _ => pg_tupK (n := 2) K rfl rfl (pgs_cons (pg_name (i := 0) ndS rfl (Or.inl rfl)) (pgs_cons (pg_name (i := 1) ndS rfl (Or.inl rfl)) pgs_nil)))
      (fun _ _ _ _ _ => pif_nil)
      (fun _ _ _ _ _ => pe_op op_add (pe_op op_sub (pv 1) (pv 0)) pe_int)) pa_nil))), ?_⟩
    have hxl : xs.length = ps.length := Paired.length hp
    refine ⟨_, rfl, a, rfl, ⟨xs, hq⟩, comp_list (K := K) (a := a) (xs := xs) (fun i ys σ H' => ∃ v0 v1, σ = [v0, v1] ∧ Same H H' ∧ ys = ((ps.map fun p => p.2 - p.1 + 1).take i).map V.int)
      ⟨none, none, rfl, Same.refl H, rfl⟩ (Nat.le_of_lt (small1000 (by omega))) (fun i ys σ H' hi h => ?_) (fun i x ys σ H' hi h => ?_) (fun ys σ H' h => ?_)⟩
    · obtain ⟨v0, v1, rfl, sm, rfl⟩ := h
      exact ⟨sm.seq hq, by simp; omega⟩
    · obtain ⟨v0, v1, rfl, sm, rfl⟩ := h
      obtain ⟨p, ep, t, rfl, ht⟩ := Paired.atL hp hi
      have hil : i < ps.length := (List.getElem?_eq_some_iff.mp ep).1
      have step : (ps.map fun p => p.2 - p.1 + 1).take (i + 1) = (ps.map fun p => p.2 - p.1 + 1).take i ++ [p.2 - p.1 + 1] := by
        rw [List.take_succ_eq_append_getElem (by simpa using hil)]
        congr 1
        obtain ⟨_, e⟩ := List.getElem?_eq_some_iff.mp ep
        simp [e]
      refine ⟨t, _, rfl, SqT.of (sm _ _ ht), rfl, _, _, rfl, _, _, rfl, rfl, _, rfl, _, rfl, _, _, rfl, rfl, _, _, rfl, rfl, _, _, rfl, sm, ?_⟩
      rw [step, List.map_append]
      rfl
    · obtain ⟨v0, v1, rfl, sm, rfl⟩ := h
      intro l hl
      refine ⟨l, ps.map fun (p : Int × Int) => p.2 - p.1 + 1, rfl, SqL.of ?_, k _ (sm.trans (Same.upd hl))⟩
      rw [upd_same, List.take_of_length_le (by simp [hxl])]
theorem Same.none {H H' : Hp} {l : Addr} (e : Same H H') (h : H' l = none) : H l = none := by
  cases q : H l with
  | none => rfl
  | some u => rw [e _ _ q] at h; cases h
/-! less -/
def spLess (K : PySem.W.Frag) : Sp := fun vs H Q _ => ∃ (a b : Addr) (ps qs : List (Int × Int)), vs = [.ref a, .ref b] ∧ PL K H a ps ∧ PL K H b qs ∧ ps.length ≤ 300 ∧ qs.length ≤ 300 ∧ Spr ps ∧ Spr qs ∧
  ∀ (l : Addr) (ys : List V) (fs : List (Int × Int)) (H' : Hp), H l = none → H' l = some (.lst ys) → Same H H' → Paired (P2 K H') ys fs → Spr fs → (∀ d, Day fs d ↔ Day ps d ∧ ¬ Day qs d) → fs.length ≤ ps.length + qs.length + 1 → Q (.ref l) H'
theorem scLess : FnScope ["one", "other"] ["one", "other"] (defScope sLess) := ⟨rfl, rfl, rfl, by decide +kernel, rfl, by decide +kernel, by decide +kernel⟩
theorem ok_less {f fB fO : Addr} {fd fdB fdO : FuncData} (F : Fun K "less" "less" sLess f fd) (T : Txt mg)
    (FB : Fun K "both" "both" sBoth fB fdB) (bB : Binds K fdB ["one", "other"] []) (mB : mg "both" = some (.ref fB))
    (FO : Fun K "outside" "outside" sOutside fO fdO) (bO : Binds K fdO ["one", "first", "last"] []) (mO : mg "outside" = some (.ref fO)) :
    FnOk P w K mg base CX0 2 f fd ["one", "other"] (spLess K) := by
  have GB : FnOk P w K mg base CX0 1 fB fdB ["one", "other"] (spBoth K) := ok_both FB T
  have GO : FnOk P w K mg base CX0 1 fO fdO ["one", "first", "last"] (spOutside K) := ok_outside FO T
  refine F.ok scLess (fun vs H Q E h => ?_) (fun cdv A outer s H vs Q E hr h => ?_)
  · obtain ⟨a, b, ps, qs, rfl, _⟩ := h
    rfl
  · obtain ⟨a, b, ps, qs, rfl, ⟨xs, hx, hpx⟩, ⟨zs, hz, hpz⟩, hl1, hl2, S1, S2, k⟩ := h
    refine ⟨_, pss_cons (ps_if (pt_not (pt_truth (pv 0) (fun _ => rfl))) (pss_one (ps_ret (pe_lst pa_nil))) pss_nil)
      (pss_one (ps_ret (pe_call GB hr (by rfl) mB FB.kp bB .nil pass0 (pa_cons (pv 0) (pa_cons (pe_call GO hr (by rfl) mO FO.kp bO .nil pass0
        (pa_cons (pv 1) (pa_cons (pe_ix ix_tup (pe_ix ix_list (pv 0) pe_int (fun _ _ => rfl)) pe_int (fun _ _ => rfl)) (pa_cons (pe_ix ix_tup (pe_ix ix_list (pv 0) (pe_un un_neg pe_int) (fun _ _ => rfl)) pe_int (fun _ _ => rfl)) pa_nil)))) pa_nil))))), ?_⟩
    have z0 : (0 : Nat) ≤ sizeLine := Nat.zero_le _
    rcases snoc_of ps with rfl | ⟨pr, pl, hps⟩
    · cases hpx
      refine ⟨_, rfl, _, .inl ⟨[], hx, rfl⟩, z0, fun l hl => k l [] [] _ hl upd_same (Same.upd hl) .nil ⟨(fun _ h => nomatch h), List.Pairwise.nil⟩ (fun d => ?_) (Nat.zero_le _)⟩
      constructor
      · rintro ⟨_, h, _⟩
        cases h
      · rintro ⟨⟨_, h, _⟩, _⟩
        cases h
    · have hpx' := hpx
      rw [hps] at hpx'
      obtain ⟨xr, v', exs, _, u, rfl, hu⟩ := Paired.unsnoc hpx'
      have hla := atI_last xr (V.ref u)
      rw [← exs] at hla
      have h0 : 0 < ps.length := by rw [hps]; simp
      obtain ⟨v, ev, t, rfl, ht⟩ := Paired.atR hpx (List.getElem?_eq_getElem h0)
      have ax := atI_nat ev
      have e1 : ps.head? = some ps[0] := by rw [List.head?_eq_getElem?]; exact List.getElem?_eq_getElem h0
      have e2 : ps.getLast? = some pl := by rw [hps]; simp
      have bd := S1.bounds e1 e2
      refine ⟨_, rfl, true, .inl ⟨_, hx, by rw [exs]; simp⟩, ?_⟩
      refine ⟨_, rfl, _, rfl, _, rfl, a, _, _, _, rfl, rfl, hx, ax, t, _, _, _, rfl, rfl, SqT.of ht, rfl, _, rfl, _, rfl, a, _, _, _, rfl, rfl, hx, hla, u, _, _, _, rfl, rfl, SqT.of hu, rfl, ?_⟩
      refine ⟨b, qs, _, _, rfl, ⟨zs, hz, hpz⟩, by omega, S2, fun l ys fs H1 hl1' e1' sm1 hp1 So day1 len1 => ?_⟩
      refine ⟨a, l, ps, fs, rfl, ⟨xs, sm1.seq hx, P2s.same sm1 hpx⟩, ⟨ys, SqL.of e1', hp1⟩, by omega, by omega, S1, So, fun l' ys' fs' H' hl' e' sm' hp' S' day' len' => ?_⟩
      refine k l' ys' fs' H' (Same.none sm1 hl') e' (sm1.trans sm') hp' S' (fun d => ?_) (by omega)
      rw [day' d]
      constructor
      · rintro ⟨h1, h2⟩
        have := bd d h1
        exact ⟨h1, (day1 d this.1 this.2).mp h2⟩
      · rintro ⟨h1, h2⟩
        have := bd d h1
        exact ⟨h1, (day1 d this.1 this.2).mpr h2⟩
end
end K2
set_option maxHeartbeats 4000000
namespace K2
open PySem L2 Dy
section
variable {P : Program} {w : World} {K : PySem.W.Frag} {mg : Str → Option Value} {base : Heap}
/-! holds -/
def spHolds (K : PySem.W.Frag) : Sp := fun vs H Q _ => ∃ (a : Addr) (ps : List (Int × Int)) (d : Int), vs = [.ref a, .int d] ∧ PL K H a ps ∧ ∀ b : Bool, (b = true ↔ Day ps d) → Q (.bl b) H
theorem scHolds : FnScope ["one", "day", "first", "last"] ["one", "day"] (defScope sHolds) := ⟨rfl, rfl, rfl, by decide +kernel, rfl, by decide +kernel, by decide +kernel⟩
theorem ok_holds {f : Addr} {fd : FuncData} (F : Fun K "holds" "holds" sHolds f fd) (T : Txt mg) : FnOk P w K mg base CX0 1 f fd ["one", "day"] (spHolds K) := by
  refine F.ok scHolds (fun vs H Q E h => ?_) (fun cdv A outer s H vs Q E hr h => ?_)
  · obtain ⟨a, ps, d, rfl, _⟩ := h
    rfl
  · obtain ⟨a, ps, d, rfl, ⟨xs, hx, hp⟩, k⟩ := h
    refine ⟨_, pss_cons (ps_for PassesOwn.never rfl (pi_list (pv 0)) (pg_tup rfl (pgs_cons (pg_name (i := 2) scHolds.nd rfl (Or.inl rfl)) (pgs_cons (pg_name (i := 3) scHolds.nd rfl (Or.inl rfl)) pgs_nil)))
        (pss_one (ps_if (PW.pt (pw_and (pt_cmpR op_le (pv 2) (pv 1) (nomark _)) (pw_and1 (pt_cmpR op_le (pv 1) (pv 3) (nomark _))))) (pss_one (ps_ret pe_bl)) pss_nil)))
      (pss_one (ps_ret pe_bl)), ?_⟩
    have hxl : xs.length = ps.length := Paired.length hp
    refine ⟨_, rfl, a, rfl, ⟨xs, hx⟩, for_list (K := K) (a := a) (xs := xs) (fun i σ H2 => ∃ v2 v3, σ = [some (V.ref a), some (V.int d), v2, v3] ∧ H2 = H ∧ ∀ (j : Nat) (p : Int × Int), j < i → ps[j]? = some p → ¬ (p.1 ≤ d ∧ d ≤ p.2))
      ⟨none, none, rfl, rfl, fun j p h => by omega⟩ (fun i σ H2 _ h => ?_) (fun i x σ H2 hi h => ?_) (fun σ H2 h => ?_)⟩
    · obtain ⟨v2, v3, rfl, rfl, _⟩ := h
      exact hx
    · obtain ⟨v2, v3, rfl, rfl, no⟩ := h
      obtain ⟨p, ep, t, rfl, ht⟩ := Paired.atL hp hi
      refine ⟨t, _, rfl, SqT.of ht, rfl, _, _, rfl, _, _, rfl, rfl, ?_⟩
      refine ⟨_, rfl, _, rfl, _, _, rfl, rfl, _, rfl, ?_⟩
      have stay : ¬ (p.1 ≤ d ∧ d ≤ p.2) → ∀ (j : Nat) (q : Int × Int), j < i + 1 → ps[j]? = some q → ¬ (q.1 ≤ d ∧ d ≤ q.2) := fun hn j q hj e => by
        by_cases hji : j = i
        · subst hji
          rw [ep] at e
          cases e
          exact hn
        · exact no j q (by omega) e
      by_cases h1 : p.1 ≤ d
      · rw [decide_eq_true h1]
        refine ⟨_, rfl, _, rfl, _, _, rfl, rfl, _, rfl, ?_⟩
        by_cases h2 : d ≤ p.2
        · rw [decide_eq_true h2]
          exact k true ⟨fun _ => ⟨p, List.mem_of_getElem? ep, h1, h2⟩, fun _ => rfl⟩
        · rw [decide_eq_false h2]
          exact ⟨_, _, rfl, rfl, stay fun h => h2 h.2⟩
      · rw [decide_eq_false h1]
        exact ⟨_, _, rfl, rfl, stay fun h => h1 h.1⟩
    · obtain ⟨v2, v3, rfl, rfl, no⟩ := h
      refine k false ⟨fun h => (nomatch h), fun h => ?_⟩
      obtain ⟨m, p, e, h1, h2⟩ := day_at.mp h
      have hm := (List.getElem?_eq_some_iff.mp e).1
      exact absurd ⟨h1, h2⟩ (no m p (by omega) e)
/-! _law_stretches -/
def okS (p : Int × Int) : Prop := p.1 ≤ p.2 ∧ p.2 ≤ p.1 + 8 ∧ -60 ≤ p.1 ∧ p.1 ≤ 60
def spStretches (K : PySem.W.Frag) : Sp := fun vs H Q _ => ∃ (a : Addr) (ns : List Int), vs = [.ref a] ∧ SqL K H a (ns.map V.int) ∧ ns.length ≤ 63 ∧
  ∀ (l : Addr) (ys : List V) (ps : List (Int × Int)) (H' : Hp), H l = none → H' l = some (.lst ys) → Same H H' → Paired (P2 K H') ys ps → (∀ p ∈ ps, okS p) → ps.length = ns.length → Q (.ref l) H'
theorem scStretches : FnScope ["_law_cells", "_law_some", "_law_cell", "_law_n"] ["_law_cells"] (defScope sStretches) := ⟨rfl, rfl, rfl, by decide +kernel, rfl, by decide +kernel, by decide +kernel⟩
theorem ok_stretches {f : Addr} {fd : FuncData} (F : Fun K "_law_stretches" "_law_stretches" sStretches f fd) (T : Txt mg) : FnOk P w K mg base CX0 1 f fd ["_law_cells"] (spStretches K) := by
  refine F.ok scStretches (fun vs H Q E h => ?_) (fun cdv A outer s H vs Q E hr h => ?_)
  · obtain ⟨a, ns, rfl, _⟩ := h
    rfl
  · obtain ⟨a, ns, rfl, hx, hlen, k⟩ := h
    refine ⟨_, pss_cons (ps_set (i := 1) scStretches.nd rfl (Or.inl rfl) (pe_lst pa_nil))
      (pss_cons (ps_for PassesOwn.never rfl (pi_list (pv 0)) (pg_name (i := 2) scStretches.nd rfl (Or.inl rfl))
        (pss_cons (ps_set (i := 3) scStretches.nd rfl (Or.inl rfl) (pe_op op_mod (pe_op op_mul (pv 2) pe_int) pe_int))
        (pss_one (ps_expr (pe_bm PySem.F.plainAttrs_list PySem.F.slot_list_append PySem.F.type_list_append mt_append (pv 1) (pa_cons (pe_tup (pa_cons (pe_op op_sub (pe_op op_mod (pv 3) pe_int) pe_int)
          (pa_cons (pe_op op_add (pe_op op_sub (pe_op op_mod (pv 3) pe_int) pe_int) (pe_op op_mod (pe_op op_fdiv (pv 3) pe_int) pe_int)) pa_nil))) pa_nil))))))
      (pss_one (ps_ret (pv 1)))), ?_⟩
    have z0 : (0 : Nat) ≤ sizeLine := Nat.zero_le _
    have two : (2 : Nat) ≤ sizeLine := Nat.le_of_lt (small1000 (by decide))
    have hxl : (ns.map V.int).length = ns.length := by simp
    refine ⟨z0, fun l hl => ?_⟩
    have s1 : Same H (upd H l (.lst [])) := Same.upd hl
    refine ⟨_, rfl, a, rfl, ⟨_, s1.seq hx⟩, for_list (K := K) (a := a) (xs := ns.map V.int) (fun i σ H2 => ∃ (ys : List V) (ps : List (Int × Int)) (v2 v3 : Option V), σ = [some (V.ref a), some (V.ref l), v2, v3] ∧ H2 l = some (.lst ys) ∧ Same H H2 ∧ Paired (P2 K H2) ys ps ∧ (∀ p ∈ ps, okS p) ∧ ps.length = i)
      ⟨[], [], none, none, rfl, upd_same, s1, .nil, (fun _ h => nomatch h), rfl⟩ (fun i σ H2 _ h => ?_) (fun i x σ H2 hi h => ?_) (fun σ H2 h => ?_)⟩
    · obtain ⟨ys, ps, v2, v3, rfl, h1, h3, h5, hok, hpl⟩ := h
      exact h3.seq hx
    · obtain ⟨ys, ps, v2, v3, rfl, h1, h3, h5, hok, hpl⟩ := h
      have hyl : ys.length = ps.length := Paired.length h5
      have hil : i < (ns.map V.int).length := (List.getElem?_eq_some_iff.mp hi).1
      obtain ⟨z, _, rfl⟩ := List.mem_map.mp (List.mem_of_getElem? hi)
      have p1 : (0 : Int) < 2147483647 := by decide
      have p2 : (0 : Int) < 121 := by decide
      have p3 : (0 : Int) < 9 := by decide
      have p4 : CDiv (z * 48271 % 2147483647) 121 := ⟨by decide, by decide⟩
      have cm : CMul z 48271 := .inr (by decide)
      generalize hm : z * 48271 % 2147483647 = m at p4
      refine ⟨_, rfl, _, _, rfl, rfl, cm, _, _, rfl, rfl, p1, ?_⟩
      refine ⟨_, rfl, .inl ⟨rfl, _, SqL.of h1⟩, _, rfl, _, _, rfl, rfl, p2, _, _, rfl, rfl, _, rfl, _, _, rfl, rfl, p2, _, _, rfl, rfl, _, rfl, _, _, rfl, rfl, ?_, _, _, rfl, rfl, p3, _, _, rfl, rfl, two, fun t2 ht2 => ⟨l, _, _, rfl, rfl, Same.upd ht2 _ _ h1, small1000 (by omega), ?_⟩⟩
      · exact ⟨by decide, by decide⟩
      obtain ⟨w1, w2, w3⟩ := app_keep (q := (z * 48271 % 2147483647 % 121 - 60, z * 48271 % 2147483647 % 121 - 60 + z * 48271 % 2147483647 / 121 % 9)) hl h1 h3 ht2 h5
      refine ⟨_, _, _, _, rfl, w1, w2, w3, fun p hp => ?_, by simp [hpl]⟩
      rcases List.mem_append.mp hp with h | h
      · exact hok p h
      · rw [List.mem_singleton.mp h]
        unfold okS
        dsimp only
        rw [hm]
        refine ⟨?_, ?_, ?_, ?_⟩ <;> omega
    · obtain ⟨ys, ps, v2, v3, rfl, h1, h3, h5, hok, hpl⟩ := h
      exact ⟨_, rfl, k l ys ps H2 hl h1 h3 h5 hok (by omega)⟩
/-! _law_days -/
def spDays (K : PySem.W.Frag) : Sp := fun vs H Q _ => ∃ (a : Addr) (ps : List (Int × Int)), vs = [.ref a] ∧ PL K H a ps ∧ ps.length ≤ 63 ∧ (∀ p ∈ ps, okS p) ∧
  ∀ (d : Addr) (ns : List Int) (H' : Hp), H d = none → FD H' d ns → Same H H' → ns.Nodup → (∀ x, x ∈ ns ↔ Day ps x) → ns.length ≤ 9 * ps.length → Q (.ref d) H'
theorem scDays : FnScope ["_law_some", "_law_days_here", "_law_first", "_law_last", "_law_day"] ["_law_some"] (defScope sDays) := ⟨rfl, rfl, rfl, by decide +kernel, rfl, by decide +kernel, by decide +kernel⟩
theorem ok_days {f : Addr} {fd : FuncData} (F : Fun K "_law_days" "_law_days" sDays f fd) (T : Txt mg) : FnOk P w K mg base CX0 1 f fd ["_law_some"] (spDays K) := by
  refine F.ok scDays (fun vs H Q E h => ?_) (fun cdv A outer s H vs Q E hr h => ?_)
  · obtain ⟨a, ps, rfl, _⟩ := h
    rfl
  · obtain ⟨a, ps, rfl, ⟨xs, hx, hp⟩, hlen, hok, k⟩ := h
    have hu : _ + 64 < cLine := hr.units
    refine ⟨_, pss_cons (ps_set (i := 1) scDays.nd rfl (Or.inl rfl) pe_dnewK)
      (pss_cons (ps_for PassesOwn.never rfl (pi_list (pv 0)) (pg_tup rfl (pgs_cons (pg_name (i := 2) scDays.nd rfl (Or.inl rfl)) (pgs_cons (pg_name (i := 3) scDays.nd rfl (Or.inl rfl)) pgs_nil)))
        (pss_one (ps_for PassesOwn.never rfl (pi_range2 (by rfl) T.rng (pa_cons (pv 2) (pa_cons (pe_op op_add (pv 3) pe_int) pa_nil))) (pg_name (i := 4) scDays.nd rfl (Or.inl rfl))
          (pss_one (ps_dput (Nat.lt_of_le_of_lt (Nat.add_le_add_left (by decide) _) hu) (pv 1) (pv 4) pe_bl rfl)))))
      (pss_one (ps_ret (pe_frz (pv 1))))), ?_⟩
    have hxl : xs.length = ps.length := Paired.length hp
    intro d hd
    have s1 : Same H (upd H d (.dK [])) := Same.upd hd
    refine ⟨_, rfl, a, rfl, ⟨xs, s1.seq hx⟩, for_list (K := K) (a := a) (xs := xs) (fun i σ H2 => ∃ (ns : List Int) (v2 v3 v4 : Option V), σ = [some (V.ref a), some (V.ref d), v2, v3, v4] ∧ H2 d = some (.dK (dk ns)) ∧ Same H H2 ∧ ns.Nodup ∧ (∀ x, x ∈ ns ↔ Day (ps.take i) x) ∧ ns.length ≤ 9 * i)
      ⟨[], none, none, none, rfl, upd_same, s1, List.nodup_nil, fun x => ⟨fun h => (nomatch h), fun h => by obtain ⟨_, h, _⟩ := h; cases h⟩, Nat.zero_le _⟩ (fun i σ H2 _ h => ?_) (fun i x σ H2 hi h => ?_) (fun σ H2 h => ?_)⟩
    · obtain ⟨ns, v2, v3, v4, rfl, h1, h3, _⟩ := h
      exact h3.seq hx
    · obtain ⟨ns, v2, v3, v4, rfl, h1, h3, h4, h5, h6⟩ := h
      obtain ⟨p, ep, t, rfl, ht⟩ := Paired.atL hp hi
      have hil : i < ps.length := (List.getElem?_eq_some_iff.mp ep).1
      obtain ⟨o1, o2, o3, o4⟩ := hok p (List.mem_of_getElem? ep)
      have tk : ps.take (i + 1) = ps.take i ++ [p] := by
        rw [List.take_succ_eq_append_getElem hil]
        obtain ⟨_, e⟩ := List.getElem?_eq_some_iff.mp ep
        rw [e]
      refine ⟨t, _, rfl, SqT.of (h3 _ _ ht), rfl, _, _, rfl, _, _, rfl, rfl, ?_⟩
      have b1 : -(2 ^ 62 : Int) ≤ p.1 := by omega
      have b2 : p.1 < (2 ^ 62 : Int) := by omega
      have b3 : -(2 ^ 62 : Int) ≤ p.2 + 1 := by omega
      have b4 : p.2 + 1 < (2 ^ 62 : Int) := by omega
      refine ⟨_, rfl, _, rfl, _, _, rfl, rfl, _, _, rfl, ⟨b1, b2, b3, b4⟩, for_range (lo := p.1) (n := (p.2 + 1 - p.1).toNat) (fun j σ H3 => ∃ (ns : List Int) (v4 : Option V), σ = [some (V.ref a), some (V.ref d), some (V.int p.1), some (V.int p.2), v4] ∧ H3 d = some (.dK (dk ns)) ∧ Same H H3 ∧ ns.Nodup ∧ (∀ x, x ∈ ns ↔ Day (ps.take i) x ∨ (p.1 ≤ x ∧ x < p.1 + j)) ∧ ns.length ≤ 9 * i + j)
        ⟨ns, v4, rfl, h1, h3, h4, fun x => ⟨fun h => .inl ((h5 x).mp h), fun h => h.elim (fun h => (h5 x).mpr h) fun h => by omega⟩, by omega⟩ (fun j σ H3 hj h => ?_) (fun σ H3 h => ?_)⟩
      · obtain ⟨ns, v4, rfl, h1, h3, h4, h5, h6⟩ := h
        have hlt : (dk ns).length < sizeLine := small1000 (by simp [dk]; omega)
        refine ⟨_, rfl, _, rfl, d, _, rfl, DPut.k (k := Sum.inl (p.1 + j)) h1 hlt, ?_⟩
        rw [dk_put]
        refine ⟨_, _, rfl, upd_same, fun c u e => ?_, ?_, fun x => ?_, ?_⟩
        · rw [upd_ne (ne_of_none e hd)]
          exact h3 c u e
        · split
          · exact h4
          · rename_i hn
            exact List.nodup_append.mpr ⟨h4, by simp, fun a ha b hb => by rw [List.mem_singleton.mp hb]; intro e; exact hn (e ▸ ha)⟩
        · have := h5 x
          split
          · rename_i hm
            rw [this]
            constructor
            · rintro (h | h)
              · exact .inl h
              · exact .inr (by omega)
            · rintro (h | h)
              · exact .inl h
              · by_cases e : x = p.1 + j
                · subst e
                  exact this.mp hm
                · exact .inr (by omega)
          · rw [List.mem_append, List.mem_singleton, this]
            constructor
            · rintro ((h | h) | h)
              · exact .inl h
              · exact .inr (by omega)
              · exact .inr (by omega)
            · rintro (h | h)
              · exact .inl (.inl h)
              · by_cases e : x = p.1 + j
                · exact .inr e
                · exact .inl (.inr (by omega))
        · split
          · omega
          · rw [List.length_append, List.length_singleton]
            omega
      · obtain ⟨ns, v4, rfl, h1, h3, h4, h5, h6⟩ := h
        refine ⟨ns, _, _, _, rfl, h1, h3, h4, fun x => ?_, by omega⟩
        rw [h5 x, tk, day_app, day_one]
        constructor
        · rintro (h | h)
          · exact .inl h
          · exact .inr (by omega)
        · rintro (h | h)
          · exact .inl h
          · exact .inr (by omega)
    · obtain ⟨ns, v2, v3, v4, rfl, h1, h3, h4, h5, h6⟩ := h
      rw [hxl] at h5 h6
      rw [List.take_length] at h5
      refine ⟨_, rfl, d, _, rfl, h1, fun o => k d ns _ hd ⟨o, upd_same⟩ (fun c u e => ?_) h4 h5 h6⟩
      rw [upd_ne (ne_of_none e hd)]
      exact h3 c u e
end
end K2
set_option maxHeartbeats 4000000
namespace K2
open PySem L2 Dy
section
variable {P : Program} {w : World} {K : PySem.W.Frag} {mg : Str → Option Value} {base : Heap}
def LL (K : PySem.W.Frag) (H : Hp) (l : Addr) (f : List (Int × Int)) : Prop := ∃ ys, H l = some (.lst ys) ∧ Paired (P2 K H) ys f
theorem LL.same {H H' : Hp} {l : Addr} {f : List (Int × Int)} (h : LL K H l f) (e : Same H H') : LL K H' l f := by
  obtain ⟨ys, h1, h2⟩ := h
  exact ⟨ys, e _ _ h1, P2s.same e h2⟩
theorem LL.pl {H : Hp} {l : Addr} {f : List (Int × Int)} (h : LL K H l f) : PL K H l f := by
  obtain ⟨ys, h1, h2⟩ := h
  exact ⟨ys, SqL.of h1, h2⟩
theorem pds_dvsK {H : Hp} {xs : List V} {ps : List (Int × Int)} (h : Paired (P2 K H) xs ps) : DVs K H (ps.map pd) xs := by
  induction h with
  | nil => simp [DVs]
  | cons r _ ih =>
    obtain ⟨a, rfl, hq⟩ := r
    simp only [List.map_cons, DVs]
    refine ⟨_, _, rfl, ?_, ih⟩
    simp only [pd, DV]
    exact ⟨a, _, rfl, SqT.of hq, by simp [DVs, DV]⟩
theorem LL.dv {H : Hp} {l : Addr} {f : List (Int × Int)} (h : LL K H l f) : DV K H (pds f) (.ref l) := by
  obtain ⟨ys, h1, h2⟩ := h
  simp only [pds, DV]
  exact ⟨l, ys, rfl, SqL.of h1, pds_dvsK h2⟩
theorem LL.nil {H : Hp} {l : Addr} : LL K (upd H l (.lst [])) l [] := ⟨[], upd_same, .nil⟩
theorem Paired.app {α β : Type} {R : α → β → Prop} {vs us : List α} {qs rs : List β} (h : Paired R vs qs) (g : Paired R us rs) : Paired R (vs ++ us) (qs ++ rs) := by
  induction h with
  | nil => exact g
  | cons a _ ih => exact .cons a ih
theorem kit_int_int : PySem.W.kitOne K (.type "int") (.type "int") = some true := by rfl
theorem kit_int_bool : PySem.W.kitOne K (.type "int") (.type "bool") = some false := by rfl
theorem kit_bool_bool : PySem.W.kitOne K (.type "bool") (.type "bool") = some true := by rfl
theorem kit_list : PySem.W.kitOne K (.type "list") (.type "list") = some true := by rfl
theorem kit_tuple : PySem.W.kitOne K (.type "tuple") (.type "tuple") = some true := by rfl
/-! _law_spread -/
def spSpread (K : PySem.W.Frag) : Sp := fun vs H Q _ => ∃ (a : Addr) (ns : List Int), vs = [.ref a] ∧ (SqL K H a (ns.map V.int) ∨ FD H a ns) ∧ ns.Nodup ∧ ns.length ≤ 900 ∧
  ∀ (l : Addr) (ys : List V) (fs : List (Int × Int)) (H' : Hp), H l = none → H' l = some (.lst ys) → Same H H' → Paired (P2 K H') ys fs → Spr fs → (∀ d, Day fs d ↔ d ∈ ns) → sz fs = ns.length → fs.length ≤ ns.length → Q (.ref l) H'
theorem scSpread : FnScope ["_law_days_here", "_law_found", "_law_day"] ["_law_days_here"] (defScope sSpread) := ⟨rfl, rfl, rfl, by decide +kernel, rfl, by decide +kernel, by decide +kernel⟩
theorem ok_spread {f : Addr} {fd : FuncData} (F : Fun K "_law_spread" "_law_spread" sSpread f fd) (T : Txt mg) : FnOk P w K mg base CX0 1 f fd ["_law_days_here"] (spSpread K) := by
  refine F.ok scSpread (fun vs H Q E h => ?_) (fun cdv A outer s H vs Q E hr h => ?_)
  · obtain ⟨a, ns, rfl, _⟩ := h
    rfl
  · obtain ⟨a, ns, rfl, hS, hnd, hlen, k⟩ := h
    have hu : _ + 64 < cLine := hr.units
    refine ⟨_, pss_cons (ps_set (i := 1) scSpread.nd rfl (Or.inl rfl) (pe_lst pa_nil))
      (pss_cons (ps_for PassesOwn.never rfl (pi_list (pe_callB (CallR.or call_sortedI (call_sortedD rfl)) (by rfl) T.srt PyProof.Rows.boot_sorted (pa_cons (pv 0) pa_nil))) (pg_name (i := 2) scSpread.nd rfl (Or.inl rfl))
        (pss_one (ps_if (PW.pt (pw_and (pt_cmpR (op_neD hu) (pv 1) (pe_lst pa_nil) (nomark _)) (pw_and1 (pt_cmpR op_eq (pe_ix ix_tup (pe_ix ix_list (pv 1) (pe_op op_sub (pe_callB call_len_seq (by rfl) T.len PySem.boot_len (pa_cons (pv 1) pa_nil)) pe_int) (fun _ _ => rfl)) pe_int (fun _ _ => rfl)) (pe_op op_sub (pv 2) pe_int) (nomark _)))))
          (pss_one (ps_asg (pe_tup (pa_cons (pe_ix ix_tup (pe_ix ix_list (pv 1) (pe_op op_sub (pe_callB call_len_seq (by rfl) T.len PySem.boot_len (pa_cons (pv 1) pa_nil)) pe_int) (fun _ _ => rfl)) pe_int (fun _ _ => rfl)) (pa_cons (pv 2) pa_nil)))
            (pg_sub (pv 1) (pe_op op_sub (pe_callB call_len_seq (by rfl) T.len PySem.boot_len (pa_cons (pv 1) pa_nil)) pe_int) set_list)))
          (pss_one (ps_expr (pe_bm PySem.F.plainAttrs_list PySem.F.slot_list_append PySem.F.type_list_append mt_append (pv 1) (pa_cons (pe_tup (pa_cons (pv 2) (pa_cons (pv 2) pa_nil))) pa_nil)))))))
      (pss_one (ps_ret (pv 1)))), ?_⟩
    have z0 : (0 : Nat) ≤ sizeLine := Nat.zero_le _
    have two : (2 : Nat) ≤ sizeLine := Nat.le_of_lt (small1000 (by decide))
    refine ⟨z0, fun l hl => ?_⟩
    have s1 : Same H (upd H l (.lst [])) := Same.upd hl
    refine ⟨_, rfl, ?_⟩
    have rest : ∀ (b : Addr) (ms : List Int), (upd H l (.lst [])) b = none → ms.Perm ns → ms.Pairwise (· ≤ ·) → True := fun _ _ _ _ _ => trivial
    rcases hS with hS | hS
    case' inl => refine .inl ⟨a, ns, rfl, s1.seq hS, fun b ms hb hpm hle => ?_⟩
    case' inr => refine .inr ⟨a, ns, rfl, hS.same s1, fun b ms hb hpm hle => ?_⟩
    all_goals
      have hlt := strict_of hle (hpm.nodup_iff.mpr hnd)
      have Run := rd_all hlt
      have hml : ms.length = ns.length := hpm.length_eq
      have hxl : (ms.map V.int).length = ms.length := by simp
      have s2 : Same (upd H l (.lst [])) (upd (upd H l (.lst [])) b (.lst (ms.map V.int))) := Same.upd hb
      have hbl : b ≠ l := fun e => by
        rw [e, upd_same] at hb
        cases hb
      refine ⟨b, rfl, ⟨_, SqL.of upd_same⟩, for_list (K := K) (a := b) (xs := ms.map V.int) (fun i σ H2 => ∃ (ys : List V) (v2 : Option V), σ = [some (V.ref a), some (V.ref l), v2] ∧ H2 l = some (.lst ys) ∧ H2 b = some (.lst (ms.map V.int)) ∧ Same H H2 ∧ Paired (P2 K H2) ys ((ms.take i).foldl dstp []))
        ⟨[], none, rfl, s2 _ _ upd_same, upd_same, s1.trans s2, .nil⟩ (fun i σ H2 _ h => ?_) (fun i x σ H2 hi h => ?_) (fun σ H2 h => ?_)⟩
      · obtain ⟨ys, v2, rfl, h1, h2, h3, h5⟩ := h
        exact SqL.of h2
      · obtain ⟨ys, v2, rfl, h1, h2, h3, h5⟩ := h
        have hil : i < ms.length := by rw [← hxl]; exact (List.getElem?_eq_some_iff.mp hi).1
        have hx : x = V.int ms[i] := by
          rw [List.getElem?_map, List.getElem?_eq_getElem hil] at hi
          exact (Option.some.inj hi).symm
        subst hx
        have estep : (ms.take (i + 1)).foldl dstp [] = dstp ((ms.take i).foldl dstp []) ms[i] := by
          rw [List.take_succ_eq_append_getElem hil, List.foldl_append]
          rfl
        have R := Run i (by omega)
        have hyl : ys.length ≤ 900 := by
          have q1 := Paired.length h5
          have q2 := R.len
          rw [List.length_take] at q2
          omega
        rw [estep]
        refine ⟨_, rfl, z0, fun n hn => ?_⟩
        have s3 : Same H2 (upd H2 n (.lst [])) := Same.upd hn
        have hL : LL K H2 l ((ms.take i).foldl dstp []) := ⟨ys, h1, h5⟩
        refine ⟨pds _, pds [], (hL.same s3).dv, LL.nil.dv, pds_shaped _, pds_shaped _, _, rfl, ?_⟩
        rw [pds_eqv]
        generalize hH3 : upd H2 n (HO.lst []) = H3 at s3
        have h13 := s3 _ _ h1
        have h23 := s3 _ _ h2
        have h33 := h3.trans s3
        have h53 := P2s.same s3 h5
        -- a new tuple, the list written: what stays
        have wr : ∀ (t2 : Addr) (q : Int × Int) (ys2 : List V) (acc2 : List (Int × Int)), H3 t2 = none → Paired (P2 K H3) ys2 acc2 →
            (upd (upd H3 t2 (.tup [.int q.1, .int q.2])) l (.lst (ys2 ++ [.ref t2]))) l = some (.lst (ys2 ++ [.ref t2])) ∧ (upd (upd H3 t2 (.tup [.int q.1, .int q.2])) l (.lst (ys2 ++ [.ref t2]))) b = some (.lst (ms.map V.int)) ∧
            Same H (upd (upd H3 t2 (.tup [.int q.1, .int q.2])) l (.lst (ys2 ++ [.ref t2]))) ∧ Paired (P2 K (upd (upd H3 t2 (.tup [.int q.1, .int q.2])) l (.lst (ys2 ++ [.ref t2])))) (ys2 ++ [.ref t2]) (acc2 ++ [q]) := fun t2 q ys2 acc2 ht2 hys2 => by
          have ntl : t2 ≠ l := Ne.symm (ne_of_none h13 ht2)
          have s4 : Same H3 (upd H3 t2 (.tup [.int q.1, .int q.2])) := Same.upd ht2
          have tk : TK H3 (upd (upd H3 t2 (.tup [.int q.1, .int q.2])) l (.lst (ys2 ++ [.ref t2]))) := (TK.of s4).trans (TK.upd (s4 _ _ h13))
          refine ⟨upd_same, by rw [upd_ne hbl]; exact s4 _ _ h23, fun c u e => ?_, L2.Paired.snoc (P2s.tk tk hys2) ⟨t2, rfl, ?_⟩⟩
          · rw [upd_ne (ne_of_none e hl)]
            exact s4 _ _ (h33 c u e)
          · rw [upd_ne ntl, upd_same]
        rcases snoc_of ((ms.take i).foldl dstp []) with e0 | ⟨fa, fl, e0⟩
        · rw [e0] at h53 ⊢
          cases h53
          rw [decide_eq_true rfl]
          refine ⟨_, rfl, .inl ⟨rfl, _, SqL.of h13⟩, _, rfl, _, rfl, two, fun t2 ht2 => ⟨l, _, _, rfl, rfl, Same.upd ht2 _ _ h13, small1000 (by show 0 ≤ 1000; decide), ?_⟩⟩
          obtain ⟨w1, w2, w3, w4⟩ := wr t2 (ms[i], ms[i]) [] [] ht2 .nil
          exact ⟨_, _, rfl, w1, w2, w3, w4⟩
        · rw [e0] at h53 ⊢
          obtain ⟨ys', v', rfl, h6, u, rfl, hu'⟩ := Paired.unsnoc h53
          rw [decide_eq_false (by simp)]
          have hat : atI (ys' ++ [V.ref u]) (((ys' ++ [V.ref u]).length : Int) - 1) = some (V.ref u) := by
            rw [show (((ys' ++ [V.ref u]).length : Int) - 1) = ((ys'.length : Nat) : Int) by simp]
            exact atI_nat (by simp)
          refine ⟨_, rfl, _, rfl, l, _, rfl, .inl (SqL.of h13), _, _, rfl, rfl, l, _, _, _, rfl, rfl, SqL.of h13, hat, u, _, _, _, rfl, rfl, SqT.of hu', rfl, _, rfl, _, _, rfl, rfl, rfl, _, rfl, ?_⟩
          by_cases hc : fl.2 = ms[i] - 1
          · rw [decide_eq_true (by rw [hc])]
            refine ⟨_, rfl, _, rfl, l, _, rfl, .inl (SqL.of h13), _, _, rfl, rfl, l, _, _, _, rfl, rfl, SqL.of h13, hat, u, _, _, _, rfl, rfl, SqT.of hu', rfl, _, rfl, two, fun t2 ht2 => ?_⟩
            have hix : ixN (ys' ++ [V.ref u]).length (((ys' ++ [V.ref u]).length : Int) - 1) = some ys'.length := by
              unfold ixN
              simp
              omega
            refine ⟨_, rfl, _, rfl, l, _, rfl, .inl (SqL.of (Same.upd ht2 _ _ h13)), _, _, rfl, rfl, l, _, _, _, rfl, rfl, Same.upd ht2 _ _ h13, hix, ?_⟩
            obtain ⟨w1, w2, w3, w4⟩ := wr t2 (fl.1, ms[i]) ys' fa ht2 h6
            have es : (ys' ++ [V.ref u]).set ys'.length (V.ref t2) = ys' ++ [V.ref t2] := by
              rw [List.set_append_right _ _ (Nat.le_refl _), Nat.sub_self]
              rfl
            rw [es]
            refine ⟨_, _, rfl, w1, w2, w3, ?_⟩
            rw [dstp_snoc, if_pos hc]
            exact w4
          · rw [decide_eq_false (by intro e; exact hc (V.int.inj e))]
            refine ⟨_, rfl, .inl ⟨rfl, _, SqL.of h13⟩, _, rfl, _, rfl, two, fun t2 ht2 => ⟨l, _, _, rfl, rfl, Same.upd ht2 _ _ h13, small1000 (by omega), ?_⟩⟩
            obtain ⟨w1, w2, w3, w4⟩ := wr t2 (ms[i], ms[i]) _ _ ht2 h53
            refine ⟨_, _, rfl, w1, w2, w3, ?_⟩
            rw [dstp_snoc, if_neg hc]
            exact w4
      · obtain ⟨ys, v2, rfl, h1, h2, h3, h5⟩ := h
        have R := Run ms.length (Nat.le_refl _)
        rw [hxl] at h5
        rw [List.take_length] at R h5
        refine ⟨_, rfl, k l ys _ H2 hl h1 h3 h5 R.spr (fun d => ?_) ?_ ?_⟩
        · rw [R.day d]
          exact hpm.mem_iff
        · rw [R.sz, hml]
        · have := R.len
          omega
end
end K2
set_option maxHeartbeats 4000000
namespace K2
open PySem L2 Dy
section
variable {P : Program} {w : World} {K : PySem.W.Frag} {mg : Str → Option Value} {base : Heap}
/-! _law_told -/
def spTold (K : PySem.W.Frag) : Sp := fun vs H Q _ => ∃ (a b : Addr) (fs : List (Int × Int)), vs = [.ref a, .ref b] ∧ LL K H a fs ∧ LL K H b fs ∧ Q (.bl true) H
theorem scTold : FnScope ["_law_found", "_law_due", "_law_one"] ["_law_found", "_law_due"] (defScope sTold) := ⟨rfl, rfl, rfl, by decide +kernel, rfl, by decide +kernel, by decide +kernel⟩
theorem ok_told {f : Addr} {fd : FuncData} (F : Fun K "_law_told" "_law_told" sTold f fd) (T : Txt mg) : FnOk P w K mg base CX0 1 f fd ["_law_found", "_law_due"] (spTold K) := by
  refine F.ok scTold (fun vs H Q E h => ?_) (fun cdv A outer s H vs Q E hr h => ?_)
  · obtain ⟨a, b, fs, rfl, _⟩ := h
    rfl
  · obtain ⟨a, b, fs, rfl, ha, hb, k⟩ := h
    have hu : _ + 64 < cLine := hr.units
    refine ⟨_, pss_cons (ps_if (PW.pt (pw_or (pt_not (pt_val (pe_callB call_isi (by rfl) T.isi PyProof.Rows.boot_isinstance (pa_cons (pv 0) (pa_cons (pe_bltn (v := .ty "list") (by rfl) T.lst PyProof.Rows.boot_list rfl) pa_nil))))) (pw_or1 (pt_cmpR (op_neD hu) (pv 0) (pv 1) (nomark _))))) (pss_one (ps_ret pe_bl)) pss_nil)
      (pss_cons (ps_for PassesOwn.never rfl (pi_list (pv 0)) (pg_name (i := 2) scTold.nd rfl (Or.inl rfl))
        (pss_one (ps_if (PW.pt (pw_or (pt_not (pt_val (pe_callB call_isi (by rfl) T.isi PyProof.Rows.boot_isinstance (pa_cons (pv 2) (pa_cons (pe_bltn (v := .ty "tuple") (by rfl) T.tup PyProof.Rows.boot_tuple rfl) pa_nil)))))
          (pw_or (pt_val (pe_callB call_isi (by rfl) T.isi PyProof.Rows.boot_isinstance (pa_cons (pe_ix ix_tup (pv 2) pe_int (fun _ _ => rfl)) (pa_cons (pe_bltn (v := .ty "bool") (by rfl) T.bool PyProof.Rows.boot_bool rfl) pa_nil))))
          (pw_or1 (pt_val (pe_callB call_isi (by rfl) T.isi PyProof.Rows.boot_isinstance (pa_cons (pe_ix ix_tup (pv 2) pe_int (fun _ _ => rfl)) (pa_cons (pe_bltn (v := .ty "bool") (by rfl) T.bool PyProof.Rows.boot_bool rfl) pa_nil)))))))) (pss_one (ps_ret pe_bl)) pss_nil)))
      (pss_one (ps_ret pe_bl))), ?_⟩
    obtain ⟨ys, h1, hp⟩ := id ha
    refine ⟨_, rfl, _, _, _, _, rfl, TyOf.lst h1, kit_list, _, rfl, ?_⟩
    refine ⟨_, rfl, _, rfl, pds fs, pds fs, ha.dv, hb.dv, pds_shaped _, pds_shaped _, _, rfl, ?_⟩
    rw [pds_eqv, decide_eq_true rfl]
    refine ⟨_, rfl, a, rfl, ⟨ys, SqL.of h1⟩, for_list (K := K) (a := a) (xs := ys) (fun i σ H2 => ∃ v2, σ = [some (V.ref a), some (V.ref b), v2] ∧ H2 = H)
      ⟨none, rfl, rfl⟩ (fun i σ H2 _ h => ?_) (fun i x σ H2 hi h => ?_) (fun σ H2 h => ?_)⟩
    · obtain ⟨v2, rfl, rfl⟩ := h
      exact SqL.of h1
    · obtain ⟨v2, rfl, rfl⟩ := h
      obtain ⟨p, ep, t, rfl, ht⟩ := Paired.atL hp hi
      refine ⟨_, rfl, _, _, _, _, rfl, TyOf.tup ht, kit_tuple, _, rfl, ?_⟩
      refine ⟨_, rfl, t, _, _, _, rfl, rfl, SqT.of ht, rfl, _, _, _, _, rfl, TyOf.int p.1, kit_int_bool, _, rfl, ?_⟩
      refine ⟨_, rfl, t, _, _, _, rfl, rfl, SqT.of ht, rfl, _, _, _, _, rfl, TyOf.int p.2, kit_int_bool, _, rfl, ?_⟩
      exact ⟨_, rfl, rfl⟩
    · obtain ⟨v2, rfl, rfl⟩ := h
      exact k
/-! _law_moved -/
def spMoved (K : PySem.W.Frag) : Sp := fun vs H Q _ => ∃ (a : Addr) (ps : List (Int × Int)) (d : Int), vs = [.ref a, .int d] ∧ PL K H a ps ∧ ps.length ≤ 900 ∧
  ∀ (l : Addr) (H' : Hp), H l = none → LL K H' l (mv d ps) → Same H H' → Q (.ref l) H'
theorem scMoved : FnScope ["_law_some", "_law_by"] ["_law_some", "_law_by"] (defScope sMoved) := ⟨rfl, rfl, rfl, by decide +kernel, rfl, by decide +kernel, by decide +kernel⟩
theorem ndM : (["_law_first", "_law_last", "_law_by"] : List Str).Nodup := by decide +kernel
theorem ok_moved {f : Addr} {fd : FuncData} (F : Fun K "_law_moved" "_law_moved" sMoved f fd) (T : Txt mg) : FnOk P w K mg base CX0 1 f fd ["_law_some", "_law_by"] (spMoved K) := by
  refine F.ok scMoved (fun vs H Q E h => ?_) (fun cdv A outer s H vs Q E hr h => ?_)
  · obtain ⟨a, ps, d, rfl, _⟩ := h
    rfl
  · obtain ⟨a, ps, d, rfl, ⟨xs, hq, hp⟩, hl, k⟩ := h
    refine ⟨_, pss_one (ps_ret (pe_comp ["_law_first", "_law_last"] [1] rfl (blkS (defScope sMoved) ["_law_some", "_law_by"] (by decide +kernel)) (pi_list (pv 0))
      (fun _ _ _ _ _ => pg_tupK (n := 2) K rfl rfl (pgs_cons (pg_name (i := 0) ndM rfl (Or.inl rfl)) (pgs_cons (pg_name (i := 1) ndM rfl (Or.inl rfl)) pgs_nil)))
      (fun _ _ _ _ _ => pif_nil)
      (fun _ _ _ _ _ => pe_tup (pa_cons (pe_op op_add (pv 0) (pv 2)) (pa_cons (pe_op op_add (pv 1) (pv 2)) pa_nil))))), ?_⟩
    have two : (2 : Nat) ≤ sizeLine := Nat.le_of_lt (small1000 (by decide))
    have hxl : xs.length = ps.length := Paired.length hp
    refine ⟨_, rfl, a, rfl, ⟨xs, hq⟩, comp_list (K := K) (a := a) (xs := xs) (fun i ys σ H' => ∃ v0 v1, σ = [v0, v1, some (V.int d)] ∧ Same H H' ∧ Paired (P2 K H') ys ((mv d ps).take i))
      ⟨none, none, rfl, Same.refl H, .nil⟩ (Nat.le_of_lt (small1000 (by omega))) (fun i ys σ H' hi h => ?_) (fun i x ys σ H' hi h => ?_) (fun ys σ H' h => ?_)⟩
    · obtain ⟨v0, v1, rfl, sm, hy⟩ := h
      refine ⟨sm.seq hq, ?_⟩
      rw [Paired.length hy, List.length_take]
      omega
    · obtain ⟨v0, v1, rfl, sm, hy⟩ := h
      obtain ⟨p, ep, t, rfl, ht⟩ := Paired.atL hp hi
      have hil : i < ps.length := (List.getElem?_eq_some_iff.mp ep).1
      have step : (mv d ps).take (i + 1) = (mv d ps).take i ++ [(p.1 + d, p.2 + d)] := by
        rw [List.take_succ_eq_append_getElem (by rw [mv_len]; exact hil)]
        congr 1
        obtain ⟨_, e⟩ := List.getElem?_eq_some_iff.mp ep
        simp [mv, e]
      refine ⟨t, _, rfl, SqT.of (sm _ _ ht), rfl, _, _, rfl, _, _, rfl, rfl, _, rfl, _, rfl, _, _, rfl, rfl, _, rfl, _, rfl, _, _, rfl, rfl, two, fun t2 ht2 => ⟨_, _, rfl, sm.trans (Same.upd ht2), ?_⟩⟩
      rw [step]
      exact L2.Paired.snoc (P2s.same (Same.upd ht2) hy) ⟨t2, rfl, upd_same⟩
    · obtain ⟨v0, v1, rfl, sm, hy⟩ := h
      intro l hl'
      refine k l _ (Same.none sm hl') ⟨ys, upd_same, ?_⟩ (sm.trans (Same.upd hl'))
      rw [List.take_of_length_le (by rw [mv_len]; omega)] at hy
      exact P2s.same (Same.upd hl') hy
end
end K2
set_option maxHeartbeats 4000000
namespace K2
open PySem L2 Dy
section
variable {P : Program} {w : World} {K : PySem.W.Frag} {mg : Str → Option Value} {base : Heap}
/-! law -/
theorem ints_of : ∀ {vs : List V}, (∀ v ∈ vs, ∃ z, v = V.int z) → ∃ ns : List Int, vs = ns.map V.int
  | [], _ => ⟨[], rfl⟩
  | v :: vs, h => by
    obtain ⟨z, rfl⟩ := h v List.mem_cons_self
    obtain ⟨ns, e⟩ := ints_of (vs := vs) fun u hu => h u (List.mem_cons_of_mem _ hu)
    exact ⟨z :: ns, by rw [e]; rfl⟩
theorem cnt_le {f : Int → Bool} {lo : Int} : ∀ n : Nat, cnt f lo n ≤ n
  | 0 => Int.le_refl _
  | n + 1 => by
    have := cnt_le (f := f) (lo := lo) n
    simp only [cnt]
    split <;> omega
theorem sz_le {A : List (Int × Int)} {lo : Int} {n : Nat} (S : Spr A) (h : ∀ d, Day A d → lo ≤ d ∧ d < lo + n) : sz A ≤ n := by
  rw [sz_cnt S h]
  exact cnt_le n
def ids (ns : List Int) : PyData := .list (ns.map .int)
theorem ids_dv {H : Hp} {a : Addr} {ns : List Int} (h : SqL K H a (ns.map V.int)) : DV K H (ids ns) (.ref a) := by
  have hs : ∀ ns : List Int, DVs K H (ns.map .int) (ns.map V.int) := fun ns => by
    induction ns with
    | nil => simp [DVs]
    | cons n ns ih =>
      simp only [List.map_cons, DVs]
      exact ⟨_, _, rfl, by simp [DV], ih⟩
  simp only [ids, DV]
  exact ⟨a, _, rfl, h, hs ns⟩
theorem ids_shaped (ns : List Int) : SeqAt.shaped (ids ns) = true := by
  have h : ∀ ns : List Int, PyData.canLayAll0 (ns.map .int) = true ∧ PyData.depthAll (ns.map .int) ≤ 1 := by
    intro ns
    induction ns with
    | nil => simp [PyData.canLayAll0, PyData.depthAll]
    | cons p ps ih => simp [PyData.canLayAll0, PyData.depthAll, PyData.canLay0, PyData.depth, ih]
  obtain ⟨h1, h2⟩ := h ns
  simp [SeqAt.shaped, ids, PyData.canLay0, PyData.depth, h1]
  omega
theorem ids_eqv (ns : List Int) : PyData.eqv (ids ns) (pds []) = decide (ns = []) := by
  cases ns <;> simp [ids, pds, PyData.eqv, PyData.eqvAll]
def two2 (f g : List (Int × Int)) : PyData := .list [pds f, pds g]
theorem two2_shaped (f g : List (Int × Int)) : SeqAt.shaped (two2 f g) = true := by
  have h1 := pds_shaped f
  have h2 := pds_shaped g
  have d : ∀ f : List (Int × Int), PyData.canLay0 (pds f) = true ∧ PyData.depth (pds f) ≤ 3 := by
    intro f
    have h : ∀ ps : List (Int × Int), PyData.canLayAll0 (ps.map pd) = true ∧ PyData.depthAll (ps.map pd) ≤ 1 := by
      intro ps
      induction ps with
      | nil => simp [PyData.canLayAll0, PyData.depthAll]
      | cons p ps ih => simp [PyData.canLayAll0, PyData.depthAll, PyData.canLay0, PyData.depth, pd, ih]
    obtain ⟨h1, h2⟩ := h f
    simp [pds, PyData.canLay0, PyData.depth, h1]
    omega
  obtain ⟨a1, a2⟩ := d f
  obtain ⟨b1, b2⟩ := d g
  simp [SeqAt.shaped, two2, PyData.canLay0, PyData.canLayAll0, PyData.depth, PyData.depthAll, a1, b1]
  omega
theorem two2_eqv (f g : List (Int × Int)) : PyData.eqv (two2 f g) (two2 f g) = true := by
  simp [two2, PyData.eqv, PyData.eqvAll, pds_eqv]
theorem two2_dv {H : Hp} {l a b : Addr} {f g : List (Int × Int)} (h : H l = some (.lst [.ref a, .ref b])) (ha : LL K H a f) (hb : LL K H b g) : DV K H (two2 f g) (.ref l) := by
  simp only [two2, DV, DVs]
  exact ⟨l, _, rfl, SqL.of h, _, _, rfl, ha.dv, _, _, rfl, hb.dv, rfl⟩
def bls (b c : Bool) : PyData := .list [.bool b, .bool c]
theorem bls_shaped (b c : Bool) : SeqAt.shaped (bls b c) = true := by cases b <;> cases c <;> decide +kernel
theorem bls_eqv (b c : Bool) : PyData.eqv (bls b c) (bls b c) = true := by simp [bls, PyData.eqv, PyData.eqvAll]
theorem bls_dv {H : Hp} {l : Addr} {b c : Bool} (h : H l = some (.lst [.bl b, .bl c])) : DV K H (bls b c) (.ref l) := by
  simp only [bls, DV, DVs]
  exact ⟨l, _, rfl, SqL.of h, _, _, rfl, rfl, _, _, rfl, rfl, rfl⟩
structure Bx (K : PySem.W.Frag) (H : Hp) (lo lA lB hd gA gB dA dB : Addr) (fA fB : List (Int × Int)) (nA nB : List Int) : Prop where
  A : LL K H lA fA
  B : LL K H lB fB
  GA : LL K H gA fA
  GB : LL K H gB fB
  da : L2.FD H dA nA
  db : L2.FD H dB nB
  atlo : H lo = some (.lst [.ref dA, .ref dB])
  athd : H hd = some (.lst [.ref gA, .ref gB])
theorem Bx.same {H H' : Hp} {lo lA lB hd gA gB dA dB : Addr} {fA fB : List (Int × Int)} {nA nB : List Int} (x : Bx K H lo lA lB hd gA gB dA dB fA fB nA nB) (e : Same H H') : Bx K H' lo lA lB hd gA gB dA dB fA fB nA nB :=
  ⟨x.A.same e, x.B.same e, x.GA.same e, x.GB.same e, x.da.same e, x.db.same e, e _ _ x.atlo, e _ _ x.athd⟩
def spLaw (K : PySem.W.Frag) : Sp := fun vs H Q _ => ∃ (a : Addr) (ns : List Int), vs = [.ref a] ∧ SqL K H a (ns.map V.int) ∧ ns.length ≤ 63 ∧ ∀ H', Q (.bl true) H'
abbrev nL : List Str := ["_law_script", "_law_some", "_law_one", "_law_other", "_law_by", "_law_handed", "_law_day", "_law_due", "_law_again", "_law_found", "_law_here", "_law_told_here"]
theorem scLaw : FnScope nL ["_law_script"] (defScope sLaw) := ⟨rfl, rfl, rfl, by decide +kernel, rfl, by decide +kernel, by decide +kernel⟩
theorem ndL : (["_law_day", "_law_some"] : List Str).Nodup := by decide +kernel
theorem ok_law {f fB fO fL fZ fH fT fS fY fD fM : Addr} {fd fdB fdO fdL fdZ fdH fdT fdS fdY fdD fdM : FuncData} (F : Fun K "law" "law" sLaw f fd) (T : Txt mg)
    (FB : Fun K "both" "both" sBoth fB fdB) (bB : Binds K fdB ["one", "other"] []) (mB : mg "both" = some (.ref fB))
    (FO : Fun K "outside" "outside" sOutside fO fdO) (bO : Binds K fdO ["one", "first", "last"] []) (mO : mg "outside" = some (.ref fO))
    (FL : Fun K "less" "less" sLess fL fdL) (bL : Binds K fdL ["one", "other"] []) (mL : mg "less" = some (.ref fL))
    (FZ : Fun K "size" "size" sSize fZ fdZ) (bZ : Binds K fdZ ["one"] []) (mZ : mg "size" = some (.ref fZ))
    (FH : Fun K "holds" "holds" sHolds fH fdH) (bH : Binds K fdH ["one", "day"] []) (mH : mg "holds" = some (.ref fH))
    (FT : Fun K "_law_stretches" "_law_stretches" sStretches fT fdT) (bT : Binds K fdT ["_law_cells"] []) (mT : mg "_law_stretches" = some (.ref fT))
    (FS : Fun K "_law_spread" "_law_spread" sSpread fS fdS) (bS : Binds K fdS ["_law_days_here"] []) (mS : mg "_law_spread" = some (.ref fS))
    (FY : Fun K "_law_days" "_law_days" sDays fY fdY) (bY : Binds K fdY ["_law_some"] []) (mY : mg "_law_days" = some (.ref fY))
    (FD : Fun K "_law_told" "_law_told" sTold fD fdD) (bD : Binds K fdD ["_law_found", "_law_due"] []) (mD : mg "_law_told" = some (.ref fD))
    (FM : Fun K "_law_moved" "_law_moved" sMoved fM fdM) (bM : Binds K fdM ["_law_some", "_law_by"] []) (mM : mg "_law_moved" = some (.ref fM)) :
    FnOk P w K mg base CX0 3 f fd ["_law_script"] (spLaw K) := by
  have GB : FnOk P w K mg base CX0 1 fB fdB ["one", "other"] (spBoth K) := ok_both FB T
  have GL : FnOk P w K mg base CX0 2 fL fdL ["one", "other"] (spLess K) := ok_less FL T FB bB mB FO bO mO
  have GZ : FnOk P w K mg base CX0 1 fZ fdZ ["one"] (spSize K) := ok_size FZ T
  have GH : FnOk P w K mg base CX0 1 fH fdH ["one", "day"] (spHolds K) := ok_holds FH T
  have GT : FnOk P w K mg base CX0 1 fT fdT ["_law_cells"] (spStretches K) := ok_stretches FT T
  have GS : FnOk P w K mg base CX0 1 fS fdS ["_law_days_here"] (spSpread K) := ok_spread FS T
  have GY : FnOk P w K mg base CX0 1 fY fdY ["_law_some"] (spDays K) := ok_days FY T
  have GD : FnOk P w K mg base CX0 1 fD fdD ["_law_found", "_law_due"] (spTold K) := ok_told FD T
  have GM : FnOk P w K mg base CX0 1 fM fdM ["_law_some", "_law_by"] (spMoved K) := ok_moved FM T
  refine F.ok scLaw (fun vs H Q E h => ?_) (fun cdv A outer s H vs Q E hr h => ?_)
  · obtain ⟨a, ns, rfl, _⟩ := h
    rfl
  · obtain ⟨a, ns, rfl, hS, hlen, k⟩ := h
    have hr1 : Room 1 _ := hr.mono (by decide)
    have hu : _ + 64 < cLine := hr.units
    have hu1 : _ + 1 < cLine := Nat.lt_of_le_of_lt (Nat.add_le_add_left (by decide) _) hu
    refine ⟨_, pss_cons (ps_set (i := 1) scLaw.nd rfl (Or.inr rfl) (pe_lst (pa_cons (pe_call GY hr1 (by rfl) mY FY.kp bY .nil pass0 (pa_cons (pe_call GT hr1 (by rfl) mT FT.kp bT .nil pass0 (pa_cons (pe_sliceS (pv 0) po_none (po_some pe_int) pe_int) pa_nil)) pa_nil)) (pa_cons (pe_call GY hr1 (by rfl) mY FY.kp bY .nil pass0 (pa_cons (pe_call GT hr1 (by rfl) mT FT.kp bT .nil pass0 (pa_cons (pe_sliceS (pv 0) (po_some pe_int) (po_some pe_int) pe_int) pa_nil)) pa_nil)) pa_nil))))
      (pss_cons (ps_set (i := 2) scLaw.nd rfl (Or.inl rfl) (pe_call GS hr1 (by rfl) mS FS.kp bS .nil pass0 (pa_cons (pe_ix ix_list (pv 1) pe_int (fun _ _ => rfl)) pa_nil)))
      (pss_cons (ps_set (i := 3) scLaw.nd rfl (Or.inl rfl) (pe_call GS hr1 (by rfl) mS FS.kp bS .nil pass0 (pa_cons (pe_ix ix_list (pv 1) pe_int (fun _ _ => rfl)) pa_nil)))
      (pss_cons (ps_set (i := 4) scLaw.nd rfl (Or.inl rfl) (pe_op op_mul (pe_callB call_len_seq (by rfl) T.len PySem.boot_len (pa_cons (pv 0) pa_nil)) pe_int))
      (pss_cons (ps_if (pt_cmpR (op_neD hu) (pv 0) (pe_lst pa_nil) (nomark _)) (pss_one (ps_set (i := 4) scLaw.nd rfl (Or.inl rfl) (pe_op op_sub (pe_op op_mod (pe_ix ix_list (pv 0) pe_int (fun _ _ => rfl)) (pe_op op_mul pe_int (pe_op op_pow pe_int pe_int))) (pe_op op_pow pe_int pe_int)))) pss_nil)
      (pss_cons (ps_set (i := 5) scLaw.nd rfl (Or.inl rfl) (pe_lst (pa_cons (pe_callTy call_list_of (by rfl) T.lst PyProof.Rows.boot_list (pa_cons (pv 2) pa_nil)) (pa_cons (pe_callTy call_list_of (by rfl) T.lst PyProof.Rows.boot_list (pa_cons (pv 3) pa_nil)) pa_nil))))
      (pss_cons (ps_set (i := 7) scLaw.nd rfl (Or.inl rfl) (pe_lst (pa_cons (pe_call GS hr1 (by rfl) mS FS.kp bS .nil pass0 (pa_cons (pe_comp ["_law_day"] [1] rfl (blkS (defScope sLaw) nL (by decide +kernel)) (pi_dict (pe_ix ix_list (pv 1) pe_int (fun _ _ => rfl))) (fun _ _ _ _ _ => pg_name (i := 0) ndL rfl (Or.inl rfl)) (fun _ _ _ _ _ => pif_one (pt_cmp (pc_din hu1 (pv 0) (pe_ix (ix_listK K rfl) (pv 1) pe_int (fun _ _ => rfl))))) (fun _ _ _ _ _ => pv 0)) pa_nil)) pa_nil)))
      (pss_cons (ps_expr (pe_bm PySem.F.plainAttrs_list PySem.F.slot_list_append PySem.F.type_list_append mt_append (pv 7) (pa_cons (pe_call GS hr1 (by rfl) mS FS.kp bS .nil pass0 (pa_cons (pe_comp ["_law_day"] [1] rfl (blkS (defScope sLaw) nL (by decide +kernel)) (pi_dict (pe_ix ix_list (pv 1) pe_int (fun _ _ => rfl))) (fun _ _ _ _ _ => pg_name (i := 0) ndL rfl (Or.inl rfl)) (fun _ _ _ _ _ => pif_one (pt_cmp (pc_dnotin hu1 (pv 0) (pe_ix (ix_listK K rfl) (pv 1) pe_int (fun _ _ => rfl))))) (fun _ _ _ _ _ => pv 0)) pa_nil)) pa_nil)))
      (pss_cons (ps_for PassesOwn.never rfl (pi_range1 (by rfl) T.rng (pa_cons pe_int pa_nil)) (pg_name (i := 8) scLaw.nd rfl (Or.inl rfl)) (pss_cons (ps_set (i := 9) scLaw.nd rfl (Or.inl rfl) (pe_lst (pa_cons (pe_call GB hr1 (by rfl) mB FB.kp bB .nil pass0 (pa_cons (pe_ix ix_list (pv 5) pe_int (fun _ _ => rfl)) (pa_cons (pe_ix ix_list (pv 5) pe_int (fun _ _ => rfl)) pa_nil))) (pa_cons (pe_call GL hr (by rfl) mL FL.kp bL .nil pass0 (pa_cons (pe_ix ix_list (pv 5) pe_int (fun _ _ => rfl)) (pa_cons (pe_ix ix_list (pv 5) pe_int (fun _ _ => rfl)) pa_nil))) pa_nil))))
      (pss_cons (ps_if (PW.pt (pw_or (pt_not (pt_val (pe_call GD hr1 (by rfl) mD FD.kp bD .nil pass0 (pa_cons (pe_ix ix_list (pv 9) pe_int (fun _ _ => rfl)) (pa_cons (pe_ix ix_list (pv 7) pe_int (fun _ _ => rfl)) pa_nil))))) (pw_or (pt_not (pt_val (pe_call GD hr1 (by rfl) mD FD.kp bD .nil pass0 (pa_cons (pe_ix ix_list (pv 9) pe_int (fun _ _ => rfl)) (pa_cons (pe_ix ix_list (pv 7) pe_int (fun _ _ => rfl)) pa_nil))))) (pw_or1 (pt_cmpR (op_neD hu) (pv 5) (pe_lst (pa_cons (pv 2) (pa_cons (pv 3) pa_nil))) (nomark _)))))) (pss_one (ps_ret pe_bl)) pss_nil)
      (pss_cons (ps_expr (pe_bm PySem.F.plainAttrs_list PySem.F.slot_list_append PySem.F.type_list_append mt_append (pe_ix ix_list (pv 9) pe_int (fun _ _ => rfl)) (pa_cons (pe_tup (pa_cons pe_int (pa_cons pe_int pa_nil))) pa_nil)))
      (pss_one (ps_expr (pe_bm PySem.F.plainAttrs_list PySem.F.slot_list_append PySem.F.type_list_append mt_append (pe_ix ix_list (pv 9) pe_int (fun _ _ => rfl)) (pa_cons (pe_tup (pa_cons pe_int (pa_cons pe_int pa_nil))) pa_nil))))))))
      (pss_cons (ps_if (PW.pt (pw_or (pt_not (pt_val (pe_callB call_isi (by rfl) T.isi PyProof.Rows.boot_isinstance (pa_cons (pe_call GZ hr1 (by rfl) mZ FZ.kp bZ .nil pass0 (pa_cons (pv 2) pa_nil)) (pa_cons (pe_bltn (v := .ty "int") (by rfl) T.int PyProof.Rows.boot_int rfl) pa_nil))))) (pw_or (pt_cmpR op_ne (pe_call GZ hr1 (by rfl) mZ FZ.kp bZ .nil pass0 (pa_cons (pv 2) pa_nil)) (pe_callB call_lenF (by rfl) T.len PySem.boot_len (pa_cons (pe_ix ix_list (pv 1) pe_int (fun _ _ => rfl)) pa_nil)) (nomark _)) (pw_or1 (pt_cmpR op_ne (pe_call GZ hr1 (by rfl) mZ FZ.kp bZ .nil pass0 (pa_cons (pe_call GM hr1 (by rfl) mM FM.kp bM .nil pass0 (pa_cons (pv 2) (pa_cons (pv 4) pa_nil))) pa_nil)) (pe_callB call_lenF (by rfl) T.len PySem.boot_len (pa_cons (pe_ix ix_list (pv 1) pe_int (fun _ _ => rfl)) pa_nil)) (nomark _)))))) (pss_one (ps_ret pe_bl)) pss_nil)
      (pss_cons (ps_for PassesOwn.never rfl (pi_range2 (by rfl) T.rng (pa_cons (pe_un un_neg pe_int) (pa_cons pe_int pa_nil))) (pg_name (i := 6) scLaw.nd rfl (Or.inl rfl)) (pss_cons (ps_set (i := 10) scLaw.nd rfl (Or.inl rfl) (pe_cmp (pc_din hu1 (pv 6) (pe_ix ix_list (pv 1) pe_int (fun _ _ => rfl)))))
      (pss_cons (ps_set (i := 11) scLaw.nd rfl (Or.inl rfl) (pe_lst (pa_cons (pe_call GH hr1 (by rfl) mH FH.kp bH .nil pass0 (pa_cons (pv 2) (pa_cons (pv 6) pa_nil))) (pa_cons (pe_call GH hr1 (by rfl) mH FH.kp bH .nil pass0 (pa_cons (pe_call GM hr1 (by rfl) mM FM.kp bM .nil pass0 (pa_cons (pv 2) (pa_cons (pv 4) pa_nil))) (pa_cons (pe_op op_add (pv 6) (pv 4)) pa_nil))) pa_nil))))
      (pss_one (ps_if (PW.pt (pw_or (pt_cmpR (op_neD hu) (pv 11) (pe_lst (pa_cons (pv 10) (pa_cons (pv 10) pa_nil))) (nomark _)) (pw_or (pt_not (pt_val (pe_callB call_isi (by rfl) T.isi PyProof.Rows.boot_isinstance (pa_cons (pe_ix ix_list (pv 11) pe_int (fun _ _ => rfl)) (pa_cons (pe_bltn (v := .ty "bool") (by rfl) T.bool PyProof.Rows.boot_bool rfl) pa_nil))))) (pw_or1 (pt_not (pt_val (pe_callB call_isi (by rfl) T.isi PyProof.Rows.boot_isinstance (pa_cons (pe_ix ix_list (pv 11) pe_int (fun _ _ => rfl)) (pa_cons (pe_bltn (v := .ty "bool") (by rfl) T.bool PyProof.Rows.boot_bool rfl) pa_nil))))))))) (pss_one (ps_ret pe_bl)) pss_nil)))))
      (pss_cons (ps_if (pt_cmpR (op_neD hu) (pe_call GB hr1 (by rfl) mB FB.kp bB .nil pass0 (pa_cons (pe_call GM hr1 (by rfl) mM FM.kp bM .nil pass0 (pa_cons (pv 2) (pa_cons (pv 4) pa_nil))) (pa_cons (pe_call GM hr1 (by rfl) mM FM.kp bM .nil pass0 (pa_cons (pv 3) (pa_cons (pv 4) pa_nil))) pa_nil))) (pe_call GM hr1 (by rfl) mM FM.kp bM .nil pass0 (pa_cons (pe_ix ix_list (pv 7) pe_int (fun _ _ => rfl)) (pa_cons (pv 4) pa_nil))) (nomark _)) (pss_one (ps_ret pe_bl)) pss_nil)
      (pss_one (ps_ret (pe_cmpR (op_eqD hu) (pe_call GL hr (by rfl) mL FL.kp bL .nil pass0 (pa_cons (pe_call GM hr1 (by rfl) mM FM.kp bM .nil pass0 (pa_cons (pv 2) (pa_cons (pv 4) pa_nil))) (pa_cons (pe_call GM hr1 (by rfl) mM FM.kp bM .nil pass0 (pa_cons (pv 3) (pa_cons (pv 4) pa_nil))) pa_nil))) (pe_call GM hr1 (by rfl) mM FM.kp bM .nil pass0 (pa_cons (pe_ix ix_list (pv 7) pe_int (fun _ _ => rfl)) (pa_cons (pv 4) pa_nil))) (nomark _))))))))))))))), ?_⟩
    have z0 : (0 : Nat) ≤ sizeLine := Nat.zero_le _
    have one1 : (1 : Nat) ≤ sizeLine := Nat.le_of_lt (small1000 (by decide))
    have two : (2 : Nat) ≤ sizeLine := Nat.le_of_lt (small1000 (by decide))
    obtain ⟨n1, en1⟩ := ints_of (vs := pickV (ns.map V.int) none (some 60) (some 2)) fun v hv => by
      obtain ⟨z, _, rfl⟩ := List.mem_map.mp (pick_mem hv)
      exact ⟨z, rfl⟩
    obtain ⟨n2, en2⟩ := ints_of (vs := pickV (ns.map V.int) (some 1) (some 60) (some 2)) fun v hv => by
      obtain ⟨z, _, rfl⟩ := List.mem_map.mp (pick_mem hv)
      exact ⟨z, rfl⟩
    have ln1 : n1.length ≤ 63 := by
      have := pick_len (ns.map V.int) none (some 60) (some 2)
      rw [en1] at this
      simp at this
      omega
    have ln2 : n2.length ≤ 63 := by
      have := pick_len (ns.map V.int) (some 1) (some 60) (some 2)
      rw [en2] at this
      simp at this
      omega
    have t2 : (2 : Int) ≠ 0 := by decide
    have small : ∀ {p : List (Int × Int)} {nn : List Int} {f : List (Int × Int)}, (∀ q ∈ p, okS q) → (∀ x, x ∈ nn ↔ Day p x) → Spr f → (∀ d, Day f d ↔ d ∈ nn) → sz f = nn.length → nn.length ≤ 129 := fun hok hm S hd hsz => by
      have h1 := sz_le (lo := -60) (n := 129) S fun d h => by
        obtain ⟨q, hq, g1, g2⟩ := (hm d).mp ((hd d).mp h)
        obtain ⟨o1, o2, o3, o4⟩ := hok q hq
        omega
      omega
    -- some
    refine ⟨_, rfl, 60, rfl, a, _, 2, pickV (ns.map V.int) none (some 60) (some 2), rfl, hS, rfl, t2, pick_len _ _ _ _, pick_vals, fun c hc => ?_⟩
    have s1 := Same.upd (o := HO.lst (pickV (ns.map V.int) none (some 60) (some 2))) hc
    refine ⟨c, n1, rfl, by rw [← en1]; exact SqL.of upd_same, ln1, fun l0 y0 p0 H1 _ e0 sm0 hp0 ok0 len0 => ?_⟩
    refine ⟨l0, p0, rfl, ⟨y0, SqL.of e0, hp0⟩, by omega, ok0, fun dA nA H2 _ fdA smA ndA memA lenA => ?_⟩
    have hS2 : SqL K H2 a (ns.map V.int) := (s1.trans (sm0.trans smA)).seq hS
    refine ⟨_, rfl, 1, rfl, 60, rfl, a, _, 2, pickV (ns.map V.int) (some 1) (some 60) (some 2), rfl, hS2, rfl, t2, pick_len _ _ _ _, pick_vals, fun c hc => ?_⟩
    have s2 := Same.upd (o := HO.lst (pickV (ns.map V.int) (some 1) (some 60) (some 2))) hc
    refine ⟨c, n2, rfl, by rw [← en2]; exact SqL.of upd_same, ln2, fun l1 y1 p1 H3 _ e1 sm1 hp1 ok1 len1 => ?_⟩
    refine ⟨l1, p1, rfl, ⟨y1, SqL.of e1, hp1⟩, by omega, ok1, fun dB nB H4 _ fdB smB ndB memB lenB => ⟨two, fun lo hlo => ?_⟩⟩
    have s3 := Same.upd (o := HO.lst [V.ref dA, V.ref dB]) hlo
    have fdA := fdA.same ((s2.trans (sm1.trans smB)).trans s3)
    have fdB := fdB.same s3
    have hS := (((s2.trans (sm1.trans smB)).trans s3)).seq hS2
    have hlo' : (upd H4 lo (HO.lst [V.ref dA, V.ref dB])) lo = some (.lst [.ref dA, .ref dB]) := upd_same
    generalize upd H4 lo (HO.lst [V.ref dA, V.ref dB]) = H5 at fdA fdB hS hlo' ⊢
    -- one
    refine ⟨_, rfl, lo, _, _, _, rfl, rfl, SqL.of hlo', rfl, dA, nA, rfl, .inr fdA, ndA, by omega, fun lA yA fA H6 _ eA smA' hpA SA dyA szA lenA' => ?_⟩
    have nA129 : nA.length ≤ 129 := small ok0 memA SA dyA szA
    have hA : LL K H6 lA fA := ⟨yA, eA, hpA⟩
    have fdA := fdA.same smA'
    have fdB := fdB.same smA'
    have hlo' := smA' _ _ hlo'
    have hS := smA'.seq hS
    -- other
    refine ⟨_, rfl, lo, _, _, _, rfl, rfl, SqL.of hlo', atI_nat (j := 1) rfl, dB, nB, rfl, .inr fdB, ndB, by omega, fun lB yB fB H7 _ eB smB' hpB SB dyB szB lenB' => ?_⟩
    have nB129 : nB.length ≤ 129 := small ok1 memB SB dyB szB
    have hB : LL K H7 lB fB := ⟨yB, eB, hpB⟩
    have hA := hA.same smB'
    have fdA := fdA.same smB'
    have fdB := fdB.same smB'
    have hlo' := smB' _ _ hlo'
    have hS := smB'.seq hS
    -- by
    have cm : CMul ((ns.map V.int).length : Int) 48271 := .inr (by decide)
    refine ⟨_, rfl, a, _, rfl, .inl hS, _, _, rfl, rfl, cm, ?_⟩
    refine ⟨_, rfl, z0, fun n3 hn3 => ?_⟩
    have s4 := Same.upd (o := HO.lst []) hn3
    have hA := hA.same s4
    have hB := hB.same s4
    have fdA := fdA.same s4
    have fdB := fdB.same s4
    have hlo' := s4 _ _ hlo'
    have hS := s4.seq hS
    refine ⟨ids ns, pds [], ids_dv hS, LL.nil.dv, ids_shaped _, pds_shaped _, _, rfl, ?_⟩
    rw [ids_eqv]
    generalize upd H7 n3 (HO.lst []) = H8 at hA hB fdA fdB hlo' hS ⊢
    by_cases hne : ns = []
    case' pos =>
      rw [decide_eq_true hne]
      obtain ⟨bv, ebv⟩ : ∃ bv : Int, bv = ((ns.map V.int).length : Int) * 48271 := ⟨_, rfl⟩
    case' neg =>
      rw [decide_eq_false hne]
      obtain ⟨z, zs, hz⟩ : ∃ z zs, ns = z :: zs := by
        cases ns with
        | nil => exact absurd rfl hne
        | cons z zs => exact ⟨z, zs, rfl⟩
      have hat : atI (ns.map V.int) 0 = some (V.int z) := by rw [hz]; exact atI_nat (j := 0) rfl
      have cp : CPow 10 11 := ⟨by decide, by decide, by decide⟩
      have cm2 : CMul 2 (10 ^ (11 : Int).toNat) := .inl ⟨by decide, by decide⟩
      have pp : (0 : Int) < 2 * 10 ^ (11 : Int).toNat := by decide
      refine ⟨_, rfl, a, _, _, _, rfl, rfl, hS, hat, _, _, rfl, rfl, cp, _, _, rfl, rfl, cm2, _, _, rfl, rfl, pp, _, _, rfl, rfl, cp, _, _, rfl, rfl, ?_⟩
      obtain ⟨bv, ebv⟩ : ∃ bv : Int, bv = z % (2 * 10 ^ (11 : Int).toNat) - 10 ^ (11 : Int).toNat := ⟨_, rfl⟩
    all_goals
      -- handed
      obtain ⟨yA', qA, rA⟩ := id hA
      obtain ⟨yB', qB, rB⟩ := id hB
      refine ⟨_, rfl, lA, yA', rfl, .inl (SqL.of qA), fun gA hgA => ?_⟩
      have s5 := Same.upd (o := HO.lst yA') hgA
      refine ⟨_, rfl, lB, yB', rfl, .inl (SqL.of (s5 _ _ qB)), fun gB hgB => ⟨two, fun hd hhd => ?_⟩⟩
      have s6 := Same.upd (o := HO.lst yB') hgB
      have s7 := Same.upd (o := HO.lst [V.ref gA, V.ref gB]) hhd
      have hGA0 : LL K (upd H8 gA (HO.lst yA')) gA fA := ⟨yA', upd_same, P2s.same s5 rA⟩
      have hGB0 : LL K (upd (upd H8 gA (HO.lst yA')) gB (HO.lst yB')) gB fB := ⟨yB', upd_same, P2s.same (s5.trans s6) rB⟩
      have sm := (s5.trans s6).trans s7
      have X9 : Bx K (upd (upd (upd H8 gA (HO.lst yA')) gB (HO.lst yB')) hd (HO.lst [V.ref gA, V.ref gB])) lo lA lB hd gA gB dA dB fA fB nA nB :=
        ⟨hA.same sm, hB.same sm, hGA0.same (s6.trans s7), hGB0.same s7, fdA.same sm, fdB.same sm, sm _ _ hlo', upd_same⟩
      generalize upd (upd (upd H8 gA (HO.lst yA')) gB (HO.lst yB')) hd (HO.lst [V.ref gA, V.ref gB]) = H9 at X9 ⊢
      clear sm s5 s6 s7 hGA0 hGB0 hA hB fdA fdB hlo' qA qB rA rB hgA hgB hhd hS
      -- due
      obtain ⟨oA, qdA⟩ := id X9.da
      refine ⟨_, rfl, lo, _, _, _, rfl, rfl, SqL.of X9.atlo, rfl, dA, oA, nA, rfl, qdA, comp_dict (d := dA) (o := oA) (ns := nA) (fun i ys σ H' => ∃ v0, σ = [v0, some (V.ref lo)] ∧ H' = H9 ∧ ys = ((nA.take i).filter (fun n => decide (n ∈ nB))).map V.int)
        ⟨none, rfl, rfl, rfl⟩ (Nat.le_of_lt (small1000 (by omega))) (fun i ys σ H' hi h => ?_) (fun i n ys σ H' hi h => ?_) (fun ys σ H' h => ?_)⟩
      · obtain ⟨v0, rfl, rfl, rfl⟩ := h
        refine ⟨qdA, ?_⟩
        have := List.length_filter_le (fun n => decide (n ∈ nB)) (nA.take i)
        rw [List.length_take] at this
        rw [List.length_map]
        omega
      · obtain ⟨v0, rfl, rfl, rfl⟩ := h
        have step : nA.take (i + 1) = nA.take i ++ [n] := by
          obtain ⟨hil, e⟩ := List.getElem?_eq_some_iff.mp hi
          rw [List.take_succ_eq_append_getElem hil, e]
        refine ⟨_, rfl, _, rfl, lo, _, _, _, rfl, rfl, SqL.of X9.atlo, atI_nat (j := 1) rfl, dB, _, rfl, L2.FD.get X9.db n, _, rfl, ?_⟩
        rw [valV_dk]
        by_cases hm : n ∈ nB
        · rw [decide_eq_true hm]
          refine ⟨_, rfl, _, rfl, rfl, ?_⟩
          rw [step, List.filter_append, List.map_append]
          simp [hm]
        · rw [decide_eq_false hm]
          refine ⟨_, rfl, rfl, ?_⟩
          rw [step, List.filter_append, List.map_append]
          simp [hm]
      obtain ⟨v0, rfl, rfl, rfl⟩ := h
      intro l hl
      rw [List.take_length]
      have s8 := Same.upd (o := HO.lst ((nA.filter (fun n => decide (n ∈ nB))).map V.int)) hl
      have flS := List.length_filter_le (fun n => decide (n ∈ nB)) nA
      refine ⟨l, nA.filter (fun n => decide (n ∈ nB)), rfl, .inl (SqL.of upd_same), ndA.filter _, by omega, fun lD yD fD H10 hlD eD smD hpD SD dyD _ lenD => ⟨one1, fun ld hld => ?_⟩⟩
      have X10 := X9.same (s8.trans smD)
      have hD : LL K H10 lD fD := ⟨yD, eD, hpD⟩
      have s9 := Same.upd (o := HO.lst [V.ref lD]) hld
      have X11 := X10.same s9
      have hld' : (upd H10 ld (HO.lst [V.ref lD])) ld = some (.lst [V.ref lD]) := upd_same
      generalize hH11 : upd H10 ld (HO.lst [V.ref lD]) = H11 at s9 X11 hld' ⊢
      -- due's second
      obtain ⟨oA2, qdA2⟩ := id X11.da
      refine ⟨_, rfl, .inl ⟨rfl, _, SqL.of hld'⟩, _, rfl, lo, _, _, _, rfl, rfl, SqL.of X11.atlo, rfl, dA, oA2, nA, rfl, qdA2, comp_dict (d := dA) (o := oA2) (ns := nA) (fun i ys σ H' => ∃ v0, σ = [v0, some (V.ref lo)] ∧ H' = H11 ∧ ys = ((nA.take i).filter (fun n => decide (n ∉ nB))).map V.int)
        ⟨none, rfl, rfl, rfl⟩ (Nat.le_of_lt (small1000 (by omega))) (fun i ys σ H' hi h => ?_) (fun i n ys σ H' hi h => ?_) (fun ys σ H' h => ?_)⟩
      · obtain ⟨v0, rfl, e, rfl⟩ := h
        rw [e]
        refine ⟨qdA2, ?_⟩
        have := List.length_filter_le (fun n => decide (n ∉ nB)) (nA.take i)
        rw [List.length_take] at this
        rw [List.length_map]
        omega
      · obtain ⟨v0, rfl, e, rfl⟩ := h
        rw [e]
        have step : nA.take (i + 1) = nA.take i ++ [n] := by
          obtain ⟨hil, e⟩ := List.getElem?_eq_some_iff.mp hi
          rw [List.take_succ_eq_append_getElem hil, e]
        refine ⟨_, rfl, _, rfl, lo, _, _, _, rfl, rfl, SqL.of X11.atlo, atI_nat (j := 1) rfl, dB, _, rfl, L2.FD.get X11.db n, _, rfl, ?_⟩
        rw [valV_dk]
        by_cases hm : n ∈ nB
        · rw [decide_eq_true hm]
          refine ⟨_, rfl, rfl, ?_⟩
          rw [step, List.filter_append, List.map_append]
          simp [hm]
        · rw [decide_eq_false hm]
          refine ⟨_, rfl, _, rfl, rfl, ?_⟩
          rw [step, List.filter_append, List.map_append]
          simp [hm]
      obtain ⟨v0', rfl, e11, rfl⟩ := h
      rw [e11]
      clear e11
      intro l2 hl2
      rw [List.take_length]
      have s10 := Same.upd (o := HO.lst ((nA.filter (fun n => decide (n ∉ nB))).map V.int)) hl2
      have flT := List.length_filter_le (fun n => decide (n ∉ nB)) nA
      refine ⟨l2, nA.filter (fun n => decide (n ∉ nB)), rfl, .inl (SqL.of upd_same), ndA.filter _, by omega, fun lE yE fE H12 hlE eE smE hpE SE dyE _ lenE => ?_⟩
      have hld12 : H12 ld = some (.lst [V.ref lD]) := (s10.trans smE) _ _ hld'
      refine ⟨ld, _, _, rfl, rfl, hld12, small1000 (by show 1 ≤ 1000; decide), ?_⟩
      have nED : lE ≠ ld := Ne.symm (ne_of_none (s10 _ _ hld') hlE)
      have sm : Same H10 (upd H12 ld (HO.lst ([V.ref lD] ++ [V.ref lE]))) := fun c u e => by
        rw [upd_ne (ne_of_none e hld)]
        exact (s9.trans (s10.trans smE)) c u e
      have X13 := X10.same sm
      have hD := hD.same sm
      have hE : LL K (upd H12 ld (HO.lst ([V.ref lD] ++ [V.ref lE]))) lE fE := ⟨yE, by rw [upd_ne nED]; exact eE, P2s.tk (TK.upd hld12) hpE⟩
      have hldd : (upd H12 ld (HO.lst ([V.ref lD] ++ [V.ref lE]))) ld = some (.lst [V.ref lD, V.ref lE]) := upd_same
      generalize upd H12 ld (HO.lst ([V.ref lD] ++ [V.ref lE])) = H13 at X13 hD hE hldd ⊢
      clear sm s8 s9 s10 smD smE hlD hlE eD eE hpD hpE hld hld' hld12 X9 X10 X11 qdA qdA2 hH11 hl hl2 nED
      have lfA : fA.length ≤ 129 := by omega
      have lfB : fB.length ≤ 129 := by omega
      have lfD : fD.length ≤ 129 := by omega
      have lfE : fE.length ≤ 129 := by omega
      have dayD : ∀ d, Day fD d ↔ Day fA d ∧ Day fB d := fun d => by
        rw [dyD d, dyA d, dyB d, List.mem_filter]
        simp
      have dayE : ∀ d, Day fE d ↔ Day fA d ∧ ¬ Day fB d := fun d => by
        rw [dyE d, dyA d, dyB d, List.mem_filter]
        simp
      -- twice
      refine ⟨2, rfl, by decide, by decide, for_range (n := (2 : Int).toNat) (fun _ σ H' => ∃ v8 v9, σ = [some (V.ref a), some (V.ref lo), some (V.ref lA), some (V.ref lB), some (V.int bv), some (V.ref hd), none, some (V.ref ld), v8, v9, none, none] ∧ Same H13 H')
        ⟨none, none, by subst ebv; rfl, Same.refl _⟩ (fun i σ H' hi h => ?_) (fun σ H' h => ?_)⟩
      · obtain ⟨v8, v9, rfl, sm⟩ := h
        have X := X13.same sm
        refine ⟨_, rfl, hd, _, _, _, rfl, rfl, SqL.of X.athd, rfl, _, rfl, hd, _, _, _, rfl, rfl, SqL.of X.athd, atI_nat (j := 1) rfl, gA, gB, fA, fB, rfl, X.GA.pl, X.GB.pl, by omega, by omega, SA, SB, fun lX yX fX H15 hlX eX smX hpX SX dX lenX => ?_⟩
        have X := X.same smX
        refine ⟨_, rfl, hd, _, _, _, rfl, rfl, SqL.of X.athd, rfl, _, rfl, hd, _, _, _, rfl, rfl, SqL.of X.athd, atI_nat (j := 1) rfl, gA, gB, fA, fB, rfl, X.GA.pl, X.GB.pl, by omega, by omega, SA, SB, fun lY yY fY H16 hlY eY smY hpY SY dY lenY => ⟨two, fun lf hlf => ?_⟩⟩
        have X := X.same smY
        have s17 := Same.upd (o := HO.lst [V.ref lX, V.ref lY]) hlf
        have eq1 : fX = fD := SX.same SD fun d => by rw [dX d, dayD d]
        have eq2 : fY = fE := SY.same SE fun d => by rw [dY d, dayE d]
        subst eq1
        subst eq2
        have nXY : lX ≠ lY := ne_of_none eX hlY
        have nXf : lX ≠ lf := ne_of_none (smY _ _ eX) hlf
        have nYf : lY ≠ lf := ne_of_none eY hlf
        have hX : LL K H15 lX fX := ⟨yX, eX, hpX⟩
        have hX := hX.same (smY.trans s17)
        have hY0 : LL K H16 lY fY := ⟨yY, eY, hpY⟩
        have hY := hY0.same s17
        have X := X.same s17
        have hD' := hD.same (sm.trans (smX.trans (smY.trans s17)))
        have hE' := hE.same (sm.trans (smX.trans (smY.trans s17)))
        have hldd' := (sm.trans (smX.trans (smY.trans s17))) _ _ hldd
        have hlf' : (upd H16 lf (HO.lst [V.ref lX, V.ref lY])) lf = some (.lst [V.ref lX, V.ref lY]) := upd_same
        -- told
        refine ⟨_, rfl, lf, _, _, _, rfl, rfl, SqL.of hlf', rfl, _, rfl, ld, _, _, _, rfl, rfl, SqL.of hldd', rfl, lX, lD, fX, rfl, hX, hD', _, rfl, ?_⟩
        refine ⟨_, rfl, lf, _, _, _, rfl, rfl, SqL.of hlf', atI_nat (j := 1) rfl, _, rfl, ld, _, _, _, rfl, rfl, SqL.of hldd', atI_nat (j := 1) rfl, lY, lE, fY, rfl, hY, hE', _, rfl, ?_⟩
        refine ⟨_, rfl, _, rfl, _, rfl, two, fun n hn => ?_⟩
        have s18 := Same.upd (o := HO.lst [V.ref lA, V.ref lB]) hn
        have X' := X.same s18
        refine ⟨two2 fA fB, two2 fA fB, two2_dv X'.athd X'.GA X'.GB, two2_dv upd_same X'.A X'.B, two2_shaped _ _, two2_shaped _ _, _, rfl, ?_⟩
        rw [two2_eqv]
        -- put behind
        obtain ⟨zX, eX2, _⟩ := hX.same s18
        obtain ⟨zY, eY2, _⟩ := hY.same s18
        have hlf2 := s18 _ _ hlf'
        have hzX : zX.length ≤ 900 := by
          have : (upd (upd H16 lf (HO.lst [V.ref lX, V.ref lY])) n (HO.lst [V.ref lA, V.ref lB])) lX = some (.lst yX) := s18 _ _ (s17 _ _ (smY _ _ eX))
          rw [this] at eX2
          cases eX2
          rw [Paired.length hpX]
          omega
        have hzY : zY.length ≤ 900 := by
          have : (upd (upd H16 lf (HO.lst [V.ref lX, V.ref lY])) n (HO.lst [V.ref lA, V.ref lB])) lY = some (.lst yY) := s18 _ _ (s17 _ _ eY)
          rw [this] at eY2
          cases eY2
          rw [Paired.length hpY]
          omega
        have sm18 : Same H' (upd (upd H16 lf (HO.lst [V.ref lX, V.ref lY])) n (HO.lst [V.ref lA, V.ref lB])) := (smX.trans (smY.trans s17)).trans s18
        generalize upd (upd H16 lf (HO.lst [V.ref lX, V.ref lY])) n (HO.lst [V.ref lA, V.ref lB]) = H18 at eX2 eY2 hlf2 sm18 ⊢
        refine ⟨_, rfl, lf, _, _, _, rfl, rfl, SqL.of hlf2, rfl, .inl ⟨rfl, _, SqL.of eX2⟩, two, fun t ht => ⟨lX, _, _, rfl, rfl, Same.upd ht _ _ eX2, small1000 (by omega), ?_⟩⟩
        have s19 := Same.upd (o := HO.tup [V.int 0, V.int 0]) ht
        have f20 : (upd (upd H18 t (HO.tup [V.int 0, V.int 0])) lX (HO.lst (zX ++ [V.ref t]))) lf = some (.lst [V.ref lX, V.ref lY]) := by
          rw [upd_ne (Ne.symm nXf)]
          exact s19 _ _ hlf2
        have y20 : (upd (upd H18 t (HO.tup [V.int 0, V.int 0])) lX (HO.lst (zX ++ [V.ref t]))) lY = some (.lst zY) := by
          rw [upd_ne (Ne.symm nXY)]
          exact s19 _ _ eY2
        have sm20 : Same H13 (upd (upd H18 t (HO.tup [V.int 0, V.int 0])) lX (HO.lst (zX ++ [V.ref t]))) := fun c u e => by
          have e' := sm c u e
          rw [upd_ne (ne_of_none e' hlX)]
          exact s19 _ _ (sm18 _ _ e')
        generalize upd (upd H18 t (HO.tup [V.int 0, V.int 0])) lX (HO.lst (zX ++ [V.ref t])) = H20 at f20 y20 sm20 ⊢
        refine ⟨_, rfl, lf, _, _, _, rfl, rfl, SqL.of f20, atI_nat (j := 1) rfl, .inl ⟨rfl, _, SqL.of y20⟩, two, fun t' ht' => ⟨lY, _, _, rfl, rfl, Same.upd ht' _ _ y20, small1000 (by omega), ?_⟩⟩
        have s21 := Same.upd (o := HO.tup [V.int 0, V.int 0]) ht'
        refine ⟨_, _, rfl, fun c u e => ?_⟩
        have e' := sm c u e
        rw [upd_ne (ne_of_none (smX _ _ e') hlY)]
        exact s21 _ _ (sm20 _ _ e)
      obtain ⟨v8, v9, rfl, sm⟩ := h
      have X := X13.same sm
      have hD := hD.same sm
      have hE := hE.same sm
      have hldd := sm _ _ hldd
      clear X13 sm
      -- sizes
      refine ⟨_, rfl, lA, fA, rfl, X.A.pl, by omega, fun H14 s14 => ⟨_, _, _, _, rfl, TyOf.int _, kit_int_int, _, rfl, ?_⟩⟩
      have X := X.same s14
      refine ⟨_, rfl, lA, fA, rfl, X.A.pl, by omega, fun H15 s15 => ?_⟩
      have X := X.same s15
      refine ⟨_, rfl, lo, _, _, _, rfl, rfl, SqL.of X.atlo, rfl, dA, nA, rfl, X.da, rfl, _, rfl, ?_⟩
      rw [decide_eq_true (show V.int (sz fA) = V.int (nA.length : Int) by rw [szA])]
      refine ⟨_, rfl, _, rfl, lA, fA, bv, rfl, X.A.pl, by omega, fun lM H16 _ hM s16 => ⟨lM, mv bv fA, rfl, hM.pl, by rw [mv_len]; omega, fun H17 s17 => ?_⟩⟩
      have X := X.same (s16.trans s17)
      have hD := hD.same (s14.trans (s15.trans (s16.trans s17)))
      have hE := hE.same (s14.trans (s15.trans (s16.trans s17)))
      have hldd := (s14.trans (s15.trans (s16.trans s17))) _ _ hldd
      refine ⟨_, rfl, lo, _, _, _, rfl, rfl, SqL.of X.atlo, rfl, dA, nA, rfl, X.da, rfl, _, rfl, ?_⟩
      rw [decide_eq_true (show V.int (sz (mv bv fA)) = V.int (nA.length : Int) by rw [mv_sz, szA])]
      clear s14 s15 s16 s17 hM
      -- day by day
      have b1 : -(2 ^ 62 : Int) ≤ -62 := by decide
      have b2 : (-62 : Int) < (2 ^ 62 : Int) := by decide
      have b3 : -(2 ^ 62 : Int) ≤ 73 := by decide
      have b4 : (73 : Int) < (2 ^ 62 : Int) := by decide
      refine ⟨_, rfl, _, _, rfl, ⟨b1, b2, b3, b4⟩, for_range (lo := -62) (n := ((73 : Int) - -62).toNat) (fun _ σ H' => ∃ v6 v10 v11, σ = [some (V.ref a), some (V.ref lo), some (V.ref lA), some (V.ref lB), some (V.int bv), some (V.ref hd), v6, some (V.ref ld), v8, v9, v10, v11] ∧ Same H17 H')
        ⟨none, none, none, rfl, Same.refl _⟩ (fun i σ H' hi h => ?_) (fun σ H' h => ?_)⟩
      · obtain ⟨v6, v10, v11, rfl, sm⟩ := h
        have X := X.same sm
        refine ⟨_, rfl, _, rfl, lo, _, _, _, rfl, rfl, SqL.of X.atlo, rfl, dA, _, rfl, L2.FD.get X.da (-62 + i), ?_⟩
        have hv := valV_dk (-62 + i) nA
        generalize (valV (dk nA) (Sum.inl (-62 + (i : Int)))).isSome = hb at hv ⊢
        refine ⟨_, rfl, _, rfl, lA, fA, _, rfl, X.A.pl, fun c1 hc1 => ?_⟩
        refine ⟨_, rfl, _, rfl, lA, fA, bv, rfl, X.A.pl, by omega, fun lM H18 _ hM s18 => ⟨_, rfl, _, rfl, _, _, rfl, rfl, lM, mv bv fA, _, rfl, hM.pl, fun c2 hc2 => ⟨two, fun lt hlt => ?_⟩⟩⟩
        have s19 := Same.upd (o := HO.lst [V.bl c1, V.bl c2]) hlt
        have q1 : c1 = hb := by
          rw [hv, Bool.eq_iff_iff, hc1, dyA]
          simp
        have q2 : c2 = hb := by
          rw [hv, Bool.eq_iff_iff, hc2, mv_day, show (-62 + (i : Int) + bv - bv) = -62 + (i : Int) by omega, dyA]
          simp
        subst q1
        subst q2
        refine ⟨_, rfl, _, rfl, _, rfl, two, fun n hn => ?_⟩
        have s20 := Same.upd (o := HO.lst [V.bl c2, V.bl c2]) hn
        have lt2 := s20 _ _ (show (upd H18 lt (HO.lst [V.bl c2, V.bl c2])) lt = some (.lst [V.bl c2, V.bl c2]) from upd_same)
        refine ⟨bls c2 c2, bls c2 c2, bls_dv lt2, bls_dv upd_same, bls_shaped _ _, bls_shaped _ _, _, rfl, ?_⟩
        rw [bls_eqv]
        refine ⟨_, rfl, lt, _, _, _, rfl, rfl, SqL.of lt2, rfl, _, _, _, _, rfl, TyOf.bl c2, kit_bool_bool, _, rfl, ?_⟩
        refine ⟨_, rfl, lt, _, _, _, rfl, rfl, SqL.of lt2, atI_nat (j := 1) rfl, _, _, _, _, rfl, TyOf.bl c2, kit_bool_bool, _, rfl, ?_⟩
        exact ⟨_, _, _, rfl, sm.trans (s18.trans (s19.trans s20))⟩
      obtain ⟨v6, v10, v11, rfl, sm⟩ := h
      have X := X.same sm
      have hD := hD.same sm
      have hE := hE.same sm
      have hldd := sm _ _ hldd
      -- moved, both
      refine ⟨_, rfl, _, rfl, lA, fA, bv, rfl, X.A.pl, by omega, fun mA H18 _ hMA s18 => ⟨_, rfl, _, rfl, lB, fB, bv, rfl, (X.B.same s18).pl, by omega, fun mB' H19 _ hMB s19 => ⟨mA, mB', mv bv fA, mv bv fB, rfl, (hMA.same s19).pl, hMB.pl, by rw [mv_len]; omega, by rw [mv_len]; omega, mv_spr SA, mv_spr SB, fun lX yX fX H20 _ eX smX hpX SX dX _ => ?_⟩⟩⟩
      have smm := s18.trans (s19.trans smX)
      have X := X.same smm
      have hD := hD.same smm
      have hE := hE.same smm
      have hldd := smm _ _ hldd
      refine ⟨_, rfl, ld, _, _, _, rfl, rfl, SqL.of hldd, rfl, _, rfl, lD, fD, bv, rfl, hD.pl, by omega, fun mD' H21 _ hMD s21 => ?_⟩
      have eq1 : fX = mv bv fD := SX.same (mv_spr SD) fun d => by rw [dX d, mv_day, mv_day, mv_day, dayD]
      have hX : LL K H20 lX fX := ⟨yX, eX, hpX⟩
      rw [eq1] at hX
      refine ⟨pds (mv bv fD), pds (mv bv fD), (hX.same s21).dv, hMD.dv, pds_shaped _, pds_shaped _, _, rfl, ?_⟩
      rw [pds_eqv, decide_eq_true rfl]
      have X := X.same s21
      have hE := hE.same s21
      have hldd := s21 _ _ hldd
      -- moved, less
      refine ⟨_, rfl, _, rfl, lA, fA, bv, rfl, X.A.pl, by omega, fun mA2 H22 _ hMA2 s22 => ⟨_, rfl, _, rfl, lB, fB, bv, rfl, (X.B.same s22).pl, by omega, fun mB2 H23 _ hMB2 s23 => ⟨mA2, mB2, mv bv fA, mv bv fB, rfl, (hMA2.same s23).pl, hMB2.pl, by rw [mv_len]; omega, by rw [mv_len]; omega, mv_spr SA, mv_spr SB, fun lY yY fY H24 _ eY smY hpY SY dY _ => ?_⟩⟩⟩
      have smm2 := s22.trans (s23.trans smY)
      have hE := hE.same smm2
      have hldd := smm2 _ _ hldd
      refine ⟨_, rfl, ld, _, _, _, rfl, rfl, SqL.of hldd, atI_nat (j := 1) rfl, _, rfl, lE, fE, bv, rfl, hE.pl, by omega, fun mE H25 _ hME s25 => ?_⟩
      have eq2 : fY = mv bv fE := SY.same (mv_spr SE) fun d => by rw [dY d, mv_day, mv_day, mv_day, dayE]
      have hY : LL K H24 lY fY := ⟨yY, eY, hpY⟩
      rw [eq2] at hY
      refine ⟨pds (mv bv fE), pds (mv bv fE), (hY.same s25).dv, hME.dv, pds_shaped _, pds_shaped _, ?_⟩
      rw [pds_eqv, decide_eq_true rfl]
      exact k H25
end
end K2
set_option maxHeartbeats 4000000
namespace K2
open PySem L2 Dy
theorem all_mk {l : PySem.W.OpenLaw} {w : World} {K : PySem.W.Frag} {h : Heap} {mg : Str → Option Value} {fa fB fO fL fZ fH fT fS fY fD fM fLw : Addr} (X : K.In h) (G : h.Ns mainGlobals mg) (hfa : mg "law" = some (.ref fa))
    {odB anB odO anO odL anL odZ anZ odH anH odT anT odS anS odY anY odD anD odM anM odLw anLw : Option Addr} {slB slO slL slZ slH slT slS slY slD slM slLw : Array (Option Value)} {ocB kVB dcB pmB cdB ctB ocO kVO dcO pmO cdO ctO ocL kVL dcL pmL cdL ctL ocZ kVZ dcZ pmZ cdZ ctZ ocH kVH dcH pmH cdH ctH ocT kVT dcT pmT cdT ctT ocS kVS dcS pmS cdS ctS ocY kVY dcY pmY cdY ctY ocD kVD dcD pmD cdD ctD ocM kVM dcM pmM cdM ctM ocLw kVLw dcLw pmLw cdLw ctLw : Value}
    (aB : PySem.W.nsIn K mainGlobals "both" = some (some (.ref fB))) (lB : K.lookup fB = some ⟨ocB, odB, .func (PySem.W.fnOf "both" "both" (defArgs sBoth) (defBody sBoth) (defScope sBoth) .none kVB dcB pmB anB cdB ctB), slB⟩) (cB : PySem.W.codeIn K cdB "both" = true) (kB : PySem.W.keepIn K (.ref fB) = true)
    (aO : PySem.W.nsIn K mainGlobals "outside" = some (some (.ref fO))) (lO : K.lookup fO = some ⟨ocO, odO, .func (PySem.W.fnOf "outside" "outside" (defArgs sOutside) (defBody sOutside) (defScope sOutside) .none kVO dcO pmO anO cdO ctO), slO⟩) (cO : PySem.W.codeIn K cdO "outside" = true) (kO : PySem.W.keepIn K (.ref fO) = true)
    (aL : PySem.W.nsIn K mainGlobals "less" = some (some (.ref fL))) (lL : K.lookup fL = some ⟨ocL, odL, .func (PySem.W.fnOf "less" "less" (defArgs sLess) (defBody sLess) (defScope sLess) .none kVL dcL pmL anL cdL ctL), slL⟩) (cL : PySem.W.codeIn K cdL "less" = true) (kL : PySem.W.keepIn K (.ref fL) = true)
    (aZ : PySem.W.nsIn K mainGlobals "size" = some (some (.ref fZ))) (lZ : K.lookup fZ = some ⟨ocZ, odZ, .func (PySem.W.fnOf "size" "size" (defArgs sSize) (defBody sSize) (defScope sSize) .none kVZ dcZ pmZ anZ cdZ ctZ), slZ⟩) (cZ : PySem.W.codeIn K cdZ "size" = true) (kZ : PySem.W.keepIn K (.ref fZ) = true)
    (aH : PySem.W.nsIn K mainGlobals "holds" = some (some (.ref fH))) (lH : K.lookup fH = some ⟨ocH, odH, .func (PySem.W.fnOf "holds" "holds" (defArgs sHolds) (defBody sHolds) (defScope sHolds) .none kVH dcH pmH anH cdH ctH), slH⟩) (cH : PySem.W.codeIn K cdH "holds" = true) (kH : PySem.W.keepIn K (.ref fH) = true)
    (aT : PySem.W.nsIn K mainGlobals "_law_stretches" = some (some (.ref fT))) (lT : K.lookup fT = some ⟨ocT, odT, .func (PySem.W.fnOf "_law_stretches" "_law_stretches" (defArgs sStretches) (defBody sStretches) (defScope sStretches) .none kVT dcT pmT anT cdT ctT), slT⟩) (cT : PySem.W.codeIn K cdT "_law_stretches" = true) (kT : PySem.W.keepIn K (.ref fT) = true)
    (aS : PySem.W.nsIn K mainGlobals "_law_spread" = some (some (.ref fS))) (lS : K.lookup fS = some ⟨ocS, odS, .func (PySem.W.fnOf "_law_spread" "_law_spread" (defArgs sSpread) (defBody sSpread) (defScope sSpread) .none kVS dcS pmS anS cdS ctS), slS⟩) (cS : PySem.W.codeIn K cdS "_law_spread" = true) (kS : PySem.W.keepIn K (.ref fS) = true)
    (aY : PySem.W.nsIn K mainGlobals "_law_days" = some (some (.ref fY))) (lY : K.lookup fY = some ⟨ocY, odY, .func (PySem.W.fnOf "_law_days" "_law_days" (defArgs sDays) (defBody sDays) (defScope sDays) .none kVY dcY pmY anY cdY ctY), slY⟩) (cY : PySem.W.codeIn K cdY "_law_days" = true) (kY : PySem.W.keepIn K (.ref fY) = true)
    (aD : PySem.W.nsIn K mainGlobals "_law_told" = some (some (.ref fD))) (lD : K.lookup fD = some ⟨ocD, odD, .func (PySem.W.fnOf "_law_told" "_law_told" (defArgs sTold) (defBody sTold) (defScope sTold) .none kVD dcD pmD anD cdD ctD), slD⟩) (cD : PySem.W.codeIn K cdD "_law_told" = true) (kD : PySem.W.keepIn K (.ref fD) = true)
    (aM : PySem.W.nsIn K mainGlobals "_law_moved" = some (some (.ref fM))) (lM : K.lookup fM = some ⟨ocM, odM, .func (PySem.W.fnOf "_law_moved" "_law_moved" (defArgs sMoved) (defBody sMoved) (defScope sMoved) .none kVM dcM pmM anM cdM ctM), slM⟩) (cM : PySem.W.codeIn K cdM "_law_moved" = true) (kM : PySem.W.keepIn K (.ref fM) = true)
    (aLw : PySem.W.nsIn K mainGlobals "law" = some (some (.ref fLw))) (lLw : K.lookup fLw = some ⟨ocLw, odLw, .func (PySem.W.fnOf "law" "law" (defArgs sLaw) (defBody sLaw) (defScope sLaw) .none kVLw dcLw pmLw anLw cdLw ctLw), slLw⟩) (cLw : PySem.W.codeIn K cdLw "law" = true) (kLw : PySem.W.keepIn K (.ref fLw) = true)
    (zsrt : PySem.W.nsIn K mainGlobals "sorted" = some none) (zmx : PySem.W.nsIn K mainGlobals "max" = some none) (zmn : PySem.W.nsIn K mainGlobals "min" = some none) (zlen : PySem.W.nsIn K mainGlobals "len" = some none) (zsum : PySem.W.nsIn K mainGlobals "sum" = some none) (zrng : PySem.W.nsIn K mainGlobals "range" = some none) (zisi : PySem.W.nsIn K mainGlobals "isinstance" = some none) (zlst : PySem.W.nsIn K mainGlobals "list" = some none) (ztup : PySem.W.nsIn K mainGlobals "tuple" = some none) (zbool : PySem.W.nsIn K mainGlobals "bool" = some none) (zint : PySem.W.nsIn K mainGlobals "int" = some none) :
    ∃ fd : FuncData, (∀ (s : Shared) (v : Value), BindsTo s fd ⟨[v], []⟩ [("_law_script", v)]) ∧ ∀ base : Heap, K.In base → base.Ns mainGlobals mg → FnOk l.prog w K mg base CX0 3 fa fd ["_law_script"] (spLaw K) := by
  have e := hfa.symm.trans (PySem.W.mg_of X G aLw)
  cases e
  have T : Txt mg := ⟨PySem.W.mg_none_of X G zsrt, PySem.W.mg_none_of X G zmx, PySem.W.mg_none_of X G zmn, PySem.W.mg_none_of X G zlen, PySem.W.mg_none_of X G zsum, PySem.W.mg_none_of X G zrng, PySem.W.mg_none_of X G zisi, PySem.W.mg_none_of X G zlst, PySem.W.mg_none_of X G ztup, PySem.W.mg_none_of X G zbool, PySem.W.mg_none_of X G zint⟩
  have FB := fun_mk (st := sBoth) lB cB kB
  have bB := FB.binds (ps := ["one", "other"]) fun _ _ _ _ _ _ us hl => match us, hl with | [_, _], _ => rfl
  have mB := PySem.W.mg_of X G aB
  have FO := fun_mk (st := sOutside) lO cO kO
  have bO := FO.binds (ps := ["one", "first", "last"]) fun _ _ _ _ _ _ us hl => match us, hl with | [_, _, _], _ => rfl
  have mO := PySem.W.mg_of X G aO
  have FL := fun_mk (st := sLess) lL cL kL
  have bL := FL.binds (ps := ["one", "other"]) fun _ _ _ _ _ _ us hl => match us, hl with | [_, _], _ => rfl
  have mL := PySem.W.mg_of X G aL
  have FZ := fun_mk (st := sSize) lZ cZ kZ
  have bZ := FZ.binds (ps := ["one"]) fun _ _ _ _ _ _ us hl => match us, hl with | [_], _ => rfl
  have mZ := PySem.W.mg_of X G aZ
  have FH := fun_mk (st := sHolds) lH cH kH
  have bH := FH.binds (ps := ["one", "day"]) fun _ _ _ _ _ _ us hl => match us, hl with | [_, _], _ => rfl
  have mH := PySem.W.mg_of X G aH
  have FT := fun_mk (st := sStretches) lT cT kT
  have bT := FT.binds (ps := ["_law_cells"]) fun _ _ _ _ _ _ us hl => match us, hl with | [_], _ => rfl
  have mT := PySem.W.mg_of X G aT
  have FS := fun_mk (st := sSpread) lS cS kS
  have bS := FS.binds (ps := ["_law_days_here"]) fun _ _ _ _ _ _ us hl => match us, hl with | [_], _ => rfl
  have mS := PySem.W.mg_of X G aS
  have FY := fun_mk (st := sDays) lY cY kY
  have bY := FY.binds (ps := ["_law_some"]) fun _ _ _ _ _ _ us hl => match us, hl with | [_], _ => rfl
  have mY := PySem.W.mg_of X G aY
  have FD := fun_mk (st := sTold) lD cD kD
  have bD := FD.binds (ps := ["_law_found", "_law_due"]) fun _ _ _ _ _ _ us hl => match us, hl with | [_, _], _ => rfl
  have mD := PySem.W.mg_of X G aD
  have FM := fun_mk (st := sMoved) lM cM kM
  have bM := FM.binds (ps := ["_law_some", "_law_by"]) fun _ _ _ _ _ _ us hl => match us, hl with | [_, _], _ => rfl
  have mM := PySem.W.mg_of X G aM
  have FLw := fun_mk (st := sLaw) lLw cLw kLw
  exact ⟨PySem.W.fnOf "law" "law" (defArgs sLaw) (defBody sLaw) (defScope sLaw) .none kVLw dcLw pmLw anLw cdLw ctLw, fun s v => .of_eq rfl, fun base _ _ => ok_law FLw T FB bB mB FO bO mO FL bL mL FZ bZ mZ FH bH mH FT bT mT FS bS mS FY bY mY FD bD mD FM bM mM⟩
theorem walk {l : PySem.W.OpenLaw} {q : Program} {loose : List Str} {XP : (Str → Option Value) → Heap → Prop} {YP : World → Heap → Prop} {d : DefRec} {K : Params → PySem.W.Frag} (hn : l.most = some 63) (hdf : d.params.defaults = [])
    (hY : ∀ (w : World) (h : Heap), YP w h → (K w.params).In h)
    (F : ∀ (w : World) (mg : Str → Option Value) (fa : Addr) (h : Heap), (K w.params).In h → h.Ns mainGlobals mg → mg d.name = some (.ref fa) →
      ∃ fd : FuncData, (∀ (s : Shared) (u : Value), BindsTo s fd ⟨[u], []⟩ [("_law_script", u)]) ∧ ∀ base : Heap, (K w.params).In base → base.Ns mainGlobals mg → FnOk l.prog w (K w.params) mg base CX0 3 fa fd ["_law_script"] (spLaw (K w.params))) :
    PySem.W.WalkO q loose XP YP l.row.toRowW d [] (fun f vs => PySem.call f vs) :=
  L2.walk_of (n := 63) (k := 3) (x := "_law_script") (CX := fun _ => CX0) (sp := fun w => spLaw (K w.params)) hn (by decide) hdf ⟨rfl, by decide, by decide⟩ hY F (fun _ _ a ns hl _ hS => ⟨a, ns, rfl, hS, hl, fun _ => rfl⟩) fun _ _ _ _ _ z => z
end K2
open PySem PySem.W PyProof.Rows
set_option maxRecDepth 100000 in
set_option maxHeartbeats 0 in
theorem PySem.Challenge.cw_daysgate_k02_spreads_of_two_holds : PySem.Challenge.rw_daysgate_k02_spreads_of_two.Holds := by
  w_on; o_law; k_head; (case hw => w_witness2)
  k_fill
  refine K2.walk (l := PySem.Challenge.rw_daysgate_k02_spreads_of_two) rfl rfl (fun w h Y => PySem.W.kIn_of Y) ?F
  case F =>
    intro w mg fa h KX G hmg
    refine' K2.all_mk KX G hmg ?aB ?lB ?cB ?kB ?aO ?lO ?cO ?kO ?aL ?lL ?cL ?kL ?aZ ?lZ ?cZ ?kZ ?aH ?lH ?cH ?kH ?aT ?lT ?cT ?kT ?aS ?lS ?cS ?kS ?aY ?lY ?cY ?kY ?aD ?lD ?cD ?kD ?aM ?lM ?cM ?kM ?aLw ?lLw ?cLw ?kLw ?zsrt ?zmx ?zmn ?zlen ?zsum ?zrng ?zisi ?zlst ?ztup ?zbool ?zint
    (case aB => k_is)
    (case lB => k_is)
    (case cB => k_is)
    (case kB => k_is)
    (case aO => k_is)
    (case lO => k_is)
    (case cO => k_is)
    (case kO => k_is)
    (case aL => k_is)
    (case lL => k_is)
    (case cL => k_is)
    (case kL => k_is)
    (case aZ => k_is)
    (case lZ => k_is)
    (case cZ => k_is)
    (case kZ => k_is)
    (case aH => k_is)
    (case lH => k_is)
    (case cH => k_is)
    (case kH => k_is)
    (case aT => k_is)
    (case lT => k_is)
    (case cT => k_is)
    (case kT => k_is)
    (case aS => k_is)
    (case lS => k_is)
    (case cS => k_is)
    (case kS => k_is)
    (case aY => k_is)
    (case lY => k_is)
    (case cY => k_is)
    (case kY => k_is)
    (case aD => k_is)
    (case lD => k_is)
    (case cD => k_is)
    (case kD => k_is)
    (case aM => k_is)
    (case lM => k_is)
    (case cM => k_is)
    (case kM => k_is)
    (case aLw => k_is)
    (case lLw => k_is)
    (case cLw => k_is)
    (case kLw => k_is)
    (case zsrt => k_is)
    (case zmx => k_is)
    (case zmn => k_is)
    (case zlen => k_is)
    (case zsum => k_is)
    (case zrng => k_is)
    (case zisi => k_is)
    (case zlst => k_is)
    (case ztup => k_is)
    (case zbool => k_is)
    (case zint => k_is)
#print axioms PySem.Challenge.cw_daysgate_k02_spreads_of_two_holds
