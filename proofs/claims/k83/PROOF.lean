import PyProof.Rows.All
import Wide.All
import OpenK.AllK
import Wide.FinOn
import Lean
import PyProof.EqAt
import PyProof.EqKinds
import PyProof.TupleCall
import PySem.Challenge.RW_treewells_k83_rows_as_texts
set_option Elab.async false
set_option linter.all false
set_option maxRecDepth 100000
set_option maxHeartbeats 4000000
/-! THE HAND LAYER, for ints, bools, texts, own classes, LISTS and tuples (index, slices, in, append, pop ..), calls, loops. Paste it whole ahead of your own text; what your proof does not reach may be deleted. -/
namespace L2
open PySem PySem.Spec PyProof.Rows

/-- a key: an int or a str -/
abbrev Key := Sum Int Str
def keyIs : Key → Value → Bool
  | .inl k, v => Value.isInt k v
  | .inr x, v => Value.isStrOf x v
def keyH (w : World) : Key → Int
  | .inl k => hashInt k
  | .inr x => hashStr w x
theorem keyIs_shape : ∀ {k : Key} {v : Value}, keyIs k v = true → (∃ i t, k = Sum.inl i ∧ v = Value.int i t) ∨ (∃ x t, k = Sum.inr x ∧ v = Value.str x t)
  | .inl i, v, h => by
    obtain ⟨t, e⟩ := Value.isInt_shape (k := i) (v := v) h
    exact .inl ⟨i, t, rfl, e⟩
  | .inr x, v, h => by
    obtain ⟨t, e⟩ := Value.isStrOf_shape (x := x) (v := v) h
    exact .inr ⟨x, t, rfl, e⟩
theorem key_ll (a b : Int) : decide ((Sum.inl a : Key) = Sum.inl b) = (a == b) := by
  by_cases e : a = b
  · subst e; simp
  · have h : ¬ (Sum.inl a : Key) = Sum.inl b := fun q => e (Sum.inl.inj q)
    rw [decide_eq_false h]
    exact (beq_eq_false_iff_ne.mpr e).symm
theorem key_rr (a b : Str) : decide ((Sum.inr a : Key) = Sum.inr b) = decide (a = b) := by
  by_cases e : a = b
  · subst e; simp
  · have h : ¬ (Sum.inr a : Key) = Sum.inr b := fun q => e (Sum.inr.inj q)
    rw [decide_eq_false h, decide_eq_false e]
theorem key_lr (a : Int) (b : Str) : decide ((Sum.inl a : Key) = Sum.inr b) = false := decide_eq_false (fun q => nomatch q)
theorem key_rl (a : Str) (b : Int) : decide ((Sum.inr a : Key) = Sum.inl b) = false := decide_eq_false (fun q => nomatch q)

def mixKind (prog : Program) (w : World) : PySem.KeyKind prog w Key where
  is := keyIs
  hash := keyH w
  inj := fun v a b ha hb => by
    rcases keyIs_shape ha with ⟨i, t, rfl, rfl⟩ | ⟨x, t, rfl, rfl⟩
    · rcases keyIs_shape hb with ⟨j, u, rfl, e⟩ | ⟨y, u, rfl, e⟩
      · injection e with e1 _; rw [e1]
      · exact nomatch e
    · rcases keyIs_shape hb with ⟨j, u, rfl, e⟩ | ⟨y, u, rfl, e⟩
      · exact nomatch e
      · injection e with e1 _; rw [e1]
  byValue := fun k v h => by
    rcases keyIs_shape h with ⟨i, t, rfl, rfl⟩ | ⟨x, t, rfl, rfl⟩ <;> rfl
  pyHash := fun hv h => by
    rcases keyIs_shape hv with ⟨i, t, rfl, rfl⟩ | ⟨x, t, rfl, rfl⟩
    · exact wpAny_pyHash_int h
    · exact wpAny_pyHash_str h
  eqBool := fun hu hv h => by
    rcases keyIs_shape hu with ⟨i, t, rfl, rfl⟩ | ⟨x, t, rfl, rfl⟩
    · rcases keyIs_shape hv with ⟨j, u, rfl, rfl⟩ | ⟨y, u, rfl, rfl⟩
      · rw [key_ll] at h; exact wpAny_eqBool_int h
      · rw [key_lr] at h; exact SeqAt.EqAt.int_str i t y u _ _ _ _ h
    · rcases keyIs_shape hv with ⟨j, u, rfl, rfl⟩ | ⟨y, u, rfl, rfl⟩
      · rw [key_rl] at h; exact SeqAt.EqAt.str_int x t j u _ _ _ _ h
      · rw [key_rr] at h; exact wpAny_eqBool_str h
  «strs» := fun k x t v h => by
    rcases keyIs_shape h with ⟨i, u, rfl, e⟩ | ⟨y, u, rfl, e⟩
    · exact nomatch e
    · injection e with e1 _
      subst e1
      cases v <;> rfl

end L2

namespace L2
open PySem PySem.Spec PyProof.Rows

/-- a value, without the heap -/
inductive V where
  | non | bl (b : Bool) | int (i : Int) | str (x : Str) | byt (b : Array UInt8) | flt (b : UInt64) | ref (a : Addr) | ty (n : String)
  deriving DecidableEq

def RelV : V → Value → Prop
  | .non, u => u = Value.none
  | .bl b, u => u = Value.bool b
  | .int i, u => ∃ t, u = Value.int i t
  | .str x, u => ∃ t, u = Value.str x t
  | .byt b, u => ∃ t, u = Value.bytes b t
  | .flt b, u => ∃ t, u = Value.float b t
  | .ref a, u => u = Value.ref a
  | .ty n, u => u = Value.type n

abbrev Vals : List V → List Value → Prop := Paired RelV
theorem Vals.length {xs : List V} {us : List Value} (r : Vals xs us) : xs.length = us.length := Paired.length r
theorem Vals.get : ∀ {xs : List V} {us : List Value} {i : Nat} {x : V}, Vals xs us → xs[i]? = some x → ∃ u, us[i]? = some u ∧ RelV x u
  | _, _, _, _, .nil, e => by simp at e
  | _, _, 0, _, .cons r _, e => by simp at e; subst e; exact ⟨_, rfl, r⟩
  | _, _, i + 1, x, .cons _ t, e => by
    obtain ⟨u, h1, h2⟩ := Vals.get (i := i) (x := x) t (by simpa using e)
    exact ⟨u, by simpa using h1, h2⟩
theorem Vals.set {x : V} {u : Value} (r : RelV x u) : ∀ {xs : List V} {us : List Value} (i : Nat), Vals xs us → Vals (xs.set i x) (us.set i u)
  | _, _, _, .nil => .nil
  | _, _, 0, .cons _ t => .cons r t
  | _, _, i + 1, .cons q t => .cons q (Vals.set r i t)
theorem Vals.append : ∀ {xs ys : List V} {us ws : List Value}, Vals xs us → Vals ys ws → Vals (xs ++ ys) (us ++ ws)
  | _, _, _, _, .nil, s => s
  | _, _, _, _, .cons r t, s => .cons r (Vals.append t s)
theorem Vals.take : ∀ {xs : List V} {us : List Value} (n : Nat), Vals xs us → Vals (xs.take n) (us.take n)
  | _, _, 0, _ => .nil
  | _, _, _ + 1, .nil => .nil
  | _, _, n + 1, .cons r t => .cons r (Vals.take n t)
theorem Vals.drop : ∀ {xs : List V} {us : List Value} (n : Nat), Vals xs us → Vals (xs.drop n) (us.drop n)
  | _, _, 0, r => r
  | _, _, _ + 1, .nil => .nil
  | _, _, n + 1, .cons _ t => Vals.drop n t
def RelO : Option V → Option Value → Prop
  | some v, some u => RelV v u
  | none, none => True
  | _, _ => False
def KV {κ : Type} : List (κ × V) → List (κ × Value) → Prop := Paired fun (p : κ × V) (q : κ × Value) => p.1 = q.1 ∧ RelV p.2 q.2

/-- a key of a dict (00_mix): an int or a text -/
def kV : Key → V
  | .inl i => .int i
  | .inr x => .str x

/-- what stands at a tracked address -/
inductive HO where
  /-- a list -/
  | lst (xs : List V)
  /-- a tuple (never changes) -/
  | tup (xs : List V)
  /-- a dict whose keys are ints and texts; one whose keys are tuples of ints and texts (the empty one is both) -/
  | dK (kvs : List (Key × V)) | dT (kvs : List (List Key × V))
  /-- a set of ints: its members, its size -/
  | set (S : Int → Bool) (n : Nat)
  /-- an instance of the class at C, its dict at dx, its attributes -/
  | ins (C dx : Addr) (fs : List (Str × V))
  /-- the dict of the instance at x -/
  | own (x : Addr)
  /-- the dict of an exception -/
  | xd (fs : List (Str × V))
  /-- a bound method, f of x -/
  | met (f x : Addr)
  /-- a range object lo, lo + 1, .. below hi -/
  | rng (lo hi : Int)
  /-- a thing that is known to the object (the script; a dict while a loop walks it): read, never written while it is so -/
  | frz (o : Obj) (u : HO)
  /-- a code object's table -/
  | tbl (ps : Array Value)
  /-- any other thing, by what is true of its one object (a def of one's own: SetO a S n := HO.ext fun h => ..) -/
  | ext (φ : Heap → Prop)

abbrev Hp := Addr → Option HO
def upd (H : Hp) (a : Addr) (o : HO) : Hp := fun b => if b = a then some o else H b
theorem upd_same {H : Hp} {a : Addr} {o : HO} : upd H a o a = some o := by unfold upd; rw [if_pos rfl]
theorem upd_ne {H : Hp} {a b : Addr} {o : HO} (h : b ≠ a) : upd H a o b = H b := by unfold upd; rw [if_neg h]
theorem ne_of_none {H : Hp} {a b : Addr} {o : HO} (h : H a = some o) (h' : H b = none) : a ≠ b := by
  intro e; subst e; rw [h] at h'; cases h'

section
variable (P : Program) (w : World)
def ObjOk (H : Hp) (h : Heap) (a : Addr) : HO → Prop
  | .lst xs => xs.length ≤ sizeLine ∧ ∃ (its : List Value) (n : Nat), Vals xs its ∧ h.get? a = some { cls := .type "list", data := .seq its.toArray n }
  | .tup xs => xs.length ≤ sizeLine ∧ ∃ its : List Value, Vals xs its ∧ IsTup h a its.toArray
  | .dK kvs => kvs.length ≤ sizeLine ∧ (a == sysModules) = false ∧ ∃ vs, KV kvs vs ∧ h.DictOf (mixKind P w) a vs
  | .dT kvs => kvs.length ≤ sizeLine ∧ (a == sysModules) = false ∧ ∃ xs : List (List Key × Addr × Value),
      Paired (fun (p : List Key × V) (q : List Key × Addr × Value) => p.1 = q.1 ∧ H q.2.1 = some (.tup (p.1.map kV)) ∧ RelV p.2 q.2.2) kvs xs ∧
      ∃ o es ep, h.get? a = some o ∧ o.ExactDict ∧ o.data = .dict es ep ∧ es.toList = xs.map (entryOfKey (tupleKind (mixKind P w))) ∧ (xs.map (·.1)).Nodup
  | .set S n => h.SetOf (intKind P w) a S n
  | .ins C dx fs => H dx = some (.own a) ∧ fs.length ≤ 1000 ∧ dx ≠ a ∧ h.get? a = some (PySem.W.instObj C dx) ∧
      ∃ mA, h.Ns1 dx mA ∧ (∀ f, RelO (fs.lookup f) (mA f)) ∧ PySem.Within mA (fs.map (·.1))
  | .own _ => ∃ o, h.get? a = some o
  | .xd fs => ∃ mA, h.Ns1 a mA ∧ ∀ f, RelO (fs.lookup f) (mA f)
  | .rng lo hi => ∃ t u v, h.get? a = some { cls := .type "range", data := .fields #[.int lo t, .int hi u, .int 1 v] }
  | .frz o u => h.get? a = some o ∧ ObjOk H h a u
  | .tbl ps => h.get? a = some { cls := .none, data := .fields ps }
  | .met f x => h.get? a = some (PySem.W.methodObj (.ref f) (.ref x))
  | .ext φ => φ h ∧ (∃ o, h.get? a = some o) ∧ ∀ h1 h2 : Heap, φ h1 → (∀ o, h1.get? a = some o → h2.get? a = some o) → φ h2
/-- the abstract heap is held -/
def HOk (H : Hp) (h : Heap) : Prop := ∀ a o, H a = some o → ObjOk P w H h a o
end

section
variable {P : Program} {w : World} {H H' : Hp} {h h' : Heap} {a : Addr} {o : HO}
theorem ObjOk.lt (x : ObjOk P w H h a o) : a < h.objs.size := by
  cases o with
  | lst xs => obtain ⟨_, _, _, _, e⟩ := x; exact Heap.lt_size e
  | tup xs => obtain ⟨_, _, _, p⟩ := x; exact p.lt
  | dK kvs => obtain ⟨_, _, _, _, o, _, _, e, _⟩ := x; exact Heap.lt_size e
  | dT kvs => obtain ⟨_, _, _, _, o, _, _, e, _⟩ := x; exact Heap.lt_size e
  | set S n => obtain ⟨o, _, _, _, e, _⟩ := x; exact Heap.lt_size e
  | ins C dx fs => obtain ⟨_, _, _, e, _⟩ := x; exact Heap.lt_size e
  | own y => obtain ⟨_, e⟩ := x; exact Heap.lt_size e
  | xd fs => obtain ⟨_, ⟨_, _, _, e, _⟩, _⟩ := x; exact Heap.lt_size e
  | rng lo hi => obtain ⟨_, _, _, e⟩ := x; exact Heap.lt_size e
  | frz ob u => obtain ⟨e, _⟩ := x; exact Heap.lt_size e
  | tbl ps => exact Heap.lt_size (show h.get? a = some _ from x)
  | met f y => exact Heap.lt_size (show h.get? a = some _ from x)
  | ext φ => obtain ⟨_, ⟨_, e⟩, _⟩ := x; exact Heap.lt_size e
theorem Paired.mapP {α β : Type} {F G : α → β → Prop} : ∀ {l₁ : List α} {l₂ : List β}, Paired F l₁ l₂ → (∀ a b, F a b → G a b) → Paired G l₁ l₂
  | _, _, .nil, _ => .nil
  | _, _, .cons r t, f => .cons (f _ _ r) (Paired.mapP t f)
/-- what an object's description leans on: its own object, its own dict, the tuples -/
theorem ObjOk.stay (x : ObjOk P w H h a o) (k : ∀ b u, (b = a ∨ H b = some (.own a)) → h.get? b = some u → h'.get? b = some u)
    (ho : ∀ b, H b = some (.own a) → H' b = some (.own a)) (ht : ∀ b xs, H b = some (.tup xs) → H' b = some (.tup xs)) : ObjOk P w H' h' a o := by
  induction o with
  | lst xs => obtain ⟨z, its, n, r, e⟩ := x; exact ⟨z, its, n, r, k _ _ (.inl rfl) e⟩
  | tup xs => obtain ⟨z, its, r, ob, e, c⟩ := x; exact ⟨z, its, r, ob, k _ _ (.inl rfl) e, c⟩
  | dK kvs => obtain ⟨z, y, vs, r, ob, es, ep, e, c⟩ := x; exact ⟨z, y, vs, r, ob, es, ep, k _ _ (.inl rfl) e, c⟩
  | dT kvs =>
    obtain ⟨z, y, xs, r, ob, es, ep, e, c⟩ := x
    exact ⟨z, y, xs, Paired.mapP r fun p q z => ⟨z.1, ht _ _ z.2.1, z.2.2⟩, ob, es, ep, k _ _ (.inl rfl) e, c⟩
  | set S n => obtain ⟨ob, es, ep, t, e, c⟩ := x; exact ⟨ob, es, ep, t, k _ _ (.inl rfl) e, c⟩
  | ins C dx fs =>
    obtain ⟨d, z, ne, e, mA, ⟨od, es, ep, e2, c⟩, r⟩ := x
    exact ⟨ho _ d, z, ne, k _ _ (.inl rfl) e, mA, ⟨od, es, ep, k _ _ (.inr d) e2, c⟩, r⟩
  | own y => obtain ⟨ob, e⟩ := x; exact ⟨ob, k _ _ (.inl rfl) e⟩
  | xd fs => obtain ⟨mA, ⟨od, es, ep, e, c⟩, r⟩ := x; exact ⟨mA, ⟨od, es, ep, k _ _ (.inl rfl) e, c⟩, r⟩
  | rng lo hi => obtain ⟨t, u, v, e⟩ := x; exact ⟨t, u, v, k _ _ (.inl rfl) e⟩
  | frz ob u ih => obtain ⟨e, q⟩ := x; exact ⟨k _ _ (.inl rfl) e, ih q⟩
  | tbl ps =>
    have e : h.get? a = some { cls := .none, data := .fields ps } := x
    show h'.get? a = some { cls := .none, data := .fields ps }
    exact k a _ (.inl rfl) e
  | met f y =>
    have e : h.get? a = some (PySem.W.methodObj (.ref f) (.ref y)) := x
    show h'.get? a = some (PySem.W.methodObj (.ref f) (.ref y))
    exact k a _ (.inl rfl) e
  | ext φ => obtain ⟨p, ⟨o, e⟩, st⟩ := x; exact ⟨st _ _ p fun o q => k _ _ (.inl rfl) q, ⟨o, k _ _ (.inl rfl) e⟩, st⟩
theorem HOk.lt (x : HOk P w H h) (e : H a = some o) : a < h.objs.size := (x a o e).lt
theorem HOk.fresh (x : HOk P w H h) (e : h.objs.size ≤ a) : H a = none := by
  cases q : H a with
  | none => rfl
  | some u => exact absurd (Nat.lt_of_lt_of_le (x.lt q) e) (Nat.lt_irrefl _)
/-- every object of the heap is kept -/
theorem HOk.kept (x : HOk P w H h) (k : ∀ b u, h.get? b = some u → h'.get? b = some u) : HOk P w H h' := fun a o e =>
  (x a o e).stay (fun b u _ q => k b u q) (fun _ q => q) fun _ _ q => q
/-- a new object is laid and tracked -/
theorem HOk.laid (x : HOk P w H h) (k : ∀ b u, h.get? b = some u → h'.get? b = some u) (hp : h.objs.size ≤ a) (new : ObjOk P w (upd H a o) h' a o) : HOk P w (upd H a o) h' := fun b u e => by
  have hn := x.fresh hp
  by_cases hb : b = a
  · subst hb; rw [upd_same] at e; cases e; exact new
  · rw [upd_ne hb] at e
    exact (x b u e).stay (fun c v _ q => k c v q) (fun c q => by rw [upd_ne (ne_of_none q hn)]; exact q) fun c xs q => by rw [upd_ne (ne_of_none q hn)]; exact q
end

/-- what may be read as u: it is u, or a known u -/
def Rd (H : Hp) (a : Addr) (u : HO) : Prop := H a = some u ∨ ∃ o, H a = some (.frz o u)
theorem Rd.of {H : Hp} {a : Addr} {u : HO} (h : H a = some u) : Rd H a u := .inl h
theorem Rd.ok {P : Program} {w : World} {H : Hp} {h : Heap} {a : Addr} {u : HO} (r : Rd H a u) (x : HOk P w H h) : ObjOk P w H h a u := by
  rcases r with r | ⟨o, r⟩
  · exact x a u r
  · obtain ⟨_, q⟩ := x a _ r
    exact q
/-- what may be written -/
def Mut : Option HO → Prop
  | some (.lst _) => True
  | some (.dK _) => True
  | some (.dT _) => True
  | some (.set _ _) => True
  | some (.ins _ _ _) => True
  | some (.ext _) => True
  | _ => False
section
variable {P : Program} {w : World} {H : Hp} {h h' : Heap} {x e : Addr} {o' : HO}
/-- the object at e is changed: x itself, or the dict of the instance x -/
theorem HOk.write (ok : HOk P w H h) (mu : Mut (H x)) (he : e = x ∨ H e = some (.own x)) (k : ∀ b u, b ≠ e → h.get? b = some u → h'.get? b = some u) (heo : ∃ u, h'.get? e = some u)
    (new : ObjOk P w (upd H x o') h' x o') : HOk P w (upd H x o') h' := fun b u q => by
  have nown : ∀ c y, H c = some (.own y) → c ≠ x := fun c y r z => by subst z; rw [r] at mu; exact mu
  have ntup : ∀ c xs, H c = some (.tup xs) → c ≠ x := fun c xs r z => by subst z; rw [r] at mu; exact mu
  by_cases hb : b = x
  · subst hb; rw [upd_same] at q; cases q; exact new
  · rw [upd_ne hb] at q
    by_cases hbe : b = e
    · have q' : H b = some (.own x) := by
        rcases he with z | z
        · exact absurd (hbe.trans z) hb
        · rw [hbe]; exact z
      rw [q] at q'; cases q'
      obtain ⟨v, hv⟩ := heo
      exact ⟨v, by rw [hbe]; exact hv⟩
    · refine (ok b u q).stay (fun c v hc r => k c v ?_ r) (fun c r => by rw [upd_ne (nown c b r)]; exact r) fun c xs r => by rw [upd_ne (ntup c xs r)]; exact r
      rcases hc with rfl | hc
      · exact hbe
      · rintro rfl
        rcases he with z | z
        · exact nown c b hc z
        · rw [hc] at z; cases z; exact hb rfl
end

/-! ### kept unless tracked; of the frames at fs (the callers') the slots may change (an exception that passes writes there); of the records at ex (iterators) nothing is said -/
structure Un (fs ex : List Addr) (H H' : Hp) (h h' : Heap) : Prop where
  keep : ∀ b o, h.get? b = some o → H b = none → b ∉ fs → b ∉ ex → h'.get? b = some o
  slot : ∀ b o, h.get? b = some o → H b = none → b ∈ fs → b ∉ ex → ∃ sl, h'.get? b = some { o with slots := sl }
  free : ∀ b o, h.get? b = some o → H b = none → b ∉ ex → H' b = none
  there : ∀ b o, h.get? b = some o → b ∉ ex → ∃ o', h'.get? b = some o'
  tups : ∀ b xs, H b = some (.tup xs) → H' b = some (.tup xs)
  frzs : ∀ b o u, H b = some (.frz o u) → H' b = some (.frz o u)
  tbls : ∀ b ps, H b = some (.tbl ps) → ∃ more, H' b = some (.tbl (ps ++ more))
section
variable {fs fs' ex ex' : List Addr} {H H1 H2 : Hp} {h h1 h2 h' : Heap} {a x e : Addr} {o : HO}
theorem Un.any (u : Un fs ex H H1 h h1) {b : Addr} {ob : Obj} (q : h.get? b = some ob) (n : H b = none) (hx : b ∉ ex) : ∃ sl, h1.get? b = some { ob with slots := sl } := by
  by_cases hb : b ∈ fs
  · exact u.slot b ob q n hb hx
  · exact ⟨ob.slots, u.keep b ob q n hb hx⟩
theorem Un.trans (a : Un fs ex H H1 h h1) (b : Un fs ex H1 H2 h1 h2) : Un fs ex H H2 h h2 where
  keep := fun c ob q n hc hx => b.keep c ob (a.keep c ob q n hc hx) (a.free c ob q n hx) hc hx
  slot := fun c ob q n hc hx => by
    obtain ⟨sl, e1⟩ := a.slot c ob q n hc hx
    obtain ⟨sl', e2⟩ := b.slot c _ e1 (a.free c ob q n hx) hc hx
    exact ⟨sl', e2⟩
  free := fun c ob q n hx => by
    obtain ⟨o', e1⟩ := a.there c ob q hx
    exact b.free c o' e1 (a.free c ob q n hx) hx
  there := fun c ob q hx => by
    obtain ⟨o', e1⟩ := a.there c ob q hx
    exact b.there c o' e1 hx
  tups := fun c xs q => b.tups c xs (a.tups c xs q)
  frzs := fun c ob xs q => b.frzs c ob xs (a.frzs c ob xs q)
  tbls := fun c ps q => by
    obtain ⟨m1, e1⟩ := a.tbls c ps q
    obtain ⟨m2, e2⟩ := b.tbls c _ e1
    exact ⟨m1 ++ m2, by rw [e2, Array.append_assoc]⟩
theorem Un.kept (k : ∀ b u, h.get? b = some u → h'.get? b = some u) : Un fs ex H H h h' :=
  ⟨fun b ob q _ _ _ => k b ob q, fun b ob q _ _ _ => ⟨ob.slots, k b ob q⟩, fun _ _ _ n _ => n, fun b ob q _ => ⟨ob, k b ob q⟩, fun _ _ q => q, fun _ _ _ q => q, fun _ ps q => ⟨#[], by rw [q]; simp⟩⟩
theorem Un.refl : Un fs ex H H h h := Un.kept fun _ _ q => q
theorem Un.laid (k : ∀ b u, h.get? b = some u → h'.get? b = some u) (hp : h.objs.size ≤ a) (hn : H a = none) : Un fs ex H (upd H a o) h h' where
  keep := fun b u q _ _ _ => k b u q
  slot := fun b u q _ _ _ => ⟨u.slots, k b u q⟩
  free := fun b u q n _ => by rw [upd_ne (Nat.ne_of_lt (Nat.lt_of_lt_of_le (Heap.lt_size q) hp))]; exact n
  there := fun b u q _ => ⟨u, k b u q⟩
  tups := fun b xs q => by rw [upd_ne (ne_of_none q hn)]; exact q
  frzs := fun b u xs q => by rw [upd_ne (ne_of_none q hn)]; exact q
  tbls := fun b ps q => ⟨#[], by rw [upd_ne (ne_of_none q hn), q]; simp⟩
theorem Un.write (mu : Mut (H x)) (he : e = x ∨ H e = some (.own x)) (k : ∀ b u, b ≠ e → h.get? b = some u → h'.get? b = some u) (heo : ∃ u, h'.get? e = some u) : Un fs ex H (upd H x o) h h' := by
  have hx : ∀ b, H b = none → b ≠ x := fun b n z => by subst z; rw [n] at mu; exact mu
  have hb : ∀ b, H b = none → b ≠ e := fun b n z => by
    subst z
    rcases he with r | r
    · exact hx b n r
    · rw [n] at r; cases r
  have hm : ∀ b u, H b = some u → ¬ Mut (some u) → b ≠ x := fun b u q nm z => by subst z; rw [q] at mu; exact nm mu
  refine ⟨fun b u q n _ _ => k b u (hb b n) q, fun b u q n _ _ => ⟨u.slots, k b u (hb b n) q⟩, fun b u q n _ => by rw [upd_ne (hx b n)]; exact n, fun b u q _ => ?_,
    fun b xs q => by rw [upd_ne (hm b _ q fun z => z)]; exact q, fun b u xs q => by rw [upd_ne (hm b _ q fun z => z)]; exact q, fun b ps q => ⟨#[], by rw [upd_ne (hm b _ q fun z => z), q]; simp⟩⟩
  by_cases hbe : b = e
  · subst hbe; exact heo
  · exact ⟨u, k b u hbe q⟩
theorem Un.mono (u : Un fs ex H H1 h h1) (hs : ∀ b ∈ fs, b ∈ fs') (hx : ∀ b ∈ ex, b ∈ ex') : Un fs' ex' H H1 h h1 :=
  ⟨fun b ob q n hb he => u.keep b ob q n (fun z => hb (hs b z)) fun z => he (hx b z), fun _ _ q n _ he => u.any q n fun z => he (hx _ z), fun b ob q n he => u.free b ob q n fun z => he (hx b z), fun b ob q he => u.there b ob q fun z => he (hx b z), u.tups, u.frzs, u.tbls⟩
end

/-! ### the heap without what is tracked -/
def trk (h : Heap) (H : Hp) : List Addr := (List.range h.objs.size).filter fun a => (H a).isSome
def hidT (h : Heap) (H : Hp) : Heap := PySem.W.hideAll h (trk h H)
theorem hidT_size (h : Heap) (H : Hp) : (hidT h H).objs.size = h.objs.size := PySem.W.hideAll_size _ _
theorem hidT_get {h : Heap} {H : Hp} {b : Addr} {o : Obj} (e : h.get? b = some o) (n : H b = none) : (hidT h H).get? b = some o :=
  PySem.W.hideAll_get _ e fun hm => by
    have q : (H b).isSome = true := (List.mem_filter.mp hm).2
    rw [n] at q; simp at q
theorem of_hidT {h : Heap} {H : Hp} {b : Addr} {o : Obj} (e : (hidT h H).get? b = some o) : h.get? b = some o ∧ H b = none := by
  have e' : h.get? b = some o := PySem.W.of_hideAll (trk h H) e
  refine ⟨e', ?_⟩
  cases q : H b with
  | none => rfl
  | some x =>
    have hm : b ∈ trk h H := List.mem_filter.mpr ⟨List.mem_range.mpr (Heap.lt_size e'), by simp [q]⟩
    have z : (hidT h H).get? b = none := PySem.W.hideAll_none (trk h H) hm
    rw [z] at e; cases e

/-! ### OpenK's ledger, filled with every new object but one -/
def allNews (g h : Heap) (L : Addr) : List (Addr × Obj) := (List.range h.objs.size).filterMap fun a => if a = L ∨ (g.get? a).isSome = true then none else (h.get? a).map fun o => (a, o)
def rest (g h : Heap) (L d : Addr) : List (Addr × Obj) := (allNews g h L).filter fun p => decide (p.1 ≠ d)
end L2

namespace L2
open PySem PySem.Spec PyProof.Rows

/-- the module's facts, over the base: the heap at the law's entry without what is tracked there -/
structure Mod (K : PySem.W.Frag) (mg : Str → Option Value) (base : Heap) : Prop where
  kin : K.In base
  glob : base.Ns mainGlobals mg
  blt : ∃ mb, base.Ns builtinsNs mb ∧ ∀ x : Str, x ≠ "__name__" → mb x = bootBuiltins x
  nolimit : base.NoLimit

/-- the context: a def's body (or a comprehension's block) running. base: fixed through the whole law; s₀, H₀: the entry; outer: the frames whose slots others may change (a def's callers); stack: all frames that run;
   ex: iterators that were made ahead of the entry and are walked here (a comprehension's); fn: the names whose cells were made at the entry (a def: all; a comprehension's block: its own); calm: not within an except suite; pn: pins that every state bears; xe: what is wanted of an exception that leaves the code -/
structure Cx where
  prog : Program
  w : World
  K : PySem.W.Frag
  mg : Str → Option Value
  base : Heap
  A : Around
  N : List Str
  s₀ : Shared
  H₀ : Hp
  env : Env
  outer : List Env
  stack : List Env
  ex : List Addr
  fn : Str → Bool
  calm : Bool
  pn : List (Addr × Obj)
  xe : Value → Shared → Prop
/-- the callers' frames -/
def frs (l : List Env) : List Addr := l.filterMap (·.frame)
abbrev Cx.fs (X : Cx) : List Addr := frs X.outer

def Vis (sc : Scope) (x : Str) : Prop := sc.names.lookup x = some .local ∨ sc.names.lookup x = some .cell ∨ sc.names.lookup x = some .free
def Loc (sc : Scope) (x : Str) : Prop := sc.names.lookup x = some .local ∨ sc.names.lookup x = some .cell
def Look (env : Env) (h : Heap) (m : Str → Option Value) (x : Str) (u : Value) : Prop :=
  (env.kindOf x = some .local ∧ m x = some u) ∨ ((env.kindOf x = some .cell ∨ env.kindOf x = some .free) ∧ ∃ c, env.cells.lookup x = some c ∧ h.IsCell c (some u))

structure Cx.Ok (X : Cx) : Prop where
  mod : Mod X.K X.mg X.base
  kind : X.env.scope.kind = .function
  glob : X.env.globals = mainGlobals
  blt : X.env.builtins = builtinsNs
  above : X.s₀.heap.objs.size ≤ X.env.locals
  inj : ∀ x y c, X.env.cells.lookup x = some c → X.env.cells.lookup y = some c → x = y
  has : ∀ x, (X.env.kindOf x = some .cell ∨ X.env.kindOf x = some .free) → ∃ c, X.env.cells.lookup x = some c
  cab : ∀ x c, X.fn x = true → X.env.cells.lookup x = some c → X.s₀.heap.objs.size ≤ c
  hd : X.calm = true → X.A.handled = none
  frames : X.A.frames = some X.stack
  stk : X.stack = X.outer ∨ (X.stack = X.env :: X.outer ∧ X.env.frame = some X.env.locals)
  exf : ∀ b ∈ X.ex, b ≠ X.env.locals ∧ ∀ x c, X.env.cells.lookup x = some c → c ≠ b
  bs : ∀ b o, X.base.get? b = some o → X.s₀.heap.get? b = some o ∧ X.H₀ b = none
  bsz : X.base.objs.size ≤ X.s₀.heap.objs.size
  noex : ∀ b o, X.base.get? b = some o → b ∉ X.ex
  exfs : ∀ b ∈ X.ex, b ∉ X.fs
  funs : X.s₀.heap.FunFrames X.base X.outer
  frf : ∀ b ∈ X.fs, X.H₀ b = none

structure Inv (X : Cx) (pins : List (Addr × Obj)) (σ : List (Option V)) (H : Hp) (s : Shared) : Prop where
  ok : X.Ok
  os : s.os = X.s₀.os
  bare : AllBare s.gens
  base : Un X.fs X.ex X.H₀ H X.s₀.heap s.heap
  loc : ∃ m, s.heap.Ns X.env.locals m ∧ ∀ (i : Nat) (x : Str) (v : V), X.N[i]? = some x → σ[i]? = some (some v) → Vis X.env.scope x → ∃ u, RelV v u ∧ Look X.env s.heap m x u
  cell : ∀ x c, X.env.cells.lookup x = some c → ∃ v, s.heap.IsCell c v
  free : H X.env.locals = none
  freeC : ∀ x c, X.env.cells.lookup x = some c → H c = none
  pin : ∀ p ∈ X.pn ++ pins, s.heap.get? p.1 = some p.2 ∧ H p.1 = none ∧ p.1 ≠ X.env.locals ∧ p.1 ∉ X.fs ∧ ∀ v, p.2.data ≠ .cell v
  hok : HOk X.prog X.w H s.heap
  len : σ.length = X.N.length

section
variable {X : Cx} {pins : List (Addr × Obj)} {σ : List (Option V)} {H H' : Hp} {s : Shared} {h' : Heap}

theorem Cx.Ok.nofr (ok : X.Ok) {b : Addr} {o : Obj} (e : X.base.get? b = some o) : b ∉ X.fs := fun hb => by
  have := (ok.funs.mem hb).1
  rw [e] at this; cases this
theorem Inv.bs (I : Inv X pins σ H s) : ∀ b o, X.base.get? b = some o → s.heap.get? b = some o ∧ H b = none := fun b o e =>
  ⟨I.base.keep b o (I.ok.bs b o e).1 (I.ok.bs b o e).2 (I.ok.nofr e) (I.ok.noex b o e), I.base.free b o (I.ok.bs b o e).1 (I.ok.bs b o e).2 (I.ok.noex b o e)⟩
theorem Inv.bk (I : Inv X pins σ H s) : ∀ b o, X.base.get? b = some o → s.heap.get? b = some o := fun b o e => (I.bs b o e).1
theorem Inv.mod (I : Inv X pins σ H s) : Mod X.K X.mg X.base := I.ok.mod
theorem Inv.kIn (I : Inv X pins σ H s) : X.K.In s.heap := I.ok.mod.kin.keeps I.bk
theorem Inv.nolimit (I : Inv X pins σ H s) : s.heap.NoLimit := I.ok.mod.nolimit.keeps I.bk
/-- the frame over the base: for OpenK's rules (K.In X.base is I.mod.kin) -/
theorem Inv.fr (I : Inv X pins σ H s) : ∃ m, Fr X.base X.env.locals s.heap m :=
  let ⟨m, hn, _⟩ := I.loc
  ⟨m, hn, I.bk, Nat.le_trans I.ok.bsz I.ok.above⟩
theorem Inv.lt (I : Inv X pins σ H s) : X.env.locals < s.heap.objs.size := let ⟨_, hn, _⟩ := I.loc; hn.lt
theorem Inv.sz (I : Inv X pins σ H s) : X.s₀.heap.objs.size ≤ s.heap.objs.size := Nat.le_trans I.ok.above (Nat.le_of_lt I.lt)
theorem Inv.nofs (I : Inv X pins σ H s) {a : Addr} (h : s.heap.objs.size ≤ a) : a ∉ X.fs := fun hb => by
  obtain ⟨_, o, ho, _⟩ := I.ok.funs.mem hb
  exact absurd (Nat.lt_of_lt_of_le (Heap.lt_size ho) (Nat.le_trans I.sz h)) (Nat.lt_irrefl _)
theorem Inv.cne (I : Inv X pins σ H s) : ∀ x c, X.env.cells.lookup x = some c → c ≠ X.env.locals := fun x c e z => by
  obtain ⟨v, o, ho, hd⟩ := I.cell x c e
  obtain ⟨m, ⟨o', es, ep, ho', hd', _⟩, _⟩ := I.loc
  rw [z, ho'] at ho; cases ho; rw [hd'] at hd; cases hd
theorem Inv.funs (I : Inv X pins σ H s) : s.heap.FunFrames X.base X.outer := by
  have all : ∀ (l : List Env), (∀ b ∈ frs l, b ∈ X.fs) → X.s₀.heap.FunFrames X.base l → s.heap.FunFrames X.base l := by
    intro l
    induction l with
    | nil => intro _ _; trivial
    | cons env r ih =>
      intro hs hl
      obtain ⟨hk, ⟨L, o, hf, hn, ho, hd⟩, hr⟩ := hl
      have hL : L ∈ X.fs := hs L (by unfold frs; rw [List.filterMap_cons, hf]; exact List.mem_cons_self)
      obtain ⟨sl, e⟩ := I.base.slot L o ho (I.ok.frf L hL) hL fun z => I.ok.exfs L z hL
      exact ⟨hk, ⟨L, _, hf, hn, e, hd⟩, ih (fun b hb => hs b (by unfold frs; rw [List.filterMap_cons, hf]; exact List.mem_cons_of_mem _ hb)) hr⟩
  exact all X.outer (fun _ hb => hb) I.ok.funs

/-- the frames that run, for a call -/
theorem Inv.stack (I : Inv X pins σ H s) : s.heap.FunFrames X.base X.stack := by
  rcases I.ok.stk with e | ⟨e, hf⟩
  · rw [e]; exact I.funs
  · rw [e]
    obtain ⟨m, hn, _⟩ := I.loc
    refine .cons (by rw [I.ok.kind]; decide) hf hn ?_ I.funs
    exact Heap.get?_none_of_le (Nat.le_trans I.ok.bsz I.ok.above)
theorem Inv.stkSub (I : Inv X pins σ H s) : ∀ b ∈ frs X.stack, b ∈ X.env.locals :: X.fs := fun b hb => by
  rcases I.ok.stk with e | ⟨e, hf⟩
  · rw [e] at hb; exact List.mem_cons_of_mem _ hb
  · rw [e] at hb
    unfold frs at hb
    rw [List.filterMap_cons, hf] at hb
    exact hb
theorem Inv.stkFree (I : Inv X pins σ H s) : ∀ b ∈ frs X.stack, H b = none := fun b hb => by
  rcases List.mem_cons.mp (I.stkSub b hb) with e | hb
  · rw [e]; exact I.free
  · obtain ⟨_, o, ho, _⟩ := I.ok.funs.mem hb
    exact I.base.free b o ho (I.ok.frf b hb) fun z => I.ok.exfs b z hb

/-- THE STEP: the untracked objects but the frame and the records at ch are kept (the callers' frames up to slots), the frame's map is kept, the new abstract heap is held -/
theorem Inv.step {g' : Array GenState} {t' : Nat} {d' : Drawn} {ch : List Addr} (I : Inv X pins σ H s)
    (hch : ∀ b ∈ ch, (b ∈ X.ex ∨ X.s₀.heap.objs.size ≤ b) ∧ b ≠ X.env.locals ∧ (∀ x c, X.env.cells.lookup x = some c → c ≠ b) ∧ ∀ p ∈ X.pn ++ pins, p.1 ≠ b)
    (keep : ∀ b o, b ≠ X.env.locals → b ∉ X.fs → b ∉ ch → s.heap.get? b = some o → H b = none → h'.get? b = some o)
    (slot : ∀ b o, b ≠ X.env.locals → b ∈ X.fs → b ∉ ch → s.heap.get? b = some o → H b = none → ∃ sl, h'.get? b = some { o with slots := sl }) (free : ∀ b o, b ∉ ch → s.heap.get? b = some o → H b = none → H' b = none)
    (there : ∀ b o, b ∉ ch → s.heap.get? b = some o → ∃ o', h'.get? b = some o')
    (tups : ∀ b xs, H b = some (.tup xs) → H' b = some (.tup xs)) (frzs : ∀ b o u, H b = some (.frz o u) → H' b = some (.frz o u)) (tbls : ∀ b ps, H b = some (.tbl ps) → ∃ more, H' b = some (.tbl (ps ++ more)))
    (ns : ∀ m, s.heap.Ns X.env.locals m → h'.Ns X.env.locals m) (hok : HOk X.prog X.w H' h') (hg : AllBare g') :
    Inv X pins σ H' { s with heap := h', gens := g', drawn := d', toks := t' } := by
  have neL : ∀ b o, X.s₀.heap.get? b = some o → b ≠ X.env.locals := fun b o e => Nat.ne_of_lt (Nat.lt_of_lt_of_le (Heap.lt_size e) I.ok.above)
  have neC : ∀ b o, X.s₀.heap.get? b = some o → b ∉ X.ex → b ∉ ch := fun b o e hx hb => by
    rcases (hch b hb).1 with z | z
    · exact hx z
    · exact absurd (Nat.lt_of_lt_of_le (Heap.lt_size e) z) (Nat.lt_irrefl _)
  have cellK : ∀ x c, X.env.cells.lookup x = some c → ∀ v, s.heap.IsCell c v → h'.IsCell c v := fun x c e v ⟨o, ho, hd⟩ => by
    have nch : c ∉ ch := fun z => (hch c z).2.2.1 x c e rfl
    by_cases hc : c ∈ X.fs
    · obtain ⟨sl, q⟩ := slot c o (I.cne x c e) hc nch ho (I.freeC x c e)
      exact ⟨_, q, hd⟩
    · exact ⟨o, keep c o (I.cne x c e) hc nch ho (I.freeC x c e), hd⟩
  refine ⟨I.ok, I.os, hg, ⟨fun b o e n hb hx => ?_, fun b o e n hb hx => ?_, fun b o e n hx => ?_, fun b o e hx => ?_, fun b xs e => tups b xs (I.base.tups b xs e), fun b o xs e => frzs b o xs (I.base.frzs b o xs e), fun b ps e => ?_⟩, ?_, fun x c e => ?_, ?_, fun x c e => ?_, fun p hp => ?_, hok, I.len⟩
  · exact keep b o (neL b o e) hb (neC b o e hx) (I.base.keep b o e n hb hx) (I.base.free b o e n hx)
  · obtain ⟨sl, e1⟩ := I.base.slot b o e n hb hx
    obtain ⟨sl', e2⟩ := slot b _ (neL b o e) hb (neC b o e hx) e1 (I.base.free b o e n hx)
    exact ⟨sl', e2⟩
  · obtain ⟨o', e1⟩ := I.base.there b o e hx
    exact free b o' (neC b o e hx) e1 (I.base.free b o e n hx)
  · obtain ⟨o', e1⟩ := I.base.there b o e hx
    exact there b o' (neC b o e hx) e1
  · obtain ⟨m1, e1⟩ := I.base.tbls b ps e
    obtain ⟨m2, e2⟩ := tbls b _ e1
    exact ⟨m1 ++ m2, by rw [e2, Array.append_assoc]⟩
  · obtain ⟨m, hn, hl⟩ := I.loc
    refine ⟨m, ns m hn, fun i x v e1 e2 e3 => ?_⟩
    obtain ⟨u, r, l⟩ := hl i x v e1 e2 e3
    refine ⟨u, r, ?_⟩
    rcases l with l | ⟨k, c, e, z⟩
    · exact .inl l
    · exact .inr ⟨k, c, e, cellK x c e _ z⟩
  · obtain ⟨v, z⟩ := I.cell x c e
    exact ⟨v, cellK x c e v z⟩
  · obtain ⟨m, ⟨o, _, _, ho, _⟩, _⟩ := I.loc
    exact free _ o (fun z => (hch _ z).2.1 rfl) ho I.free
  · obtain ⟨v, o, ho, hd⟩ := I.cell x c e
    exact free c o (fun z => (hch c z).2.2.1 x c e rfl) ho (I.freeC x c e)
  · obtain ⟨e, n, ne, nf, d⟩ := I.pin p hp
    have nch : p.1 ∉ ch := fun z => (hch p.1 z).2.2.2 p hp rfl
    exact ⟨keep p.1 p.2 ne nf nch e n, free p.1 p.2 nch e n, ne, nf, d⟩
/-- .. where the frame's own object is kept too -/
theorem Inv.un {t' : Nat} (I : Inv X pins σ H s) (u : Un X.fs [] H H' s.heap h') (hok : HOk X.prog X.w H' h') : Inv X pins σ H' { s with heap := h', toks := t' } := by
  obtain ⟨m, ⟨o, es, ep, ho, r⟩, _⟩ := id I.loc
  obtain ⟨sl, hL⟩ := u.any ho I.free (by simp)
  exact I.step (g' := s.gens) (d' := s.drawn) (ch := []) (fun _ z => nomatch z) (fun b o _ hb _ e n => u.keep b o e n hb (by simp)) (fun b o _ hb _ e n => u.slot b o e n hb (by simp)) (fun b o _ e n => u.free b o e n (by simp)) (fun b o _ e => u.there b o e (by simp)) u.tups u.frzs u.tbls (fun m' hm => by
    obtain ⟨o', es', ep', ho', r'⟩ := hm
    rw [ho] at ho'; cases ho'
    exact ⟨_, es', ep', hL, r'⟩) hok I.bare
/-- behind a call (or a comprehension's block): the slots of this frame may have changed too, the records at ch may have turned -/
theorem Inv.call {g' : Array GenState} {t' : Nat} {d' : Drawn} {ch : List Addr} (I : Inv X pins σ H s) (u : Un (frs X.stack) ch H H' s.heap h') (hok : HOk X.prog X.w H' h') (hg : AllBare g')
    (hch : ∀ b ∈ ch, (b ∈ X.ex ∨ X.s₀.heap.objs.size ≤ b) ∧ b ≠ X.env.locals ∧ (∀ x c, X.env.cells.lookup x = some c → c ≠ b) ∧ ∀ p ∈ X.pn ++ pins, p.1 ≠ b) :
    Inv X pins σ H' { s with heap := h', gens := g', drawn := d', toks := t' } := by
  obtain ⟨m, ⟨o, es, ep, ho, r⟩, _⟩ := id I.loc
  obtain ⟨sl, hL⟩ := u.any ho I.free fun z => (hch _ z).2.1 rfl
  exact I.step (ch := ch) hch (fun b o hL hb hc e n => u.keep b o e n (fun z => (List.mem_cons.mp (I.stkSub b z)).elim hL hb) hc) (fun b o _ _ hc e n => u.any e n hc) (fun b o hc e n => u.free b o e n hc) (fun b o hc e => u.there b o e hc) u.tups u.frzs u.tbls (fun m' hm => by
    obtain ⟨o', es', ep', ho', r'⟩ := hm
    rw [ho] at ho'; cases ho'
    exact ⟨_, es', ep', hL, r'⟩) hok hg
/-- an untracked record of ours (an iterator) has turned -/
theorem Inv.turned {t' : Nat} {it : Addr} (I : Inv X pins σ H s) (k : ∀ b o, b ≠ it → s.heap.get? b = some o → h'.get? b = some o) (hn : H it = none) (hL : it ≠ X.env.locals)
    (h1 : it ∈ X.ex ∨ X.s₀.heap.objs.size ≤ it) (h2 : ∀ x c, X.env.cells.lookup x = some c → c ≠ it) (h3 : ∀ p ∈ X.pn ++ pins, p.1 ≠ it) : Inv X pins σ H { s with heap := h', toks := t' } := by
  have nit : ∀ b u, H b = some u → b ≠ it := fun b u e z => by rw [z, hn] at e; cases e
  refine I.step (g' := s.gens) (d' := s.drawn) (ch := [it]) (fun b hb => ?_) (fun b o _ _ hc e _ => k b o (fun z => hc (by simp [z])) e) (fun b o _ _ hc e _ => ⟨o.slots, k b o (fun z => hc (by simp [z])) e⟩) (fun _ _ _ _ n => n)
    (fun b o hc e => ⟨o, k b o (fun z => hc (by simp [z])) e⟩) (fun _ _ e => e) (fun _ _ _ e => e) (fun b ps e => ⟨#[], by rw [e]; simp⟩) (fun m hm => ?_) (fun b u e => ?_) I.bare
  · have e : b = it := by simpa using hb
    subst e
    exact ⟨h1, hL, h2, h3⟩
  · obtain ⟨o, es, ep, ho, r⟩ := hm
    exact ⟨o, es, ep, k _ o (Ne.symm hL) ho, r⟩
  · refine (I.hok b u e).stay (fun c v hc q => k c v ?_ q) (fun _ q => q) fun _ _ q => q
    rcases hc with z | z
    · rw [z]; exact nit b u e
    · exact nit c _ z
theorem Inv.tok (I : Inv X pins σ H s) (t : Nat) : Inv X pins σ H { s with toks := t } := I.un (h' := s.heap) (t' := t) Un.refl I.hok
/-- all objects kept -/
theorem Inv.kept {t' : Nat} (I : Inv X pins σ H s) (k : ∀ b u, s.heap.get? b = some u → h'.get? b = some u) : Inv X pins σ H { s with heap := h', toks := t' } := I.un (Un.kept k) (I.hok.kept k)
/-- a new object laid and tracked -/
theorem Inv.laid {a : Addr} {o : HO} {t' : Nat} (I : Inv X pins σ H s) (k : ∀ b u, s.heap.get? b = some u → h'.get? b = some u) (hp : s.heap.objs.size ≤ a) (new : ObjOk X.prog X.w (upd H a o) h' a o) :
    Inv X pins σ (upd H a o) { s with heap := h', toks := t' } := I.un (Un.laid k hp (I.hok.fresh hp)) (I.hok.laid k hp new)
/-- an object written -/
theorem Inv.write {x e : Addr} {o : HO} {t' : Nat} (I : Inv X pins σ H s) (mu : Mut (H x)) (he : e = x ∨ H e = some (.own x)) (k : ∀ b u, b ≠ e → s.heap.get? b = some u → h'.get? b = some u) (heo : ∃ u, h'.get? e = some u)
    (new : ObjOk X.prog X.w (upd H x o) h' x o) : Inv X pins σ (upd H x o) { s with heap := h', toks := t' } := I.un (Un.write mu he k heo) (I.hok.write mu he k heo new)
/-- forgetting slots, pins -/
theorem Inv.weak {σ' : List (Option V)} (I : Inv X pins σ H s) (hl : σ'.length = σ.length) (w : ∀ (i : Nat) v, σ'[i]? = some (some v) → σ[i]? = some (some v)) : Inv X pins σ' H s :=
  ⟨I.ok, I.os, I.bare, I.base, let ⟨m, hn, hl'⟩ := I.loc; ⟨m, hn, fun i x v e1 e2 e3 => hl' i x v e1 (w i v e2) e3⟩, I.cell, I.free, I.freeC, I.pin, I.hok, hl.trans I.len⟩
theorem Inv.pins_of {pins' : List (Addr × Obj)} (I : Inv X pins σ H s) (h : ∀ p ∈ pins', s.heap.get? p.1 = some p.2 ∧ H p.1 = none ∧ p.1 ≠ X.env.locals ∧ p.1 ∉ X.fs ∧ ∀ v, p.2.data ≠ .cell v) : Inv X pins' σ H s :=
  ⟨I.ok, I.os, I.bare, I.base, I.loc, I.cell, I.free, I.freeC, fun p hp => (List.mem_append.mp hp).elim (fun z => I.pin p (List.mem_append_left _ z)) (h p), I.hok, I.len⟩

theorem nodup_ix {N : List Str} (hN : N.Nodup) {i j : Nat} {x : Str} (a : N[i]? = some x) (b : N[j]? = some x) : i = j := by
  obtain ⟨h1, e1⟩ := List.getElem?_eq_some_iff.mp a
  obtain ⟨h2, e2⟩ := List.getElem?_eq_some_iff.mp b
  exact (List.getElem_inj hN).mp (e1.trans e2.symm)

/-- a name is stored; what changed -/
theorem store_ok2 {M : Model} {A : Around} {E : Value → Shared → Prop} {i : Nat} {x : Str} {v : V} {u : Value} {Q : Unit → Shared → Prop} (I : Inv X pins σ H s) (hN : X.N.Nodup) (hi : X.N[i]? = some x) (hx : Loc X.env.scope x) (r : RelV v u)
    (h : ∀ s', Inv X pins (σ.set i (some v)) H s' → (∃ a, Heap.SameBut a s.heap s'.heap ∧ (a = X.env.locals ∨ X.env.cells.lookup x = some a)) → Q () s') (hf : X.fn x = true ∨ X.env.scope.names.lookup x = some .local := by first | exact .inl rfl | exact .inr rfl | assumption) : wpAny M A (storeName X.env x u) Q E s := by
  obtain ⟨m, hn, hl⟩ := id I.loc
  have hcls : (X.env.scope.kind == .class || (X.env.scope.kind == .module && X.env.locals != X.env.globals)) = false := by rw [I.ok.kind]; rfl
  have hiσ : i < σ.length := by rw [I.len]; exact (List.getElem?_eq_some_iff.mp hi).1
  have cne := I.cne
  have tracked : ∀ {a : Addr} {h' : Heap}, (∃ o, s.heap.get? a = some o ∧ H a = none) → Heap.SameBut a s.heap h' → HOk X.prog X.w H h' := fun {a h'} ha hs b ob e => by
    obtain ⟨_, _, hfree⟩ := ha
    refine (I.hok b ob e).stay (fun c w' hc q => (hs.2 c ?_).trans q) (fun _ q => q) fun _ _ q => q
    rintro rfl
    rcases hc with rfl | hc
    · rw [hfree] at e; cases e
    · rw [hfree] at hc; cases hc
  rcases hx with hk | hk
  · refine wpAny_storeName_local hk hn (fun h' hn' hs => ?_) hcls
    obtain ⟨oL, _, _, hoL, _⟩ := id hn
    refine h _ ⟨I.ok, I.os, I.bare, ⟨fun b o e n hb hx => ?_, fun b o e n hb hx => ?_, I.base.free, fun b o e hx => ?_, I.base.tups, I.base.frzs, I.base.tbls⟩, ⟨_, hn', fun j y v' e1 e2 e3 => ?_⟩, fun y c e => ?_, I.free, I.freeC, fun p hp => ?_, tracked ⟨oL, hoL, I.free⟩ hs, by simpa using I.len⟩ ⟨_, hs, .inl rfl⟩
    · exact (hs.2 b (Nat.ne_of_lt (Nat.lt_of_lt_of_le (Heap.lt_size e) I.ok.above))).trans (I.base.keep b o e n hb hx)
    · obtain ⟨sl, e1⟩ := I.base.slot b o e n hb hx
      exact ⟨sl, (hs.2 b (Nat.ne_of_lt (Nat.lt_of_lt_of_le (Heap.lt_size e) I.ok.above))).trans e1⟩
    · obtain ⟨o', e1⟩ := I.base.there b o e hx
      exact ⟨o', (hs.2 b (Nat.ne_of_lt (Nat.lt_of_lt_of_le (Heap.lt_size e) I.ok.above))).trans e1⟩
    · by_cases hj : j = i
      · subst hj
        rw [hi] at e1; cases e1
        rw [List.getElem?_set_self hiσ] at e2
        cases e2
        exact ⟨u, r, .inl ⟨hk, by simp⟩⟩
      · rw [List.getElem?_set_ne (Ne.symm hj)] at e2
        obtain ⟨u', r', q⟩ := hl j y v' e1 e2 e3
        refine ⟨u', r', ?_⟩
        rcases q with ⟨k, e⟩ | ⟨k, c, e, z⟩
        · refine .inl ⟨k, ?_⟩
          have : y ≠ x := fun e => hj (nodup_ix hN e1 (e ▸ hi))
          simp [this, e]
        · exact .inr ⟨k, c, e, z.sameBut hs (cne y c e)⟩
    · obtain ⟨w', z⟩ := I.cell y c e
      exact ⟨w', z.sameBut hs (cne y c e)⟩
    · obtain ⟨e, n, ne, nf, d⟩ := I.pin p hp
      exact ⟨(hs.2 p.1 ne).trans e, n, ne, nf, d⟩
  · have hfn : X.fn x = true := by
      rcases hf with z | z
      · exact z
      · rw [z] at hk; cases hk
    obtain ⟨c, hc⟩ := I.ok.has x (.inl hk)
    obtain ⟨w', z⟩ := I.cell x c hc
    refine wpAny_storeName_cell I.ok.kind hk hc z (fun h' hc' hs => ?_)
    obtain ⟨oc, hoc, hocd⟩ := id z
    refine h { s with heap := h' } ⟨I.ok, I.os, I.bare, ⟨fun b o e n hb hx => ?_, fun b o e n hb hx => ?_, I.base.free, fun b o e hx => ?_, I.base.tups, I.base.frzs, I.base.tbls⟩, ⟨m, hn.sameBut hs (Ne.symm (cne x c hc)), fun j y v' e1 e2 e3 => ?_⟩, fun y c' e => ?_, I.free, I.freeC, fun p hp => ?_, tracked ⟨oc, hoc, I.freeC x c hc⟩ hs, by simpa using I.len⟩ ⟨c, hs, .inr hc⟩
    · exact (hs.2 b (Nat.ne_of_lt (Nat.lt_of_lt_of_le (Heap.lt_size e) (I.ok.cab x c hfn hc)))).trans (I.base.keep b o e n hb hx)
    · obtain ⟨sl, e1⟩ := I.base.slot b o e n hb hx
      exact ⟨sl, (hs.2 b (Nat.ne_of_lt (Nat.lt_of_lt_of_le (Heap.lt_size e) (I.ok.cab x c hfn hc)))).trans e1⟩
    · obtain ⟨o', e1⟩ := I.base.there b o e hx
      exact ⟨o', (hs.2 b (Nat.ne_of_lt (Nat.lt_of_lt_of_le (Heap.lt_size e) (I.ok.cab x c hfn hc)))).trans e1⟩
    · by_cases hj : j = i
      · subst hj
        rw [hi] at e1; cases e1
        rw [List.getElem?_set_self hiσ] at e2
        cases e2
        exact ⟨u, r, .inr ⟨.inl hk, c, hc, hc'⟩⟩
      · rw [List.getElem?_set_ne (Ne.symm hj)] at e2
        obtain ⟨u', r', q⟩ := hl j y v' e1 e2 e3
        refine ⟨u', r', ?_⟩
        rcases q with q | ⟨k, c', e, z'⟩
        · exact .inl q
        · refine .inr ⟨k, c', e, z'.sameBut hs ?_⟩
          rintro rfl
          exact hj (nodup_ix hN e1 (I.ok.inj _ _ _ e hc ▸ hi))
    · by_cases hcc : c' = c
      · subst hcc; exact ⟨_, hc'⟩
      · obtain ⟨w2, z2⟩ := I.cell y c' e
        exact ⟨w2, z2.sameBut hs hcc⟩
    · obtain ⟨e, n, ne, nf, d⟩ := I.pin p hp
      refine ⟨(hs.2 p.1 ?_).trans e, n, ne, nf, d⟩
      intro q
      rw [q, hoc] at e
      have q' : oc = p.2 := Option.some.inj e
      exact d w' (by rw [← q']; exact hocd)
theorem store_ok {M : Model} {A : Around} {E : Value → Shared → Prop} {i : Nat} {x : Str} {v : V} {u : Value} {Q : Unit → Shared → Prop} (I : Inv X pins σ H s) (hN : X.N.Nodup) (hi : X.N[i]? = some x) (hx : Loc X.env.scope x) (r : RelV v u)
    (h : ∀ s', Inv X pins (σ.set i (some v)) H s' → Q () s') (hf : X.fn x = true ∨ X.env.scope.names.lookup x = some .local := by first | exact .inl rfl | exact .inr rfl | assumption) : wpAny M A (storeName X.env x u) Q E s :=
  store_ok2 I hN hi hx r (fun s' I' _ => h s' I') hf
/-- behind a call or a block, the state as it is -/
theorem Inv.call' {s' : Shared} {ch : List Addr} (I : Inv X pins σ H s) (ho : s'.os = s.os) (u : Un (frs X.stack) ch H H' s.heap s'.heap) (hok : HOk X.prog X.w H' s'.heap) (hg : AllBare s'.gens)
    (hch : ∀ b ∈ ch, (b ∈ X.ex ∨ X.s₀.heap.objs.size ≤ b) ∧ b ≠ X.env.locals ∧ (∀ x c, X.env.cells.lookup x = some c → c ≠ b) ∧ ∀ p ∈ X.pn ++ pins, p.1 ≠ b) : Inv X pins σ H' s' := by
  obtain ⟨h', g', d', t', o'⟩ := s'
  have e : o' = s.os := ho
  subst e
  exact I.call (g' := g') (t' := t') (d' := d') u hok hg hch
end

/-! ### the judgements -/
/-- an exception: its class, its own dict's address (where it has one), the abstract heap behind it -/
abbrev XK := Value → Option Addr → Hp → Prop
abbrev St := List (Option V)
abbrev VK := V → Hp → Prop
/-- an expression's reading; a test's; an argument list's -/
abbrev TE := St → Hp → VK → Prop
abbrev TT := St → Hp → (Bool → Hp → Prop) → Prop
abbrev TA := St → Hp → (List V → Hp → Prop) → Prop
/-- what is wanted behind a statement -/
structure Ends where
  nx : St → Hp → Prop
  rt : VK
  bk : St → Hp → Prop := fun _ _ => False
  ct : St → Hp → Prop := fun _ _ => False
abbrev TS := Ends → St → Hp → Prop

def EP (X : Cx) (pins : List (Addr × Obj)) (σ : St) (Q : VK) (u : Value) (s' : Shared) : Prop := ∃ v H', Inv X pins σ H' s' ∧ RelV v u ∧ Q v H'
def TP (X : Cx) (pins : List (Addr × Obj)) (σ : St) (Q : Bool → Hp → Prop) (b : Bool) (s' : Shared) : Prop := ∃ H', Inv X pins σ H' s' ∧ Q b H'
def AP (X : Cx) (pins : List (Addr × Obj)) (σ : St) (Q : List V → Hp → Prop) (us : List Value) (s' : Shared) : Prop := ∃ vs H', Inv X pins σ H' s' ∧ Vals vs us ∧ Q vs H'
def SP (X : Cx) (pins : List (Addr × Obj)) (D : Ends) (f : Flow) (s' : Shared) : Prop :=
  match f with
  | .next => ∃ σ' H', Inv X pins σ' H' s' ∧ D.nx σ' H'
  | .brk => ∃ σ' H', Inv X pins σ' H' s' ∧ D.bk σ' H'
  | .cont => ∃ σ' H', Inv X pins σ' H' s' ∧ D.ct σ' H'
  | .ret u => ∃ v σ' H', Inv X pins σ' H' s' ∧ RelV v u ∧ D.rt v H'

def PE (X : Cx) (e : Expr) (t : TE) : Prop :=
  ∀ (pins : List (Addr × Obj)) (s : Shared) (σ : St) (H : Hp) (Q : VK), Inv X pins σ H s → t σ H Q → wpAny (model X.prog X.w) X.A (eval e X.env) (EP X pins σ Q) X.xe s
def PT (X : Cx) (e : Expr) (t : TT) : Prop :=
  ∀ (pins : List (Addr × Obj)) (s : Shared) (σ : St) (H : Hp) (Q : Bool → Hp → Prop), Inv X pins σ H s → t σ H Q → wpAny (model X.prog X.w) X.A (isTrue e X.env (eval e X.env)) (TP X pins σ Q) X.xe s
/-- a test whatever its 'whole' is (and, or) -/
def PW (X : Cx) (e : Expr) (t : TT) : Prop :=
  ∀ (whole : Sem Value) (pins : List (Addr × Obj)) (s : Shared) (σ : St) (H : Hp) (Q : Bool → Hp → Prop), Inv X pins σ H s → t σ H Q → wpAny (model X.prog X.w) X.A (isTrue e X.env whole) (TP X pins σ Q) X.xe s
theorem PW.pt {X : Cx} {e : Expr} {t : TT} (h : PW X e t) : PT X e t := h _
/-- an argument list (no star), from the left -/
def PA (X : Cx) (es : List Expr) (t : TA) : Prop :=
  ∀ (pos : Pos) (pins : List (Addr × Obj)) (s : Shared) (σ : St) (H : Hp) (Q : List V → Hp → Prop), Inv X pins σ H s → t σ H Q → wpAny (model X.prog X.w) X.A (spliced (backTo pos (starEach es X.env))) (AP X pins σ Q) X.xe s
def PS (X : Cx) (st : Stmt) (t : TS) : Prop :=
  ∀ (pins : List (Addr × Obj)) (s : Shared) (σ : St) (H : Hp) (D : Ends), Inv X pins σ H s → t D σ H → wpAny (model X.prog X.w) X.A (exec st X.env) (SP X pins D) X.xe s
def PSs (X : Cx) (st : List Stmt) (t : TS) : Prop :=
  ∀ (pins : List (Addr × Obj)) (s : Shared) (σ : St) (H : Hp) (D : Ends), Inv X pins σ H s → t D σ H → wpAny (model X.prog X.w) X.A (execs st X.env) (SP X pins D) X.xe s
/-- weaken the end -/
theorem thn {α : Type} {t : Sem α} {Q Q' : α → Shared → Prop} {M : Model} {A : Around} {E : Value → Shared → Prop} {s : Shared} (h : wpAny M A t Q E s) (hQ : ∀ a s, Q a s → Q' a s) : wpAny M A t Q' E s := wpAny_mono h hQ fun _ _ x => x
end L2

namespace L2
open PySem PySem.Spec PyProof.Rows
section
variable {X : Cx}

/-! ### names and constants -/
def tVar (i : Nat) : TE := fun σ H Q => ∃ v, σ[i]? = some (some v) ∧ Q v H
def tC (v : V) : TE := fun _ H Q => Q v H
theorem pe_var {i : Nat} {x : Str} {pos : Pos} (hN : X.N[i]? = some x) (hv : Vis X.env.scope x) (hd : (x == ("__debug__" : Str)) = false := by decide) (hcd : (x == ("__classdict__" : Str)) = false := by decide) : PE X (.Name x pos) (tVar i) := by
  intro pins s σ H Q I h
  obtain ⟨v, e, h⟩ := h
  obtain ⟨m, hn, hl⟩ := I.loc
  obtain ⟨u, r, l⟩ := hl i x v hN e hv
  have fin : EP X pins σ Q u s := ⟨v, H, I, r, h⟩
  rcases l with ⟨hk, hm⟩ | ⟨hk, c, hc, hcell⟩
  · exact wpAny_Name (wpAny_loadName_local I.ok.kind hk hn hm fin) hd
  · rcases hk with hk | hk
    · exact wpAny_Name (wpAny_loadName_cell I.ok.kind hk hc hcell fin) hd
    · exact wpAny_Name (wpAny_loadName_free I.ok.kind hk hc hcell fin hcd) hd
theorem pe_int {i j pos} : PE X (.Constant (.int i) j pos) (tC (.int i)) := fun _ _ _ H _ I h => wpAny_Constant_int ⟨.int i, H, I.tok _, ⟨_, rfl⟩, h⟩
theorem pe_bl {b j pos} : PE X (.Constant (.bool b) j pos) (tC (.bl b)) := fun _ _ _ H _ I h => Constant_bool ⟨.bl b, H, I, rfl, h⟩
theorem pe_str {x j pos} : PE X (.Constant (.str x) j pos) (tC (.str x)) := fun _ _ _ H _ I h => Calls.Constant_str ⟨.str x, H, I.tok _, ⟨_, rfl⟩, h⟩

/-- a global name of the def -/
def Gl (X : Cx) (x : Str) : Prop := X.env.kindOf x = some .globalImplicit
theorem ld_glob {E : Value → Shared → Prop} {pins : List (Addr × Obj)} {s : Shared} {σ : St} {H : Hp} {x : Str} {u : Value} {pos : Pos} {Q : Value → Shared → Prop} (I : Inv X pins σ H s) (hg : Gl X x) (hm : X.mg x = some u) (h : Q u s)
    (hd : (x == ("__debug__" : Str)) = false := by decide) : wpAny (model X.prog X.w) X.A (eval (.Name x pos) X.env) Q E s :=
  Calls.Name_function_global I.ok.kind hg (Calls.loadGlobal_global (by rw [I.ok.glob]; exact I.mod.glob.keeps I.bk) hm h) hd
theorem ld_blt {E : Value → Shared → Prop} {pins : List (Addr × Obj)} {s : Shared} {σ : St} {H : Hp} {x : Str} {u : Value} {pos : Pos} {Q : Value → Shared → Prop} (I : Inv X pins σ H s) (hg : Gl X x) (hm : X.mg x = none) (hv : bootBuiltins x = some u) (h : Q u s)
    (hn : x ≠ "__name__" := by decide) (hd : (x == ("__debug__" : Str)) = false := by decide) : wpAny (model X.prog X.w) X.A (eval (.Name x pos) X.env) Q E s := by
  obtain ⟨mb, h1, h2⟩ := I.mod.blt
  exact Calls.Name_function_global I.ok.kind hg (Calls.loadGlobal_builtin (by rw [I.ok.glob]; exact I.mod.glob.keeps I.bk) hm (by rw [I.ok.blt]; exact h1.keeps I.bk) ((h2 x hn).trans hv) h) hd
/-- a module's constant, a class, a function, as a value -/
theorem pe_glob {x : Str} {v : V} {u : Value} {pos : Pos} (hg : Gl X x) (hm : X.mg x = some u) (r : RelV v u) (hd : (x == ("__debug__" : Str)) = false := by decide) : PE X (.Name x pos) (tC v) :=
  fun _ _ _ H _ I h => ld_glob I hg hm ⟨v, H, I, r, h⟩ hd
theorem pe_bltn {x : Str} {v : V} {u : Value} {pos : Pos} (hg : Gl X x) (hm : X.mg x = none) (hv : bootBuiltins x = some u) (r : RelV v u) (hn : x ≠ "__name__" := by decide) (hd : (x == ("__debug__" : Str)) = false := by decide) : PE X (.Name x pos) (tC v) :=
  fun _ _ _ H _ I h => ld_blt I hg hm hv ⟨v, H, I, r, h⟩ hn hd

/-! ### arithmetic -/
/-- two ints -/
def t2I (ta tb : TE) (k : Int → Int → Hp → Prop) : St → Hp → Prop := fun σ H => ta σ H fun x H1 => tb σ H1 fun y H2 => ∃ i j, x = .int i ∧ y = .int j ∧ k i j H2
def tAdd (ta tb : TE) : TE := fun σ H Q => t2I ta tb (fun i j H2 => Q (.int (i + j)) H2) σ H
def tSub (ta tb : TE) : TE := fun σ H Q => t2I ta tb (fun i j H2 => Q (.int (i - j)) H2) σ H
/-- the left factor below 2^64 -/
def tMul (ta tb : TE) : TE := fun σ H Q => t2I ta tb (fun i j H2 => (-(2 ^ 64) < i ∧ i < 2 ^ 64) ∧ Q (.int (i * j)) H2) σ H
variable {a b : Expr} {ta tb : TE} {pos : Pos}
/-! ### comparisons -/
def PC (X : Cx) (op : CmpOp) (a b : Expr) (t : TE) : Prop :=
  ∀ (pins : List (Addr × Obj)) (s : Shared) (σ : St) (H : Hp) (Q : VK), Inv X pins σ H s → t σ H Q →
    wpAny (model X.prog X.w) X.A (eval a X.env) (fun v s₁ => wpAny (model X.prog X.w) X.A (eval b X.env) (fun u s₂ => wpAny (model X.prog X.w) X.A (compareOp op v u) (EP X pins σ Q) X.xe s₂) X.xe s₁) X.xe s
def tCmp (p : Int → Int → Bool) (ta tb : TE) : TE := fun σ H Q => t2I ta tb (fun i j H2 => Q (.bl (p i j)) H2) σ H
abbrev tLt : TE → TE → TE := tCmp fun i j => decide (i < j)
abbrev tLe : TE → TE → TE := tCmp fun i j => decide (i ≤ j)
abbrev tGt : TE → TE → TE := tCmp fun i j => decide (j < i)
abbrev tGe : TE → TE → TE := tCmp fun i j => decide (j ≤ i)
abbrev tEqI : TE → TE → TE := tCmp fun i j => decide (i = j)
abbrev tNeI : TE → TE → TE := tCmp fun i j => !decide (i = j)
/-- is None -/
def tIsN (ta : TE) : TE := fun σ H Q => ta σ H fun x H1 => Q (.bl (decide (x = .non))) H1
def tNotN (ta : TE) : TE := fun σ H Q => ta σ H fun x H1 => Q (.bl (!decide (x = .non))) H1
/-- a comparison as a value, as a test -/
def tB (t : TE) : TT := fun σ H Q => t σ H fun x H1 => ∃ c, x = .bl c ∧ Q c H1
/-- an expression whose value is a bool, as a test -/
theorem pt_val {e : Expr} {t : TE} (h : PE X e t) (he : ∀ whole, isTrue e X.env whole = (do let v ← whole; standAt e.pos; holding [v] (truthy v)) := by intro _; rfl) : PT X e (tB t) := by
  intro pins s σ H Q I hw
  refine isTrue_plain (thn (h pins s σ H _ I hw) fun v s1 ⟨x, H1, I1, r1, q1⟩ => ?_) (he _)
  obtain ⟨d, rfl, q⟩ := q1
  cases r1
  exact wpAny_truthy_bool ⟨H1, I1, q⟩

/-! ### and, or, not -/
variable {tA tB' : TT} {rest : List Expr}
def tAnd (t u : TT) : TT := fun σ H Q => t σ H fun c H1 => if c = true then u σ H1 Q else Q false H1
def tOr (t u : TT) : TT := fun σ H Q => t σ H fun c H1 => if c = true then Q true H1 else u σ H1 Q
def tNot (t : TT) : TT := fun σ H Q => t σ H fun c H1 => Q (!c) H1
theorem pw_or1 (ha : PT X a tA) : PW X (.BoolOp .Or [a] pos) tA := by
  intro wh pins s σ H Q I h
  refine isTrue_or (thn (ha pins s σ H Q I h) fun c s1 e => ?_)
  cases c with
  | false => exact isTrue_or_nil e
  | true => exact e
theorem pw_or (ha : PT X a tA) (hb : PW X (.BoolOp .Or (b :: rest) pos) tB') : PW X (.BoolOp .Or (a :: b :: rest) pos) (tOr tA tB') := by
  intro wh pins s σ H Q I h
  refine isTrue_or (thn (ha pins s σ H _ I h) fun c s1 ⟨H1, I1, q1⟩ => ?_)
  cases c with
  | true => exact ⟨H1, I1, q1⟩
  | false => exact hb wh pins s1 σ H1 Q I1 q1
theorem pt_not (ha : PT X a tA) : PT X (.UnaryOp .Not a pos) (tNot tA) := by
  intro pins s σ H Q I h
  exact isTrue_not (ha pins s σ H (fun c H1 => Q (!c) H1) I h)
/-- .. as values (bools) -/
def tAndV (ta tb : TE) : TE := fun σ H Q => ta σ H fun x H1 => ∃ c, x = .bl c ∧ if c = true then tb σ H1 Q else Q (.bl false) H1
def tOrV (ta tb : TE) : TE := fun σ H Q => ta σ H fun x H1 => ∃ c, x = .bl c ∧ if c = true then Q (.bl true) H1 else tb σ H1 Q
def tNotV (ta : TE) : TE := fun σ H Q => ta σ H fun x H1 => ∃ c, x = .bl c ∧ Q (.bl (!c)) H1
theorem pe_one {op} {t : TE} (h : PE X a t) : PE X (.BoolOp op [a] pos) t := fun pins s σ H Q I hw => BoolOp_one (h pins s σ H Q I hw)
theorem pe_and (ha : PE X a ta) (hb : PE X (.BoolOp .And (b :: rest) pos) tb) : PE X (.BoolOp .And (a :: b :: rest) pos) (tAndV ta tb) := by
  intro pins s σ H Q I h
  refine BoolOp_and (thn (ha pins s σ H _ I h) fun v s1 ⟨x, H1, I1, r1, q1⟩ => ?_)
  obtain ⟨c, rfl, q1⟩ := q1
  cases r1
  refine wpAny_truthy_bool ?_
  cases c with
  | true => exact hb pins s1 σ H1 Q I1 q1
  | false => exact ⟨.bl false, H1, I1, rfl, q1⟩
theorem pe_or (ha : PE X a ta) (hb : PE X (.BoolOp .Or (b :: rest) pos) tb) : PE X (.BoolOp .Or (a :: b :: rest) pos) (tOrV ta tb) := by
  intro pins s σ H Q I h
  refine BoolOp_or (thn (ha pins s σ H _ I h) fun v s1 ⟨x, H1, I1, r1, q1⟩ => ?_)
  obtain ⟨c, rfl, q1⟩ := q1
  cases r1
  refine wpAny_truthy_bool ?_
  cases c with
  | false => exact hb pins s1 σ H1 Q I1 q1
  | true => exact ⟨.bl true, H1, I1, rfl, q1⟩
theorem pe_not (ha : PE X a ta) : PE X (.UnaryOp .Not a pos) (tNotV ta) := by
  intro pins s σ H Q I h
  refine UnaryOp_ (thn (ha pins s σ H _ I h) fun v s1 ⟨x, H1, I1, r1, q1⟩ => ?_)
  obtain ⟨c, rfl, q1⟩ := q1
  cases r1
  exact not_of (wpAny_truthy_bool ⟨.bl (!c), H1, I1, rfl, q1⟩)
/-- a if t else b -/
def tIf (t : TT) (ta tb : TE) : TE := fun σ H Q => t σ H fun c H1 => if c = true then ta σ H1 Q else tb σ H1 Q
end
end L2

namespace L2
open PySem PySem.Spec PyProof.Rows

/-! ### a list, a tuple that is read: tracked, frozen, or an object of the module -/
def SqL (K : PySem.W.Frag) (H : Hp) (a : Addr) (xs : List V) : Prop :=
  Rd H a (.lst xs) ∨
    ∃ (o : Obj) (its : Array Value) (n : Nat), K.lookup a = some o ∧ o.cls = .type "list" ∧ o.dict = none ∧ o.data = .seq its n ∧ its.size ≤ sizeLine ∧ Vals xs its.toList
def SqT (K : PySem.W.Frag) (H : Hp) (a : Addr) (xs : List V) : Prop :=
  Rd H a (.tup xs) ∨
    ∃ (o : Obj) (its : Array Value) (n : Nat), K.lookup a = some o ∧ o.cls = .type "tuple" ∧ o.data = .seq its n ∧ its.size ≤ sizeLine ∧ Vals xs its.toList
def absV : Value → Option V
  | .none => some .non
  | .bool b => some (.bl b)
  | .int i _ => some (.int i)
  | .str x _ => some (.str x)
  | .bytes b _ => some (.byt b)
  | .float b _ => some (.flt b)
  | .ref a => some (.ref a)
  | .type n => some (.ty n)
  | _ => none
theorem RelV.abs {x : V} {u : Value} (r : RelV x u) : absV u = some x := by
  cases x with
  | non => cases r; rfl
  | bl _ => cases r; rfl
  | int _ => obtain ⟨t, rfl⟩ := r; rfl
  | str _ => obtain ⟨t, rfl⟩ := r; rfl
  | byt _ => obtain ⟨t, rfl⟩ := r; rfl
  | flt _ => obtain ⟨t, rfl⟩ := r; rfl
  | ref _ => cases r; rfl
  | ty _ => cases r; rfl
theorem RelV.inj {x y : V} {u : Value} (r : RelV x u) (q : RelV y u) : x = y := Option.some.inj (r.abs.symm.trans q.abs)
theorem Vals.inj : ∀ {xs ys : List V} {us : List Value}, Vals xs us → Vals ys us → xs = ys
  | _, _, _, .nil, .nil => rfl
  | _, _, _, .cons r t, .cons r' t' => by rw [r.inj r', Vals.inj t t']
section
variable {X : Cx} {pins : List (Addr × Obj)} {σ : St} {H : Hp} {s : Shared} {a : Addr} {xs ys : List V}
theorem SqL.of {K : PySem.W.Frag} (h : H a = some (.lst xs)) : SqL K H a xs := .inl (.inl h)
theorem SqT.of {K : PySem.W.Frag} (h : H a = some (.tup xs)) : SqT K H a xs := .inl (.inl h)
theorem Inv.list (I : Inv X pins σ H s) (h : SqL X.K H a xs) : ∃ its : List Value, Vals xs its ∧ PlainL s.heap a its.toArray ∧ xs.length ≤ sizeLine := by
  rcases h with h | ⟨o, its, n, hk, hc, hd, hs, hz, r⟩
  · obtain ⟨z, its, n, r, e⟩ := h.ok I.hok
    exact ⟨its, r, ⟨_, n, e, rfl, rfl, rfl⟩, z⟩
  · refine ⟨its.toList, r, ⟨o, n, I.kIn a o hk, hc, hd, by simpa using hs⟩, ?_⟩
    have e := r.length
    simp only [Array.length_toList] at e
    omega
theorem Inv.tuple (I : Inv X pins σ H s) (h : SqT X.K H a xs) : ∃ its : List Value, Vals xs its ∧ IsTup s.heap a its.toArray ∧ xs.length ≤ sizeLine := by
  rcases h with h | ⟨o, its, n, hk, hc, hs, hz, r⟩
  · obtain ⟨z, its, r, p⟩ := h.ok I.hok
    exact ⟨its, r, p, z⟩
  · refine ⟨its.toList, r, ⟨o, I.kIn a o hk, hc, n, by simpa using hs⟩, ?_⟩
    have e := r.length
    simp only [Array.length_toList] at e
    omega
theorem Inv.list_inj (I : Inv X pins σ H s) (h : SqL X.K H a xs) (h' : SqL X.K H a ys) : xs = ys := by
  obtain ⟨its, r, ⟨o, n, e, _, _, d⟩, _⟩ := I.list h
  obtain ⟨its', r', ⟨o', n', e', _, _, d'⟩, _⟩ := I.list h'
  rw [e] at e'; cases e'
  rw [d] at d'
  injection d' with d1 _
  have : its = its' := by simpa using congrArg Array.toList d1
  subst this
  exact r.inj r'
end

/-! ### another wish about exceptions -/
abbrev Cx.wish (X : Cx) (E : Value → Shared → Prop) : Cx := { X with xe := E }
/-- no exception leaves -/
abbrev Cx.nox (X : Cx) : Cx := X.wish fun _ _ => False
theorem Cx.Ok.wish {X : Cx} (ok : X.Ok) (E : Value → Shared → Prop) : (X.wish E).Ok :=
  ⟨ok.mod, ok.kind, ok.glob, ok.blt, ok.above, ok.inj, ok.has, ok.cab, ok.hd, ok.frames, ok.stk, ok.exf, ok.bs, ok.bsz, ok.noex, ok.exfs, ok.funs, ok.frf⟩
theorem Cx.Ok.unwish {X : Cx} {E : Value → Shared → Prop} (ok : (X.wish E).Ok) : X.Ok :=
  ⟨ok.mod, ok.kind, ok.glob, ok.blt, ok.above, ok.inj, ok.has, ok.cab, ok.hd, ok.frames, ok.stk, ok.exf, ok.bs, ok.bsz, ok.noex, ok.exfs, ok.funs, ok.frf⟩
section
variable {X : Cx} {pins : List (Addr × Obj)} {σ : St} {H : Hp} {s : Shared} {E : Value → Shared → Prop}
theorem Inv.wish (I : Inv X pins σ H s) (E : Value → Shared → Prop) : Inv (X.wish E) pins σ H s := ⟨I.ok.wish E, I.os, I.bare, I.base, I.loc, I.cell, I.free, I.freeC, I.pin, I.hok, I.len⟩
theorem Inv.unwish (I : Inv (X.wish E) pins σ H s) : Inv X pins σ H s := ⟨I.ok.unwish, I.os, I.bare, I.base, I.loc, I.cell, I.free, I.freeC, I.pin, I.hok, I.len⟩
theorem SP.unwish {D : Ends} {f : Flow} {s' : Shared} (h : SP (X.wish E) pins D f s') : SP X pins D f s' := by
  cases f with
  | next => obtain ⟨σ', H', I, q⟩ := h; exact ⟨σ', H', I.unwish, q⟩
  | brk => obtain ⟨σ', H', I, q⟩ := h; exact ⟨σ', H', I.unwish, q⟩
  | cont => obtain ⟨σ', H', I, q⟩ := h; exact ⟨σ', H', I.unwish, q⟩
  | ret u => obtain ⟨v, σ', H', I, r, q⟩ := h; exact ⟨v, σ', H', I.unwish, r, q⟩
theorem PE.nox {e : Expr} {t : TE} (h : PE X.nox e t) : PE X e t := fun pins s σ H Q I hw =>
  wpAny_mono (h pins s σ H Q (I.wish _) hw) (fun _ _ ⟨v, H', I', r, q⟩ => ⟨v, H', I'.unwish, r, q⟩) fun _ _ z => False.elim z
theorem PT.nox {e : Expr} {t : TT} (h : PT X.nox e t) : PT X e t := fun pins s σ H Q I hw =>
  wpAny_mono (h pins s σ H Q (I.wish _) hw) (fun _ _ ⟨H', I', q⟩ => ⟨H', I'.unwish, q⟩) fun _ _ z => False.elim z
theorem PSs.nox {st : List Stmt} {t : TS} (h : PSs X.nox st t) : PSs X st t := fun pins s σ H D I hw =>
  wpAny_mono (h pins s σ H D (I.wish _) hw) (fun _ _ q => q.unwish) fun _ _ z => False.elim z
end

/-! ### blocks and small statements -/
section
variable {X : Cx} {st : Stmt} {rest : List Stmt} {t u : TS} {e : Expr} {te : TE} {pos : Pos}
def tNext : TS := fun D σ H => D.nx σ H
def tSeq (t u : TS) : TS := fun D σ H => t { D with nx := u D } σ H
theorem pss_nil : PSs X [] tNext := fun _ _ σ H _ I h => wpAny_execs_nil ⟨σ, H, I, h⟩
theorem pss_cons (h1 : PS X st t) (h2 : PSs X rest u) : PSs X (st :: rest) (tSeq t u) := by
  intro pins s σ H D I h
  refine wpAny_execs_cons (thn (h1 pins s σ H { D with nx := u D } I h) fun f s1 q => ?_)
  cases f with
  | next =>
    obtain ⟨σ', H', I', q⟩ := q
    exact h2 pins s1 σ' H' D I' q
  | ret v => exact q
  | brk => exact q
  | cont => exact q
theorem pss_one (h1 : PS X st t) : PSs X [st] t := by
  intro pins s σ H D I h
  refine wpAny_execs_cons (thn (h1 pins s σ H D I h) fun f s1 q => ?_)
  cases f with
  | next => exact wpAny_execs_nil q
  | ret v => exact q
  | brk => exact q
  | cont => exact q
def tBreak : TS := fun D σ H => D.bk σ H
def tCont : TS := fun D σ H => D.ct σ H
/-- in a def's body nothing is shown -/
theorem Inv.quiet {pins : List (Addr × Obj)} {σ : St} {H : Hp} {s : Shared} (I : Inv X pins σ H s) : interactive X.env = false := by simp [interactive, I.ok.kind]
/-- an expression whose value is dropped -/
def tDrop (te : TE) : TS := fun D σ H => te σ H fun _ H1 => D.nx σ H1
theorem ps_expr (he : PE X e te) (hs : swapsWith e none pos.line X.env = pure false := by rfl) : PS X (.Expr e pos) (tDrop te) := by
  intro pins s σ H D I h
  exact wpAny_Expr_any (thn (he pins s σ H _ I h) fun v s1 ⟨x, H1, I1, r1, q1⟩ => ⟨σ, H1, I1, q1⟩) I.quiet hs
def tRet (te : TE) : TS := fun D σ H => te σ H D.rt
theorem ps_ret (he : PE X e te) : PS X (.Return (some e) pos) (tRet te) := by
  intro pins s σ H D I h
  exact wpAny_Return_some (thn (he pins s σ H _ I h) fun v s1 ⟨x, H1, I1, r1, q1⟩ => ⟨x, σ, H1, I1, r1, q1⟩)
def tRetN : TS := fun D _ H => D.rt .non H
def tIfS (c : TT) (t u : TS) : TS := fun D σ H => c σ H fun b H1 => if b = true then t D σ H1 else u D σ H1
theorem ps_if {c : Expr} {a b : List Stmt} {tc : TT} (hc : PT X c tc) (ha : PSs X a t) (hb : PSs X b u) : PS X (.If c a b pos) (tIfS tc t u) := by
  intro pins s σ H D I h
  refine wpAny_If (thn (hc pins s σ H _ I h) fun d s1 ⟨H1, I1, q1⟩ => ?_)
  cases d with
  | true => exact ha pins s1 σ H1 D I1 q1
  | false => exact hb pins s1 σ H1 D I1 q1
/-- code that the proof never comes to -/
def tNever : TS := fun _ _ _ => False
theorem ps_never : PS X st tNever := fun _ _ _ _ _ _ h => h.elim
end

/-! ### targets -/
abbrev TG := V → St → Hp → (St → Hp → Prop) → Prop
abbrev TGs := List V → St → Hp → (St → Hp → Prop) → Prop
def PG (X : Cx) (target : Expr) (t : TG) : Prop :=
  ∀ (pins : List (Addr × Obj)) (s : Shared) (σ : St) (H : Hp) (v : V) (u : Value) (Q : St → Hp → Prop), Inv X pins σ H s → RelV v u → t v σ H Q →
    wpAny (model X.prog X.w) X.A (assign target X.env u) (fun _ s' => ∃ σ' H', Inv X pins σ' H' s' ∧ Q σ' H') X.xe s
/-- several targets, one after another -/
def PGs (X : Cx) (ts : List Expr) (t : TGs) : Prop :=
  ∀ (pins : List (Addr × Obj)) (s : Shared) (σ : St) (H : Hp) (vs : List V) (us : List Value) (Q : St → Hp → Prop), Inv X pins σ H s → Vals vs us → t vs σ H Q →
    wpAny (model X.prog X.w) X.A (assignInOrder ((assignEach ts X.env).map (·.2)) us) (fun _ s' => ∃ σ' H', Inv X pins σ' H' s' ∧ Q σ' H') X.xe s
/-- o[i] = v, by values -/
abbrev TSet := V → V → V → Hp → (Hp → Prop) → Prop
def PSet (X : Cx) (t : TSet) : Prop :=
  ∀ (pins : List (Addr × Obj)) (s : Shared) (σ : St) (H : Hp) (o i v : V) (ov iv u : Value) (Q : Hp → Prop), Inv X pins σ H s → RelV o ov → RelV i iv → RelV v u → t o i v H Q →
    wpAny (model X.prog X.w) X.A (setItem ov iv u) (fun _ s' => ∃ H', Inv X pins σ H' s' ∧ Q H') X.xe s
/-- a op= b, by values -/
abbrev TIp := V → V → Hp → VK → Prop
def PIp (X : Cx) (op : Operator) (t : TIp) : Prop :=
  ∀ (pins : List (Addr × Obj)) (s : Shared) (σ : St) (H : Hp) (x y : V) (v u : Value) (Q : VK), Inv X pins σ H s → RelV x v → RelV y u → t x y H Q →
    wpAny (model X.prog X.w) X.A (inplaceOp op v u) (EP X pins σ Q) X.xe s
section
variable {X : Cx} {pos : Pos}
def gName (i : Nat) : TG := fun v σ H Q => Q (σ.set i (some v)) H
theorem pg_name {i : Nat} {x : Str} (hN : X.N.Nodup) (hi : X.N[i]? = some x) (hx : Loc X.env.scope x) (hf : X.fn x = true ∨ X.env.scope.names.lookup x = some .local := by first | exact .inl rfl | exact .inr rfl | assumption) : PG X (.Name x pos) (gName i) := by
  intro pins s σ H v u Q I r h
  exact wpAny_assign_Name (store_ok I hN hi hx r (fun s' I' => ⟨_, H, I', h⟩) hf)
def gNil : TGs := fun vs σ H Q => vs = [] ∧ Q σ H
def gCons (t : TG) (u : TGs) : TGs := fun vs σ H Q => ∃ v r, vs = v :: r ∧ t v σ H fun σ' H' => u r σ' H' Q
/-- (a, b, ..) = a tuple of that length -/
def gTup (K : PySem.W.Frag) (n : Nat) (t : TGs) : TG := fun v σ H Q => ∃ a xs, v = .ref a ∧ SqT K H a xs ∧ xs.length = n ∧ t xs σ H Q
/-- o[i] = .. -/
def gSub (to ti : TE) (t : TSet) : TG := fun v σ H Q => to σ H fun o H1 => ti σ H1 fun i H2 => t o i v H2 fun H3 => Q σ H3
/-- target = value -/
def tAsg (te : TE) (g : TG) : TS := fun D σ H => te σ H fun x H1 => g x σ H1 D.nx
/-- name = value -/
theorem ps_set {i : Nat} {x : Str} {e : Expr} {te : TE} {pos' : Pos} (hN : X.N.Nodup) (hi : X.N[i]? = some x) (hx : Loc X.env.scope x) (he : PE X e te) (hs : swapsWith e (some (.Name x pos')) pos.line X.env = pure false := by rfl) (hf : X.fn x = true ∨ X.env.scope.names.lookup x = some .local := by first | exact .inl rfl | exact .inr rfl | assumption) :
    PS X (.Assign [.Name x pos'] e pos) (tAsg te (gName i)) := by
  intro pins s σ H D I h
  refine wpAny_Assign_Name (thn (he pins s σ H _ I h) fun v s1 ⟨y, H1, I1, r1, q1⟩ => ?_) hs
  exact store_ok I1 hN hi hx r1 (fun s2 I2 => ⟨_, H1, I2, q1⟩) hf
/-- a, b = x, y with plain local names: stored from the right; the pair itself is not tracked (the opening rows as in PyProof/Rows/TupAssign.lean:23) -/
def tPar (i j : Nat) (ta : TA) : TS := fun D σ H => ta σ H fun vs H1 => ∃ v w, vs = [v, w] ∧ D.nx ((σ.set i (some v)).set j (some w)) H1
/-- name op= e -/
def tAug (i : Nat) (te : TE) (ti : TIp) : TS := fun D σ H => ∃ x, σ[i]? = some (some x) ∧ te σ H fun y H1 => ti x y H1 fun z H2 => D.nx (σ.set i (some z)) H2
/-- o[i] op= e -/
def tAugS (to ti te : TE) (tget : V → V → Hp → VK → Prop) (tip : TIp) (tset : TSet) : TS := fun D σ H => to σ H fun o H1 => ti σ H1 fun i H2 => tget o i H2 fun x H3 => te σ H3 fun y H4 => tip x y H4 fun z H5 => tset o i z H5 fun H6 => D.nx σ H6
/-- o[i], by values -/
def PGet (X : Cx) (t : V → V → Hp → VK → Prop) : Prop :=
  ∀ (pins : List (Addr × Obj)) (s : Shared) (σ : St) (H : Hp) (o i : V) (ov iv : Value) (Q : VK), Inv X pins σ H s → RelV o ov → RelV i iv → t o i H Q →
    wpAny (model X.prog X.w) X.A (getItem ov iv) (EP X pins σ Q) X.xe s
/-- ints -/
def ipI (f : Int → Int → Int) : TIp := fun x y H Q => ∃ i j, x = .int i ∧ y = .int j ∧ Q (.int (f i j)) H
end

/-! ### while -/
section
variable {X : Cx} {pos : Pos}
/-- the invariant W with its measure -/
def tWhile (c : TT) (tb : TS) : TS := fun D σ H => ∃ W : Nat → St → Hp → Prop, (∃ m, W m σ H) ∧ ∀ m σ H, W m σ H →
  c σ H fun b H1 => if b = true then ∃ N : St → Hp → Prop, (∀ σ' H', N σ' H' → ∃ m', m' < m ∧ W m' σ' H') ∧ tb { D with nx := N, ct := N, bk := D.nx } σ H1 else D.nx σ H1
end

/-! ### what a loop or a comprehension walks -/
/-- at turn i: it yields x (the heap may grow), or it stops -/
structure It where
  go : Nat → Hp → Prop
  yld : Nat → Hp → V → Hp → Prop
  stop : Nat → Hp → Prop
/-- the iterator's own objects may turn: they are not the frame's, not pinned, younger than the entry (or a comprehension's own) -/
def FpOk (X : Cx) (pins : List (Addr × Obj)) (H : Hp) (b : Addr) : Prop :=
  H b = none ∧ b ≠ X.env.locals ∧ b ∉ X.fs ∧ (b ∈ X.ex ∨ X.s₀.heap.objs.size ≤ b) ∧ (∀ x c, X.env.cells.lookup x = some c → c ≠ b) ∧ ∀ p ∈ X.pn ++ pins, p.1 ≠ b
theorem Inv.fpOk {X : Cx} {pins : List (Addr × Obj)} {σ : St} {H H' : Hp} {s : Shared} {b : Addr} (I : Inv X pins σ H s) (hb : s.heap.objs.size ≤ b) (hn : H' b = none) : FpOk X pins H' b := by
  refine ⟨hn, Nat.ne_of_gt (Nat.lt_of_lt_of_le I.lt hb), I.nofs hb, .inr (Nat.le_trans I.sz hb), fun x c e z => ?_, fun p hp z => ?_⟩
  · obtain ⟨v, q⟩ := I.cell x c e
    exact absurd (Nat.lt_of_lt_of_le q.lt (by rw [z]; exact hb)) (Nat.lt_irrefl _)
  · exact absurd (Nat.lt_of_lt_of_le (Heap.lt_size (I.pin p hp).1) (by rw [z]; exact hb)) (Nat.lt_irrefl _)
structure Turn (P : Program) (w : World) (K : PySem.W.Frag) (tg : Expr) (J : It) (fp : List Addr) (it : Addr) (tn : Nat → Heap → Prop) : Prop where
  mem : it ∈ fp
  obj : ∀ i h, tn i h → ∀ b ∈ fp, ∃ o, h.get? b = some o ∧ ∀ v, o.data ≠ .cell v
  keep : ∀ i h h', tn i h → (∀ b ∈ fp, ∀ o, h.get? b = some o → h'.get? b = some o) → tn i h'
  item : ∀ (X : Cx), X.prog = P → X.w = w → X.K = K → X.calm = true → ∀ (i : Nat) (pins : List (Addr × Obj)) (s : Shared) (σ : St) (H : Hp) (E : Value → Shared → Prop), Inv X pins σ H s → (∀ b ∈ fp, FpOk X pins H b) → tn i s.heap → J.go i H →
    wpAny (model P w) X.A (pyNext (.ref it)) (fun r s1 => ∃ u, r = some u ∧
      wpAny (model P w) X.A (letOwnedTupleGo tg (.ref it) u) (fun _ s2 => ∃ x H', Inv X pins σ H' s2 ∧ RelV x u ∧ J.yld i H x H' ∧ tn (i + 1) s2.heap ∧ ∀ b ∈ fp, H' b = none) E s1) E s
  done : ∀ (X : Cx), X.prog = P → X.w = w → X.K = K → X.calm = true → ∀ (i : Nat) (pins : List (Addr × Obj)) (s : Shared) (σ : St) (H : Hp) (E : Value → Shared → Prop), Inv X pins σ H s → (∀ b ∈ fp, FpOk X pins H b) → tn i s.heap → J.stop i H →
    wpAny (model P w) X.A (pyNext (.ref it)) (fun r s1 => r = none ∧ Inv X pins σ H s1) E s
  self : ∀ (A : Around) (i : Nat) (s : Shared) (Q : Value → Shared → Prop) (E : Value → Shared → Prop), tn i s.heap → Q (.ref it) s → wpAny (model P w) A (pyIter (.ref it)) Q E s
abbrev TI := St → Hp → (It → Hp → Prop) → Prop
/-- an iterator has come -/
def PIE (X : Cx) (pins : List (Addr × Obj)) (σ : St) (tg : Expr) (R : It → Hp → Prop) (itv : Value) (s2 : Shared) : Prop :=
  ∃ (it : Addr) (fp : List Addr) (tn : Nat → Heap → Prop) (J : It) (H' : Hp), itv = .ref it ∧ Inv X pins σ H' s2 ∧ Turn X.prog X.w X.K tg J fp it tn ∧ tn 0 s2.heap ∧ (∀ b ∈ fp, FpOk X pins H' b) ∧ R J H'
def PI (X : Cx) (tg iter : Expr) (wi : TI) : Prop :=
  ∀ (pins : List (Addr × Obj)) (s : Shared) (σ : St) (H : Hp) (R : It → Hp → Prop), Inv X pins σ H s → wi σ H R →
    wpAny (model X.prog X.w) X.A (eval iter X.env) (fun v s1 => wpAny (model X.prog X.w) X.A (pyIter v) (PIE X pins σ tg R) X.xe s1) X.xe s

/-- the step ahead of the store is nothing for an iterator that keeps no tuple -/
theorem go_of {M : Model} {A : Around} {E : Value → Shared → Prop} {s : Shared} {tg : Expr} {it : Addr} {u : Value} {o : Obj} {n : String} {vs : Array Value} {Q : Unit → Shared → Prop} (ho : s.heap.get? it = some o) (hc : o.cls = .type n) (hd : o.data = .fields vs)
    (hn : ["enumerate", "zip", "dict_itemiterator", "dict_reverseitemiterator", "odict_iterator", "itertools.zip_longest", "itertools.pairwise"].contains n = false) (hQ : Q () s) : wpAny M A (letOwnedTupleGo tg (.ref it) u) Q E s := by
  unfold letOwnedTupleGo
  cases tg <;> first
    | exact wpAny_pure hQ
    | (cases u <;> first
        | exact wpAny_pure hQ
        | (refine wpAny_bind (wpAny_load ho ?_)
           rw [hc, hd]
           show wpAny M A (if (["enumerate", "zip", "dict_itemiterator", "dict_reverseitemiterator", "odict_iterator", "itertools.zip_longest", "itertools.pairwise"].contains n && vs[0]? == some (rawInt _)) = true then _ else _) Q E s
           rw [if_neg (by intro h; rw [hn, Bool.false_and] at h; cases h)]
           exact wpAny_pure hQ))

/-- the list at a, as it stands at each turn (a loop may append to it) -/
def Itl (K : PySem.W.Frag) (a : Addr) : It :=
  ⟨fun i H => ∃ xs x, SqL K H a xs ∧ xs[i]? = some x, fun i H x H' => H' = H ∧ ∀ xs, SqL K H a xs → xs[i]? = some x, fun i H => ∃ xs, SqL K H a xs ∧ xs.length ≤ i⟩
def Itt (K : PySem.W.Frag) (a : Addr) : It :=
  ⟨fun i H => ∃ xs x, SqT K H a xs ∧ xs[i]? = some x, fun i H x H' => H' = H ∧ ∀ xs, SqT K H a xs → xs[i]? = some x, fun i H => ∃ xs, SqT K H a xs ∧ xs.length ≤ i⟩
/-- lo, lo + 1, .. (n of them) -/
def Itr (lo : Int) (n : Nat) : It := ⟨fun i _ => i < n, fun i H x H' => H' = H ∧ x = .int (lo + i), fun i _ => n ≤ i⟩
theorem turn_list {P : Program} {w : World} {K : PySem.W.Frag} {tg : Expr} (a it : Addr) : Turn P w K tg (Itl K a) [it] it (fun i h => h.IsListIter it a i) where
  mem := by simp
  obj := fun i h st b hb => by
    have e : b = it := by simpa using hb
    subst e
    obtain ⟨o, e, c, d⟩ := st
    exact ⟨o, e, fun v z => by rw [d] at z; cases z⟩
  keep := fun i h h' st k => st.at fun o e => k it (by simp) o e
  item := by
    intro X hP hw hK hc i pins s σ H E I hf st hg
    subst hP hw hK
    obtain ⟨xs, x, hq, hx⟩ := hg
    obtain ⟨its, rv, p, hz⟩ := I.list hq
    obtain ⟨u, hu, ru⟩ := rv.get hx
    obtain ⟨f0, f1, f2, f3, f4, f5⟩ := hf it (by simp)
    refine wpAny_pyNext_list_item st p.isList (x := u) (by simpa using hu) fun h' st' sb => ?_
    have I1 : Inv X pins σ H { s with heap := h' } := I.turned (t' := s.toks) (fun b o hb e => (sb.2 b hb).trans e) f0 f1 f3 f4 f5
    obtain ⟨o, e, c, d⟩ := id st'
    exact ⟨u, rfl, go_of (s := { s with heap := h' }) e c d (by decide) ⟨x, H, I1, ru, ⟨rfl, fun ys hy => by rw [I.list_inj hy hq]; exact hx⟩, st', fun b hb => (hf b hb).1⟩⟩
  done := by
    intro X hP hw hK hc i pins s σ H E I hf st hg
    subst hP hw hK
    obtain ⟨xs, hq, hx⟩ := hg
    obtain ⟨its, rv, p, hz⟩ := I.list hq
    obtain ⟨f0, f1, f2, f3, f4, f5⟩ := hf it (by simp)
    have hl := rv.length
    exact wpAny_pyNext_list_end (I.ok.hd hc) st p.isList (by simp; omega) fun h' eb => ⟨rfl, I.turned (t' := s.toks) (fun b o hb e => eb b o hb e) f0 f1 f3 f4 f5⟩
  self := fun _ _ _ _ _ st h => wpAny_pyIter_listiter st h
theorem turn_range {P : Program} {w : World} {K : PySem.W.Frag} {tg : Expr} (it : Addr) (lo : Int) (n : Nat) : Turn P w K tg (Itr lo n) [it] it (fun i h => IsRangeIter h it (lo + (i : Nat) * 1) ((n : Int) - (i : Nat)) 1) where
  mem := by simp
  obj := fun i h st b hb => by
    have e : b = it := by simpa using hb
    subst e
    exact ⟨_, st, fun v z => by
      have z' : Data.fields _ = Data.cell v := z
      cases z'⟩
  keep := fun i h h' st k => k it (by simp) _ st
  item := by
    intro X hP hw hK hc i pins s σ H E I hf st hg
    subst hP hw hK
    obtain ⟨f0, f1, f2, f3, f4, f5⟩ := hf it (by simp)
    have W := Walks.range (prog := X.prog) (w := X.w) (I.ok.hd hc) it lo 1 n
    refine W.item i s _ _ hg st fun v h' tk hv st' kk => ?_
    obtain ⟨t, rfl⟩ := hv
    have I1 : Inv X pins σ H { s with heap := h', toks := tk } := I.turned (fun b o hb e => kk b o (by simpa using hb) e) f0 f1 f3 f4 f5
    refine ⟨_, rfl, go_of (s := { s with heap := h', toks := tk }) (n := "range_iterator") st' rfl rfl (by decide) ⟨.int (lo + i), H, I1, ⟨t, ?_⟩, ⟨rfl, rfl⟩, st', fun b hb => (hf b hb).1⟩⟩
    rw [Int.mul_one]
  done := by
    intro X hP hw hK hc i pins s σ H E I hf st hg
    subst hP hw hK
    obtain ⟨f0, f1, f2, f3, f4, f5⟩ := hf it (by simp)
    exact wpAny_pyNext_range_end (I.ok.hd hc) st (by have : n ≤ i := hg; omega) fun h' eb => ⟨rfl, I.turned (t' := s.toks) (fun b o hb e => eb b o hb e) f0 f1 f3 f4 f5⟩
  self := fun _ _ _ _ _ st h => wpAny_pyIter_rangeiter st h
end L2

namespace L2
open PySem PySem.Spec PyProof.Rows
section
variable {X : Cx} {tg : Expr}
def iList (K : PySem.W.Frag) (tl : TE) : TI := fun σ H R => tl σ H fun x H1 => ∃ a, x = .ref a ∧ (∃ xs, SqL K H1 a xs) ∧ R (Itl K a) H1
def iTup (K : PySem.W.Frag) (tl : TE) : TI := fun σ H R => tl σ H fun x H1 => ∃ a, x = .ref a ∧ (∃ xs, SqT K H1 a xs) ∧ R (Itt K a) H1
theorem pi_list {l : Expr} {tl : TE} (hl : PE X l tl) : PI X tg l (iList X.K tl) := by
  intro pins s σ H R I h
  refine thn (hl pins s σ H _ I h) fun v s1 ⟨x, H1, I1, r1, q1⟩ => ?_
  obtain ⟨a, e, ⟨xs, hq⟩, q⟩ := q1
  subst e
  cases r1
  obtain ⟨its, rv, p, hz⟩ := I1.list hq
  refine wpAny_pyIter_list p.isList ?_
  refine ⟨s1.heap.objs.size, [s1.heap.objs.size], _, _, H1, rfl, I1.kept (t' := s1.toks) fun b o e => Heap.get?_push_of_some _ e, turn_list a _, ⟨_, Heap.get?_push_size _ rfl, rfl, rfl⟩, fun b hb => ?_, q⟩
  have e : b = s1.heap.objs.size := by simpa using hb
  subst e
  exact I1.fpOk (Nat.le_refl _) (I1.hok.fresh (Nat.le_refl _))
/-- a range object just made, walked -/
theorem range_it {pins : List (Addr × Obj)} {σ : St} {H : Hp} {s : Shared} {R : It → Hp → Prop} {E : Value → Shared → Prop} {lo hi : Int} {t u v : Tok} {tk : Nat} (I : Inv X pins σ H s) (h1 : -(2 ^ 62) ≤ lo) (h2 : lo < 2 ^ 62) (h3 : -(2 ^ 62) ≤ hi) (h4 : hi < 2 ^ 62)
    (q : R (Itr lo (hi - lo).toNat) H) : wpAny (model X.prog X.w) X.A (pyIter (.ref s.heap.objs.size)) (PIE X pins σ tg R) E { s with heap := s.heap.push { cls := .type "range", data := .fields #[.int lo t, .int hi u, .int 1 v] }, toks := tk } := by
  refine wpAny_pyIter_range (IsRange.new ..) (small_one h1 h2 h3 h4) ?_
  have I1 : Inv X pins σ H { s with heap := s.heap.push { cls := .type "range", data := .fields #[.int lo t, .int hi u, .int 1 v] }, toks := tk } := I.kept fun b o e => Heap.get?_push_of_some _ e
  refine ⟨(s.heap.push { cls := .type "range", data := .fields #[.int lo t, .int hi u, .int 1 v] }).objs.size, [(s.heap.push { cls := .type "range", data := .fields #[.int lo t, .int hi u, .int 1 v] }).objs.size], _, _, H, rfl,
    I1.kept (t' := tk) fun b o e => Heap.get?_push_of_some _ e, turn_range _ lo (hi - lo).toNat, ?_, fun b hb => ?_, q⟩
  · have e1 : lo + ((0 : Nat) : Int) * 1 = lo := by simp
    have e2 : (((hi - lo).toNat : Nat) : Int) - ((0 : Nat) : Int) = Builtin.Range.rangeSize lo hi 1 := by rw [rangeSize_one]; split <;> omega
    show IsRangeIter _ _ (lo + ((0 : Nat) : Int) * 1) ((((hi - lo).toNat : Nat) : Int) - ((0 : Nat) : Int)) 1
    rw [e1, e2]
    exact Heap.get?_push_size _ rfl
  · have e : b = (s.heap.push { cls := .type "range", data := .fields #[.int lo t, .int hi u, .int 1 v] }).objs.size := by simpa using hb
    subst e
    exact I1.fpOk (Nat.le_refl _) (I1.hok.fresh (Nat.le_refl _))
def iRng1 (ta : TA) : TI := fun σ H R => ta σ H fun vs H1 => ∃ j : Int, vs = [.int j] ∧ -(2 ^ 62) ≤ j ∧ j < 2 ^ 62 ∧ R (Itr 0 j.toNat) H1
def iRng2 (ta : TA) : TI := fun σ H R => ta σ H fun vs H1 => ∃ i j : Int, vs = [.int i, .int j] ∧ (-(2 ^ 62) ≤ i ∧ i < 2 ^ 62 ∧ -(2 ^ 62) ≤ j ∧ j < 2 ^ 62) ∧ R (Itr i (j - i).toNat) H1
theorem pi_range1 {a : Expr} {ta : TA} {p pos : Pos} (hg : Gl X "range") (hm : X.mg "range" = none) (ha : PA X [a] ta) (hs : starEach [a] X.env = [(false, eval a X.env)] := by rfl) : PI X tg (.Call (.Name "range" p) [a] [] pos) (iRng1 ta) := by
  intro pins s σ H R I h
  refine Call_ (ld_blt I hg hm boot_range (PyProof.Rows.callWith_type1 (thn (ha pos pins s σ H _ I h) fun us s1 ⟨vs, H1, I1, r1, q1⟩ => ?_) hs rfl))
  obtain ⟨j, e, q1, q2, q⟩ := q1
  subst e
  cases r1 with
  | cons r rr =>
    cases rr
    obtain ⟨t, rfl⟩ := r
    exact call_range_1 (range_it I1 (by omega) (by omega) q1 q2 (by simpa using q))
/-! ### for -/
/-- W: the invariant by the turn and a measure; N: what the body is to reach -/
def tFor (wi : TI) (g : TG) (tb : TS) : TS := fun D σ H => wi σ H fun J H1 => ∃ W : Nat → Nat → St → Hp → Prop, (∃ m, W 0 m σ H1) ∧ ∀ i m σ H, W i m σ H →
  (J.stop i H ∧ D.nx σ H) ∨ (J.go i H ∧ ∃ N : St → Hp → Prop, (∀ σ' H', N σ' H' → ∃ m', m' < m ∧ W (i + 1) m' σ' H') ∧ ∀ x H', J.yld i H x H' → g x σ H' fun σ2 H2 => tb { D with nx := N, ct := N, bk := D.nx } σ2 H2)
/-- the records at fp as they stand -/
def pinsAt (fp : List Addr) (h : Heap) : List (Addr × Obj) := fp.filterMap fun b => (h.get? b).map fun o => (b, o)
theorem mem_pinsAt {fp : List Addr} {h : Heap} {b : Addr} {o : Obj} (hb : b ∈ fp) (e : h.get? b = some o) : (b, o) ∈ pinsAt fp h := List.mem_filterMap.mpr ⟨b, hb, by rw [e]; rfl⟩
theorem of_pinsAt {fp : List Addr} {h : Heap} {p : Addr × Obj} (hp : p ∈ pinsAt fp h) : p.1 ∈ fp ∧ h.get? p.1 = some p.2 := by
  obtain ⟨b, hb, e⟩ := List.mem_filterMap.mp hp
  cases q : h.get? b with
  | none => rw [q] at e; cases e
  | some o =>
    rw [q] at e
    have e' : (b, o) = p := Option.some.inj e
    subst e'
    exact ⟨hb, q⟩
theorem Inv.pinned {pins : List (Addr × Obj)} {σ : St} {H : Hp} {s : Shared} {fp : List Addr} (I : Inv X pins σ H s) (hf : ∀ b ∈ fp, FpOk X pins H b) (ho : ∀ b ∈ fp, ∃ o, s.heap.get? b = some o ∧ ∀ v, o.data ≠ .cell v) : Inv X (pins ++ pinsAt fp s.heap) σ H s :=
  I.pins_of fun p hp => (List.mem_append.mp hp).elim (fun z => I.pin p (List.mem_append_right _ z)) fun z => by
    obtain ⟨hb, e⟩ := of_pinsAt z
    obtain ⟨f0, f1, f2, _⟩ := hf p.1 hb
    obtain ⟨o, e', d⟩ := ho p.1 hb
    rw [e] at e'; cases e'
    exact ⟨e, f0, f1, f2, d⟩
theorem Inv.unpinned {pins pl : List (Addr × Obj)} {σ : St} {H : Hp} {s : Shared} (I : Inv X (pins ++ pl) σ H s) : Inv X pins σ H s := I.pins_of fun p hp => I.pin p (List.mem_append_right _ (List.mem_append_left _ hp))
theorem ps_for {iter : Expr} {body : List Stmt} {wi : TI} {g : TG} {tb : TS} {pos : Pos} (hp : PassesOwn (model X.prog X.w) X.A X.env X.xe) (hc : X.calm = true) (hi : PI X tg iter wi) (hg : PG X tg g) (hb : PSs X body tb)
    (hs : ∀ x, foldedSetIterable iter X.env x = pure x := by intro _; rfl) : PS X (.For tg iter body [] pos) (tFor wi g tb) := by
  intro pins s σ H D I h
  refine wpAny_For (thn (hi pins s σ H _ I h) fun v s1 h1 => thn h1 fun itv s2 h2 => ?_) hs
  obtain ⟨it, fp, tn, J, H2, e, I2, T, st2, f2, W, ⟨m0, w0⟩, turn⟩ := h2
  subst e
  -- what stays true of the iterator's objects through the loop
  have stat : ∀ {H' : Hp}, (∀ b ∈ fp, H' b = none) → ∀ b ∈ fp, FpOk X pins H' b := fun hn b hb => ⟨hn b hb, (f2 b hb).2⟩
  refine codeAny_forLoop_any (fun n s' => ∃ i σ' H', Inv X pins σ' H' s' ∧ tn i s'.heap ∧ (∀ b ∈ fp, H' b = none) ∧ W i n σ' H') ?_ m0 ⟨0, σ, H2, I2, st2, fun b hb => (f2 b hb).1, w0⟩
  rintro n s3 ⟨i, σ3, H3, I3, st3, fr3, w3⟩
  rcases turn i n σ3 H3 w3 with ⟨stop, qn⟩ | ⟨go, N, hN, step⟩
  · refine wpAny_passesOwn hp (thn (T.done X rfl rfl rfl hc i pins s3 σ3 H3 X.xe I3 (stat fr3) st3 stop) fun r s4 ⟨hr, I4⟩ => ?_)
    subst hr
    exact wpAny_execs_nil ⟨σ3, H3, I4, qn⟩
  · refine wpAny_passesOwn hp (thn (T.item X rfl rfl rfl hc i pins s3 σ3 H3 X.xe I3 (stat fr3) st3 go) fun r s4 ⟨u, hr, h4⟩ => ?_)
    subst hr
    refine wpAny_passesOwn hp (thn h4 fun _ s5 ⟨x, H5, I5, r5, y5, st5, fr5⟩ => ?_)
    have I5' := I5.pinned (stat fr5) (T.obj _ _ st5)
    refine wpAny_passesOwn hp (thn (hg _ s5 σ3 H5 x u _ I5' r5 (step x H5 y5)) fun _ s6 ⟨σ6, H6, I6, q6⟩ => ?_)
    refine wpAny_passesOwn hp (thn (hb _ s6 σ6 H6 _ I6 q6) fun f s7 q7 => ?_)
    have again : ∀ {σ7 : St} {H7 : Hp}, Inv X (pins ++ pinsAt fp s5.heap) σ7 H7 s7 → N σ7 H7 → ∃ m, m < n ∧ ∃ i σ' H', Inv X pins σ' H' s7 ∧ tn i s7.heap ∧ (∀ b ∈ fp, H' b = none) ∧ W i m σ' H' := fun {σ7 H7} I7 n7 => by
      obtain ⟨m', hm, w7⟩ := hN σ7 H7 n7
      refine ⟨m', hm, i + 1, σ7, H7, I7.unpinned, T.keep _ _ _ st5 fun b hb o e => (I7.pin (b, o) (List.mem_append_right _ (List.mem_append_right _ (mem_pinsAt hb e)))).1, fun b hb => ?_, w7⟩
      obtain ⟨o, e, d⟩ := T.obj _ _ st5 b hb
      exact (I7.pin (b, o) (List.mem_append_right _ (List.mem_append_right _ (mem_pinsAt hb e)))).2.1
    cases f with
    | next => obtain ⟨σ7, H7, I7, n7⟩ := q7; exact again I7 n7
    | cont => obtain ⟨σ7, H7, I7, n7⟩ := q7; exact again I7 n7
    | brk => obtain ⟨σ7, H7, I7, q7⟩ := q7; exact ⟨σ7, H7, I7.unpinned, q7⟩
    | ret v => obtain ⟨x7, σ7, H7, I7, r7, q7⟩ := q7; exact ⟨x7, σ7, H7, I7.unpinned, r7, q7⟩
end

/-! ### the forms one uses -/
/-- over a list that the body leaves as it is -/
theorem for_list {K : PySem.W.Frag} {a : Addr} {xs : List V} {g : TG} {tb : TS} {D : Ends} {σ : St} {H : Hp} (Pv : Nat → St → Hp → Prop) (h0 : Pv 0 σ H) (hl : ∀ i σ H, i ≤ xs.length → Pv i σ H → SqL K H a xs)
    (hs : ∀ i x σ H, xs[i]? = some x → Pv i σ H → g x σ H fun σ2 H2 => tb { D with nx := Pv (i + 1), ct := Pv (i + 1), bk := D.nx } σ2 H2) (hd : ∀ σ H, Pv xs.length σ H → D.nx σ H) :
    ∃ W : Nat → Nat → St → Hp → Prop, (∃ m, W 0 m σ H) ∧ ∀ i m σ H, W i m σ H →
      ((Itl K a).stop i H ∧ D.nx σ H) ∨ ((Itl K a).go i H ∧ ∃ N : St → Hp → Prop, (∀ σ' H', N σ' H' → ∃ m', m' < m ∧ W (i + 1) m' σ' H') ∧ ∀ x H', (Itl K a).yld i H x H' → g x σ H' fun σ2 H2 => tb { D with nx := N, ct := N, bk := D.nx } σ2 H2) := by
  refine ⟨fun i m σ H => m = xs.length - i ∧ i ≤ xs.length ∧ Pv i σ H, ⟨xs.length, by simp, Nat.zero_le _, h0⟩, ?_⟩
  rintro i m σ H ⟨rfl, hi, p⟩
  have q := hl i σ H hi p
  by_cases hlt : i < xs.length
  · refine .inr ⟨⟨xs, xs[i], q, by simp [hlt]⟩, Pv (i + 1), fun σ' H' p' => ⟨xs.length - (i + 1), by omega, rfl, hlt, p'⟩, fun x H' y => ?_⟩
    obtain ⟨e, y⟩ := y
    subst e
    exact hs i x σ _ (y xs q) p
  · have e : i = xs.length := by omega
    subst e
    exact .inl ⟨⟨xs, q, Nat.le_refl _⟩, hd σ H p⟩
theorem for_range {lo : Int} {n : Nat} {g : TG} {tb : TS} {D : Ends} {σ : St} {H : Hp} (Pv : Nat → St → Hp → Prop) (h0 : Pv 0 σ H)
    (hs : ∀ i σ H, i < n → Pv i σ H → g (.int (lo + i)) σ H fun σ2 H2 => tb { D with nx := Pv (i + 1), ct := Pv (i + 1), bk := D.nx } σ2 H2) (hd : ∀ σ H, Pv n σ H → D.nx σ H) :
    ∃ W : Nat → Nat → St → Hp → Prop, (∃ m, W 0 m σ H) ∧ ∀ i m σ H, W i m σ H →
      ((Itr lo n).stop i H ∧ D.nx σ H) ∨ ((Itr lo n).go i H ∧ ∃ N : St → Hp → Prop, (∀ σ' H', N σ' H' → ∃ m', m' < m ∧ W (i + 1) m' σ' H') ∧ ∀ x H', (Itr lo n).yld i H x H' → g x σ H' fun σ2 H2 => tb { D with nx := N, ct := N, bk := D.nx } σ2 H2) := by
  refine ⟨fun i m σ H => m = n - i ∧ i ≤ n ∧ Pv i σ H, ⟨n, by simp, Nat.zero_le _, h0⟩, ?_⟩
  rintro i m σ H ⟨rfl, hi, p⟩
  by_cases hlt : i < n
  · refine .inr ⟨hlt, Pv (i + 1), fun σ' H' p' => ⟨n - (i + 1), by omega, rfl, hlt, p'⟩, fun x H' y => ?_⟩
    obtain ⟨e, y⟩ := y
    subst e y
    exact hs i σ _ hlt p
  · have e : i = n := by omega
    subst e
    exact .inl ⟨Nat.le_refl _, hd σ H p⟩
end L2

namespace L2
open PySem PySem.Spec PyProof.Rows

abbrev R2 := V → V → Hp → VK → Prop
/-- a two-place operation on values: f is binaryOp op, inplaceOp op or compareOp op -/
def OpR (X : Cx) (f : Value → Value → Sem Value) (r : R2) : Prop :=
  ∀ (pins : List (Addr × Obj)) (s : Shared) (σ : St) (H : Hp) (x y : V) (v u : Value) (Q : VK), Inv X pins σ H s → RelV x v → RelV y u → r x y H Q →
    wpAny (model X.prog X.w) X.A (f v u) (EP X pins σ Q) X.xe s
/-- a one-place operation -/
def UnR (X : Cx) (f : Value → Sem Value) (r : V → Hp → VK → Prop) : Prop :=
  ∀ (pins : List (Addr × Obj)) (s : Shared) (σ : St) (H : Hp) (x : V) (v : Value) (Q : VK), Inv X pins σ H s → RelV x v → r x H Q →
    wpAny (model X.prog X.w) X.A (f v) (EP X pins σ Q) X.xe s
/-- a call of a value that is known (a builtin, a type) with values -/
def CallR (X : Cx) (f : Value) (r : List V → Hp → VK → Prop) : Prop :=
  ∀ (pins : List (Addr × Obj)) (s : Shared) (σ : St) (H : Hp) (xs : List V) (us : List Value) (Q : VK), Inv X pins σ H s → Vals xs us → r xs H Q →
    wpAny (model X.prog X.w) X.A (call f us) (EP X pins σ Q) X.xe s
/-- a value's truth -/
def TruR (X : Cx) (r : V → Hp → (Bool → Hp → Prop) → Prop) : Prop :=
  ∀ (pins : List (Addr × Obj)) (s : Shared) (σ : St) (H : Hp) (x : V) (v : Value) (Q : Bool → Hp → Prop), Inv X pins σ H s → RelV x v → r x H Q →
    wpAny (model X.prog X.w) X.A (truthy v) (TP X pins σ Q) X.xe s

def tOp (r : R2) (ta tb : TE) : TE := fun σ H Q => ta σ H fun x H1 => tb σ H1 fun y H2 => r x y H2 Q
def tUn (r : V → Hp → VK → Prop) (ta : TE) : TE := fun σ H Q => ta σ H fun x H1 => r x H1 Q
/-- ints in, under C, and a value out -/
def rI (C : Int → Int → Prop) (g : Int → Int → V) : R2 := fun x y H Q => ∃ i j, x = .int i ∧ y = .int j ∧ C i j ∧ Q (g i j) H
def rI0 (g : Int → Int → V) : R2 := fun x y H Q => ∃ i j, x = .int i ∧ y = .int j ∧ Q (g i j) H
def rU (g : Int → V) : V → Hp → VK → Prop := fun x H Q => ∃ i, x = .int i ∧ Q (g i) H

section
variable {X : Cx} {a b c : Expr} {ta tb tc : TE} {pos : Pos}

theorem binT (ha : PE X a ta) (hb : PE X b tb) {pins : List (Addr × Obj)} {s : Shared} {σ : St} {H : Hp} {R : V → V → Hp → Prop} (I : Inv X pins σ H s)
    (h : ta σ H fun x H1 => tb σ H1 fun y H2 => R x y H2) {Q : Value → Shared → Prop} {f : Value → Value → Sem Value}
    (hf : ∀ v u s2 x y H2, Inv X pins σ H2 s2 → RelV x v → RelV y u → R x y H2 → wpAny (model X.prog X.w) X.A (f v u) Q X.xe s2) :
    wpAny (model X.prog X.w) X.A (eval a X.env) (fun v s₁ => wpAny (model X.prog X.w) X.A (eval b X.env) (fun u s₂ => wpAny (model X.prog X.w) X.A (f v u) Q X.xe s₂) X.xe s₁) X.xe s := by
  refine thn (ha pins s σ H _ I h) fun v s1 ⟨x, H1, I1, r1, q1⟩ => ?_
  refine thn (hb pins s1 σ H1 _ I1 q1) fun u s2 ⟨y, H2, I2, r2, q2⟩ => ?_
  exact hf v u s2 x y H2 I2 r1 r2 q2

theorem pe_op {op : Operator} {r : R2} (ho : OpR X (binaryOp op) r) (ha : PE X a ta) (hb : PE X b tb) : PE X (.BinOp a op b pos) (tOp r ta tb) := by
  intro pins s σ H Q I h
  exact wpAny_BinOp (binT ha hb I h fun v u s2 x y H2 I2 rx ry q => ho pins s2 σ H2 x y v u Q I2 rx ry q)
theorem pe_un {op : UnaryOp} {r : V → Hp → VK → Prop} (ho : UnR X (unaryOp op) r) (ha : PE X a ta) : PE X (.UnaryOp op a pos) (tUn r ta) := by
  intro pins s σ H Q I h
  exact UnaryOp_ (thn (ha pins s σ H _ I h) fun v s1 ⟨x, H1, I1, r1, q1⟩ => ho pins s1 σ H1 x v Q I1 r1 q1)
/-! ### ints -/
theorem opI {f : Value → Value → Sem Value} {C : Int → Int → Prop} {g : Int → Int → Int}
    (rule : ∀ (i j : Int) (t u : Tok) (s : Shared) (Q : Value → Shared → Prop) (E : Value → Shared → Prop), C i j → Q (.int (g i j) s.toks) { s with toks := s.toks + 1 } → wpAny (model X.prog X.w) X.A (f (.int i t) (.int j u)) Q E s) :
    OpR X f (rI C fun i j => .int (g i j)) := by
  intro pins s σ H x y v u Q I rx ry h
  obtain ⟨i, j, rfl, rfl, hc, q⟩ := h
  obtain ⟨t, rfl⟩ := rx
  obtain ⟨t', rfl⟩ := ry
  exact rule i j t t' s _ _ hc ⟨.int (g i j), H, I.tok _, ⟨_, rfl⟩, q⟩
theorem opI0 {f : Value → Value → Sem Value} {g : Int → Int → Int}
    (rule : ∀ (i j : Int) (t u : Tok) (s : Shared) (Q : Value → Shared → Prop) (E : Value → Shared → Prop), Q (.int (g i j) s.toks) { s with toks := s.toks + 1 } → wpAny (model X.prog X.w) X.A (f (.int i t) (.int j u)) Q E s) :
    OpR X f (rI0 fun i j => .int (g i j)) := by
  intro pins s σ H x y v u Q I rx ry h
  obtain ⟨i, j, rfl, rfl, q⟩ := h
  obtain ⟨t, rfl⟩ := rx
  obtain ⟨t', rfl⟩ := ry
  exact rule i j t t' s _ _ ⟨.int (g i j), H, I.tok _, ⟨_, rfl⟩, q⟩
theorem opB0 {f : Value → Value → Sem Value} {g : Int → Int → Bool}
    (rule : ∀ (i j : Int) (t u : Tok) (s : Shared) (Q : Value → Shared → Prop) (E : Value → Shared → Prop), Q (.bool (g i j)) s → wpAny (model X.prog X.w) X.A (f (.int i t) (.int j u)) Q E s) :
    OpR X f (rI0 fun i j => .bl (g i j)) := by
  intro pins s σ H x y v u Q I rx ry h
  obtain ⟨i, j, rfl, rfl, q⟩ := h
  obtain ⟨t, rfl⟩ := rx
  obtain ⟨t', rfl⟩ := ry
  exact rule i j t t' s _ _ ⟨.bl (g i j), H, I, rfl, q⟩

def CDiv (i j : Int) : Prop := 0 < j ∧ j < 1073741824
def CDivN (i j : Int) : Prop := j ≠ 0 ∧ j.natAbs < 1073741824
def CPow (i j : Int) : Prop := 0 ≤ j ∧ j ≤ 1000000 ∧ i.natAbs < 2 ^ 64
def CMul (i j : Int) : Prop := (-(2 ^ 64) < i ∧ i < 2 ^ 64) ∨ (-(2 ^ 64) < j ∧ j < 2 ^ 64)
theorem CMul.ok {i j : Int} (h : CMul i j) : IntMulOk i j := by
  rcases h with ⟨h1, h2⟩ | ⟨h1, h2⟩
  · exact .of_left (intBits_le_64 h1 h2)
  · exact .of_right (intBits_le_64 h1 h2)
theorem op_add : OpR X (binaryOp .Add) (rI0 fun i j => .int (i + j)) := opI0 fun _ _ _ _ _ _ _ q => add_int q
theorem op_sub : OpR X (binaryOp .Sub) (rI0 fun i j => .int (i - j)) := opI0 fun _ _ _ _ _ _ _ q => sub_int q
theorem op_mul : OpR X (binaryOp .Mult) (rI CMul fun i j => .int (i * j)) := opI fun _ _ _ _ _ _ _ hc q => mul_int q hc.ok
/-- // by a positive divisor -/
theorem op_fdiv : OpR X (binaryOp .FloorDiv) (rI CDiv fun i j => .int (i / j)) := opI fun i j _ _ _ _ _ hc q => by
  have h1 : (0 : Int) < j := hc.1
  have h2 : j < 1073741824 := hc.2
  exact floordiv_int (by omega) (by rw [Int.fdiv_eq_ediv_of_nonneg i (by omega)]; exact q) (.inl (PyProof.noPylong_small (by omega)))
/-- % by a positive divisor of any size -/
theorem op_mod : OpR X (binaryOp .Mod) (rI (fun _ j => 0 < j) fun i j => .int (i % j)) := opI fun i j _ _ _ _ _ hc q => by
  have h1 : (0 : Int) < j := hc
  exact mod_int' (by omega) (by rw [Int.fmod_eq_emod_of_nonneg i (by omega)]; exact q)
theorem op_pow : OpR X (binaryOp .Pow) (rI CPow fun i j => .int (i ^ j.toNat)) := opI fun _ _ _ _ _ _ _ hc q => pow_int_small hc.1 hc.2.1 hc.2.2 q
theorem unI {f : Value → Sem Value} {g : Int → Int}
    (rule : ∀ (i : Int) (t : Tok) (s : Shared) (Q : Value → Shared → Prop) (E : Value → Shared → Prop), Q (.int (g i) s.toks) { s with toks := s.toks + 1 } → wpAny (model X.prog X.w) X.A (f (.int i t)) Q E s) :
    UnR X f (rU fun i => .int (g i)) := by
  intro pins s σ H x v Q I rx h
  obtain ⟨i, rfl, q⟩ := h
  obtain ⟨t, rfl⟩ := rx
  exact rule i t s _ _ ⟨.int (g i), H, I.tok _, ⟨_, rfl⟩, q⟩
theorem un_neg : UnR X (unaryOp .USub) (rU fun i => .int (-i)) := unI fun _ _ _ _ _ q => neg_int q
/-! ### bools among ints: n += (a < b) -/
end

/-! ### comparisons -/
/-- the scalars that == tells apart as data does -/
def scal : V → V → Bool
  | .non, .non => true | .non, .int _ => true | .int _, .non => true | .non, .bl _ => true | .bl _, .non => true | .non, .str _ => true | .str _, .non => true
  | .int _, .int _ => true | .bl _, .bl _ => true | .str _, .str _ => true | .byt _, .byt _ => true
  | .int _, .str _ => true | .str _, .int _ => true | .bl _, .str _ => true | .str _, .bl _ => true
  | _, _ => false
def rEq : R2 := fun x y H Q => scal x y = true ∧ Q (.bl (decide (x = y))) H
def rNe : R2 := fun x y H Q => scal x y = true ∧ Q (.bl (!decide (x = y))) H

theorem dec_int {i j : Int} : decide (V.int i = V.int j) = (i == j) := by
  rw [Bool.eq_iff_iff]
  simp
theorem dec_bl {i j : Bool} : decide (V.bl i = V.bl j) = (i == j) := by
  rw [Bool.eq_iff_iff]
  simp
theorem dec_str {i j : Str} : decide (V.str i = V.str j) = (i == j) := by
  rw [Bool.eq_iff_iff]
  simp
theorem dec_byt {i j : Array UInt8} : decide (V.byt i = V.byt j) = (i.toList == j.toList) := by
  rw [Bool.eq_iff_iff]
  cases i
  cases j
  simp

section
variable {X : Cx} {a b c : Expr} {ta tb tc : TE} {pos : Pos}
theorem fin_bl {pins : List (Addr × Obj)} {σ : St} {H : Hp} {s : Shared} {Q : VK} {k k' : Bool} (I : Inv X pins σ H s) (q : Q (.bl k) H) (e : k = k') : EP X pins σ Q (.bool k') s := by
  subst e
  exact ⟨.bl k, H, I, rfl, q⟩
theorem op_eq : OpR X (compareOp .Eq) rEq := by
  intro pins s σ H x y v u Q I rx ry h
  obtain ⟨hs, q⟩ := h
  cases x with
  | non =>
    cases rx
    cases y with
    | non => cases ry; exact PySem.EqNone.eq_none_none (fin_bl I q (by simp))
    | bl j => cases ry; exact PySem.EqNone.eq_none_bool (fin_bl I q (by simp))
    | int j => obtain ⟨t', rfl⟩ := ry; exact PySem.EqNone.eq_none_int (fin_bl I q (by simp))
    | str j => obtain ⟨t', rfl⟩ := ry; exact PySem.EqNone.eq_none_str (fin_bl I q (by simp))
    | _ => exact absurd (show false = true from hs) Bool.false_ne_true
  | bl i =>
    cases rx
    cases y with
    | non => cases ry; exact PySem.EqNone.eq_bool_none (fin_bl I q (by simp))
    | bl j => cases ry; exact eq_bool (fin_bl I q dec_bl)
    | str j => obtain ⟨t', rfl⟩ := ry; exact PySem.EqMixed.eq_bool_str (fin_bl I q (by simp))
    | _ => exact absurd (show false = true from hs) Bool.false_ne_true
  | int i =>
    obtain ⟨t, rfl⟩ := rx
    cases y with
    | non => cases ry; exact PySem.EqNone.eq_int_none (fin_bl I q (by simp))
    | int j => obtain ⟨t', rfl⟩ := ry; exact eq_int (fin_bl I q dec_int)
    | str j => obtain ⟨t', rfl⟩ := ry; exact PySem.EqMixed.eq_int_str (fin_bl I q (by simp))
    | _ => exact absurd (show false = true from hs) Bool.false_ne_true
  | str i =>
    obtain ⟨t, rfl⟩ := rx
    cases y with
    | non => cases ry; exact PySem.EqNone.eq_str_none (fin_bl I q (by simp))
    | bl j => cases ry; exact PySem.EqMixed.eq_str_bool (fin_bl I q (by simp))
    | int j => obtain ⟨t', rfl⟩ := ry; exact PySem.EqMixed.eq_str_int (fin_bl I q (by simp))
    | str j => obtain ⟨t', rfl⟩ := ry; exact eq_str (fin_bl I q dec_str)
    | _ => exact absurd (show false = true from hs) Bool.false_ne_true
  | byt i =>
    obtain ⟨t, rfl⟩ := rx
    cases y with
    | byt j => obtain ⟨t', rfl⟩ := ry; exact PySem.W.eq_bytes (fin_bl I q dec_byt)
    | _ => exact absurd (show false = true from hs) Bool.false_ne_true
  | _ => cases y <;> exact absurd (show false = true from hs) Bool.false_ne_true
theorem op_ne : OpR X (compareOp .NotEq) rNe := by
  intro pins s σ H x y v u Q I rx ry h
  obtain ⟨hs, q⟩ := h
  cases x with
  | non =>
    cases rx
    cases y with
    | non => cases ry; exact PySem.EqNone.ne_none_none (fin_bl I q (by simp))
    | bl j => cases ry; exact PySem.EqNone.ne_none_bool (fin_bl I q (by simp))
    | int j => obtain ⟨t', rfl⟩ := ry; exact PySem.EqNone.ne_none_int (fin_bl I q (by simp))
    | str j => obtain ⟨t', rfl⟩ := ry; exact PySem.EqNone.ne_none_str (fin_bl I q (by simp))
    | _ => exact absurd (show false = true from hs) Bool.false_ne_true
  | bl i =>
    cases rx
    cases y with
    | non => cases ry; exact PySem.EqNone.ne_bool_none (fin_bl I q (by simp))
    | bl j => cases ry; exact ne_bool (fin_bl I q (congrArg not dec_bl))
    | str j => obtain ⟨t', rfl⟩ := ry; exact PySem.EqMixed.ne_bool_str (fin_bl I q (by simp))
    | _ => exact absurd (show false = true from hs) Bool.false_ne_true
  | int i =>
    obtain ⟨t, rfl⟩ := rx
    cases y with
    | non => cases ry; exact PySem.EqNone.ne_int_none (fin_bl I q (by simp))
    | int j => obtain ⟨t', rfl⟩ := ry; exact ne_int (fin_bl I q (congrArg not dec_int))
    | str j => obtain ⟨t', rfl⟩ := ry; exact PySem.EqMixed.ne_int_str (fin_bl I q (by simp))
    | _ => exact absurd (show false = true from hs) Bool.false_ne_true
  | str i =>
    obtain ⟨t, rfl⟩ := rx
    cases y with
    | non => cases ry; exact PySem.EqNone.ne_str_none (fin_bl I q (by simp))
    | bl j => cases ry; exact PySem.EqMixed.ne_str_bool (fin_bl I q (by simp))
    | int j => obtain ⟨t', rfl⟩ := ry; exact PySem.EqMixed.ne_str_int (fin_bl I q (by simp))
    | str j => obtain ⟨t', rfl⟩ := ry; exact ne_str (fin_bl I q (congrArg not dec_str))
    | _ => exact absurd (show false = true from hs) Bool.false_ne_true
  | byt i =>
    obtain ⟨t, rfl⟩ := rx
    cases y with
    | byt j => obtain ⟨t', rfl⟩ := ry; exact PySem.W.ne_bytes (fin_bl I q (congrArg not dec_byt))
    | _ => exact absurd (show false = true from hs) Bool.false_ne_true
  | _ => cases y <;> exact absurd (show false = true from hs) Bool.false_ne_true

theorem op_gt : OpR X (compareOp .Gt) (rI0 fun i j => .bl (decide (j < i))) := opB0 fun _ _ _ _ _ _ _ q => gt_int q
/-- the one string within the other -/
theorem op_in_str : OpR X (compareOp .In) (fun x y H Q => ∃ i j, x = .str i ∧ y = .str j ∧ Q (.bl (!(Builtin.Str.occurrences j i 0 j.length 1).isEmpty)) H) := by
  intro pins s σ H x y v u Q I rx ry h
  obtain ⟨i, j, rfl, rfl, q⟩ := h
  obtain ⟨t, rfl⟩ := rx
  obtain ⟨t', rfl⟩ := ry
  exact in_str (fin_bl I q rfl)

/-- is, is not of two objects that are tracked lists or instances -/
def isObj : HO → Bool
  | .lst _ => true
  | .ins _ _ _ => true
  | _ => false
/-- two rules for one operation: by cases -/
theorem OpR.or {f : Value → Value → Sem Value} {r r' : R2} (h : OpR X f r) (h' : OpR X f r') : OpR X f (fun x y H Q => r x y H Q ∨ r' x y H Q) := by
  intro pins s σ H x y v u Q I rx ry q
  rcases q with q | q
  · exact h pins s σ H x y v u Q I rx ry q
  · exact h' pins s σ H x y v u Q I rx ry q

theorem nomark (b : Expr) {op : CmpOp} (h : op ≠ .In := by decide) (h2 : op ≠ .NotIn := by decide) : behindInMarks op b = false := by
  have e1 : (op == CmpOp.In) = false := by cases op <;> first | rfl | exact absurd rfl h
  have e2 : (op == CmpOp.NotIn) = false := by cases op <;> first | rfl | exact absurd rfl h2
  cases b <;> simp [behindInMarks, e1, e2]
/-- a comparison as a value; hm: nomark b, or (for in, not in) by with_unfolding_all rfl -/
theorem pe_cmpR {op : CmpOp} {r : R2} (ho : OpR X (compareOp op) r) (ha : PE X a ta) (hb : PE X b tb) (hm : behindInMarks op b = false) : PE X (.Compare a [op] [b] pos) (tOp r ta tb) := by
  intro pins s σ H Q I h
  exact wpAny_Compare1 (binT ha hb I h fun v u s2 x y H2 I2 rx ry q => ho pins s2 σ H2 x y v u Q I2 rx ry q) hm
/-- a reading of a value as a test -/
def tTest (t : TE) : TT := fun σ H Q => t σ H fun x H' => ∃ k, x = .bl k ∧ Q k H'
theorem pt_cmpR {op : CmpOp} {r : R2} (ho : OpR X (compareOp op) r) (ha : PE X a ta) (hb : PE X b tb) (hm : behindInMarks op b = false) : PT X (.Compare a [op] [b] pos) (tTest (tOp r ta tb)) := by
  intro pins s σ H Q I h
  refine wpAny_isTrue_Compare1 (thn (ha pins s σ H _ I h) fun v s1 ⟨x, H1, I1, r1, q1⟩ => thn (hb pins s1 σ H1 _ I1 q1) fun u s2 ⟨y, H2, I2, r2, q2⟩ =>
    thn (ho pins s2 σ H2 x y v u _ I2 r1 r2 q2) fun c s3 ⟨z, H3, I3, r3, k, e, q3⟩ => ?_) hm
  subst e
  cases r3
  exact wpAny_truthy_bool ⟨H3, I3, q3⟩
/-- a op1 b op2 c -/
def tChain (r r' : R2) (ta tb tc : TE) : TE := fun σ H Q => ta σ H fun x H1 => tb σ H1 fun y H2 => r x y H2 fun z H3 => ∃ k, z = .bl k ∧
  (if k = true then tc σ H3 fun w' H4 => r' y w' H4 Q else Q (.bl false) H3)
/-! ### truth -/
/-- a value's truth by the abstract heap -/
def TruV (K : PySem.W.Frag) (x : V) (H : Hp) (k : Bool) : Prop :=
  match x with
  | .non => k = false
  | .bl b => k = b
  | .int i => k = (i != 0)
  | .str y => y.length ≤ sizeLine ∧ k = ((y.length : Int) != 0)
  | .byt y => y.size ≤ sizeLine ∧ k = ((y.size : Int) != 0)
  | .ref p => (∃ xs, SqL K H p xs ∧ k = !xs.isEmpty) ∨ (∃ xs, SqT K H p xs ∧ k = !xs.isEmpty) ∨ ∃ kvs, H p = some (.dK kvs) ∧ k = !kvs.isEmpty
  | _ => False
theorem line63 : (sizeLine : Nat) < 2 ^ 63 := by rw [sizeLine_eq]; decide
/-! ### strs and bytes -/
theorem op_add_str : OpR X (binaryOp .Add) (fun x y H Q => ∃ i j, x = .str i ∧ y = .str j ∧ i.length + j.length ≤ sizeLine ∧ Q (.str (i ++ j)) H) := by
  intro pins s σ H x y v u Q I rx ry h
  obtain ⟨i, j, rfl, rfl, hz, q⟩ := h
  obtain ⟨t, rfl⟩ := rx
  obtain ⟨t', rfl⟩ := ry
  exact add_str (fun t' tk => ⟨.str (i ++ j), H, I.tok _, ⟨_, rfl⟩, q⟩) hz
def PlainIxT (b : Expr) : Prop := ∀ o i, subscripted b false o i = operate [o, i] (getItem o i)
/-! ### scalar builtins, by CallR -/
theorem vals1 {x : V} {us : List Value} (r : Vals [x] us) : ∃ u, us = [u] ∧ RelV x u := by
  cases r with
  | cons r1 r2 => cases r2; exact ⟨_, rfl, r1⟩
theorem vals2 {x y : V} {us : List Value} (r : Vals [x, y] us) : ∃ u w', us = [u, w'] ∧ RelV x u ∧ RelV y w' := by
  cases r with
  | cons r1 r2 =>
    cases r2 with
    | cons r3 r4 => cases r4; exact ⟨_, _, rfl, r1, r3⟩
theorem call_str_int : CallR X (.type "str") (fun xs H Q => ∃ i, xs = [.int i] ∧ i.natAbs.log2 < 1920 ∧ Q (.str (toString i)) H) := by
  intro pins s σ H xs us Q I r h
  obtain ⟨i, rfl, hz, q⟩ := h
  obtain ⟨u, rfl, t, rfl⟩ := vals1 r
  exact PySem.P.str_of_int hz ⟨.str _, H, I.tok _, ⟨_, rfl⟩, q⟩
/-- len of a str, a bytes, a list, a tuple -/
def LenV (K : PySem.W.Frag) (x : V) (H : Hp) (n : Nat) : Prop :=
  match x with
  | .str y => y.length ≤ sizeLine ∧ n = y.length
  | .byt y => y.size ≤ sizeLine ∧ n = y.size
  | .ref p => (∃ xs, SqL K H p xs ∧ n = xs.length) ∨ ∃ xs, SqT K H p xs ∧ n = xs.length
  | _ => False
end
end L2

namespace L2
open PySem PySem.Spec PyProof.Rows

/-! ### an instance, its attributes a map -/
structure ObjM (h : Heap) (x dx C : Addr) (mA : Str → Option Value) : Prop where
  obj : h.get? x = some (PySem.W.instObj C dx)
  ns : h.Ns1 dx mA
  ne : dx ≠ x

theorem lookIn_ns {h : Heap} {dx : Addr} {mA : Str → Option Value} (n : h.Ns1 dx mA) : ∃ od, h.get? dx = some od ∧ ∀ name, PySem.W.lookIn name od = some (mA name) := by
  obtain ⟨o, es, ep, ho, hd, hk, _, hm⟩ := n
  refine ⟨o, ho, fun name => ?_⟩
  have e := hm name
  unfold nsFind findBy at e
  rw [← Array.find?_toList] at e
  unfold PySem.W.lookIn
  rw [hd]
  dsimp only
  split
  · rename_i y q
    rw [q] at e
    exact congrArg some e
  · rename_i q
    rw [q] at e
    have a : es.toList.any (·.refKey) = false := by
      rw [List.any_eq_false]
      intro y hy
      obtain ⟨z, t, hkey⟩ := hk y (Array.mem_toList_iff.mp hy)
      simp [DictEntry.refKey, hkey]
    have a' : ¬ es.toList.any (·.refKey) = true := by rw [a]; exact Bool.false_ne_true
    rw [if_neg a']
    exact congrArg some e

theorem ObjM.look {h : Heap} {x dx C : Addr} {mA : Str → Option Value} (I : ObjM h x dx C mA) : ∃ od, PySem.W.InstAt h x (PySem.W.instObj C dx) C (some od) ∧ ∀ name, PySem.W.lookIn name od = some (mA name) :=
  let ⟨od, ho, hl⟩ := lookIn_ns I.ns
  ⟨od, ⟨I.obj, rfl, rfl, ho⟩, hl⟩

section
variable {prog : Program} {w : World} {A : Around} {E : Value → Shared → Prop} {s : Shared} {K : PySem.W.Frag} {x dx C f : Addr} {mA : Str → Option Value} {name : Str} {v : Value}

end

/-! ### the attributes as a list of pairs -/
def putF (f : Str) (v : V) : List (Str × V) → List (Str × V)
  | [] => [(f, v)]
  | (g, x) :: r => if g = f then (g, v) :: r else (g, x) :: putF f v r
section
variable {P : Program} {w : World} {H H' : Hp} {h h' : Heap} {a C dx : Addr} {fs fs' : List (Str × V)}
theorem ins_get (hok : HOk P w H h) (e : H a = some (.ins C dx fs)) : ∃ mA, ObjM h a dx C mA ∧ (∀ f, RelO (fs.lookup f) (mA f)) ∧ PySem.Within mA (fs.map (·.1)) ∧ fs.length ≤ 1000 ∧ H dx = some (.own a) := by
  obtain ⟨d, z, ne, ob, mA, n, r, q⟩ := (show ObjOk P w H h a (.ins C dx fs) from hok a _ e)
  exact ⟨mA, ⟨ob, n, ne⟩, r, q, z, d⟩
end

/-! ### what of the text a class must have -/
structure Cls (K : PySem.W.Frag) (C : Addr) : Prop where
  pg : PySem.W.plainGet K C Str.empty = true
  hd : PySem.W.hasDictIn K C = true
  po : PySem.W.plainOver K C = true
  sa : PySem.W.findIn K (.ref C) "__setattr__" = some (some (.builtin "object.__setattr__"))
theorem Cls.get {K : PySem.W.Frag} {C : Addr} (c : Cls K C) (f : Str) : PySem.W.plainGet K C f = true := c.pg
/-- no class of it has the name -/
def NoAttr (K : PySem.W.Frag) (C : Addr) (f : Str) : Prop := PySem.W.findIn K (.ref C) f = some none
/-- a constant of the class -/
structure Con (K : PySem.W.Frag) (C : Addr) (f : Str) (v : V) (u : Value) : Prop where
  at_ : PySem.W.findIn K (.ref C) f = some (some u)
  rel : RelV v u
  get : PySem.W.specialIn K u "__get__" = some none
  cp : PySem.W.copiedNames.contains f = false
/-- a method: a plain def of the class or of one above it -/
structure Meth (K : PySem.W.Frag) (C : Addr) (m : Str) (f : Addr) : Prop where
  at_ : PySem.W.findIn K (.ref C) m = some (some (.ref f))
  fn : PySem.W.isFn K (.ref f) = true
  kp : PySem.W.keepIn K (.ref f) = true

section
variable {X : Cx} {pins : List (Addr × Obj)} {σ : St} {H : Hp} {s : Shared} {a C dx : Addr} {fs : List (Str × V)} {f : Str} {v : V} {A : Around} {E : Value → Shared → Prop}

/-- a new instance, tracked, without attributes -/
theorem Inv.made (I : Inv X pins σ H s) : Inv X pins σ (upd (upd H s.heap.objs.size (.own (s.heap.objs.size + 1))) (s.heap.objs.size + 1) (.ins C s.heap.objs.size []))
    { s with heap := (s.heap.push PySem.W.emptyDict).push (PySem.W.instObj C s.heap.objs.size) } := by
  have e1 : (s.heap.push PySem.W.emptyDict).get? s.heap.objs.size = some PySem.W.emptyDict := Heap.get?_push_size s.heap rfl
  have e2 : ((s.heap.push PySem.W.emptyDict).push (PySem.W.instObj C s.heap.objs.size)).get? (s.heap.objs.size + 1) = some (PySem.W.instObj C s.heap.objs.size) := by
    have := Heap.get?_push_size (s.heap.push PySem.W.emptyDict) (o := PySem.W.instObj C s.heap.objs.size) rfl
    rwa [Heap.size_push] at this
  have e3 : (s.heap.push PySem.W.emptyDict).Ns s.heap.objs.size (fun _ => none) := ⟨PySem.W.emptyDict, #[], _, e1, rfl, (fun e he => absurd he (by simp)), fun _ => rfl⟩
  have I1 := I.laid (a := s.heap.objs.size) (o := .own (s.heap.objs.size + 1)) (h' := s.heap.push PySem.W.emptyDict) (t' := s.toks) (fun b u q => Heap.get?_push_of_some _ q) (Nat.le_refl _) ⟨_, e1⟩
  refine I1.laid (a := s.heap.objs.size + 1) (o := .ins C s.heap.objs.size []) (t' := s.toks) (fun b u q => Heap.get?_push_of_some _ q) (Nat.le_of_eq (Heap.size_push _ _)) ?_
  have ne : s.heap.objs.size ≠ s.heap.objs.size + 1 := Nat.ne_of_lt (Nat.lt_succ_self _)
  refine ⟨by rw [upd_ne ne, upd_same], Nat.zero_le _, ne, e2, fun _ => none, (Heap.Ns1.of_empty e3).at fun o q => Heap.get?_push_of_some _ q, fun _ => True.intro, fun y hy => absurd rfl hy⟩

end

/-! ### readings and rules -/
/-- e.f, an attribute of the instance -/
def tFld (K : PySem.W.Frag) (ta : TE) (f : Str) : TE := fun σ H Q => ta σ H fun x H1 => ∃ a C dx fs v, x = .ref a ∧ H1 a = some (.ins C dx fs) ∧ Cls K C ∧ NoAttr K C f ∧ fs.lookup f = some v ∧ Q v H1
/-- e.f, a constant of the class -/
def tCon (K : PySem.W.Frag) (ta : TE) (f : Str) : TE := fun σ H Q => ta σ H fun x H1 => ∃ a C dx fs v u, x = .ref a ∧ H1 a = some (.ins C dx fs) ∧ Cls K C ∧ Con K C f v u ∧ fs.lookup f = none ∧ Q v H1
/-- e.f = value -/
def sFld (K : PySem.W.Frag) (ta tv : TE) (f : Str) : TS := fun D σ H => tv σ H fun y H1 => ta σ H1 fun x H2 => ∃ a C dx fs, x = .ref a ∧ H2 a = some (.ins C dx fs) ∧ Cls K C ∧ NoAttr K C f ∧ fs.length < 1000 ∧
  D.nx σ (upd H2 a (.ins C dx (putF f y fs)))
/-- an augmented operator on two values -/
def InOp (X : Cx) (op : Operator) (rd : V → V → Hp → VK → Prop) : Prop :=
  ∀ (pins : List (Addr × Obj)) (s : Shared) (σ : St) (H : Hp) (x y : V) (u v : Value) (Q : VK), Inv X pins σ H s → RelV x u → RelV y v → rd x y H Q → wpAny (model X.prog X.w) X.A (inplaceOp op u v) (EP X pins σ Q) X.xe s
/-- e.f op= value -/
def sFldAug (K : PySem.W.Frag) (ta tv : TE) (rd : V → V → Hp → VK → Prop) (f : Str) : TS := fun D σ H => ta σ H fun x H1 => ∃ a C dx fs v, x = .ref a ∧ H1 a = some (.ins C dx fs) ∧ Cls K C ∧ NoAttr K C f ∧ fs.lookup f = some v ∧
  tv σ H1 fun y H2 => rd v y H2 fun z H3 => ∃ dx' fs', H3 a = some (.ins C dx' fs') ∧ fs'.length < 1000 ∧ D.nx σ (upd H3 a (.ins C dx' (putF f z fs')))

section
variable {X : Cx} {o e value : Expr} {f : Str} {pos pos' tpos : Pos} {ta tv : TE}
def rAdd : V → V → Hp → VK → Prop := fun x y H Q => ∃ i j, x = .int i ∧ y = .int j ∧ Q (.int (i + j)) H
def rSub : V → V → Hp → VK → Prop := fun x y H Q => ∃ i j, x = .int i ∧ y = .int j ∧ Q (.int (i - j)) H
end

/-! ### isinstance -/
section
variable {X : Cx} {pins : List (Addr × Obj)} {σ : St} {H : Hp} {s : Shared} {A : Around} {E : Value → Shared → Prop} {Q : Value → Shared → Prop} {c : Value} {b : Bool}
/-- the type of a value, as the fragment's deciders take it; for an instance its class -/
inductive TyOf (K : PySem.W.Frag) (H : Hp) : V → Value → Prop where
  | non : TyOf K H .non (.type "NoneType")
  | bl (x : Bool) : TyOf K H (.bl x) (.type "bool")
  | int (i : Int) : TyOf K H (.int i) (.type "int")
  | str (x : Str) : TyOf K H (.str x) (.type "str")
  | flt (x : UInt64) : TyOf K H (.flt x) (.type "float")
  | lst {a : Addr} {xs : List V} (e : H a = some (.lst xs)) : TyOf K H (.ref a) (.type "list")
  | frz {a : Addr} {o : Obj} {xs : List V} (e : H a = some (.frz o (.lst xs))) : TyOf K H (.ref a) (.type "list")
  | tup {a : Addr} {xs : List V} (e : H a = some (.tup xs)) : TyOf K H (.ref a) (.type "tuple")
  | dK {a : Addr} {kvs : List (Key × V)} (e : H a = some (.dK kvs)) : TyOf K H (.ref a) (.type "dict")
  | dT {a : Addr} {kvs : List (List Key × V)} (e : H a = some (.dT kvs)) : TyOf K H (.ref a) (.type "dict")
  | ins {a C dx : Addr} {fs : List (Str × V)} (e : H a = some (.ins C dx fs)) (cl : Cls K C) (ha : PySem.W.findIn K (.ref C) "__class__" = some (some (.builtin "object.__class__")))
      (hn : PySem.W.specialIn K (.builtin "object.__class__") "__get__" = some (some (.builtin "getset_descriptor.__get__"))) (htk : PySem.W.takesIn K (.builtin "object.__class__") = some true)
      (hm : PySem.W.mroIn K C (.type "object") = some true) : TyOf K H (.ref a) (.ref C)
/-- isinstance(x, c) for one class c, a built-in or an own one: kitOne's answer -/
theorem isinst_ok {x : V} {u t : Value} (I : Inv X pins σ H s) (rx : RelV x u) (ty : TyOf X.K H x t) (e : PySem.W.kitOne X.K t c = some b) (h : ∀ tk, Q (.bool b) { s with toks := tk }) :
    wpAny (model X.prog X.w) A (call (.builtin "isinstance") [u, c]) Q E s := by
  cases ty with
  | non => cases (show u = Value.none from rx); exact PySem.W.kia_one PySem.W.kitx_none I.kIn True.intro e (fun z => nomatch z) h
  | bl y => cases (show u = Value.bool y from rx); exact PySem.W.kia_one PySem.W.kitx_bool I.kIn True.intro e (fun z => nomatch z) h
  | int i => obtain ⟨t, q⟩ := (show ∃ t, u = Value.int i t from rx); cases q; exact PySem.W.kia_one PySem.W.kitx_int I.kIn True.intro e (fun z => nomatch z) h
  | str y => obtain ⟨t, q⟩ := (show ∃ t, u = Value.str y t from rx); cases q; exact PySem.W.kia_one PySem.W.kitx_str I.kIn True.intro e (fun z => nomatch z) h
  | flt y => obtain ⟨t, q⟩ := (show ∃ t, u = Value.float y t from rx); cases q; exact PySem.W.kia_one PySem.W.kitx_float I.kIn True.intro e (fun z => nomatch z) h
  | @lst a xs ea =>
    cases (show u = Value.ref a from rx)
    obtain ⟨_, _, n, _, h1⟩ := (show ObjOk X.prog X.w H s.heap a (.lst xs) from I.hok a _ ea)
    exact PySem.W.kia_one PySem.W.kitx_list I.kIn ⟨_, h1, rfl⟩ e (fun z => nomatch z) h
  | @frz a ob xs ea =>
    cases (show u = Value.ref a from rx)
    obtain ⟨_, _, _, n, _, h1⟩ := (show ObjOk X.prog X.w H s.heap a (.frz ob (.lst xs)) from I.hok a _ ea)
    exact PySem.W.kia_one PySem.W.kitx_list I.kIn ⟨_, h1, rfl⟩ e (fun z => nomatch z) h
  | @tup a xs ea =>
    cases (show u = Value.ref a from rx)
    obtain ⟨_, _, _, p⟩ := (show ObjOk X.prog X.w H s.heap a (.tup xs) from I.hok a _ ea)
    obtain ⟨o, h1, h2, _⟩ := p
    exact PySem.W.kia_one PySem.W.kitx_tuple I.kIn ⟨o, h1, h2⟩ e (fun z => nomatch z) h
  | @dK a kvs ea =>
    cases (show u = Value.ref a from rx)
    obtain ⟨_, _, vs, _, p⟩ := (show ObjOk X.prog X.w H s.heap a (.dK kvs) from I.hok a _ ea)
    obtain ⟨o, es, ep, h1, h2, _⟩ := p
    exact PySem.W.kia_one PySem.W.kitx_dict I.kIn ⟨o, h1, h2.1⟩ e (fun z => nomatch z) h
  | @dT a kvs ea =>
    cases (show u = Value.ref a from rx)
    obtain ⟨_, _, xs, _, o, es, ep, h1, h2, _⟩ := (show ObjOk X.prog X.w H s.heap a (.dT kvs) from I.hok a _ ea)
    exact PySem.W.kia_one PySem.W.kitx_dict I.kIn ⟨o, h1, h2.1⟩ e (fun z => nomatch z) h
  | @ins a C dx fs ea cl ha hn htk hm =>
    cases (show u = Value.ref a from rx)
    obtain ⟨mA, O, _⟩ := ins_get I.hok ea
    obtain ⟨od, J, _⟩ := O.look
    exact PySem.W.kia_one (PySem.W.kitx_own (cl.get _) cl.hd ha hn htk hm) I.kIn J e (fun z => nomatch z) h
end
end L2

namespace L2
open PySem PySem.Spec PyProof.Rows

/-! ### room -/
structure Room (k : Nat) (A : Around) : Prop where
  hd : A.handled = none
  dp : A.depth + 3 * k + 5 < recursionLimit
  un : A.units + 16 * k + 200 < cLine
theorem Room.mono {j k : Nat} {A : Around} (r : Room k A) (h : j ≤ k) : Room j A := ⟨r.hd, by have := r.dp; omega, by have := r.un; omega⟩
theorem Room.deeper {k : Nat} {A : Around} (r : Room (k + 1) A) (env : Env) : Room k (A.deeper env) :=
  ⟨r.hd, by have := r.dp; show A.depth + 1 + 3 * k + 5 < _; omega, by have := r.un; show A.units + 3 + 16 * k + 200 < _; omega⟩
theorem Room.in1 {k : Nat} {A : Around} (r : Room (k + 1) A) : Room k A.in1 :=
  ⟨r.hd, by have := r.dp; show A.depth + 3 * k + 5 < _; omega, by have := r.un; show A.units + 1 + 16 * k + 200 < _; omega⟩
theorem make_depth {A : Around} {C : Addr} {us : List Value} {kw : List (Str × Value)} : (A.under (.builtin "type.__call__" ⟨.ref C :: us, kw⟩)).depth = A.depth + 1 := by
  first | rfl | simp [Around.under, Code.weight, Code.isCreation, Code.isGuard, Code.isCaller, Code.frames, Code.isFrame, guardIds]
theorem make_units {A : Around} {C : Addr} {us : List Value} {kw : List (Str × Value)} : (A.under (.builtin "type.__call__" ⟨.ref C :: us, kw⟩)).units = A.units + 1 := by
  first | rfl | simp [Around.under, Code.cUnits, Code.frames, Code.isFrame]
theorem Room.make {k : Nat} {A : Around} (r : Room (k + 1) A) (C : Addr) (us : List Value) (kw : List (Str × Value)) : Room k (A.under (.builtin "type.__call__" ⟨.ref C :: us, kw⟩)) :=
  ⟨r.hd, by have := r.dp; rw [make_depth]; omega, by have := r.un; rw [make_units]; omega⟩
theorem Room.depth {k : Nat} {A : Around} (r : Room k A) : A.depth < recursionLimit := by have := r.dp; omega
theorem Room.units {k : Nat} {A : Around} (r : Room k A) : A.units + 64 < cLine := by have := r.un; omega
/-! ### argument lists and displays -/
def tNil : TA := fun _ H Q => Q [] H
def tCons (ta : TE) (tr : TA) : TA := fun σ H Q => ta σ H fun x H1 => tr σ H1 fun xs H2 => Q (x :: xs) H2
section
variable {X : Cx} {e : Expr} {es : List Expr} {te : TE} {t : TA} {pos : Pos}
theorem pa_nil : PA X [] tNil := fun _ _ _ _ H Q I h => Calls.spliced_nil ⟨[], H, I, .nil, h⟩
theorem pa_cons (ha : PE X e te) (hr : PA X es t) (hs : starEach (e :: es) X.env = (false, eval e X.env) :: starEach es X.env := by rfl) : PA X (e :: es) (tCons te t) := by
  intro pos pins s σ H Q I h
  rw [hs]
  show wpAny _ _ (spliced ((false, eval e X.env) :: backTo pos (starEach es X.env))) _ _ s
  refine Calls.spliced_cons (thn (ha pins s σ H _ I h) fun u s1 ⟨x, H1, I1, r1, q1⟩ => ?_)
  exact thn (hr pos pins s1 σ H1 _ I1 q1) fun us s2 ⟨xs, H2, I2, r2, q2⟩ => ⟨x :: xs, H2, I2, .cons r1 r2, q2⟩

/-- a tuple, a list of written items -/
def tTup (t : TA) : TE := fun σ H Q => t σ H fun xs H1 => xs.length ≤ sizeLine ∧ ∀ p, H1 p = none → Q (.ref p) (upd H1 p (.tup xs))
def tLst (t : TA) : TE := fun σ H Q => t σ H fun xs H1 => xs.length ≤ sizeLine ∧ ∀ p, H1 p = none → Q (.ref p) (upd H1 p (.lst xs))
theorem pe_lst (h : PA X es t) : PE X (.List es pos) (tLst t) := by
  intro pins s σ H Q I hq
  refine wpAny_List_spliced (thn (h pos pins s σ H _ I hq) fun us s1 ⟨xs, H1, I1, r, z, q⟩ => ⟨by rw [← r.length]; exact z, ?_⟩)
  have hf : H1 s1.heap.objs.size = none := I1.hok.fresh (Nat.le_refl _)
  refine ⟨.ref s1.heap.objs.size, upd H1 s1.heap.objs.size (.lst xs), I1.laid (t' := s1.toks) (fun b u e => Heap.get?_push_of_some _ e) (Nat.le_refl _) ?_, rfl, q _ hf⟩
  exact ⟨z, us, 0, r, Heap.get?_push_size _ rfl⟩
end

/-! ### what a def promises -/
/-- a def's promise: the bound arguments in the parameters' order, the heap, the wanted end, the wanted exception -/
abbrev Sp := List V → Hp → VK → XK → Prop
/-- how an exception lies behind a call (file 08 gives it): the callers' frames, abstract heap and state ahead of the call, the wish, the exception, the state -/
abbrev CXT := List Env → Hp → Shared → XK → Value → Shared → Prop

/-- the state at a call -/
structure Env0 (P : Program) (w : World) (K : PySem.W.Frag) (mg : Str → Option Value) (base : Heap) (A : Around) (outer : List Env) (s : Shared) (H : Hp) : Prop where
  frames : A.frames = some outer
  mod : Mod K mg base
  bs : ∀ b o, base.get? b = some o → s.heap.get? b = some o ∧ H b = none
  bsz : base.objs.size ≤ s.heap.objs.size
  funs : s.heap.FunFrames base outer
  frf : ∀ b ∈ frs outer, H b = none
  hok : HOk P w H s.heap
  bare : AllBare s.gens
/-- a call's end -/
def CE (outer : List Env) (P : Program) (w : World) (H : Hp) (s : Shared) (Q : VK) (u : Value) (s' : Shared) : Prop :=
  ∃ v H', s'.os = s.os ∧ AllBare s'.gens ∧ Un (frs outer) [] H H' s.heap s'.heap ∧ HOk P w H' s'.heap ∧ RelV v u ∧ Q v H'
def CR (CX : CXT) (outer : List Env) (P : Program) (w : World) (H : Hp) (s : Shared) (Q : VK) (E : XK) (r : Result) (s' : Shared) : Prop :=
  match r with
  | .ok (.ret u) => CE outer P w H s Q u s'
  | .ok _ => False
  | .error e => CX outer H s E e s'
structure FnOk (P : Program) (w : World) (K : PySem.W.Frag) (mg : Str → Option Value) (base : Heap) (CX : CXT) (k : Nat) (f : Addr) (fd : FuncData) (ps : List Str) (sp : Sp) : Prop where
  len : ∀ vs H Q E, sp vs H Q E → vs.length = ps.length
  run : ∀ (A : Around) (outer : List Env) (s : Shared) (H : Hp) (args : Args) (us : List Value) (vs : List V) (Q : VK) (E : XK), Room k A → Env0 P w K mg base A outer s H → BindsTo s fd args (ps.zip us) → Vals vs us → sp vs H Q E →
    codeAny (model P w) A (.call (.ref f) args) (CR CX outer P w H s Q E) s
theorem FnOk.mono {P : Program} {w : World} {K : PySem.W.Frag} {mg : Str → Option Value} {base : Heap} {CX : CXT} {j k : Nat} {f : Addr} {fd : FuncData} {ps : List Str} {sp : Sp} (F : FnOk P w K mg base CX j f fd ps sp) (h : j ≤ k) :
    FnOk P w K mg base CX k f fd ps sp := ⟨F.len, fun A outer s H args us vs Q E hr => F.run A outer s H args us vs Q E (hr.mono h)⟩
theorem Env0.make {P : Program} {w : World} {K : PySem.W.Frag} {mg : Str → Option Value} {base : Heap} {A : Around} {outer : List Env} {s : Shared} {H : Hp} (e : Env0 P w K mg base A outer s H) (C : Addr) (us : List Value) (kw : List (Str × Value)) :
    Env0 P w K mg base (A.under (.builtin "type.__call__" ⟨.ref C :: us, kw⟩)) outer s H := ⟨by first | exact e.frames | (simpa [Around.under, Code.envs, Code.isFrame, pushEnvs] using e.frames), e.mod, e.bs, e.bsz, e.funs, e.frf, e.hok, e.bare⟩
theorem Env0.in1 {P : Program} {w : World} {K : PySem.W.Frag} {mg : Str → Option Value} {base : Heap} {A : Around} {outer : List Env} {s : Shared} {H : Hp} (e : Env0 P w K mg base A outer s H) :
    Env0 P w K mg base A.in1 outer s H := ⟨e.frames, e.mod, e.bs, e.bsz, e.funs, e.frf, e.hok, e.bare⟩

section
variable {X : Cx} {pins : List (Addr × Obj)} {σ : St} {H : Hp} {s s' : Shared}
/-- from a body: what a callee wants -/
theorem Inv.env0 (I : Inv X pins σ H s) : Env0 X.prog X.w X.K X.mg X.base X.A X.stack s H :=
  ⟨I.ok.frames, I.ok.mod, I.bs, Nat.le_trans I.ok.bsz I.sz, I.stack, I.stkFree, I.hok, I.bare⟩
/-- behind a call -/
theorem Inv.after {Q : VK} {u : Value} (I : Inv X pins σ H s) (h : CE X.stack X.prog X.w H s Q u s') : EP X pins σ Q u s' := by
  obtain ⟨v, H', os, bare, un, hok, r, q⟩ := h
  obtain ⟨hh, g, d, t, os'⟩ := s'
  obtain rfl : os' = s.os := os
  exact ⟨v, H', I.call (h' := hh) (g' := g) (d' := d) (t' := t) (ch := []) un hok bare (fun b z => absurd z (by simp)), r, q⟩
end

/-! ### calls -/
/-- f(..): the written arguments, then the defaults dvs; E: what is wanted of an exception -/
def tCall (sp : Sp) (dvs : List V) (E : XK) (t : TA) : TE := fun σ H Q => t σ H fun vs H1 => sp (vs ++ dvs) H1 Q E
/-- o.m(..) of an instance of the class at C -/
def tMeth (C : Addr) (m : Str) (sp : Sp) (dvs : List V) (E : XK) (ta : TE) (t : TA) : TE := fun σ H Q => ta σ H fun x H1 => ∃ a dx fs, x = .ref a ∧ H1 a = some (.ins C dx fs) ∧ fs.lookup m = none ∧
  t σ H1 fun vs H2 => sp (x :: (vs ++ dvs)) H2 Q E
/-- C(..): a new instance and its dict, then __init__ -/
def tMake (C : Addr) (sp : Sp) (dvs : List V) (E : XK) (t : TA) : TE := fun σ H Q => t σ H fun vs H1 => ∀ x dx, H1 x = none → H1 dx = none → dx ≠ x →
  sp (.ref x :: (vs ++ dvs)) (upd (upd H1 dx (.own x)) x (.ins C dx [])) (fun v H2 => v = .non ∧ Q (.ref x) H2) E

/-- how the parameters are bound: us the positional arguments, kw the keywords' values by name, ds the defaults that fill up -/
def Binds (K : PySem.W.Frag) (fd : FuncData) (ps : List Str) (ds : List Value) : Prop :=
  ∀ (s : Shared) (us : List Value), K.In s.heap → (us ++ ds).length = ps.length → BindsTo s fd ⟨us, []⟩ (ps.zip (us ++ ds))
/-- every parameter is given -/
theorem Binds.all {K : PySem.W.Frag} {fd : FuncData} {ps : List Str} (h : ∀ us : List Value, us.length = ps.length → bindArgs fd ⟨us, []⟩ = pure (ps.zip us)) : Binds K fd ps [] := fun s us _ hl => by
  rw [List.append_nil] at hl ⊢
  exact .of_eq (h us hl)

/-- an exception of a callee reaches what this body wants of exceptions -/
def Passes (CX : CXT) (X : Cx) (E : XK) : Prop := ∀ (pins : List (Addr × Obj)) (σ : St) (H : Hp) (s : Shared) (e : Value) (s' : Shared), Inv X pins σ H s → CX X.stack H s E e s' → X.xe e s'

section
variable {X : Cx} {CX : CXT} {k : Nat} {f C : Addr} {fd : FuncData} {ps : List Str} {sp : Sp} {dvs : List V} {ds : List Value} {E : XK} {x m : Str} {p pos apos : Pos} {e o : Expr} {es : List Expr} {ta : TE} {t : TA}

/-- the callee runs -/
theorem run_fn {pins : List (Addr × Obj)} {σ : St} {H : Hp} {s : Shared} {Q : VK} {us : List Value} {vs : List V} (F : FnOk X.prog X.w X.K X.mg X.base CX k f fd ps sp) (hr : Room k X.A) (hb : Binds X.K fd ps ds) (hd : Vals dvs ds) (hx : Passes CX X E)
    (I : Inv X pins σ H s) (r : Vals vs us) (h : sp (vs ++ dvs) H Q E) : wpAny (model X.prog X.w) X.A (call (.ref f) us) (EP X pins σ Q) X.xe s := by
  have r2 : Vals (vs ++ dvs) (us ++ ds) := r.append hd
  have hl : (us ++ ds).length = ps.length := by rw [← r2.length]; exact F.len _ _ _ _ h
  refine wpAny_call (codeAny_mono (F.run X.A X.stack s H ⟨us, []⟩ (us ++ ds) (vs ++ dvs) Q E hr I.env0 (hb s us I.kIn hl) r2 h) fun r s' hq => ?_)
  cases r with
  | error e => exact hx pins σ H s e s' I hq
  | ok fl =>
    cases fl with
    | ret u => exact I.after hq
    | next => exact False.elim hq
    | brk => exact False.elim hq
    | cont => exact False.elim hq

theorem pe_call (F : FnOk X.prog X.w X.K X.mg X.base CX k f fd ps sp) (hr : Room k X.A) (hg : Gl X x) (hm : X.mg x = some (.ref f)) (hk : PySem.W.keepIn X.K (.ref f) = true) (hb : Binds X.K fd ps ds) (hd : Vals dvs ds) (hx : Passes CX X E)
    (ha : PA X (e :: es) t) (hdb : (x == ("__debug__" : Str)) = false := by decide) (he : starEach (e :: es) X.env = (false, eval e X.env) :: starEach es X.env := by rfl) (hpl : (backTo pos (starEach es X.env)).any (·.1) = false := by rfl) :
    PE X (.Call (.Name x p) (e :: es) [] pos) (tCall sp dvs E t) := by
  intro pins s σ H Q I h
  refine wpAny_Call_Name_kw (ld_glob I hg hm ?_ hdb)
  refine PySem.W.callWith_K (h₀ := X.base) I.ok.mod.kin hk (thn (ha pos pins s σ H _ I h) fun us s1 ⟨vs, H1, I1, r, q⟩ => ⟨I1.kIn, ?_⟩) he hpl
  exact run_fn F hr hb hd hx I1 r q
/-- what a class must have to be made -/
structure Mk (K : PySem.W.Frag) (C f : Addr) : Prop where
  makes : PySem.W.makesIn K C = true
  init : PySem.W.findIn K (.ref C) "__init__" = some (some (.ref f))
  fn : PySem.W.isFn K (.ref f) = true
  kp : PySem.W.keepIn K (.ref C) = true

end

/-! ### keywords -/
/-- the values of the keywords, from the left -/
def PK (X : Cx) (kws : List Keyword) (t : TA) : Prop :=
  ∀ (pos : Pos) (pins : List (Addr × Obj)) (s : Shared) (σ : St) (H : Hp) (Q : List V → Hp → Prop), Inv X pins σ H s → t σ H Q → wpAny (model X.prog X.w) X.A (evalAll ((backToKw pos (keywordEach kws X.env)).map (·.2))) (AP X pins σ Q) X.xe s
section
variable {X : Cx} {CX : CXT} {k : Nat} {f C : Addr} {fd : FuncData} {ps ks : List Str} {sp : Sp} {E : XK} {x m : Str} {p pos apos kpos : Pos} {e o : Expr} {es : List Expr} {kws : List Keyword} {te ta : TE} {t tk : TA} {nm : Option Str}
/-- how a call with keywords binds: g puts the positional values us and the keywords' values ws (names ks) in the parameters' order, defaults among them -/
structure KBinds (K : PySem.W.Frag) (fd : FuncData) (ps ks : List Str) (g : List Value → List Value → List Value) (gV : List V → List V → List V) : Prop where
  to : ∀ (s : Shared) (us ws : List Value), K.In s.heap → (g us ws).length = ps.length → BindsTo s fd ⟨us, ks.zip ws⟩ (ps.zip (g us ws))
  rel : ∀ {vs : List V} {us : List Value} {zs : List V} {ws : List Value}, Vals vs us → Vals zs ws → Vals (gV vs zs) (g us ws)
def tCallK (sp : Sp) (gV : List V → List V → List V) (E : XK) (t tk : TA) : TE := fun σ H Q => t σ H fun vs H1 => tk σ H1 fun zs H2 => sp (gV vs zs) H2 Q E
variable {g : List Value → List Value → List Value} {gV : List V → List V → List V}
end

/-! ### a def's body keeps its promise -/
/-- names: the parameters first -/
structure FnScope (N P : List Str) (sc : Scope) : Prop where
  kind : sc.kind = .function
  co : sc.isCoroutine = false
  gen : sc.isGenerator = false
  nd : N.Nodup
  pre : N.take P.length = P
  par : ∀ x ∈ P, sc.names.lookup x = some .local ∨ sc.names.lookup x = some .cell
  nofree : ∀ y ∈ sc.names, y.2 ≠ .free

theorem bindL_out {kindOf : Str → Option NameKind} {x : Str} : ∀ {binds : List (Str × Value)} {m : Str → Option Value}, (∀ v, (x, v) ∉ binds) → bindL kindOf binds m x = m x
  | [], _, _ => rfl
  | (n, v) :: r, m, h => by
    unfold bindL
    rw [bindL_out fun w hw => h w (List.mem_cons_of_mem _ hw)]
    split
    · have : x ≠ n := by rintro rfl; exact h v List.mem_cons_self
      simp [this]
    · rfl
theorem bindC_out {kindOf : Str → Option NameKind} {x : Str} : ∀ {binds : List (Str × Value)} {m : Str → Option Value}, (∀ v, (x, v) ∉ binds) → bindC kindOf binds m x = m x
  | [], _, _ => rfl
  | (n, v) :: r, m, h => by
    unfold bindC
    rw [bindC_out fun w hw => h w (List.mem_cons_of_mem _ hw)]
    split
    · rfl
    · have : x ≠ n := by rintro rfl; exact h v List.mem_cons_self
      simp [this]
theorem bindL_get {kindOf : Str → Option NameKind} {x : Str} {v : Value} : ∀ {P : List Str} {vs : List Value} {i : Nat} {m : Str → Option Value}, P.Nodup → P[i]? = some x → vs[i]? = some v → kindOf x = some .local →
    bindL kindOf (P.zip vs) m x = some v
  | [], _, _, _, _, h, _, _ => by simp at h
  | _ :: _, [], _, _, _, _, h, _ => by simp at h
  | p :: P, w :: vs, 0, m, nd, h1, h2, hk => by
    simp at h1 h2; subst h1; subst h2
    show bindL kindOf ((p, w) :: P.zip vs) m p = _
    unfold bindL
    rw [bindL_out fun v hv => (List.nodup_cons.mp nd).1 (List.of_mem_zip hv).1, if_pos hk]
    simp
  | p :: P, w :: vs, i + 1, m, nd, h1, h2, hk => by
    show bindL kindOf ((p, w) :: P.zip vs) m x = _
    unfold bindL
    exact bindL_get (i := i) (List.nodup_cons.mp nd).2 (by simpa using h1) (by simpa using h2) hk
theorem bindC_get {kindOf : Str → Option NameKind} {x : Str} {v : Value} : ∀ {P : List Str} {vs : List Value} {i : Nat} {m : Str → Option Value}, P.Nodup → P[i]? = some x → vs[i]? = some v → kindOf x ≠ some .local →
    bindC kindOf (P.zip vs) m x = some v
  | [], _, _, _, _, h, _, _ => by simp at h
  | _ :: _, [], _, _, _, _, h, _ => by simp at h
  | p :: P, w :: vs, 0, m, nd, h1, h2, hk => by
    simp at h1 h2; subst h1; subst h2
    show bindC kindOf ((p, w) :: P.zip vs) m p = _
    unfold bindC
    rw [bindC_out fun v hv => (List.nodup_cons.mp nd).1 (List.of_mem_zip hv).1, if_neg hk]
    simp
  | p :: P, w :: vs, i + 1, m, nd, h1, h2, hk => by
    show bindC kindOf ((p, w) :: P.zip vs) m x = _
    unfold bindC
    exact bindC_get (i := i) (List.nodup_cons.mp nd).2 (by simpa using h1) (by simpa using h2) hk

/-- the names' values at the entry -/
def start (N : List Str) (vs : List V) : St := vs.map some ++ List.replicate (N.length - vs.length) none

/-- the context of a def's body, at its entry; an exception leaves the frame, then lies as CX says -/
def cxOf (CX : CXT) (P : Program) (w : World) (K : PySem.W.Frag) (mg : Str → Option Value) (base : Heap) (N : List Str) (qual : Str) (scope : Scope) (f : Addr) (cd : Value) (A : Around) (outer : List Env) (s : Shared) (H : Hp) (E : XK) : Cx where
  prog := P
  w := w
  K := K
  mg := mg
  base := base
  A := A.deeper (envOfC qual scope s.heap.objs.size f cd)
  N := N
  s₀ := s
  H₀ := H
  env := envOfC qual scope s.heap.objs.size f cd
  outer := outer
  stack := envOfC qual scope s.heap.objs.size f cd :: outer
  ex := []
  calm := true
  fn := fun _ => true
  pn := []
  xe := fun e s' => wpAny (model P w) (A.deeper (envOfC qual scope s.heap.objs.size f cd)) (leaving (envOfC qual scope s.heap.objs.size f cd) e) (fun _ s'' => CX outer H s E e s'') (fun e' s'' => CX outer H s E e' s'') s'

theorem cell_has {sc : Scope} {n : Nat} {x : Str} (h : sc.names.lookup x = some .cell) : ∃ c, (cellsFrom n sc.names []).lookup x = some c := by
  have q := PySem.W.cellsFrom_some sc.names n [] (.inl h)
  exact Option.isSome_iff_exists.mp q

theorem inv_start {CX : CXT} {P : Program} {w : World} {K : PySem.W.Frag} {mg : Str → Option Value} {base : Heap} {N ps : List Str} {qual : Str} {scope : Scope} {f : Addr} {cd : Value} {A : Around} {outer : List Env} {s s1 : Shared} {H : Hp} {E : XK} {us : List Value} {vs : List V}
    (S : FnScope N ps scope) (hd : A.handled = none) (e0 : Env0 P w K mg base A outer s H) (hl : vs.length = ps.length) (r : Vals vs us)
    (x : InCallC s s.heap.objs.size (bindL (envOfC qual scope s.heap.objs.size f cd).kindOf (ps.zip us) fun _ => none) (cellsFrom (s.heap.objs.size + 1) scope.names []) (bindC (envOfC qual scope s.heap.objs.size f cd).kindOf (ps.zip us) fun _ => none) s1) :
    Inv (cxOf CX P w K mg base N qual scope f cd A outer s H E) [] (start N vs) H s1 := by
  have hpl : ps.length ≤ N.length := by have := congrArg List.length S.pre; rw [List.length_take] at this; omega
  obtain ⟨h1, tk, rfl, hk⟩ := x.done
  have noA : ∀ b : Addr, b ∉ (cxOf CX P w K mg base N qual scope f cd A outer s H E).ex := fun b z => absurd (show b ∈ ([] : List Addr) from z) (by simp)
  refine ⟨⟨e0.mod, S.kind, rfl, rfl, Nat.le_refl _, fun y z c h1 h2 => ?_, fun y hy => ?_, fun y c _ h => ?_, fun _ => hd, Around.frames_deeper e0.frames, .inr ⟨rfl, rfl⟩, fun b z => absurd z (noA b), e0.bs, e0.bsz, fun b _ _ => noA b, fun b z => absurd z (noA b), e0.funs, e0.frf⟩,
    rfl, e0.bare, Un.kept hk, ⟨_, x.toInCall.ns, fun i y v h1 h2 h3 => ?_⟩, fun y c h => ⟨_, x.cell y c h⟩, e0.hok.fresh (Nat.le_refl _), fun y c h => ?_, fun p hp => absurd (show p ∈ ([] : List (Addr × Obj)) from hp) (by simp), e0.hok.kept hk, ?_⟩
  · exact name_of_addr x.apart (PySem.mem_of_lookup h1) (PySem.mem_of_lookup h2)
  · have hy : scope.names.lookup y = some .cell ∨ scope.names.lookup y = some .free := hy
    rcases hy with hy | hy
    · exact cell_has hy
    · exact absurd rfl (S.nofree _ (PySem.mem_of_lookup hy))
  · exact Nat.le_of_lt (x.above y c (PySem.mem_of_lookup h))
  · have hi : i < vs.length := by
      unfold start at h2
      by_cases hi : i < vs.length
      · exact hi
      · rw [List.getElem?_append_right (by simpa using hi)] at h2
        rw [List.getElem?_replicate] at h2
        split at h2 <;> cases h2
    have ha : vs[i]? = some v := by
      unfold start at h2
      rw [List.getElem?_append_left (by simpa using hi), List.getElem?_map] at h2
      cases e : vs[i]? with
      | none => rw [e] at h2; cases h2
      | some a => rw [e] at h2; cases h2; rfl
    obtain ⟨u, hu, rv⟩ := r.get ha
    have hp : ps[i]? = some y := by
      rw [← S.pre, List.getElem?_take_of_lt (by omega)]; exact h1
    have ndP : ps.Nodup := by rw [← S.pre]; exact S.nd.sublist (List.take_sublist _ _)
    refine ⟨u, rv, ?_⟩
    rcases S.par y (List.mem_of_getElem? hp) with k | k
    · exact .inl ⟨k, bindL_get ndP hp hu k⟩
    · obtain ⟨c, e⟩ := cell_has (n := s.heap.objs.size + 1) k
      refine .inr ⟨.inl k, c, e, ?_⟩
      have q := x.cell y c e
      rw [bindC_get ndP hp hu (by show scope.names.lookup y ≠ _; rw [k]; decide)] at q
      exact q
  · exact e0.hok.fresh (Nat.le_of_lt (x.above y c (PySem.mem_of_lookup h)))
  · unfold start
    show _ = N.length
    rw [List.length_append, List.length_map, List.length_replicate]
    omega

/-- THE RULE: a def (or a method) of the text, by its body. The body's reading t is chosen for each entry; it is run at the parameters' values -/
theorem fn_of {CX : CXT} {P : Program} {w : World} {K : PySem.W.Frag} {mg : Str → Option Value} {base : Heap} {k : Nat} {f : Addr} {name qual : Str} {params : Arguments} {body : List Stmt} {scope : Scope} {dV kV doc pm cdv ct oc : Value} {an od : Option Addr}
    {osl : Array (Option Value)} {N ps : List Str} {sp : Sp} (lk : K.lookup f = some ⟨oc, od, .func (PySem.W.fnOf name qual params body scope dV kV doc pm an cdv ct), osl⟩) (hcd : PySem.W.codeIn K cdv qual = true) (S : FnScope N ps scope)
    (len : ∀ vs H Q E, sp vs H Q E → vs.length = ps.length)
    (hbody : ∀ (A : Around) (outer : List Env) (s : Shared) (H : Hp) (vs : List V) (Q : VK) (E : XK), Room k (A.deeper (envOfC qual scope s.heap.objs.size f cdv)) → sp vs H Q E →
      ∃ t, PSs (cxOf CX P w K mg base N qual scope f cdv A outer s H E) body t ∧ t { nx := fun _ H' => Q .non H', rt := Q } (start N vs) H) :
    FnOk P w K mg base CX (k + 1) f (PySem.W.fnOf name qual params body scope dV kV doc pm an cdv ct) ps sp := by
  refine ⟨len, fun A outer s H args us vs Q E hr e0 hb r hsp => ?_⟩
  have hl := len _ _ _ _ hsp
  have KX : K.In s.heap := e0.mod.kin.keeps fun b o e => (e0.bs b o e).1
  have lim : s.heap.NoLimit := e0.mod.nolimit.keeps fun b o e => (e0.bs b o e).1
  have hkind : ∀ y ∈ ps.zip us, scope.names.lookup y.1 = some .local ∨ (scope.names.lookup y.1 = some .cell ∧ ((cellsFrom (s.heap.objs.size + 1) scope.names []).lookup y.1).isSome = true) := fun ⟨n, v⟩ hy => by
    rcases S.par n (List.of_mem_zip hy).1 with q | q
    · exact .inl q
    · exact .inr ⟨q, PySem.W.cellsFrom_some _ _ _ (.inl q)⟩
  refine codeAny_call_function hr.depth (KX _ _ lk) rfl S.co S.gen rfl (PySem.W.codeRec_of KX hcd) (hb _ _ _ _ ?_)
  refine wpAny_newFunctionEnv_cells S.kind hkind fun env he s1 x => ?_
  subst he
  refine ⟨lim.keeps x.toInCall.keep, codeAny_func ?_⟩
  obtain ⟨t, ht, hq⟩ := hbody A outer s H vs Q E (hr.deeper _) hsp
  have I : Inv (cxOf CX P w K mg base N qual scope f cdv A outer s H E) [] (start N vs) H s1 := inv_start S hr.hd e0 hl r x
  refine wpAny_mono (ht [] s1 (start N vs) H _ I hq) (fun fl s' hs => ?_) fun e s' hs => hs
  have fin : ∀ {σ' : St} {H' : Hp} {v : V} {u : Value}, Inv (cxOf CX P w K mg base N qual scope f cdv A outer s H E) [] σ' H' s' → RelV v u → Q v H' → CE outer P w H s Q u s' :=
    fun {σ' H' v u} J rv q => ⟨v, H', J.os, J.bare, J.base, J.hok, rv, q⟩
  cases fl with
  | ret u =>
    obtain ⟨v, σ', H', J, rv, q⟩ := hs
    exact fin J rv q
  | next =>
    obtain ⟨σ', H', J, q⟩ := hs
    exact fin (v := V.non) (u := Value.none) J rfl q
  | brk =>
    obtain ⟨_, _, _, q⟩ := hs
    exact False.elim q
  | cont =>
    obtain ⟨_, _, _, q⟩ := hs
    exact False.elim q
end L2

namespace L2
open PySem PySem.Spec PyProof.Rows
section
variable {X : Cx} {x : Str} {p pos : Pos} {e : Expr} {es : List Expr} {t : TA} {id T : String} {r : List V → Hp → VK → Prop}

def tCB (r : List V → Hp → VK → Prop) (t : TA) : TE := fun σ H Q => t σ H fun vs H1 => r vs H1 Q
/-- f(e, ..), f a built-in function -/
theorem pe_callB (hc : CallR X (.builtin id) r) (hg : Gl X x) (hm : X.mg x = none) (hv : bootBuiltins x = some (.builtin id)) (ha : PA X (e :: es) t) (hn : x ≠ "__name__" := by decide) (hdb : (x == ("__debug__" : Str)) = false := by decide)
    (he : starEach (e :: es) X.env = (false, eval e X.env) :: starEach es X.env := by rfl) (hpl : (backTo pos (starEach es X.env)).any (·.1) = false := by rfl) : PE X (.Call (.Name x p) (e :: es) [] pos) (tCB r t) := by
  intro pins s σ H Q I h
  refine wpAny_Call_Name_kw (ld_blt I hg hm hv ?_ hn hdb)
  exact PyProof.Rows.callWith_builtin1 (thn (ha pos pins s σ H _ I h) fun us s1 ⟨vs, H1, I1, r1, q1⟩ => hc pins s1 σ H1 vs us Q I1 r1 q1) he hpl
/-- T(e, ..), T a built-in type -/
theorem pe_callTy (hc : CallR X (.type T) r) (hg : Gl X x) (hm : X.mg x = none) (hv : bootBuiltins x = some (.type T)) (ha : PA X (e :: es) t) (hn : x ≠ "__name__" := by decide) (hdb : (x == ("__debug__" : Str)) = false := by decide)
    (he : starEach (e :: es) X.env = (false, eval e X.env) :: starEach es X.env := by rfl) (hpl : (backTo pos (starEach es X.env)).any (·.1) = false := by rfl) : PE X (.Call (.Name x p) (e :: es) [] pos) (tCB r t) := by
  intro pins s σ H Q I h
  refine wpAny_Call_Name_kw (ld_blt I hg hm hv ?_ hn hdb)
  exact PyProof.Rows.callWith_type1 (thn (ha pos pins s σ H _ I h) fun us s1 ⟨vs, H1, I1, r1, q1⟩ => hc pins s1 σ H1 vs us Q I1 r1 q1) he hpl
end
end L2

namespace HT
open PySem PyProof.Rows

/-- t < u of tuples of ints -/
def lexLt : List Int → List Int → Bool
  | [], [] => false
  | [], _ :: _ => true
  | _ :: _, [] => false
  | x :: xs, y :: ys => if x = y then lexLt xs ys else decide (x < y)
section
open PySem.SeqAt
open PySem.AutoSeq1 (wpAny_loadPart')
open PySem.MeetsSeq PySem.MeetsSeq2 PySem.MeetsSeq3

end

section
variable {prog : Program} {w : World} {A : Around} {E : Value → Shared → Prop} {s : Shared}

/-! ### t[a:b], not the whole -/
/-- a slice's bound as a place among n (d where it is left out) -/
def sIx (n d : Nat) : Option Int → Nat
  | none => d
  | some v => if v < 0 then (v + (n : Int)).toNat else min v.toNat n
end
end HT

namespace L2
open PySem PySem.Spec PyProof.Rows

/-! ### the parts of a slice -/
abbrev TO := St → Hp → (Option Int → Hp → Prop) → Prop
/-- a slice's part (left out, or an int) -/
def PO (X : Cx) (e : Option Expr) (t : TO) : Prop :=
  ∀ (pins : List (Addr × Obj)) (s : Shared) (σ : St) (H : Hp) (Q : Option Int → Hp → Prop), Inv X pins σ H s → t σ H Q →
    wpAny (model X.prog X.w) X.A (evalPart e X.env) (fun u s' => ∃ o H', Inv X pins σ H' s' ∧ IsPart u o ∧ Q o H') X.xe s
def tNoPart : TO := fun _ H Q => Q none H
def tPart (t : TE) : TO := fun σ H Q => t σ H fun x H1 => ∃ i, x = .int i ∧ Q (some i) H1

section
variable {X : Cx} {e : Expr} {te : TE} {lo hi : Option Expr} {tl th : TO} {pos p2 : Pos}

theorem po_none : PO X none tNoPart := by
  intro pins s σ H Q I h
  rw [evalPart_none]
  exact wpAny_pure ⟨none, H, I, .none, h⟩
theorem po_some (h : PE X e te) : PO X (some e) (tPart te) := by
  intro pins s σ H Q I hw
  rw [evalPart_some]
  refine thn (h pins s σ H _ I hw) fun u s1 ⟨x, H1, I1, r1, q1⟩ => ?_
  obtain ⟨i, rfl, q⟩ := q1
  obtain ⟨t, rfl⟩ := r1
  exact ⟨some i, H1, I1, .int i t, q⟩

/-- what a slice of a value is, by values: the slice object stands at sl -/
def SlR (X : Cx) (r : V → Option Int → Option Int → Hp → VK → Prop) : Prop :=
  ∀ (pins : List (Addr × Obj)) (s : Shared) (σ : St) (H : Hp) (x : V) (v vl vu : Value) (lo hi : Option Int) (sl : Addr) (Q : VK), Inv X pins σ H s → RelV x v → s.heap.IsSliceOf sl vl vu .none → IsPart vl lo → IsPart vu hi → r x lo hi H Q →
    ∃ T id, typeLookup (.type T) "__getitem__" = pure (some (.builtin id)) ∧ s.TypeIs v T ∧ wpAny (model X.prog X.w) X.A (getItem v (.ref sl)) (EP X pins σ Q) X.xe s
theorem SlR.or {r r' : V → Option Int → Option Int → Hp → VK → Prop} (h : SlR X r) (h' : SlR X r') : SlR X (fun x lo hi H Q => r x lo hi H Q ∨ r' x lo hi H Q) := by
  intro pins s σ H x v vl vu lo hi sl Q I rx hs pl pu q
  rcases q with q | q
  · exact h pins s σ H x v vl vu lo hi sl Q I rx hs pl pu q
  · exact h' pins s σ H x v vl vu lo hi sl Q I rx hs pl pu q
def tSl (r : V → Option Int → Option Int → Hp → VK → Prop) (te : TE) (tl th : TO) : TE := fun σ H Q => te σ H fun x H1 => tl σ H1 fun l H2 => th σ H2 fun u H3 => r x l u H3 Q
/-- a[lo:hi], any a -/
theorem pe_slice {r : V → Option Int → Option Int → Hp → VK → Prop} (hr : SlR X r) (he : PE X e te) (hl : PO X lo tl) (hu : PO X hi th) : PE X (.Subscript e (.Slice lo hi none p2) pos) (tSl r te tl th) := by
  intro pins s σ H Q I h
  refine Subscript_ (thn (he pins s σ H _ I h) fun v s1 ⟨x, H1, I1, r1, q1⟩ => ?_)
  refine wpAny_Slice (thn (hl pins s1 σ H1 _ I1 q1) fun vl s2 ⟨l, H2, I2, pl, q2⟩ => thn (hu pins s2 σ H2 _ I2 q2) fun vu s3 ⟨u, H3, I3, pu, q3⟩ => ?_)
  rw [evalPart_none]
  refine wpAny_pure ?_
  have I4 : Inv X pins σ H3 { s3 with heap := s3.heap.push { cls := .type "slice", data := .fields #[vl, vu, .none] } } := I3.kept (t' := s3.toks) fun b ob q => Heap.get?_push_of_some _ q
  obtain ⟨T, id, hT, ht, hg⟩ := hr pins { s3 with heap := s3.heap.push { cls := .type "slice", data := .fields #[vl, vu, .none] } } σ H3 x v vl vu l u s3.heap.objs.size Q I4 r1 (Heap.IsSliceOf.new ..) pl pu q3
  show wpAny (model X.prog X.w) X.A (subscriptTail e (.Slice lo hi none p2) v (.ref s3.heap.objs.size)) (EP X pins σ Q) X.xe { s3 with heap := s3.heap.push { cls := .type "slice", data := .fields #[vl, vu, .none] } }
  exact tail_any (ops := [.ref s3.heap.objs.size, v]) ht hT hg (by with_unfolding_all rfl)

/-- the items of xs[lo:hi] -/
def cutV (xs : List V) (lo hi : Option Int) : List V := (xs.drop (HT.sIx xs.length 0 lo)).take (HT.sIx xs.length xs.length hi - HT.sIx xs.length 0 lo)
theorem cutV_length (xs : List V) (lo hi : Option Int) : (cutV xs lo hi).length ≤ xs.length := by
  unfold cutV
  rw [List.length_take, List.length_drop]
  omega
/-- t[lo:hi], not the whole of it (the whole would be t itself) -/
def rSlT (K : PySem.W.Frag) : V → Option Int → Option Int → Hp → VK → Prop := fun x lo hi H Q => ∃ a xs, x = .ref a ∧ SqT K H a xs ∧
  ¬ (HT.sIx xs.length 0 lo = 0 ∧ HT.sIx xs.length xs.length hi = xs.length) ∧ ∀ p, H p = none → Q (.ref p) (upd H p (.tup (cutV xs lo hi)))
/-! ### t < u, t + u -/
def rLtT (K : PySem.W.Frag) : R2 := fun x y H Q => ∃ a b ns ms, x = .ref a ∧ y = .ref b ∧ SqT K H a (ns.map V.int) ∧ SqT K H b (ms.map V.int) ∧ Q (.bl (HT.lexLt ns ms)) H
/-- t + u, t not empty: u empty gives t itself -/
def rCatT (K : PySem.W.Frag) : R2 := fun x y H Q => ∃ a b xs ys, x = .ref a ∧ y = .ref b ∧ SqT K H a xs ∧ SqT K H b ys ∧ xs ≠ [] ∧ xs.length + ys.length ≤ sizeLine ∧
  (ys = [] → Q (.ref a) H) ∧ (ys ≠ [] → ∀ p, H p = none → Q (.ref p) (upd H p (.tup (xs ++ ys))))
end
end L2

namespace L2
open PySem PySem.Spec PyProof.Rows

/-! ### places -/
/-- the place that an index of any sign means -/
def ixN (n : Nat) (i : Int) : Option Nat := if 0 ≤ i then (if i < n then some i.toNat else none) else if -(n : Int) ≤ i then some (i + n).toNat else none
def atI {α : Type} (xs : List α) (i : Int) : Option α := (ixN xs.length i).bind fun j => xs[j]?
theorem ixN_seq {n : Nat} {i : Int} {j : Nat} (h : ixN n i = some j) : seqIndex? i n = some j ∧ j < n ∧ -(n : Int) ≤ i ∧ i < n := by
  unfold ixN at h
  by_cases h0 : 0 ≤ i
  · rw [if_pos h0] at h
    by_cases h1 : i < n
    · rw [if_pos h1] at h
      have e : i.toNat = j := Option.some.inj h
      exact ⟨by rw [seqIndex_of h0 h1, e], by omega, by omega, h1⟩
    · rw [if_neg h1] at h; cases h
  · rw [if_neg h0] at h
    by_cases h1 : -(n : Int) ≤ i
    · rw [if_pos h1] at h
      have e : (i + n).toNat = j := Option.some.inj h
      exact ⟨by rw [seqIndex_neg (by omega) h1, e], by omega, h1, by omega⟩
    · rw [if_neg h1] at h; cases h
theorem atI_get {α : Type} {xs : List α} {i : Int} {v : α} (h : atI xs i = some v) : ∃ j, seqIndex? i xs.length = some j ∧ xs[j]? = some v ∧ j < xs.length ∧ -(xs.length : Int) ≤ i ∧ i < xs.length := by
  unfold atI at h
  cases e : ixN xs.length i with
  | none => rw [e] at h; cases h
  | some j =>
    rw [e] at h
    obtain ⟨h1, h2, h3, h4⟩ := ixN_seq e
    exact ⟨j, h1, h, h2, h3, h4⟩
theorem atI_nat {α : Type} {xs : List α} {j : Nat} {v : α} (h : xs[j]? = some v) : atI xs (j : Int) = some v := by
  have hj : j < xs.length := (List.getElem?_eq_some_iff.mp h).1
  have e : ixN xs.length (j : Int) = some j := by
    unfold ixN
    rw [if_pos (by omega), if_pos (by omega)]; simp
  unfold atI; rw [e]; exact h
/-! ### what may be subscripted -/
/-- what stands as an index of a plain subscript -/
def PlainIx (b : Expr) : Prop := ∀ o i, subscripted b false o i = operate [o, i] (getItem o i)
/-- a subscript by values -/
def IxR (X : Cx) (r : R2) : Prop :=
  ∀ (value slice : Expr) (pins : List (Addr × Obj)) (s : Shared) (σ : St) (H : Hp) (x y : V) (v u : Value) (Q : VK), Inv X pins σ H s → RelV x v → RelV y u → r x y H Q →
    subscripted slice false v u = operate [v, u] (getItem v u) → wpAny (model X.prog X.w) X.A (subscriptTail value slice v u) (EP X pins σ Q) X.xe s
/-- a call of a builtin's method by values: the receiver, the arguments -/
def MtR (X : Cx) (id : String) (r : V → List V → Hp → VK → Prop) : Prop :=
  ∀ (pins : List (Addr × Obj)) (s : Shared) (σ : St) (H : Hp) (x : V) (xs : List V) (v : Value) (us : List Value) (Q : VK), Inv X pins σ H s → RelV x v → Vals xs us → r x xs H Q →
    wpAny (model X.prog X.w) X.A (call (.builtin id) (v :: us)) (EP X pins σ Q) X.xe s
section
variable {X : Cx} {a b : Expr} {ta tb : TE} {pos : Pos}
theorem IxR.or {r r' : R2} (h : IxR X r) (h' : IxR X r') : IxR X (fun x y H Q => r x y H Q ∨ r' x y H Q) := by
  intro value slice pins s σ H x y v u Q I rx ry q hs
  rcases q with q | q
  · exact h value slice pins s σ H x y v u Q I rx ry q hs
  · exact h' value slice pins s σ H x y v u Q I rx ry q hs
theorem MtR.or {id : String} {r r' : V → List V → Hp → VK → Prop} (h : MtR X id r) (h' : MtR X id r') : MtR X id (fun x xs H Q => r x xs H Q ∨ r' x xs H Q) := by
  intro pins s σ H x xs v us Q I rx rs q
  rcases q with q | q
  · exact h pins s σ H x xs v us Q I rx rs q
  · exact h' pins s σ H x xs v us Q I rx rs q
/-- a[b] -/
theorem pe_ix {r : R2} (hr : IxR X r) (ha : PE X a ta) (hb : PE X b tb) (hs : PlainIx b) : PE X (.Subscript a b pos) (tOp r ta tb) := by
  intro pins s σ H Q I h
  exact Subscript_ (binT ha hb I h fun v u s2 x y H2 I2 rx ry q => hr a b pins s2 σ H2 x y v u Q I2 rx ry q (hs _ _))

def rIxL (K : PySem.W.Frag) : R2 := fun x y H Q => ∃ p xs i v, x = .ref p ∧ y = .int i ∧ SqL K H p xs ∧ atI xs i = some v ∧ Q v H
def rIxT (K : PySem.W.Frag) : R2 := fun x y H Q => ∃ p xs i v, x = .ref p ∧ y = .int i ∧ SqT K H p xs ∧ atI xs i = some v ∧ Q v H
def rIxS : R2 := fun x y H Q => ∃ z i c, x = .str z ∧ y = .int i ∧ z.length ≤ sizeLine ∧ atI z.cps.toList i = some c ∧ Q (.str ⟨#[c]⟩) H
theorem ix_list : IxR X (rIxL X.K) := by
  intro value slice pins s σ H x y v u Q I rx ry h hs
  obtain ⟨p, xs, i, z, rfl, rfl, hq, he, q⟩ := h
  cases rx
  obtain ⟨t, rfl⟩ := ry
  obtain ⟨its, r, pl, hz⟩ := I.list hq
  obtain ⟨j, h1, h2, h3, h4, h5⟩ := atI_get he
  obtain ⟨w, ew, rw'⟩ := r.get h2
  have hl := r.length
  have hn := line63
  have fin : EP X pins σ Q w s := ⟨z, H, I, rw', q⟩
  by_cases h0 : 0 ≤ i
  · have hj : i.toNat = j := by
      rw [seqIndex_of h0 h5] at h1
      exact Option.some.inj h1
    exact item_listR pl.isList h0 (by omega) (by rw [hj]; simpa using ew) fin hs
  · have hj : (i + (its.toArray.size : Int)).toNat = j := by
      rw [seqIndex_neg (by omega) h4] at h1
      rw [List.size_toArray, ← hl]
      exact Option.some.inj h1
    exact subscriptTail_builtinR (x := w) pl.isList.typeIs slot_list_getitem.lookup
      (wpAny_getItem_list_neg (Q := fun r s' => r = w ∧ EP X pins σ Q r s') pl.isList (by omega) (by rw [List.size_toArray] <;> omega) (by omega) (by rw [hj]; simpa using ew) ⟨rfl, fin⟩) hs
/-- list, tuple or str -/
def rIx (K : PySem.W.Frag) : R2 := fun x y H Q => rIxL K x y H Q ∨ rIxT K x y H Q ∨ rIxS x y H Q
/-! ### xs[i] = v, any sign -/
theorem Inv.lst {pins : List (Addr × Obj)} {σ : St} {H : Hp} {s : Shared} {p : Addr} {xs : List V} (I : Inv X pins σ H s) (h : H p = some (.lst xs)) :
    ∃ (its : List Value) (n : Nat), Vals xs its ∧ s.heap.get? p = some { cls := .type "list", data := .seq its.toArray n } ∧ xs.length ≤ sizeLine := by
  obtain ⟨z, its, n, r, e⟩ := I.hok p _ h
  exact ⟨its, n, r, e, z⟩
def rSetL : V → V → V → Hp → (Hp → Prop) → Prop := fun o i v H Q => ∃ p xs k j, o = .ref p ∧ i = .int k ∧ H p = some (.lst xs) ∧ ixN xs.length k = some j ∧ Q (upd H p (.lst (xs.set j v)))
/-! ### slices -/
theorem slice_bounds (lo hi : Option Int) (n : Nat) : (sliceBounds lo hi none n).1 = ((HT.sIx n 0 lo : Nat) : Int) ∧ (sliceBounds lo hi none n).2.1 = ((HT.sIx n n hi : Nat) : Int) ∧ (sliceBounds lo hi none n).2.2 = 1 := by
  refine ⟨?_, ?_, rfl⟩
  · cases lo with
    | none => simp [sliceBounds, HT.sIx]
    | some i =>
      simp only [sliceBounds, HT.sIx, Option.getD_none, show (1 : Int) > 0 by decide, if_true]
      by_cases h : i < 0
      · simp only [h, if_true] <;> omega
      · simp only [h, if_false] <;> omega
  · cases hi with
    | none => simp [sliceBounds, HT.sIx]
    | some i =>
      simp only [sliceBounds, HT.sIx, Option.getD_none, show (1 : Int) > 0 by decide, if_true]
      by_cases h : i < 0
      · simp only [h, if_true] <;> omega
      · simp only [h, if_false] <;> omega
theorem slicePick_cut (its : List Value) (lo hi : Option Int) : slicePick its.toArray lo hi none = ((its.drop (HT.sIx its.length 0 lo)).take (HT.sIx its.length its.length hi - HT.sIx its.length 0 lo)).toArray := by
  obtain ⟨h1, h2, h3⟩ := slice_bounds lo hi its.toArray.size
  unfold slicePick
  rw [h1, h2, h3]
  simp only [sliceRange_one, pick_run, List.size_toArray] <;> rfl
/-- xs[lo:hi] of a list: a new list -/
def rSlL (K : PySem.W.Frag) : V → Option Int → Option Int → Hp → VK → Prop := fun x lo hi H Q => ∃ a xs, x = .ref a ∧ SqL K H a xs ∧ ∀ p, H p = none → Q (.ref p) (upd H p (.lst (cutV xs lo hi)))
theorem sl_list : SlR X (rSlL X.K) := by
  intro pins s σ H x v vl vu lo hi sl Q I rx hs pl pu h
  obtain ⟨a, xs, rfl, hx, q⟩ := h
  cases rx
  obtain ⟨its, r, ht, hz⟩ := I.list hx
  have hlen := r.length
  refine ⟨"list", _, slot_list_getitem.lookup, ht.isList.typeIs, ?_⟩
  refine wpAny_getItem_list_slice ht.isList hs pl pu .none (by simp) ?_ (by rw [List.size_toArray] <;> omega)
  rw [slicePick_cut, ← hlen]
  refine ⟨.ref s.heap.objs.size, _, I.laid (t' := s.toks) (o := .lst (cutV xs lo hi)) (fun b ob q => Heap.get?_push_of_some _ q) (Nat.le_refl _) ?_, rfl, q _ (I.hok.fresh (Nat.le_refl _))⟩
  exact ⟨Nat.le_trans (cutV_length xs lo hi) hz, _, 0, (r.drop (HT.sIx xs.length 0 lo)).take (HT.sIx xs.length xs.length hi - HT.sIx xs.length 0 lo), Heap.get?_push_size _ rfl⟩

/-! ### in, not in: flat items -/
def flatV : V → Bool
  | .non => true
  | .bl _ => true
  | .int _ => true
  | .str _ => true
  | _ => false
/-- == of flat values -/
def eqV : V → V → Bool
  | .non, .non => true
  | .bl a, .bl b => a == b
  | .bl a, .int b => (if a then 1 else 0) == b
  | .int a, .bl b => a == (if b then 1 else 0)
  | .int a, .int b => a == b
  | .str a, .str b => a == b
  | _, _ => false
theorem eqAt_V {A : Around} {s : Shared} {y x : V} {u v : Value} (ry : RelV y u) (rx : RelV x v) (fy : flatV y = true) (fx : flatV x = true) : SeqAt.EqAt A s u v (eqV y x) := by
  cases y with
  | non =>
    cases ry
    cases x with
    | non => cases rx; exact SeqAt.EqAt.same _
    | bl b => cases rx; exact SeqAt.EqAt.none_bool b
    | int b => obtain ⟨t, rfl⟩ := rx; exact SeqAt.EqAt.none_int b t
    | str b => obtain ⟨t, rfl⟩ := rx; exact SeqAt.EqAt.none_str b t
    | _ => exact absurd (show false = true from fx) Bool.false_ne_true
  | bl a =>
    cases ry
    cases x with
    | non => cases rx; exact SeqAt.EqAt.bool_none a
    | bl b => cases rx; exact SeqAt.EqAt.bool_bool a b
    | int b => obtain ⟨t, rfl⟩ := rx; exact SeqAt.EqAt.bool_int a b t
    | str b => obtain ⟨t, rfl⟩ := rx; exact SeqAt.EqAt.bool_str a b t
    | _ => exact absurd (show false = true from fx) Bool.false_ne_true
  | int a =>
    obtain ⟨t', rfl⟩ := ry
    cases x with
    | non => cases rx; exact SeqAt.EqAt.int_none a t'
    | bl b => cases rx; exact SeqAt.EqAt.int_bool a t' b
    | int b => obtain ⟨t, rfl⟩ := rx; exact SeqAt.EqAt.int_int a t' b t
    | str b => obtain ⟨t, rfl⟩ := rx; exact SeqAt.EqAt.int_str a t' b t
    | _ => exact absurd (show false = true from fx) Bool.false_ne_true
  | str a =>
    obtain ⟨t', rfl⟩ := ry
    cases x with
    | non => cases rx; exact SeqAt.EqAt.str_none a t'
    | bl b => cases rx; exact SeqAt.EqAt.str_bool a t' b
    | int b => obtain ⟨t, rfl⟩ := rx; exact SeqAt.EqAt.str_int a t' b t
    | str b => obtain ⟨t, rfl⟩ := rx; exact SeqAt.EqAt.str_str a t' b t
    | _ => exact absurd (show false = true from fx) Bool.false_ne_true
  | _ => exact absurd (show false = true from fy) Bool.false_ne_true
/-- the items' answers, read off the values (a value's own answer does not lean on its token) -/
def eqU (x : V) (u : Value) : Bool := match u with
  | .none => eqV .non x
  | .bool b => eqV (.bl b) x
  | .int i _ => eqV (.int i) x
  | .str z _ => eqV (.str z) x
  | _ => false
def inV (x : V) (xs : List V) : Bool := xs.any fun y => eqV y x
/-- x in a list or tuple of flat items -/
def rIn (K : PySem.W.Frag) (neg : Bool) : R2 := fun x y H Q => ∃ p xs, y = .ref p ∧ (SqL K H p xs ∨ SqT K H p xs) ∧ flatV x = true ∧ xs.all flatV = true ∧ Q (.bl (if neg then !inV x xs else inV x xs)) H
/-! ### len, list(x), tuple(x) of any list or tuple that is read -/
theorem call_len_seq : CallR X (.builtin "len") (fun xs H Q => ∃ p ys, xs = [.ref p] ∧ (SqL X.K H p ys ∨ SqT X.K H p ys) ∧ Q (.int ys.length) H) := by
  intro pins s σ H xs us Q I r h
  obtain ⟨p, ys, rfl, hq, q⟩ := h
  obtain ⟨u, rfl, rx⟩ := vals1 r
  cases rx
  have hn := line63
  rcases hq with hq | hq
  · obtain ⟨its, r', pl, hz⟩ := I.list hq
    have hlen := r'.length
    exact Calls.call_len_list pl.isList (by simp only [List.size_toArray] <;> omega) ⟨.int ys.length, H, I.tok _, ⟨s.toks + 1, by rw [List.size_toArray, hlen]⟩, q⟩
  · obtain ⟨its, r', pl, hz⟩ := I.tuple hq
    have hlen := r'.length
    exact len_tuple pl (by simp only [List.size_toArray] <;> omega) ⟨.int ys.length, H, I.tok _, ⟨s.toks + 1, by rw [List.size_toArray, hlen]⟩, q⟩
theorem call_len_str : CallR X (.builtin "len") (fun xs H Q => ∃ z, xs = [.str z] ∧ z.length ≤ sizeLine ∧ Q (.int z.length) H) := by
  intro pins s σ H xs us Q I r h
  obtain ⟨z, rfl, hz, q⟩ := h
  obtain ⟨u, rfl, t, rfl⟩ := vals1 r
  have hn := line63
  exact len_str (by omega) ⟨.int z.length, H, I.tok _, ⟨_, rfl⟩, q⟩
theorem CallR.or {f : Value} {r r' : List V → Hp → VK → Prop} (h : CallR X f r) (h' : CallR X f r') : CallR X f (fun xs H Q => r xs H Q ∨ r' xs H Q) := by
  intro pins s σ H xs us Q I rs q
  rcases q with q | q
  · exact h pins s σ H xs us Q I rs q
  · exact h' pins s σ H xs us Q I rs q
theorem call_list_of : CallR X (.type "list") (fun xs H Q => ∃ p ys, xs = [.ref p] ∧ (SqL X.K H p ys ∨ SqT X.K H p ys) ∧ ∀ l, H l = none → Q (.ref l) (upd H l (.lst ys))) := by
  intro pins s σ H xs us Q I r h
  obtain ⟨p, ys, rfl, hq, q⟩ := h
  obtain ⟨u, rfl, rx⟩ := vals1 r
  cases rx
  have fin : ∀ (its : List Value), Vals ys its → ys.length ≤ sizeLine → ∀ (h' : Heap) (c' : Nat), (∀ b o', s.heap.get? b = some o' → h'.get? b = some o') →
      h'.get? s.heap.objs.size = some { cls := .type "list", dict := none, data := .seq its.toArray c', slots := #[] } → EP X pins σ Q (.ref s.heap.objs.size) { s with heap := h' } := fun its r' hz h' c' kp e =>
    ⟨.ref s.heap.objs.size, _, I.laid (t' := s.toks) kp (Nat.le_refl _) (show ObjOk X.prog X.w _ h' _ (.lst ys) from ⟨hz, its, c', r', e⟩), rfl, q _ (I.hok.fresh (Nat.le_refl _))⟩
  rcases hq with hq | hq
  · obtain ⟨its, r', pl, hz⟩ := I.list hq
    have hlen := r'.length
    obtain ⟨o, ho, hc, n, hd⟩ := pl.isList
    exact call_list_seq p (.inl rfl) ho hc hd (fun h' c' kp e => fin its r' hz h' c' kp e) (by simp only [List.size_toArray] <;> omega)
  · obtain ⟨its, r', pl, hz⟩ := I.tuple hq
    have hlen := r'.length
    obtain ⟨o, ho, hc, n, hd⟩ := pl
    exact call_list_seq p (.inr rfl) ho hc hd (fun h' c' kp e => fin its r' hz h' c' kp e) (by simp only [List.size_toArray] <;> omega)
/-! ### the call of a builtin's method: o.m(..) -/
/-- the value is of that builtin type -/
def tyV (K : PySem.W.Frag) (T : String) (x : V) (H : Hp) : Prop := match x with
  | .str _ => T = "str"
  | .int _ => T = "int"
  | .ref p => (T = "list" ∧ ∃ xs, SqL K H p xs) ∨ (T = "tuple" ∧ ∃ o, K.lookup p = some o ∧ o.cls = .type "tuple" ∧ o.dict = none) ∨
      (T = "dict" ∧ ((∃ kvs, H p = some (.dK kvs)) ∨ ∃ kvs, H p = some (.dT kvs))) ∨ (T = "set" ∧ ∃ S n, H p = some (.set S n))
  | _ => False
theorem tyV_is {pins : List (Addr × Obj)} {σ : St} {H : Hp} {s : Shared} {T : String} {x : V} {v : Value} (I : Inv X pins σ H s) (r : RelV x v) (ty : tyV X.K T x H) :
    s.TypeIs v T ∧ ∀ a, v = .ref a → ∃ ob, s.heap.get? a = some ob ∧ ob.dict = none := by
  cases x with
  | str z =>
    obtain ⟨t, rfl⟩ := r
    cases (show T = "str" from ty)
    exact ⟨typeIs_str s z t, fun _ e => nomatch e⟩
  | int i =>
    obtain ⟨t, rfl⟩ := r
    cases (show T = "int" from ty)
    exact ⟨typeIs_int s i t, fun _ e => nomatch e⟩
  | ref p =>
    cases r
    rcases ty with ⟨rfl, xs, hq⟩ | ⟨rfl, o, hk, hc, hd⟩ | ⟨rfl, hk⟩ | ⟨rfl, S, n, hk⟩
    · obtain ⟨its, _, pl, _⟩ := I.list hq
      refine ⟨pl.isList.typeIs, fun a e => ?_⟩
      cases e
      obtain ⟨o, n, e, c, hd, _⟩ := pl
      exact ⟨o, e, hd⟩
    · refine ⟨⟨o, I.kIn p o hk, hc⟩, fun a e => ?_⟩
      cases e
      exact ⟨o, I.kIn _ o hk, hd⟩
    · have z : ∃ o, s.heap.get? p = some o ∧ o.ExactDict := by
        rcases hk with ⟨kvs, hk⟩ | ⟨kvs, hk⟩
        · obtain ⟨_, _, _, _, o, _, _, e, ex, _⟩ := I.hok p _ hk
          exact ⟨o, e, ex⟩
        · obtain ⟨_, _, _, _, o, _, _, e, ex, _⟩ := I.hok p _ hk
          exact ⟨o, e, ex⟩
      obtain ⟨o, e, ex⟩ := z
      refine ⟨⟨o, e, ex.1⟩, fun a e2 => ?_⟩
      cases e2
      exact ⟨o, e, ex.2.1⟩
    · obtain ⟨o, _, _, _, e, ex, _⟩ := I.hok p _ hk
      refine ⟨⟨o, e, ex.1⟩, fun a e2 => ?_⟩
      cases e2
      exact ⟨o, e, ex.2.1⟩
  | _ => exact False.elim ty
def tBM0 (K : PySem.W.Frag) (T : String) (r : V → List V → Hp → VK → Prop) (to : TE) : TE := fun σ H Q => to σ H fun x H1 => tyV K T x H1 ∧ r x [] H1 Q
def tBM (K : PySem.W.Frag) (T : String) (r : V → List V → Hp → VK → Prop) (to : TE) (t : TA) : TE := fun σ H Q => to σ H fun x H1 => tyV K T x H1 ∧ t σ H1 fun xs H2 => r x xs H2 Q
variable {o e : Expr} {es : List Expr} {to : TE} {t : TA} {name : Str} {apos cpos : Pos} {T id : String} {r : V → List V → Hp → VK → Prop}
theorem pe_bm (pa : PlainAttrs T) (slot : Slot T name id) (hty : typeOf (.builtin id) = pure (.type "method_descriptor")) (hm : MtR X id r) (ho : PE X o to) (ha : PA X (e :: es) t)
    (hbase : attributeBase o name X.env (eval o X.env) = eval o X.env := by rfl)
    (hfew : ((backTo cpos (starEach (e :: es) X.env)).all (fun x => !x.1) && (backToKw cpos (keywordEach [] X.env)).all (fun x => x.1.isSome)
      && decide ((e :: es).length + ([] : List Keyword).length + (if ([] : List Keyword).isEmpty then 0 else 1) < 30)) = true := by rfl)
    (hline : (apos.endLine == cpos.line) = true := by rfl) (hs : starEach (e :: es) X.env = (false, eval e X.env) :: starEach es X.env := by rfl) (hplain : (backTo cpos (starEach es X.env)).any (·.1) = false := by rfl) :
    PE X (.Call (.Attribute o name apos) (e :: es) [] cpos) (tBM X.K T r to t) := by
  intro pins s σ H Q I h
  refine wpAny_Call_method_late hbase hfew hline rfl (thn (ho pins s σ H _ I h) fun v s1 ⟨x, H1, I1, r1, ty, q1⟩ => ?_)
  obtain ⟨h1, h2⟩ := tyV_is I1 r1 ty
  refine ⟨T, id, pa, slot, hty, h1, h2, ?_⟩
  have hA := ha cpos pins s1 σ H1 _ I1 q1
  rw [hs] at hA ⊢
  refine Calls.callWith_builtin (by show (false || (backTo cpos (starEach es X.env)).any (·.1)) = false; rw [hplain] <;> rfl) (Calls.evalArgs_plain ?_)
  exact thn hA fun us s2 ⟨vs, H2, I2, r2, q2⟩ => hm pins s2 σ H2 x vs v us Q I2 r1 r2 q2
/- xs.append(e), list.index on a module's tuple .. are MtR facts of 06m -/
end
end L2

namespace L2
open PySem PySem.Spec PyProof.Rows

def MtM (X : Cx) (id : String) (r : V → List V → Hp → VK → Prop) : Prop :=
  ∀ (pins : List (Addr × Obj)) (s : Shared) (σ : St) (H : Hp) (x : V) (xs : List V) (v : Value) (us : List Value) (Q : VK), Inv X pins σ H s → RelV x v → Vals xs us → r x xs H Q →
    wpAny (model X.prog X.w) X.A (call (.builtin id) (v :: us)) (EP X pins σ Q) X.xe s

/-! ### lists of values -/
theorem Vals.one : ∀ {x : V} {us : List Value}, Vals [x] us → ∃ u, us = [u] ∧ RelV x u
  | _, _, .cons r .nil => ⟨_, rfl, r⟩
theorem Vals.two : ∀ {x y : V} {us : List Value}, Vals [x, y] us → ∃ u v, us = [u, v] ∧ RelV x u ∧ RelV y v
  | _, _, _, .cons r (.cons q .nil) => ⟨_, _, rfl, r, q⟩
theorem Vals.zero : ∀ {us : List Value}, Vals [] us → us = []
  | _, .nil => rfl
theorem Vals.dropLast {xs : List V} {us : List Value} (h : Vals xs us) : Vals xs.dropLast us.dropLast := by
  induction h with
  | nil => exact .nil
  | cons r t ih =>
    cases t with
    | nil => exact .nil
    | cons q t' => exact .cons r ih
theorem Vals.eraseIdx : ∀ {xs : List V} {us : List Value} (i : Nat), Vals xs us → Vals (xs.eraseIdx i) (us.eraseIdx i)
  | _, _, _, .nil => .nil
  | _, _, 0, .cons _ t => t
  | _, _, i + 1, .cons r t => .cons r (Vals.eraseIdx i t)
theorem Vals.reverse {xs : List V} {us : List Value} (h : Vals xs us) : Vals xs.reverse us.reverse := by
  induction h with
  | nil => exact .nil
  | cons r t ih => rw [List.reverse_cons, List.reverse_cons]; exact Vals.append ih (.cons r .nil)
section
variable {X : Cx} {pins : List (Addr × Obj)} {σ : St} {H : Hp} {s : Shared} {l b : Addr} {xs ys zs : List V}

/-! ### the two steps: a tracked list is rewritten, a new list is laid -/
theorem Inv.lset {its its' : List Value} {n : Nat} {f : Array Value → Array Value} {t' : Nat} (I : Inv X pins σ H s) (hH : H l = some (.lst xs))
    (e : s.heap.get? l = some { cls := .type "list", data := .seq its.toArray n }) (hf : f its.toArray = its'.toArray) (hv : Vals ys its') (hz : ys.length ≤ sizeLine) :
    Inv X pins σ (upd H l (.lst ys)) { s with heap := s.heap.update l (Obj.mapSeq f), toks := t' } := by
  have q := PySem.IsL.update e f
  rw [hf] at q
  refine I.write (x := l) (e := l) (by rw [hH]; exact trivial) (.inl rfl) (fun b' u hb hu => (Heap.get?_update_other s.heap (Obj.mapSeq f) (Ne.symm hb)).trans hu) ⟨_, q⟩ ?_
  exact ⟨hz, its', _, hv, q⟩
theorem Inv.lnew {its : List Value} {t' : Nat} (I : Inv X pins σ H s) (hv : Vals ys its) (hz : ys.length ≤ sizeLine) :
    Inv X pins σ (upd H s.heap.objs.size (.lst ys)) { s with heap := s.heap.push { cls := .type "list", data := .seq its.toArray }, toks := t' } :=
  I.laid (fun _ _ q => Heap.get?_push_of_some _ q) (Nat.le_refl _) ⟨hz, its, 0, hv, Heap.get?_push_size _ rfl⟩
theorem Inv.fresh (I : Inv X pins σ H s) : H s.heap.objs.size = none := I.hok.fresh (Nat.le_refl _)
theorem Inv.lstM (I : Inv X pins σ H s) (hH : H l = some (.lst xs)) : xs.length ≤ sizeLine ∧ ∃ (its : List Value) (n : Nat), Vals xs its ∧ xs.length = its.length ∧ s.heap.get? l = some { cls := .type "list", data := .seq its.toArray n } := by
  obtain ⟨z, its, n, r, e⟩ := I.hok l _ hH
  exact ⟨z, its, n, r, r.length, e⟩

end

section
variable {X : Cx}

/-! ### methods -/
def rAppend : V → List V → Hp → VK → Prop := fun x vs H Q => ∃ l xs y, x = .ref l ∧ vs = [y] ∧ H l = some (.lst xs) ∧ xs.length < sizeLine ∧ Q .non (upd H l (.lst (xs ++ [y])))
theorem mt_append : MtM X "list.append" rAppend := by
  intro pins s σ H x vs v us Q I rx rv h
  obtain ⟨l, xs, y, rfl, rfl, hH, hz, q⟩ := h
  cases rx
  obtain ⟨u, rfl, ru⟩ := rv.one
  obtain ⟨z, its, n, r, hl, e⟩ := I.lstM hH
  refine call_meets F.slot_list_append ⟨_, e, rfl⟩ F.entry_list_append (F.args_list_append_2 _ _) (PySem.list_append l its.toArray n u (by rw [List.size_toArray]; omega)) ⟨e, ?_⟩
  refine ⟨.non, _, I.lset (its' := its ++ [u]) hH e (by simp) (r.append (.cons ru .nil)) ?_, rfl, q⟩
  rw [List.length_append, List.length_singleton]
  omega

def rExtend : V → List V → Hp → VK → Prop := fun x vs H Q => ∃ l b xs zs, x = .ref l ∧ vs = [.ref b] ∧ H l = some (.lst xs) ∧ H b = some (.lst zs) ∧ xs.length + zs.length ≤ sizeLine ∧ Q .non (upd H l (.lst (xs ++ zs)))
def rPop : V → List V → Hp → VK → Prop := fun x vs H Q => ∃ l xs y, x = .ref l ∧ vs = [] ∧ H l = some (.lst xs) ∧ xs[xs.length - 1]? = some y ∧ Q y (upd H l (.lst xs.dropLast))
def rPopAt : V → List V → Hp → VK → Prop := fun x vs H Q => ∃ l xs i k y, x = .ref l ∧ vs = [.int i] ∧ H l = some (.lst xs) ∧ -(2 ^ 63) ≤ i ∧ i < 2 ^ 63 ∧ seqIndex? i xs.length = some k ∧ xs[k]? = some y ∧ Q y (upd H l (.lst (xs.eraseIdx k)))
def rReverse : V → List V → Hp → VK → Prop := fun x vs H Q => ∃ l xs, x = .ref l ∧ vs = [] ∧ H l = some (.lst xs) ∧ Q .non (upd H l (.lst xs.reverse))
def rClear : V → List V → Hp → VK → Prop := fun x vs H Q => ∃ l xs, x = .ref l ∧ vs = [] ∧ H l = some (.lst xs) ∧ Q .non (upd H l (.lst []))
/-! ### list + list, list += list, list * int -/
def rCat : R2 := fun x y H Q => ∃ l b xs zs, x = .ref l ∧ y = .ref b ∧ H l = some (.lst xs) ∧ H b = some (.lst zs) ∧ xs.length + zs.length ≤ sizeLine ∧ ∀ p, H p = none → Q (.ref p) (upd H p (.lst (xs ++ zs)))
theorem op_cat : OpR X (binaryOp .Add) rCat := by
  intro pins s σ H x y v u Q I rx ry h
  obtain ⟨l, b, xs, zs, rfl, rfl, hH, hB, hz, q⟩ := h
  cases rx
  cases ry
  obtain ⟨z, its, n, r, hl, e⟩ := I.lstM hH
  obtain ⟨z2, its2, n2, r2, hl2, e2⟩ := I.lstM hB
  refine PySem.P.add_list e e2 ?_ (by rw [List.size_toArray, List.size_toArray]; omega)
  have ea : its.toArray ++ its2.toArray = (its ++ its2).toArray := by simp
  rw [ea]
  exact ⟨.ref _, _, I.lnew (t' := s.toks) (r.append r2) (by rw [List.length_append]; omega), rfl, q _ I.fresh⟩
/-- a list times an int (a negative one is nothing) -/
def rRep : R2 := fun x y H Q => ∃ l k xs, x = .ref l ∧ y = .int k ∧ H l = some (.lst xs) ∧ -(2 ^ 63) ≤ k ∧ k < 2 ^ 63 ∧ xs.length * k.toNat ≤ sizeLine ∧
  ∀ p, H p = none → Q (.ref p) (upd H p (.lst (List.replicate k.toNat xs).flatten))
/-! ### del xs[i] -/
end

/-! ### xs[a:b] = ys -/
section
variable {prog : Program} {w : World} {A : Around} {E : Value → Shared → Prop} {s : Shared}
end

section
variable {X : Cx}
end
end L2

namespace L2
open PySem PySem.Spec PyProof.Rows

/-! ### lists of pairs as tables -/
section
variable {κ : Type} [DecidableEq κ]
def valV (kvs : List (κ × V)) (k : κ) : Option V := (kvs.find? fun kv => decide (kv.1 = k)).map (·.2)
/-- in its place, or at the end -/
def putK (kvs : List (κ × V)) (k : κ) (v : V) : List (κ × V) :=
  if (kvs.any fun kv => decide (kv.1 = k)) = true then kvs.map (fun kv => if kv.1 = k then (kv.1, v) else kv) else kvs ++ [(k, v)]
def dropK (kvs : List (κ × V)) (k : κ) : List (κ × V) := kvs.filter fun kv => decide (kv.1 ≠ k)

theorem valV_pos {p : κ × V} {r : List (κ × V)} {k : κ} (e : p.1 = k) : valV (p :: r) k = some p.2 := by simp [valV, List.find?_cons, e]
theorem valV_neg {p : κ × V} {r : List (κ × V)} {k : κ} (e : ¬ p.1 = k) : valV (p :: r) k = valV r k := by simp [valV, List.find?_cons, e]
theorem valV_any (k : κ) : ∀ kvs : List (κ × V), (kvs.any fun kv => decide (kv.1 = k)) = (valV kvs k).isSome
  | [] => rfl
  | p :: r => by
    rw [List.any_cons]
    by_cases e : p.1 = k
    · simp only [valV_pos e, decide_eq_true e, Bool.true_or, Option.isSome_some]
    · rw [valV_neg e, decide_eq_false e, Bool.false_or]; exact valV_any k r
theorem RelO.isSome_eq {o : Option V} {u : Option Value} (r : RelO o u) : o.isSome = u.isSome := by
  cases o with
  | none => cases u with
    | none => rfl
    | some _ => exact (show False from r).elim
  | some _ => cases u with
    | none => exact (show False from r).elim
    | some _ => rfl
theorem RelO.getD {o : Option V} {u : Option Value} {d : V} {d' : Value} (r : RelO o u) (rd : RelV d d') : RelV (o.getD d) (u.getD d') := by
  cases o with
  | none => cases u with
    | none => exact rd
    | some _ => exact (show False from r).elim
  | some _ => cases u with
    | none => exact (show False from r).elim
    | some _ => exact r

/-- raw tables of the same keys -/
theorem KV.val {kvs : List (κ × V)} {vs : List (κ × Value)} (r : KV kvs vs) (k : κ) : RelO (valV kvs k) (valueAt vs k) := by
  unfold KV at r
  induction r with
  | nil => exact True.intro
  | @cons p q ps qs h t ih =>
    obtain ⟨h1, h2⟩ := h
    by_cases e : p.1 = k
    · have e' : q.1 = k := h1.symm.trans e
      have b : valueAt (q :: qs) k = some q.2 := by simp [valueAt, List.find?_cons, e']
      rw [valV_pos e, b]; exact h2
    · have e' : ¬ q.1 = k := fun z => e (h1.trans z)
      have b : valueAt (q :: qs) k = valueAt qs k := by simp [valueAt, List.find?_cons, e']
      rw [valV_neg e, b]; exact ih
theorem KV.any {kvs : List (κ × V)} {vs : List (κ × Value)} (r : KV kvs vs) (k : κ) : (kvs.any fun kv => decide (kv.1 = k)) = vs.any fun kv => decide (kv.1 = k) := by
  unfold KV at r
  induction r with
  | nil => rfl
  | cons h t ih => rw [List.any_cons, List.any_cons, ih, h.1]
theorem KV.repl {kvs : List (κ × V)} {vs : List (κ × Value)} (r : KV kvs vs) (k : κ) {y : V} {u : Value} (ry : RelV y u) :
    KV (kvs.map fun kv => if kv.1 = k then (kv.1, y) else kv) (vs.map fun kv => if kv.1 = k then (kv.1, u) else kv) := by
  unfold KV at r ⊢
  induction r with
  | nil => exact .nil
  | @cons p q ps qs h t ih =>
    rw [List.map_cons, List.map_cons]
    refine .cons ?_ ih
    obtain ⟨h1, h2⟩ := h
    by_cases e : p.1 = k
    · rw [if_pos e, if_pos (h1.symm.trans e)]; exact ⟨h1, ry⟩
    · rw [if_neg e, if_neg (fun z => e (h1.trans z))]; exact ⟨h1, h2⟩
theorem KV.put {kvs : List (κ × V)} {vs : List (κ × Value)} (r : KV kvs vs) (k : κ) {y : V} {u : Value} (ry : RelV y u) : KV (putK kvs k y) (stored vs k u) := by
  unfold putK stored
  rw [r.any k]
  by_cases e : (vs.any fun kv => decide (kv.1 = k)) = true
  · rw [if_pos e, if_pos e]; exact r.repl k ry
  · rw [if_neg e, if_neg e]; exact Paired.snoc r ⟨rfl, ry⟩
theorem KV.drop {kvs : List (κ × V)} {vs : List (κ × Value)} (r : KV kvs vs) (k : κ) : KV (dropK kvs k) (without vs k) := by
  unfold KV at r ⊢
  unfold dropK without
  induction r with
  | nil => exact .nil
  | @cons p q ps qs h t ih =>
    obtain ⟨h1, h2⟩ := h
    rw [List.filter_cons, List.filter_cons]
    by_cases e : p.1 = k
    · have a : ¬ decide (p.1 ≠ k) = true := by simp [e]
      have b : ¬ decide (q.1 ≠ k) = true := by simp [h1.symm.trans e]
      rw [if_neg a, if_neg b]; exact ih
    · have e' : ¬ q.1 = k := fun z => e (h1.trans z)
      have a : decide (p.1 ≠ k) = true := by simp [e]
      have b : decide (q.1 ≠ k) = true := by simp [e']
      rw [if_pos a, if_pos b]; exact .cons ⟨h1, h2⟩ ih
theorem KV.keys {kvs : List (κ × V)} {vs : List (κ × Value)} (r : KV kvs vs) : kvs.map (·.1) = vs.map (·.1) := by
  unfold KV at r
  induction r with
  | nil => rfl
  | cons h t ih => rw [List.map_cons, List.map_cons, ih, h.1]
theorem KV.length {kvs : List (κ × V)} {vs : List (κ × Value)} (r : KV kvs vs) : kvs.length = vs.length := Paired.length r
end


/-! ### a tracked dict, its keys ints and texts or tuples of these -/
/-- raw entries of a dict with tuple keys -/
abbrev KT (H : Hp) : List (List Key × V) → List (List Key × Addr × Value) → Prop := Paired fun p q => p.1 = q.1 ∧ H q.2.1 = some (.tup (p.1.map kV)) ∧ RelV p.2 q.2.2
theorem KT.val {H : Hp} {kvs : List (List Key × V)} {xs : List (List Key × Addr × Value)} (r : KT H kvs xs) (k : List Key) : RelO (valV kvs k) ((atKey xs k).map (·.2)) := by
  induction r with
  | nil => exact True.intro
  | @cons p q ps qs h t ih =>
    obtain ⟨h1, _, h2⟩ := h
    by_cases e : p.1 = k
    · have e' : q.1 = k := h1.symm.trans e
      have b : atKey (q :: qs) k = some q.2 := by simp [atKey, List.find?_cons, e']
      rw [valV_pos e, b]; exact h2
    · have e' : ¬ q.1 = k := fun z => e (h1.trans z)
      have b : atKey (q :: qs) k = atKey qs k := by simp [atKey, List.find?_cons, e']
      rw [valV_neg e, b]; exact ih
theorem KT.repl {H : Hp} {kvs : List (List Key × V)} {xs : List (List Key × Addr × Value)} (r : KT H kvs xs) (k : List Key) {y : V} {u : Value} (ry : RelV y u) :
    KT H (kvs.map fun kv => if kv.1 = k then (kv.1, y) else kv) (xs.map (putAt k u)) := by
  induction r with
  | nil => exact .nil
  | @cons p q ps qs h t ih =>
    rw [List.map_cons, List.map_cons]
    refine .cons ?_ ih
    obtain ⟨h1, h2, h3⟩ := h
    unfold putAt
    by_cases e : p.1 = k
    · rw [if_pos e, if_pos (h1.symm.trans e)]; exact ⟨h1, h2, ry⟩
    · rw [if_neg e, if_neg (fun z => e (h1.trans z))]; exact ⟨h1, h2, h3⟩
theorem KT.put {H : Hp} {kvs : List (List Key × V)} {xs : List (List Key × Addr × Value)} (r : KT H kvs xs) (k : List Key) {b : Addr} {y : V} {u : Value} (hb : H b = some (.tup (k.map kV))) (ry : RelV y u) :
    KT H (putK kvs k y) (storedH xs k b u) := by
  have e : (kvs.any fun kv => decide (kv.1 = k)) = (atKey xs k).isSome := by
    rw [valV_any, (r.val k).isSome_eq, Option.isSome_map]
  unfold putK storedH
  rw [e]
  by_cases q : (atKey xs k).isSome = true
  · rw [if_pos q, if_pos q]; exact r.repl k ry
  · rw [if_neg q, if_neg q]; exact Paired.snoc r ⟨rfl, hb, ry⟩
theorem KT.keeps {H H' : Hp} {kvs : List (List Key × V)} {xs : List (List Key × Addr × Value)} (r : KT H kvs xs) (ht : ∀ b ys, H b = some (.tup ys) → H' b = some (.tup ys)) : KT H' kvs xs :=
  Paired.mapP r fun _ _ z => ⟨z.1, ht _ _ z.2.1, z.2.2⟩

section
variable {P : Program} {w : World} {H : Hp} {h : Heap} {a : Addr}
end

/-- what the dict at a holds at the key y -/
def DGet (H : Hp) (a : Addr) (y : V) (r : Option V) : Prop :=
  (∃ kvs k, Rd H a (.dK kvs) ∧ y = kV k ∧ r = valV kvs k) ∨ ∃ kvs k b, Rd H a (.dT kvs) ∧ y = .ref b ∧ H b = some (.tup (k.map kV)) ∧ r = valV kvs k
/-- the heap behind a[y] = v -/
def DPut (H : Hp) (a : Addr) (y v : V) (H' : Hp) : Prop :=
  (∃ kvs k, H a = some (.dK kvs) ∧ y = kV k ∧ kvs.length < sizeLine ∧ H' = upd H a (.dK (putK kvs k v))) ∨
  ∃ kvs k b, H a = some (.dT kvs) ∧ y = .ref b ∧ H b = some (.tup (k.map kV)) ∧ kvs.length < sizeLine ∧ H' = upd H a (.dT (putK kvs k v))
theorem DGet.k {H : Hp} {a : Addr} {kvs : List (Key × V)} {k : Key} (e : H a = some (.dK kvs)) : DGet H a (kV k) (valV kvs k) := .inl ⟨kvs, k, .inl e, rfl, rfl⟩
theorem DGet.t {H : Hp} {a b : Addr} {kvs : List (List Key × V)} {k : List Key} (e : H a = some (.dT kvs)) (eb : H b = some (.tup (k.map kV))) : DGet H a (.ref b) (valV kvs k) := .inr ⟨kvs, k, b, .inl e, rfl, eb, rfl⟩
theorem DPut.k {H : Hp} {a : Addr} {kvs : List (Key × V)} {k : Key} {v : V} (e : H a = some (.dK kvs)) (hl : kvs.length < sizeLine) : DPut H a (kV k) v (upd H a (.dK (putK kvs k v))) := .inl ⟨kvs, k, e, rfl, hl, rfl⟩
theorem DPut.t {H : Hp} {a b : Addr} {kvs : List (List Key × V)} {k : List Key} {v : V} (e : H a = some (.dT kvs)) (eb : H b = some (.tup (k.map kV))) (hl : kvs.length < sizeLine) :
    DPut H a (.ref b) v (upd H a (.dT (putK kvs k v))) := .inr ⟨kvs, k, b, e, rfl, eb, hl, rfl⟩


section
variable {X : Cx} {pins : List (Addr × Obj)} {σ : St} {H : Hp} {s : Shared} {a : Addr} {y v : V} {u r : Value} {o : Option V} {A : Around} {E : Value → Shared → Prop}

end

section
variable {X : Cx} {pins : List (Addr × Obj)} {σ : St} {H : Hp} {s : Shared} {a : Addr} {kvs : List (Key × V)} {k : Key} {u : Value} {A : Around} {E : Value → Shared → Prop}
end


/-! ### readings and rules -/
/-- the element of a subscription, not a slice -/
def NoSl (i : Expr) : Prop := ∀ ov iv, subscripted i false ov iv = operate [ov, iv] (getItem ov iv)
/-- d[y] -/
def tDGet (td ty : TE) : TE := fun σ H Q => td σ H fun x H1 => ty σ H1 fun y H2 => ∃ a v, x = .ref a ∧ DGet H2 a y (some v) ∧ Q v H2
/-- y in d, y not in d -/
def tDIn (ty td : TE) : TE := fun σ H Q => ty σ H fun y H1 => td σ H1 fun x H2 => ∃ a o, x = .ref a ∧ DGet H2 a y o ∧ Q (.bl o.isSome) H2
def tDNotIn (ty td : TE) : TE := fun σ H Q => ty σ H fun y H1 => td σ H1 fun x H2 => ∃ a o, x = .ref a ∧ DGet H2 a y o ∧ Q (.bl (!o.isSome)) H2
/-- d[y] = v -/
def sDPut (td ty tv : TE) : TS := fun D σ H => tv σ H fun v H1 => td σ H1 fun x H2 => ty σ H2 fun y H3 => ∃ a H4, x = .ref a ∧ DPut H3 a y v H4 ∧ D.nx σ H4
/-- d[y] op= v -/
def sDAug (td ty tv : TE) (rd : V → V → Hp → VK → Prop) : TS := fun D σ H => td σ H fun x H1 => ty σ H1 fun y H2 => ∃ a v, x = .ref a ∧ DGet H2 a y (some v) ∧
  tv σ H2 fun y2 H3 => rd v y2 H3 fun z H4 => ∃ H5, DPut H4 a y z H5 ∧ D.nx σ H5
/-- del d[y] -/
def sDDel (td ty : TE) : TS := fun D σ H => td σ H fun x H1 => ty σ H1 fun y H2 => ∃ a kvs k, x = .ref a ∧ H2 a = some (.dK kvs) ∧ y = kV k ∧ (valV kvs k).isSome = true ∧ D.nx σ (upd H2 a (.dK (dropK kvs k)))

section
variable {X : Cx} {o i e value : Expr} {pos pos' tpos : Pos} {td ty tv : TE}
end


/-! ### displays -/
/-- {}, to be a dict of the kind that is wanted -/
def tDNewK : TE := fun _ H Q => ∀ p, H p = none → Q (.ref p) (upd H p (.dK []))
def tDNewT : TE := fun _ H Q => ∀ p, H p = none → Q (.ref p) (upd H p (.dT []))
section
variable {X : Cx} {pos : Pos}
end

/-- the pairs of a display, from the left -/
def tPairs : List (TE × TE) → St → Hp → (List (V × V) → Hp → Prop) → Prop
  | [], _, H, Q => Q [] H
  | (tk, tv) :: r, σ, H, Q => tk σ H fun x H1 => tv σ H1 fun y H2 => tPairs r σ H2 fun ps H3 => Q ((x, y) :: ps) H3
abbrev VV : List (V × V) → List (Value × Value) → Prop := Paired fun p q => RelV p.1 q.1 ∧ RelV p.2 q.2
def PPs (X : Cx) (pos : Pos) (keys : List (Option Expr)) (values : List Expr) (trs : List (TE × TE)) : Prop :=
  ∀ (pins : List (Addr × Obj)) (s : Shared) (σ : St) (H : Hp) (Q : List (V × V) → Hp → Prop), Inv X pins σ H s → tPairs trs σ H Q →
    wpAny (model X.prog X.w) X.A (evalPairs (pairTrees keys values X.env pos)) (fun vs s' => ∃ ps H', Inv X pins σ H' s' ∧ VV ps vs ∧ Q ps H') X.xe s
def mergeK (kvs more : List (Key × V)) : List (Key × V) := more.foldl (fun acc kv => putK acc kv.1 kv.2) kvs
/-- {k: v, ..} with keys ints and texts; the new dict stands empty while the pairs are made -/
def tDisp (trs : List (TE × TE)) : TE := fun σ H Q => ∀ p, H p = none → tPairs trs σ (upd H p (.dK [])) fun ps H2 => H2 p = some (.dK []) ∧ ∃ kvs : List (Key × V), ps = kvs.map (fun kv => (kV kv.1, kv.2)) ∧ kvs.length ≤ 15 ∧ Q (.ref p) (upd H2 p (.dK (mergeK [] kvs)))
/-! ### methods -/
/-- a method call o.m(e) of a built-in, with one argument: what must be seen of the text -/
structure M1 (X : Cx) (o : Expr) (m : Str) (apos : Pos) (e : Expr) (cpos : Pos) : Prop where
  base : attributeBase o m X.env (eval o X.env) = eval o X.env
  few : ((backTo cpos (starEach [e] X.env)).all (fun x => !x.1) && (backToKw cpos (keywordEach [] X.env)).all (fun x => x.1.isSome)
    && decide (([e] : List Expr).length + ([] : List Keyword).length + (if ([] : List Keyword).isEmpty then 0 else 1) < 30)) = true
  line : (apos.endLine == cpos.line) = true
  trees : backTo cpos (starEach [e] X.env) = [(false, eval e X.env)]
structure M2 (X : Cx) (o : Expr) (m : Str) (apos : Pos) (e f : Expr) (cpos : Pos) : Prop where
  base : attributeBase o m X.env (eval o X.env) = eval o X.env
  few : ((backTo cpos (starEach [e, f] X.env)).all (fun x => !x.1) && (backToKw cpos (keywordEach [] X.env)).all (fun x => x.1.isSome)
    && decide (([e, f] : List Expr).length + ([] : List Keyword).length + (if ([] : List Keyword).isEmpty then 0 else 1) < 30)) = true
  line : (apos.endLine == cpos.line) = true
  trees : backTo cpos (starEach [e, f] X.env) = [(false, eval e X.env), (false, eval f X.env)]

/-- a is a dict, whatever its keys -/
def IsD (H : Hp) (a : Addr) : Prop := (∃ kvs, Rd H a (.dK kvs)) ∨ ∃ kvs, Rd H a (.dT kvs)
section
variable {X : Cx} {pins : List (Addr × Obj)} {σ : St} {H : Hp} {s : Shared} {a : Addr} {y d : V} {u r : Value} {o : Option V} {A : Around} {E : Value → Shared → Prop}
end

def tDGet1 (td ty : TE) : TE := fun σ H Q => td σ H fun x H1 => ∃ a, x = .ref a ∧ IsD H1 a ∧ ty σ H1 fun y H2 => ∃ o, DGet H2 a y o ∧ Q (o.getD .non) H2
def tDGet2 (td ty tx : TE) : TE := fun σ H Q => td σ H fun x H1 => ∃ a, x = .ref a ∧ IsD H1 a ∧ ty σ H1 fun y H2 => tx σ H2 fun z H3 => ∃ o, DGet H3 a y o ∧ Q (o.getD z) H3
/-- d.pop(k): there; d.pop(k, x): there or not -/
def tDPop1 (td ty : TE) : TE := fun σ H Q => td σ H fun x H1 => ∃ a, x = .ref a ∧ IsD H1 a ∧ ty σ H1 fun y H2 => ∃ kvs k v, H2 a = some (.dK kvs) ∧ y = kV k ∧ valV kvs k = some v ∧ Q v (upd H2 a (.dK (dropK kvs k)))
def tDPop2 (td ty tx : TE) : TE := fun σ H Q => td σ H fun x H1 => ∃ a, x = .ref a ∧ IsD H1 a ∧ ty σ H1 fun y H2 => tx σ H2 fun z H3 => ∃ kvs k, H3 a = some (.dK kvs) ∧ y = kV k ∧
  (∀ v, valV kvs k = some v → Q v (upd H3 a (.dK (dropK kvs k)))) ∧ (valV kvs k = none → Q z H3)
section
variable {X : Cx} {o e f : Expr} {apos cpos : Pos} {td ty tx : TE}
end

/-! ### dict(d): a copy -/
section
variable {X : Cx} {pins : List (Addr × Obj)} {σ : St} {H : Hp} {s : Shared} {a : Addr} {kvs : List (Key × V)} {A : Around} {E : Value → Shared → Prop}
end


section
variable {X : Cx} {pins : List (Addr × Obj)} {σ : St} {H : Hp} {s : Shared} {a : Addr} {y : V} {u : Value} {A : Around} {E : Value → Shared → Prop}
end
end L2

namespace Att
open PySem PySem.W PySem.Calls PyProof.Rows

/-! ### the script -/
theorem ints_of_wellAll {P : Params} {h : Heap} : ∀ (ns : List Int) (vs : List Value), WellAll P h vs (ns.map WData.int) → IntsAre vs ns := by
  intro ns
  induction ns with
  | nil =>
    intro vs w
    rw [List.map_nil] at w
    cases w
    exact .nil
  | cons n ns ih =>
    intro vs w
    rw [List.map_cons] at w
    cases w with
    | cons a b =>
      cases a
      exact .cons _ _ (ih _ b)

theorem script_of {l : OpenLaw} {n : Nat} (hn : l.most = some n) {P : Params} {h : Heap} {args : List WData} {vals : List Value}
    (hpre : l.row.toRowW.claim.pre args = true) (hwl : WellAll P h vals args) :
    ∃ a vs ns, vals = [Value.ref a] ∧ args = [WData.list (ns.map WData.int)] ∧ h.get? a = some { cls := .type "list", data := .seq vs.toArray } ∧ IntsAre vs ns ∧ ns.length ≤ n := by
  have hsh : WShape.hasAll [] args [.list .int] = true := (pre_splitW hpre).1
  have hc : l.pre.holds [] { args := args } = true := (pre_splitW hpre).2
  obtain ⟨d, r, rfl, h1, h2⟩ := hasAllW_cons hsh
  obtain rfl := hasAllW_nil h2
  obtain ⟨xs, rfl, h3⟩ := hasW_list h1
  obtain ⟨ns, rfl⟩ := items_int h3
  have hlen : ns.length ≤ n := by
    unfold OpenLaw.pre at hc
    have h4 : (WTm.not (.lt (.lit (.int (n : Int))) (.len (.arg 0)))).holds [] { args := [.list (ns.map .int)] } = true := by
      have h4 := (holds_andW hc).1
      rw [hn] at h4
      exact h4
    have h5 := condW_of h4 (w_not (w_lt w_lit (w_len_list (w_arg rfl))))
    rw [List.length_map] at h5
    refine Nat.le_of_not_lt fun q => ?_
    have q' : (n : Int) < ((ns.length : Nat) : Int) := by omega
    first
      | (rw [decide_eq_true q'] at h5; exact absurd h5 (by decide))
      | (simp at h5; omega)
  cases hwl with
  | cons w1 w2 =>
    cases w2
    cases w1 with
    | list ho hall => exact ⟨_, _, ns, rfl, rfl, ho, ints_of_wellAll ns _ hall, hlen⟩

theorem post_true (l : OpenLaw) (args : List WData) : l.row.toRowW.claim.post args (.bool true) args = true :=
  postW_of (r := l.row.toRowW) (X := (true == true))
    (show WShape.has [] (.bool true) .bool = true by first | rfl | decide | simp [WShape.has, WShape.arms, WShape.armsAll])
    (show (WTm.eq .res (.lit (.bool true))).value [] { args := args, res := some (.bool true), after := args } = some (.bool (true == true)) from w_eq_bool (w_res rfl) w_lit) rfl

/-! ### the attachment: holds_open's last premise (the goal 'hc' behind k_head) from a wpAny of the law's body -/
/-! ### rules over ANY heap (no ledger) from facts about the written part K: the library's own take a ledger (News) for what they write -/
section
variable {prog : Program} {w : World} {A : Around} {E : Value → Shared → Prop} {s : Shared} {K : Frag}

/-! the whole heap as the ledger: makes every rule that writes through a ledger a rule over any heap -/
def noObjs (h : Heap) : Heap := { h with objs := #[] }
def ledger (h : Heap) (L d : Addr) : List (Addr × Obj) := (List.range h.objs.size).filterMap fun a => if a = L ∨ a = d then none else (h.get? a).map fun o => (a, o)
end
end Att

namespace L2
open PySem PySem.Spec PyProof.Rows

theorem vals_ints : ∀ {vs : List Value} {ns : List Int}, IntsAre vs ns → Vals (ns.map V.int) vs
  | _, _, .nil => .nil
  | _, _, .cons n t h => .cons ⟨t, rfl⟩ (vals_ints h)

/-- nothing is tracked but the script, known to the object (or it is an object of the module) -/
def Only (H : Hp) : Prop := ∀ b, H b = none ∨ ∃ o xs, H b = some (.frz o (.lst xs))

/-- THE HEAD: the law's promise, at the heap behind the top. F, the promise of the law's def, may use that base is part of the heap (so K.In base, base.Ns mainGlobals mg stand in Mod) -/
theorem law_call {P : Program} {w : World} {K : PySem.W.Frag} {mg mb : Str → Option Value} {CX : CXT} {k : Nat} {fa a : Addr} {fd : FuncData} {x : Str} {sp : Sp} {s₁ : Shared} {vs : List Value} {ns : List Int}
    (KX : K.In s₁.heap) (hns : s₁.heap.Ns mainGlobals mg) (hb : s₁.heap.Ns builtinsNs mb) (hbb : ∀ x : Str, x ≠ "__name__" → mb x = bootBuiltins x) (hlim : s₁.heap.NoLimit) (hg : s₁.gens = #[])
    (ha : s₁.heap.get? a = some { cls := .type "list", data := .seq vs.toArray }) (hi : IntsAre vs ns) (hl : ns.length ≤ sizeLine) (hr : Room k callerA)
    (F : ∀ base : Heap, K.In base → base.Ns mainGlobals mg → FnOk P w K mg base CX k fa fd [x] sp) (hbind : ∀ (s : Shared) (u : Value), BindsTo s fd ⟨[u], []⟩ [(x, u)])
    (hsp : ∀ H : Hp, Only H → SqL K H a (ns.map V.int) → sp [.ref a] H (fun v _ => v = .bl true) fun _ _ _ => False)
    (hCX : ∀ H e s', CX [] H s₁ (fun _ _ _ => False) e s' → False) :
    codeAny (model P w) callerA (.call (.ref fa) ⟨[.ref a], []⟩) (fun r s' => r = .ok (.ret (.bool true)) ∧ OldK s₁.heap s'.heap ∧ s'.os = s₁.os ∧ AllBare s'.gens) s₁ := by
  have rv := vals_ints hi
  have lenV := hi.length
  -- from an abstract heap in which nothing but the script may be tracked
  have core : ∀ H : Hp, Only H → SqL K H a (ns.map V.int) → HOk P w H s₁.heap → (∀ b, H b ≠ none → b = a) → (H a ≠ none → K.lookup a = none) →
      codeAny (model P w) callerA (.call (.ref fa) ⟨[.ref a], []⟩) (fun r s' => r = .ok (.ret (.bool true)) ∧ OldK s₁.heap s'.heap ∧ s'.os = s₁.os ∧ AllBare s'.gens) s₁ := by
    intro H hO hS hok hA hK
    have base_of : ∀ {b : Addr} {o : Obj}, s₁.heap.get? b = some o → H b = none → (hidT s₁.heap H).get? b = some o := fun e n => hidT_get e n
    have noA : ∀ {b : Addr} {o : Obj} {es : Array DictEntry} {ep : Nat}, s₁.heap.get? b = some o → o.data = .dict es ep → H b = none := fun {b o es ep} e d => by
      cases q : H b with
      | none => rfl
      | some u =>
        have e' : b = a := hA b (by rw [q]; simp)
        subst e'
        rw [ha] at e; cases e
        have d' : Data.seq vs.toArray _ = Data.dict es ep := d
        cases d'
    have nsK : ∀ {b : Addr} {m : Str → Option Value}, s₁.heap.Ns b m → (hidT s₁.heap H).Ns b m := fun {b m} ⟨o, es, ep, e, d, r⟩ => ⟨o, es, ep, base_of e (noA e d), d, r⟩
    have hKb : K.In (hidT s₁.heap H) := fun b o e => base_of (KX b o e) (by
      cases q : H b with
      | none => rfl
      | some u =>
        have e' : b = a := hA b (by rw [q]; simp)
        subst e'
        rw [hK (by rw [q]; simp)] at e; cases e)
    have hM : Mod K mg (hidT s₁.heap H) := ⟨hKb, nsK hns, ⟨mb, nsK hb, hbb⟩, let ⟨mc, h1, h2⟩ := hlim; ⟨mc, nsK h1, h2⟩⟩
    have e0 : Env0 P w K mg (hidT s₁.heap H) callerA [] s₁ H := ⟨rfl, hM, fun b o e => of_hidT e, Nat.le_of_eq (hidT_size _ _), trivial, fun b hb => absurd (show b ∈ ([] : List Addr) from hb) (by simp), hok, .of_eq hg⟩
    refine codeAny_mono ((F _ hKb (nsK hns)).run callerA [] s₁ H ⟨[.ref a], []⟩ [.ref a] [.ref a] _ _ hr e0 (hbind s₁ (.ref a)) (.cons rfl .nil) (hsp H hO hS)) fun r s' h => ?_
    cases r with
    | error e => exact (hCX H e s' h).elim
    | ok fl =>
      cases fl with
      | next => exact False.elim h
      | brk => exact False.elim h
      | cont => exact False.elim h
      | ret u =>
        obtain ⟨v, H', os, bare, un, hok', r', q⟩ := h
        have q' : v = .bl true := q
        subst q'
        obtain rfl : u = Value.bool true := r'
        refine ⟨rfl, OldK.of_keep fun b o e => ?_, os, bare⟩
        cases q : H b with
        | none => exact un.keep b o e q (by intro z; exact absurd (show b ∈ ([] : List Addr) from z) (by simp)) (by simp)
        | some u =>
          rcases hO b with z | ⟨ob, xs, z⟩
          · rw [q] at z; cases z
          · have z2 := un.frzs b ob _ z
            obtain ⟨e1, _⟩ := hok b _ z
            obtain ⟨e2, _⟩ := hok' b _ z2
            rw [e] at e1; cases e1
            exact e2
  cases hk : K.lookup a with
  | some o =>
    -- the script is one of the module's own objects
    have e := KX a o hk
    rw [ha] at e
    cases e
    refine core (fun _ => none) (fun _ => .inl rfl) (.inr ⟨_, vs.toArray, _, hk, rfl, rfl, rfl, by rw [List.size_toArray, lenV]; exact hl, by simpa using rv⟩) (fun b u z => by have z' : (none : Option HO) = some u := z; cases z') (fun b z => absurd rfl z) fun z => absurd rfl z
  | none =>
    refine core (fun b => if b = a then some (.frz { cls := .type "list", data := .seq vs.toArray } (.lst (ns.map V.int))) else none) (fun b => ?_) (.inl (.inr ⟨{ cls := .type "list", data := .seq vs.toArray }, if_pos rfl⟩)) (fun b u z => ?_) (fun b z => ?_) fun _ => hk
    · by_cases hb : b = a
      · exact .inr ⟨_, _, if_pos hb⟩
      · exact .inl (if_neg hb)
    · by_cases hb : b = a
      · have z' := (if_pos hb).symm.trans z
        cases z'
        subst hb
        exact ⟨ha, by rw [List.length_map]; exact hl, vs, _, rv, ha⟩
      · have z' := (if_neg hb).symm.trans z
        cases z'
    · by_cases hb : b = a
      · exact hb
      · exact absurd (if_neg hb) z
end L2

namespace L2
open PySem PySem.Spec PyProof.Rows

abbrev KOf {K : PySem.W.Frag} {h : Heap} (_ : K.In h) : PySem.W.Frag := K

end L2


/-! SHORT WORDS over the layer: a def of the text, its body, what a loop and a test want. -/
namespace L2
open PySem PySem.Spec PyProof.Rows

/-! ### the text by places -/
/-- the j-th statement of a class's body -/
def inClass (s : Stmt) (j : Nat) : Stmt := match s with
  | .ClassDef _ _ _ body _ _ _ _ _ _ _ => body.getD j (.Pass ⟨0, 0, 0, 0⟩)
  | _ => .Pass ⟨0, 0, 0, 0⟩
def defArgs (s : Stmt) : Arguments := match s with
  | .FunctionDef _ a _ _ _ _ _ _ _ _ => a
  | _ => { posonlyargs := [], args := [], vararg := none, kwonlyargs := [], kw_defaults := [], kwarg := none, defaults := [] }
def defBody (s : Stmt) : List Stmt := match s with
  | .FunctionDef _ _ b _ _ _ _ _ _ _ => b
  | _ => []
def defScope (s : Stmt) : Scope := match s with
  | .FunctionDef _ _ _ _ _ _ sc _ _ _ => sc
  | _ => { kind := .function, names := [], isGenerator := false, isCoroutine := false }

/-! ### no exception leaves a def -/
abbrev CX0 : CXT := fun _ _ _ _ _ _ => False
abbrev E0 : XK := fun _ _ _ => False
theorem pass0 {X : Cx} : Passes CX0 X E0 := fun _ _ _ _ _ _ _ h => h.elim

/-! ### a def (or method) of the text as it stands behind the top -/
structure Fun (K : PySem.W.Frag) (x qual : Str) (st : Stmt) (f : Addr) (fd : FuncData) : Prop where
  ex : ∃ (oc : Value) (od : Option Addr) (kV doc pm : Value) (an : Option Addr) (cdv ct : Value) (osl : Array (Option Value)),
    fd = PySem.W.fnOf x qual (defArgs st) (defBody st) (defScope st) .none kV doc pm an cdv ct ∧ K.lookup f = some ⟨oc, od, .func fd, osl⟩ ∧ PySem.W.codeIn K cdv qual = true
  kp : PySem.W.keepIn K (.ref f) = true
section
variable {P : Program} {w : World} {K : PySem.W.Frag} {mg : Str → Option Value} {base : Heap}
/-- THE RULE for a def: its body as a term of rules, and the reading of that term -/
theorem Fun.ok {x qual : Str} {st : Stmt} {f : Addr} {fd : FuncData} {N ps : List Str} {k : Nat} {sp : Sp} (F : Fun K x qual st f fd) (S : FnScope N ps (defScope st)) (len : ∀ vs H Q E, sp vs H Q E → vs.length = ps.length)
    (hbody : ∀ (cdv : Value) (A : Around) (outer : List Env) (s : Shared) (H : Hp) (vs : List V) (Q : VK) (E : XK), Room k (A.deeper (envOfC qual (defScope st) s.heap.objs.size f cdv)) → sp vs H Q E →
      ∃ t, PSs (cxOf CX0 P w K mg base N qual (defScope st) f cdv A outer s H E).nox (defBody st) t ∧ t { nx := fun _ H' => Q .non H', rt := Q } (start N vs) H) : FnOk P w K mg base CX0 (k + 1) f fd ps sp := by
  obtain ⟨oc, od, kV, doc, pm, an, cdv, ct, osl, rfl, lk, hcd⟩ := F.ex
  refine fn_of lk hcd S len fun A outer s H vs Q E hr hsp => ?_
  obtain ⟨t, h, q⟩ := hbody cdv A outer s H vs Q E hr hsp
  exact ⟨t, h.nox, q⟩
/-- how its arguments bind (no defaults): h is «fun _ _ _ _ _ _ us hl => match us, hl with | [_, _], _ => rfl», one _ a parameter -/
theorem Fun.binds {x qual : Str} {st : Stmt} {f : Addr} {fd : FuncData} {ps : List Str} (F : Fun K x qual st f fd)
    (h : ∀ (kV doc pm : Value) (an : Option Addr) (cdv ct : Value) (us : List Value), us.length = ps.length → bindArgs (PySem.W.fnOf x qual (defArgs st) (defBody st) (defScope st) .none kV doc pm an cdv ct) ⟨us, []⟩ = pure (ps.zip us)) : Binds K fd ps [] := by
  obtain ⟨oc, od, kV, doc, pm, an, cdv, ct, osl, rfl, lk, hcd⟩ := F.ex
  exact .all (h kV doc pm an cdv ct)
theorem fun_mk {x qual : Str} {st : Stmt} {f : Addr} {oc : Value} {od an : Option Addr} {osl : Array (Option Value)} {kV doc pm cdv ct : Value} (l : K.lookup f = some ⟨oc, od, .func (PySem.W.fnOf x qual (defArgs st) (defBody st) (defScope st) .none kV doc pm an cdv ct), osl⟩)
    (c : PySem.W.codeIn K cdv qual = true) (k : PySem.W.keepIn K (.ref f) = true) : Fun K x qual st f (PySem.W.fnOf x qual (defArgs st) (defBody st) (defScope st) .none kV doc pm an cdv ct) := ⟨⟨oc, od, kV, doc, pm, an, cdv, ct, osl, rfl, l, c⟩, k⟩
end
theorem hu_of {A : Around} {k : Nat} (hr : Room k A) : A.units + 1 < cLine := Nat.lt_of_le_of_lt (Nat.add_le_add_left (by decide : 1 ≤ 64) _) hr.units
theorem small1000 {n : Nat} (h : n ≤ 1000) : n < sizeLine := Nat.lt_of_le_of_lt h (by decide)

/-! ### expressions in short: the name that stands in the i-th slot -/
section
variable {X : Cx}
theorem pv (i : Nat) {x : Str} {pos : Pos} (hN : X.N[i]? = some x := by rfl) (hv : Vis X.env.scope x := by first | exact Or.inl rfl | exact Or.inr (Or.inl rfl) | exact Or.inr (Or.inr rfl)) (hd : (x == ("__debug__" : Str)) = false := by decide)
    (hcd : (x == ("__classdict__" : Str)) = false := by decide) : PE X (.Name x pos) (tVar i) := pe_var hN hv hd hcd
end

/-! ### tests -/
theorem iteF {A B : Prop} (h : B) : if false = true then A else B := by
  rw [if_neg Bool.false_ne_true]
  exact h
theorem iteT {A B : Prop} (h : A) : if true = true then A else B := by
  rw [if_pos rfl]
  exact h
/-! ### heaps -/
/-- all that was tracked is as it was -/
def Same (H H' : Hp) : Prop := ∀ b o, H b = some o → H' b = some o
theorem Same.refl (H : Hp) : Same H H := fun _ _ h => h
theorem Same.trans {H H1 H2 : Hp} (a : Same H H1) (b : Same H1 H2) : Same H H2 := fun c o h => b c o (a c o h)
theorem Same.free {H H' : Hp} (e : Same H H') {l : Addr} (h : H' l = Option.none) : H l = Option.none := by
  cases q : H l with
  | none => rfl
  | some o =>
    rw [e l o q] at h
    cases h
theorem Same.seq {K : PySem.W.Frag} {H H' : Hp} {a : Addr} {xs : List V} (e : Same H H') (h : SqL K H a xs) : SqL K H' a xs := by
  rcases h with (h | ⟨o, h⟩) | h
  · exact .inl (.inl (e _ _ h))
  · exact .inl (.inr ⟨o, e _ _ h⟩)
  · exact .inr h

/-! ### a dict's pairs: keys that differ -/
section
variable {κ : Type} [DecidableEq κ]
end
end L2

namespace L2
open PySem PySem.Spec PyProof.Rows

/-! ### comprehensions -/
def oldB (N M : List Str) (sc : Scope) : Bool := (List.range N.length).all fun i => match M[i]? with
  | some y => (sc.names.lookup y != some .local) && (sc.names.lookup y != some .cell) && ((sc.names.lookup y != some .free) || (N[i]? == some y))
  | none => true
/-- a comprehension's table beside the outer one (scN) and the outer names N: M has the names of the block, its own one last -/
structure CompS (scN : List (Str × NameKind)) (N M : List Str) (x : Str) (sc : Scope) : Prop where
  kind : sc.kind = .function
  keys : (sc.names.map (·.1)).Nodup
  fr : ∀ p ∈ sc.names, p.2 = .free → scN.lookup p.1 = some .cell ∨ scN.lookup p.1 = some .free
  nd : M.Nodup
  len : M.length = N.length + 1
  last : M[N.length]? = some x
  own : sc.names.lookup x = some .local ∨ sc.names.lookup x = some .cell
  old : oldB N M sc = true

theorem oldB_at {N M : List Str} {sc : Scope} (h : oldB N M sc = true) {i : Nat} {y : Str} (hi : i < N.length) (e : M[i]? = some y) :
    sc.names.lookup y ≠ some .local ∧ sc.names.lookup y ≠ some .cell ∧ (sc.names.lookup y = some .free → N[i]? = some y) := by
  have q := List.all_eq_true.mp h i (List.mem_range.mpr hi)
  rw [e] at q
  simp only [Bool.and_eq_true, Bool.or_eq_true, bne_iff_ne, beq_iff_eq, ne_eq] at q
  obtain ⟨⟨q1, q2⟩, q3⟩ := q
  exact ⟨q1, q2, fun z => q3.elim (fun w => absurd z w) id⟩

theorem lookup_of_mem {l : List (Str × NameKind)} (nd : (l.map (·.1)).Nodup) {p : Str × NameKind} (h : p ∈ l) : l.lookup p.1 = some p.2 := by
  induction l with
  | nil => cases h
  | cons q r ih =>
    obtain ⟨h1, h2⟩ := List.nodup_cons.mp (show (q.1 :: r.map (·.1)).Nodup from nd)
    rw [List.lookup_cons]
    rcases List.mem_cons.mp h with e | h
    · subst e; rw [beq_self_eq_true]
    · have ne : (p.1 == q.1) = false := by
        rw [beq_eq_false_iff_ne]
        intro e
        exact h1 (e ▸ List.mem_map.mpr ⟨p, h, rfl⟩)
      rw [ne]; exact ih h2 h

/-- the closure is there where each free name has a cell -/
theorem closure_ok {scope : Scope} {env : Env} (h : ∀ p ∈ scope.names, p.2 = .free → ∃ c, env.cells.lookup p.1 = some c) :
    ∃ cl, closureFor scope env = pure cl ∧ (∀ y c, (y, c) ∈ cl → env.cells.lookup y = some c ∧ (y, NameKind.free) ∈ scope.names) ∧ ∀ p ∈ scope.names, p.2 = .free → ∃ c, cl.lookup p.1 = some c := by
  have gen : ∀ (l : List (Str × NameKind)) (acc : List (Str × Addr)), (∀ p ∈ l, p.2 = .free → ∃ c, env.cells.lookup p.1 = some c) →
      ∃ cl, (forIn l acc fun (p : Str × NameKind) (cs : List (Str × Addr)) => if p.2 == .free then (do let a ← cellOf env p.1; pure (ForInStep.yield ((p.1, a) :: cs))) else (pure (ForInStep.yield cs) : Sem (ForInStep (List (Str × Addr))))) = pure cl ∧
        (∀ y c, (y, c) ∈ cl → (y, c) ∈ acc ∨ (env.cells.lookup y = some c ∧ (y, NameKind.free) ∈ l)) ∧ (∀ y c, acc.lookup y = some c → ∃ c', cl.lookup y = some c') ∧ ∀ p ∈ l, p.2 = .free → ∃ c, cl.lookup p.1 = some c := by
    intro l
    induction l with
    | nil => intro acc _; exact ⟨acc, rfl, fun y c e => .inl e, fun y c e => ⟨c, e⟩, fun p hp => nomatch hp⟩
    | cons q r ih =>
      intro acc hq
      obtain ⟨n, k⟩ := q
      rw [List.forIn_cons]
      by_cases hk : k = .free
      · subst hk
        obtain ⟨c, hc⟩ := hq (n, .free) List.mem_cons_self rfl
        have hc' : env.cells.lookup n = some c := hc
        have e1 : cellOf env n = pure c := by unfold cellOf; rw [hc']
        obtain ⟨cl, e, h1, h2, h3⟩ := ih ((n, c) :: acc) fun p hp => hq p (List.mem_cons_of_mem _ hp)
        refine ⟨cl, ?_, ?_, ?_, ?_⟩
        · simp only [beq_self_eq_true, if_true, e1, pure_bind]
          exact e
        · intro y d hy
          rcases h1 y d hy with z | ⟨z1, z2⟩
          · rcases List.mem_cons.mp z with z | z
            · cases z; exact .inr ⟨hc', List.mem_cons_self⟩
            · exact .inl z
          · exact .inr ⟨z1, List.mem_cons_of_mem _ z2⟩
        · intro y d hy
          by_cases e' : y = n
          · subst e'; exact h2 y c (by rw [List.lookup_cons, beq_self_eq_true])
          · exact h2 y d (by rw [List.lookup_cons, beq_eq_false_iff_ne.mpr e']; exact hy)
        · intro p hp hf
          rcases List.mem_cons.mp hp with z | z
          · subst z; exact h2 n c (by rw [List.lookup_cons, beq_self_eq_true])
          · exact h3 p z hf
      · have hkb : (k == NameKind.free) = false := beq_eq_false_iff_ne.mpr hk
        obtain ⟨cl, e, h1, h2, h3⟩ := ih acc fun p hp => hq p (List.mem_cons_of_mem _ hp)
        refine ⟨cl, ?_, ?_, h2, ?_⟩
        · simp only [hkb, Bool.false_eq_true, if_false, pure_bind]
          exact e
        · intro y d hy
          rcases h1 y d hy with z | ⟨z1, z2⟩
          · exact .inl z
          · exact .inr ⟨z1, List.mem_cons_of_mem _ z2⟩
        · intro p hp hf
          rcases List.mem_cons.mp hp with z | z
          · subst z; exact absurd hf hk
          · exact h3 p z hf
  obtain ⟨cl, e, h1, _, h3⟩ := gen scope.names [] h
  refine ⟨cl, ?_, fun y c hy => (h1 y c hy).elim (fun z => nomatch z) id, h3⟩
  unfold closureFor
  have e' : (forIn scope.names ([] : List (Str × Addr)) fun (p : Str × NameKind) (cs : List (Str × Addr)) => if p.2 == .free then (do let a ← cellOf env p.1; pure (ForInStep.yield ((p.1, a) :: cs))) else (pure (ForInStep.yield cs) : Sem (ForInStep (List (Str × Addr))))) = pure cl := e
  first
    | (simp only [bind_pure_comp, Functor.map_map] at e' ⊢; simpa using e')
    | (show (forIn scope.names ([] : List (Str × Addr)) _ >>= fun cs => pure cs) = pure cl
       rw [bind_pure]
       exact e')

theorem cellsFrom_acc : ∀ (names : List (Str × NameKind)) (n : Nat) (acc : List (Str × Addr)) {y : Str}, (∀ p ∈ names, p.2 = .cell → p.1 ≠ y) → (cellsFrom n names acc).lookup y = acc.lookup y
  | [], _, _, _, _ => rfl
  | (m, k) :: r, n, acc, y, h => by
    unfold cellsFrom
    split
    · rename_i hk
      have hk' : k = .cell := by simpa using hk
      rw [cellsFrom_acc r (n + 1) _ fun p hp => h p (List.mem_cons_of_mem _ hp), List.lookup_cons]
      have : (y == m) = false := by rw [beq_eq_false_iff_ne]; exact fun e => h (m, k) List.mem_cons_self hk' e.symm
      rw [this]
    · exact cellsFrom_acc r n acc fun p hp => h p (List.mem_cons_of_mem _ hp)
theorem cellsFrom_acc_some : ∀ (names : List (Str × NameKind)) (n : Nat) (acc : List (Str × Addr)) {y : Str} {c : Addr}, acc.lookup y = some c → ∃ d, (cellsFrom n names acc).lookup y = some d
  | [], _, _, _, c, h => ⟨c, h⟩
  | (m, k) :: r, n, acc, y, c, h => by
    unfold cellsFrom
    split
    · by_cases e : y = m
      · exact cellsFrom_acc_some r (n + 1) _ (c := n) (by rw [List.lookup_cons, beq_iff_eq.mpr e])
      · exact cellsFrom_acc_some r (n + 1) _ (c := c) (by rw [List.lookup_cons, beq_eq_false_iff_ne.mpr e]; exact h)
    · exact cellsFrom_acc_some r n acc h
theorem cellsFrom_own : ∀ (names : List (Str × NameKind)) (n : Nat) (acc : List (Str × Addr)) {y : Str}, (y, NameKind.cell) ∈ names → ∃ c, (cellsFrom n names acc).lookup y = some c
  | (m, k) :: r, n, acc, y, h => by
    unfold cellsFrom
    rcases List.mem_cons.mp h with e | h
    · cases e
      rw [if_pos (show (NameKind.cell == NameKind.cell) = true from rfl)]
      exact cellsFrom_acc_some r (n + 1) _ (c := n) (by rw [List.lookup_cons, beq_self_eq_true])
    · split
      · exact cellsFrom_own r _ _ h
      · exact cellsFrom_own r _ _ h
theorem pushCells_own : ∀ (names : List (Str × NameKind)) (h : Heap) (acc : List (Str × Addr)) {y : Str} {c : Addr}, (y, c) ∈ cellsFrom h.objs.size names acc → (y, c) ∈ acc ∨ (h.objs.size ≤ c ∧ (y, NameKind.cell) ∈ names ∧ (pushCells h names).IsCell c none)
  | [], _, _, _, _, e => .inl e
  | (m, k) :: r, h, acc, y, c, e => by
    unfold cellsFrom at e
    unfold pushCells
    split at e
    · rename_i hk
      have hk' : k = .cell := by simpa using hk
      rw [if_pos hk]
      have sz : (h.push { cls := .type "cell", data := .cell none }).objs.size = h.objs.size + 1 := Heap.size_push ..
      have e' : (y, c) ∈ cellsFrom (h.push { cls := .type "cell", data := .cell none }).objs.size r ((m, h.objs.size) :: acc) := by rw [sz]; exact e
      rcases pushCells_own r _ _ e' with z | ⟨z1, z2, z3⟩
      · rcases List.mem_cons.mp z with z | z
        · cases z
          exact .inr ⟨Nat.le_refl _, by rw [hk']; exact List.mem_cons_self, ⟨_, pushCells_keeps r _ _ _ (Heap.get?_push_size _ rfl), rfl⟩⟩
        · exact .inl z
      · exact .inr ⟨by rw [sz] at z1; omega, List.mem_cons_of_mem _ z2, z3⟩
    · rename_i hk
      rw [if_neg hk]
      rcases pushCells_own r h acc e with z | ⟨z1, z2, z3⟩
      · exact .inl z
      · exact .inr ⟨z1, List.mem_cons_of_mem _ z2, z3⟩
theorem cellsFrom_inj : ∀ (names : List (Str × NameKind)) (n : Nat) (acc : List (Str × Addr)), (∀ y c, (y, c) ∈ acc → c < n) → (∀ y z c, (y, c) ∈ acc → (z, c) ∈ acc → y = z) →
    ∀ y z c, (y, c) ∈ cellsFrom n names acc → (z, c) ∈ cellsFrom n names acc → y = z
  | [], _, _, _, h2, y, z, c, e1, e2 => h2 y z c e1 e2
  | (m, k) :: r, n, acc, h1, h2, y, z, c, e1, e2 => by
    unfold cellsFrom at e1 e2
    split at e1
    · rename_i hk
      rw [if_pos hk] at e2
      refine cellsFrom_inj r (n + 1) ((m, n) :: acc) ?_ ?_ y z c e1 e2
      · intro y c h
        rcases List.mem_cons.mp h with h | h
        · cases h; exact Nat.lt_succ_self _
        · exact Nat.lt_succ_of_lt (h1 y c h)
      · intro y z c hy hz
        rcases List.mem_cons.mp hy with a | a <;> rcases List.mem_cons.mp hz with b | b
        · cases a; cases b; rfl
        · cases a; exact absurd (h1 z n b) (Nat.lt_irrefl _)
        · cases b; exact absurd (h1 y n a) (Nat.lt_irrefl _)
        · exact h2 y z c a b
    · rename_i hk
      rw [if_neg hk] at e2
      exact cellsFrom_inj r n acc h1 h2 y z c e1 e2

/-- the block's frame is made -/
theorem newEnv_comp {M : Model} {A : Around} {E : Value → Shared → Prop} {s : Shared} {scope : Scope} {cl : List (Str × Addr)} {env : Env} {Q : Env → Shared → Prop}
    (hQ : ∀ h4 : Heap, h4.Ns s.heap.objs.size (fun _ => none) → (∀ b o, s.heap.get? b = some o → h4.get? b = some o) →
      (∀ y c, (y, c) ∈ cellsFrom (s.heap.objs.size + 1) scope.names cl → (y, c) ∈ cl ∨ (s.heap.objs.size + 1 ≤ c ∧ (y, NameKind.cell) ∈ scope.names ∧ h4.IsCell c none)) →
      ∀ cenv : Env, { cenv with scope := relabel scope env } = compEnvC scope (cellsFrom (s.heap.objs.size + 1) scope.names cl) s.heap.objs.size env → cenv.locals = s.heap.objs.size → Q cenv { s with heap := h4 }) :
    wpAny M A (newFunctionEnv scope env.globals cl [] env.qual none .none (some env)) Q E s := by
  simp only [newFunctionEnv, Option.isSome_some, if_true]
  refine wpAny_bind (wpAny_alloc ?_)
  refine wpAny_bind (wpAny_layCells _ (fun name kind cells => by cases hkc : kind == NameKind.cell <;> simp [hkc]) _ _ _ _ ?_)
  have sz : (s.heap.push { cls := .type "dict", data := .dict #[] }).objs.size = s.heap.objs.size + 1 := Heap.size_push ..
  rw [show ({ s with heap := s.heap.push { cls := .type "dict", data := .dict #[] } } : Shared).heap.objs.size = s.heap.objs.size + 1 from Heap.size_push ..]
  rw [List.forIn_nil]
  refine wpAny_bind (wpAny_pure (wpAny_pure ?_))
  refine hQ _ ((Heap.Ns.new s.heap (.type "dict")).keeps (pushCells_keeps _ _)) (fun b o e => pushCells_keeps _ _ b o (Heap.get?_push_of_some _ e)) (fun y c h => ?_) _ rfl rfl
  rw [← sz] at h ⊢
  exact pushCells_own _ _ _ h

/-- a comprehension's turns: the target may be any, the step ahead of the store stands by itself -/
theorem compLoop_any {prog : Program} {w : World} {A : Around} {R : Result → Shared → Prop} {s : Shared} {elt target iter : Expr} {ifs : List Expr} {scope : Scope} {pos : Pos} {it acc : Value} {env : Env} (I : Nat → Shared → Prop)
    (turn : ∀ n s, I n s → wpAny (model prog w) A (pyNext it) (fun r s₁ => match r with
      | none => R (.ok .next) s₁
      | some v => wpAny (model prog w) A (letOwnedTupleGo target it v) (fun _ s₀ => wpAny (model prog w) A (assign target env v) (fun _ s₂ =>
          wpAny (model prog w) A (forIn ifs true fun c r => if r = true then do let ok ← isTrue c env (eval c env); pure (ForInStep.yield ok) else pure (ForInStep.yield r)) (fun ok s₃ =>
            if ok = true then wpAny (model prog w) A (eval elt env) (fun x s₄ =>
              wpAny (model prog w) A (call (.builtin "list.append") [acc, x]) (fun _ s₅ => ∃ m, m < n ∧ I m s₅) (fun _ _ => False) s₄) (fun _ _ => False) s₃
            else ∃ m, m < n ∧ I m s₃) (fun _ _ => False) s₂) (fun _ _ => False) s₀) (fun _ _ => False) s₁) (fun _ _ => False) s)
    (n : Nat) (h : I n s) :
    codeAny (model prog w) A (.compLoop (.ListComp elt [⟨target, iter, ifs, 0⟩] scope pos) 0 it acc env) R s := by
  refine codeAny_loop rfl I (fun n s hI => ?_) n h
  show wpAny _ A ((compTurn (.ListComp elt [⟨target, iter, ifs, 0⟩] scope pos) 0 it acc env).onRaise (fun x => do noteFrame x env; theTreesLotGoes x)) _ _ s
  refine wpAny_noted ?_
  rw [compTurn_list]
  refine wpAny_bind (wpAny_standAt (wpAny_bind (wpAny_mono (turn n s hI) (fun r s₁ h₁ => ?_) fun _ _ h' => h'.elim)))
  cases r with
  | none => exact wpAny_pure h₁
  | some v =>
    refine wpAny_bind (wpAny_mono h₁ (fun _ s₀ h₀ => ?_) fun _ _ h' => h'.elim)
    refine wpAny_bind (wpAny_mono h₀ (fun _ s₂ h₂ => wpAny_bind (wpAny_mono h₂ (fun ok s₃ h₃ => ?_) fun _ _ h' => h'.elim)) fun _ _ h' => h'.elim)
    cases ok with
    | false => exact wpAny_pure ⟨rfl, h₃⟩
    | true =>
      exact wpAny_bind (wpAny_bind (wpAny_mono h₃ (fun x s₄ h₄ => wpAny_bind (wpAny_mono h₄ (fun _ s₅ h₅ => wpAny_pure (wpAny_pure ⟨rfl, h₅⟩)) fun _ _ h' => h'.elim)) fun _ _ h' => h'.elim))
end L2

namespace L2
open PySem PySem.Spec PyProof.Rows

/-- the block's context: s, H the state and the heap ahead of its frame, fp the iterator's own objects -/
def compOf (X : Cx) (scope : Scope) (cl : List (Str × Addr)) (M : List Str) (s : Shared) (H : Hp) (fp : List Addr) : Cx where
  prog := X.prog
  w := X.w
  K := X.K
  mg := X.mg
  base := X.base
  A := X.A
  N := M
  s₀ := s
  H₀ := H
  env := compEnvC scope (cellsFrom (s.heap.objs.size + 1) scope.names cl) s.heap.objs.size X.env
  outer := X.stack
  stack := X.stack
  ex := fp
  fn := fun y => scope.names.lookup y == some .cell
  calm := X.calm
  pn := X.pn
  xe := fun _ _ => False

theorem lookup_relabel {env : Env} : ∀ {names : List (Str × NameKind)} {x : Str} {k : NameKind}, (names.map fun (n, k) => if (k == NameKind.free && env.scope.kind == .function && env.kindOf n == some .cell) then (n, NameKind.cell) else (n, k)).lookup x = some k →
    names.lookup x = some k ∨ (names.lookup x = some .free ∧ k = .cell)
  | [], _, _, h => by simp at h
  | (n, j) :: r, x, k, h => by
    have ih := @lookup_relabel env r x k
    rw [List.map_cons] at h
    dsimp only at h
    by_cases hc : (j == NameKind.free && env.scope.kind == .function && env.kindOf n == some .cell) = true
    · rw [if_pos hc, List.lookup_cons] at h
      rw [List.lookup_cons]
      cases hx : x == n with
      | true =>
        rw [hx] at h
        have hj : j = .free := by
          simp only [Bool.and_eq_true] at hc
          simpa using hc.1.1
        exact .inr ⟨by rw [hj], (Option.some.inj h).symm⟩
      | false => rw [hx] at h; exact ih h
    · rw [if_neg hc, List.lookup_cons] at h
      rw [List.lookup_cons]
      cases hx : x == n with
      | true => rw [hx] at h; exact .inl h
      | false => rw [hx] at h; exact ih h
theorem lookup_relabel_of {env : Env} : ∀ {names : List (Str × NameKind)} {x : Str}, names.lookup x = some .free →
    (names.map fun (n, k) => if (k == NameKind.free && env.scope.kind == .function && env.kindOf n == some .cell) then (n, NameKind.cell) else (n, k)).lookup x = some .cell ∨
    (names.map fun (n, k) => if (k == NameKind.free && env.scope.kind == .function && env.kindOf n == some .cell) then (n, NameKind.cell) else (n, k)).lookup x = some .free
  | [], _, h => by simp at h
  | (n, j) :: r, x, h => by
    have ih := @lookup_relabel_of env r x
    rw [List.map_cons]
    dsimp only
    rw [List.lookup_cons] at h
    by_cases hc : (j == NameKind.free && env.scope.kind == .function && env.kindOf n == some .cell) = true
    · rw [if_pos hc, List.lookup_cons]
      cases hx : x == n with
      | true => exact .inl rfl
      | false => rw [hx] at h; exact ih h
    · rw [if_neg hc, List.lookup_cons]
      cases hx : x == n with
      | true => rw [hx] at h; exact .inr h
      | false => rw [hx] at h; exact ih h

theorem lookup_relabel_cell {env : Env} : ∀ {names : List (Str × NameKind)} {x : Str}, names.lookup x = some .cell →
    (names.map fun (n, k) => if (k == NameKind.free && env.scope.kind == .function && env.kindOf n == some .cell) then (n, NameKind.cell) else (n, k)).lookup x = some .cell
  | [], _, h => by simp at h
  | (n, j) :: r, x, h => by
    have ih := @lookup_relabel_cell env r x
    rw [List.map_cons]
    dsimp only
    rw [List.lookup_cons] at h
    by_cases hc : (j == NameKind.free && env.scope.kind == .function && env.kindOf n == some .cell) = true
    · rw [if_pos hc, List.lookup_cons]
      cases hx : x == n with
      | true => rfl
      | false => rw [hx] at h; exact ih h
    · rw [if_neg hc, List.lookup_cons]
      cases hx : x == n with
      | true => rw [hx] at h; exact h
      | false => rw [hx] at h; exact ih h

section
variable {X : Cx} {pins : List (Addr × Obj)} {σ : St} {H : Hp} {s : Shared} {scope : Scope} {cl : List (Str × Addr)} {M : List Str} {x : Str} {fp : List Addr} {scN : List (Str × NameKind)}

theorem comp_start {h4 : Heap} (I : Inv X pins σ H s) (S : CompS scN X.N M x scope) (hsc : X.env.scope.names = scN)
    (hcl1 : ∀ y c, (y, c) ∈ cl → X.env.cells.lookup y = some c ∧ (y, NameKind.free) ∈ scope.names) (hcl2 : ∀ p ∈ scope.names, p.2 = .free → ∃ c, cl.lookup p.1 = some c)
    (hfp : ∀ b ∈ fp, FpOk X pins H b) (hlt : ∀ b ∈ fp, b < s.heap.objs.size) {m : Str → Option Value} (hns : h4.Ns s.heap.objs.size m) (hk : ∀ b o, s.heap.get? b = some o → h4.get? b = some o)
    (hcell : ∀ y c, (y, c) ∈ cellsFrom (s.heap.objs.size + 1) scope.names cl → (y, c) ∈ cl ∨ (s.heap.objs.size + 1 ≤ c ∧ (y, NameKind.cell) ∈ scope.names ∧ h4.IsCell c none)) :
    Inv (compOf X scope cl M s H fp) pins (σ ++ [none]) H { s with heap := h4 } := by
  have clt : ∀ y c, (y, c) ∈ cl → c < s.heap.objs.size := fun y c h => let ⟨v, z⟩ := I.cell y c (hcl1 y c h).1; z.lt
  have kin : ∀ y : Str, (compOf X scope cl M s H fp).env.kindOf y = (scope.names.map fun (n, k) => if (k == NameKind.free && X.env.scope.kind == .function && X.env.kindOf n == some .cell) then (n, NameKind.cell) else (n, k)).lookup y := fun y => rfl
  have frcell : ∀ y, scope.names.lookup y = some .free → (∀ p ∈ scope.names, p.2 = .cell → p.1 ≠ y) := fun y hy p hp hc e => by
    have q := lookup_of_mem S.keys hp
    rw [e, hy, hc] at q; cases q
  refine ⟨⟨I.ok.mod, S.kind, I.ok.glob, I.ok.blt, Nat.le_refl _, fun y z c h1 h2 => ?_, fun y hy => ?_, fun y c h1 h2 => ?_, I.ok.hd, I.ok.frames, .inl rfl, fun b hb => ⟨Nat.ne_of_lt (hlt b hb), fun y c hc e => ?_⟩, I.bs, Nat.le_trans I.ok.bsz I.sz, fun b o e hb => ?_, fun b hb hf => ?_, I.stack, I.stkFree⟩,
    rfl, I.bare, Un.kept hk, ⟨m, hns, fun i y v h1 h2 h3 => ?_⟩, fun y c h => ?_, I.hok.fresh (Nat.le_refl _), fun y c h => ?_, fun p hp => ?_, I.hok.kept hk, ?_⟩
  · exact cellsFrom_inj scope.names _ cl (fun y c h => Nat.lt_succ_of_lt (clt y c h)) (fun y z c a b => I.ok.inj y z c (hcl1 y c a).1 (hcl1 z c b).1) y z c (PySem.mem_of_lookup h1) (PySem.mem_of_lookup h2)
  · rw [kin y] at hy
    have key : scope.names.lookup y = some .cell ∨ scope.names.lookup y = some .free := by
      rcases hy with hy | hy
      · rcases lookup_relabel hy with z | ⟨z, _⟩
        · exact .inl z
        · exact .inr z
      · rcases lookup_relabel hy with z | ⟨z, _⟩
        · exact .inr z
        · exact .inr z
    rcases key with z | z
    · exact cellsFrom_own scope.names _ cl (PySem.mem_of_lookup z)
    · obtain ⟨c, hc⟩ := hcl2 (y, .free) (PySem.mem_of_lookup z) rfl
      exact cellsFrom_acc_some scope.names _ cl hc
  · have hy : scope.names.lookup y = some .cell := by
      have : (scope.names.lookup y == some NameKind.cell) = true := h1
      simpa using this
    rcases hcell y c (PySem.mem_of_lookup h2) with z | ⟨z, _⟩
    · have q := lookup_of_mem S.keys (hcl1 y c z).2
      rw [hy] at q; cases q
    · exact Nat.le_of_succ_le z
  · subst e
    rcases hcell y c (PySem.mem_of_lookup hc) with z | ⟨z, _⟩
    · exact (hfp c hb).2.2.2.2.1 y c (hcl1 y c z).1 rfl
    · exact absurd (Nat.lt_of_lt_of_le (hlt c hb) (Nat.le_of_succ_le z)) (Nat.lt_irrefl _)
  · rcases (hfp b hb).2.2.2.1 with z | z
    · exact I.ok.noex b o e z
    · exact absurd (Nat.lt_of_lt_of_le (Heap.lt_size e) (Nat.le_trans I.ok.bsz z)) (Nat.lt_irrefl _)
  · obtain ⟨_, f1, f2, _⟩ := hfp b hb
    rcases List.mem_cons.mp (I.stkSub b hf) with z | z
    · exact f1 z
    · exact f2 z
  · have hMi : i < M.length := (List.getElem?_eq_some_iff.mp h1).1
    by_cases hi : i < X.N.length
    · obtain ⟨o1, o2, o3⟩ := oldB_at S.old hi h1
      have hσ : σ[i]? = some (some v) := by
        rw [List.getElem?_append_left (by rw [I.len]; exact hi)] at h2; exact h2
      have hfr : scope.names.lookup y = some .free := by
        have h3' : (compOf X scope cl M s H fp).env.kindOf y = some .local ∨ (compOf X scope cl M s H fp).env.kindOf y = some .cell ∨ (compOf X scope cl M s H fp).env.kindOf y = some .free := h3
        rw [kin y] at h3'
        rcases h3' with z | z | z
        · rcases lookup_relabel z with q | ⟨q, _⟩
          · exact absurd q o1
          · exact q
        · rcases lookup_relabel z with q | ⟨q, _⟩
          · exact absurd q o2
          · exact q
        · rcases lookup_relabel z with q | ⟨q, _⟩
          · exact q
          · exact q
      have hNi := o3 hfr
      have hout := S.fr (y, .free) (PySem.mem_of_lookup hfr) rfl
      rw [← hsc] at hout
      obtain ⟨m0, _, hl⟩ := I.loc
      obtain ⟨u, r, l⟩ := hl i y v hNi hσ (.inr hout)
      refine ⟨u, r, .inr ⟨?_, ?_⟩⟩
      · rw [kin y]; exact lookup_relabel_of hfr
      · obtain ⟨c, hc⟩ := hcl2 (y, .free) (PySem.mem_of_lookup hfr) rfl
        have hXc := (hcl1 y c (PySem.mem_of_lookup hc)).1
        refine ⟨c, (cellsFrom_acc scope.names _ cl (frcell y hfr)).trans hc, ?_⟩
        rcases l with ⟨kl, _⟩ | ⟨_, c', hc', z⟩
        · have kl' : X.env.scope.names.lookup y = some .local := kl
          rw [kl'] at hout
          rcases hout with q | q <;> cases q
        · rw [hXc] at hc'; cases hc'
          exact z.keeps hk
    · have e : i = X.N.length := by have := S.len; omega
      subst e
      rw [List.getElem?_append_right (by rw [I.len]; exact Nat.le_refl _), I.len, Nat.sub_self] at h2
      cases h2
  · rcases hcell y c (PySem.mem_of_lookup h) with z | ⟨_, _, z⟩
    · obtain ⟨v, q⟩ := I.cell y c (hcl1 y c z).1
      exact ⟨v, q.keeps hk⟩
    · exact ⟨_, z⟩
  · rcases hcell y c (PySem.mem_of_lookup h) with z | ⟨z, _, _⟩
    · exact I.freeC y c (hcl1 y c z).1
    · exact I.hok.fresh (Nat.le_of_succ_le z)
  · obtain ⟨e, n, ne, nf, d⟩ := I.pin p hp
    refine ⟨hk _ _ e, n, Nat.ne_of_lt (Heap.lt_size e), fun hf => ?_, d⟩
    rcases List.mem_cons.mp (I.stkSub p.1 hf) with z | z
    · exact ne z
    · exact nf z
  · rw [List.length_append, I.len]; exact S.len.symm

/-- behind the block, ahead of the letting go -/
theorem comp_back {H' : Hp} {s' : Shared} {pl : List (Addr × Obj)} {τ : St} (I : Inv X pins σ H s) (hfp : ∀ b ∈ fp, FpOk X pins H b) (J : Inv (compOf X scope cl M s H fp) pl τ H' s') : Inv X pins σ H' s' :=
  I.call' (ch := fp) J.os J.base J.hok J.bare fun b hb => let ⟨_, f1, _, f3, f4, f5⟩ := hfp b hb; ⟨f3, f1, f4, f5⟩
/-- the block's names let go -/
theorem comp_gone {H' : Hp} {s' : Shared} {h' : Heap} {τ : St} (I : Inv X pins σ H s) (J : Inv X pins τ H' s') (hC : H' s.heap.objs.size = none) (hs : Heap.SameBut s.heap.objs.size s'.heap h') : Inv X pins τ H' { s' with heap := h' } := by
  refine J.turned (it := s.heap.objs.size) (t' := s'.toks) (fun b o hb e => (hs.2 b hb).trans e) hC (Nat.ne_of_gt I.lt) (.inr I.sz) (fun y c e z => ?_) (fun p hp z => ?_)
  · obtain ⟨v, q⟩ := I.cell y c e
    exact absurd q.lt (by rw [z]; exact Nat.lt_irrefl _)
  · exact absurd (Heap.lt_size (I.pin p hp).1) (by rw [z]; exact Nat.lt_irrefl _)
end

/-! ### the tests of a comprehension -/
def PF (X : Cx) (ifs : List Expr) (t : TT) : Prop :=
  ∀ (pins : List (Addr × Obj)) (s : Shared) (σ : St) (H : Hp) (Q : Bool → Hp → Prop), Inv X pins σ H s → t σ H Q →
    wpAny (model X.prog X.w) X.A (forIn ifs true fun c r => if r = true then do let ok ← isTrue c X.env (eval c X.env); pure (ForInStep.yield ok) else pure (ForInStep.yield r)) (TP X pins σ Q) X.xe s
def tYes : TT := fun _ H Q => Q true H
theorem pf_nil {X : Cx} : PF X [] tYes := fun pins s σ H Q I h => wpAny_tests_nil ⟨H, I, h⟩
/-- the reading of a comprehension with one name: W the invariant by the turn, a measure, the list so far, the heap -/
def tComp (wi : TI) (tf : TT) (te : TE) : TE := fun σ H Q => wi σ H fun J H1 => ∀ D, H1 D = none → ∃ W : Nat → Nat → List V → Hp → Prop, (∃ m, W 0 m [] (upd H1 D (.lst []))) ∧ ∀ i m ys H2, W i m ys H2 →
  H2 D = some (.lst ys) ∧ ((J.stop i H2 ∧ Q (.ref D) H2) ∨ (J.go i H2 ∧ ∃ N : List V → Hp → Prop, (∀ ys' H', N ys' H' → ∃ m', m' < m ∧ W (i + 1) m' ys' H') ∧ ∀ y H3, J.yld i H2 y H3 →
    tf (σ ++ [some y]) H3 fun c H4 => if c = true then te (σ ++ [some y]) H4 fun z H5 => H5 D = some (.lst ys) ∧ ys.length < sizeLine ∧ N (ys ++ [z]) (upd H5 D (.lst (ys ++ [z]))) else N ys H4))

section
variable {X : Cx} {elt iter : Expr} {ifs : List Expr} {scope : Scope} {pos px : Pos} {x : Str} {wi : TI} {tf : TT} {te : TE}

/-- the turns -/
theorem comp_turns {Y : Cx} {pins : List (Addr × Obj)} {σ : St} {H2 : Hp} {s : Shared} {it D : Addr} {fp : List Addr} {tn : Nat → Heap → Prop} {J : It} {R : Result → Shared → Prop} {Q : Hp → Prop} {n : Nat}
    (hc : Y.calm = true) (hxe : Y.xe = fun _ _ => False) (hN : Y.N.Nodup) (hσ : σ.length = n) (hx : Y.N[n]? = some x) (hl : Loc Y.env.scope x) (hf : Y.fn x = true ∨ Y.env.scope.names.lookup x = some .local)
    (T : Turn Y.prog Y.w Y.K (.Name x px) J fp it tn) (f2 : ∀ b ∈ fp, FpOk Y pins H2 b) (st2 : tn 0 s.heap) (I2 : Inv Y pins (σ ++ [none]) H2 s)
    (hif : PF Y ifs tf) (hel : PE Y elt te) (W : Nat → Nat → List V → Hp → Prop) (w0 : ∃ m, W 0 m [] H2)
    (turn : ∀ i m ys H2, W i m ys H2 → H2 D = some (.lst ys) ∧ ((J.stop i H2 ∧ Q H2) ∨ (J.go i H2 ∧ ∃ N : List V → Hp → Prop, (∀ ys' H', N ys' H' → ∃ m', m' < m ∧ W (i + 1) m' ys' H') ∧ ∀ y H3, J.yld i H2 y H3 →
      tf (σ ++ [some y]) H3 fun c H4 => if c = true then te (σ ++ [some y]) H4 fun z H5 => H5 D = some (.lst ys) ∧ ys.length < sizeLine ∧ N (ys ++ [z]) (upd H5 D (.lst (ys ++ [z]))) else N ys H4)))
    (hR : ∀ H' s', Inv Y pins (σ ++ [none]) H' s' → Q H' → R (.ok .next) s') :
    codeAny (model Y.prog Y.w) Y.A (.compLoop (.ListComp elt [⟨.Name x px, iter, ifs, 0⟩] scope pos) 0 (.ref it) (.ref D) Y.env) R s := by
  have stat : ∀ {H' : Hp}, (∀ b ∈ fp, H' b = none) → ∀ b ∈ fp, FpOk Y pins H' b := fun hn b hb => ⟨hn b hb, (f2 b hb).2⟩
  obtain ⟨m0, w0⟩ := w0
  refine compLoop_any (fun k s' => ∃ i ys H', Inv Y pins (σ ++ [none]) H' s' ∧ tn i s'.heap ∧ (∀ b ∈ fp, H' b = none) ∧ W i k ys H') ?_ m0 ⟨0, [], H2, I2, st2, fun b hb => (f2 b hb).1, w0⟩
  rintro k s3 ⟨i, ys, H3, I3, st3, fr3, w3⟩
  obtain ⟨hD, hcase⟩ := turn i k ys H3 w3
  rcases hcase with ⟨stop, q⟩ | ⟨go, N, hN', step⟩
  · refine thn (T.done Y rfl rfl rfl hc i pins s3 _ H3 _ I3 (stat fr3) st3 stop) fun r s4 ⟨hr, I4⟩ => ?_
    subst hr
    exact hR H3 s4 I4 q
  · refine thn (T.item Y rfl rfl rfl hc i pins s3 _ H3 _ I3 (stat fr3) st3 go) fun r s4 ⟨u, hr, h4⟩ => ?_
    subst hr
    refine thn h4 fun _ s5 ⟨y, H5, I5, r5, y5, st5, fr5⟩ => ?_
    have I5' := I5.pinned (stat fr5) (T.obj _ _ st5)
    have hset : (σ ++ [none]).set n (some y) = σ ++ [some y] := by
      rw [List.set_append_right _ _ (by omega)]
      rw [hσ, Nat.sub_self]; rfl
    refine wpAny_assign_Name (store_ok I5' hN hx hl r5 (fun s6 I6 => ?_) hf)
    rw [hset] at I6
    have noX : ∀ (e : Value) (s : Shared), Y.xe e s → False := fun e s h => by rw [hxe] at h; exact h
    refine wpAny_mono (hif _ s6 _ H5 _ I6 (step y H5 y5)) (fun c s7 ⟨H7, I7, q7⟩ => ?_) fun e s h => noX e s h
    have back : ∀ {s' : Shared} {ys' : List V} {H' : Hp}, Inv Y (pins ++ pinsAt fp s5.heap) (σ ++ [some y]) H' s' → N ys' H' → ∃ m, m < k ∧ ∃ i ys H', Inv Y pins (σ ++ [none]) H' s' ∧ tn i s'.heap ∧ (∀ b ∈ fp, H' b = none) ∧ W i m ys H' := fun {s' ys' H'} I' n' => by
      obtain ⟨m', hm, w'⟩ := hN' ys' H' n'
      refine ⟨m', hm, i + 1, ys', H', I'.unpinned.weak (by simp) (fun j v e => ?_), T.keep _ _ _ st5 fun b hb o e => (I'.pin (b, o) (List.mem_append_right _ (List.mem_append_right _ (mem_pinsAt hb e)))).1, fun b hb => ?_, w'⟩
      · by_cases hj : j < σ.length
        · rw [List.getElem?_append_left hj] at e ⊢; exact e
        · rw [List.getElem?_append_right (by omega)] at e
          cases hjj : j - σ.length with
          | zero => rw [hjj] at e; cases e
          | succ t => rw [hjj] at e; simp at e
      · obtain ⟨o, e, d⟩ := T.obj _ _ st5 b hb
        exact (I'.pin (b, o) (List.mem_append_right _ (List.mem_append_right _ (mem_pinsAt hb e)))).2.1
    cases c with
    | false =>
      rw [if_neg Bool.false_ne_true] at q7 ⊢
      exact back I7 q7
    | true =>
      rw [if_pos rfl] at q7 ⊢
      refine wpAny_mono (hel _ s7 _ H7 _ I7 q7) (fun v s8 ⟨z, H8, I8, r8, hD8, hl8, n8⟩ => ?_) fun e s h => noX e s h
      have mt : MtM Y "list.append" rAppend := mt_append
      refine wpAny_mono (mt _ s8 _ H8 (.ref D) [z] (.ref D) [v] (fun _ H' => N (ys ++ [z]) H') I8 rfl (.cons r8 .nil) ⟨D, ys, z, rfl, rfl, hD8, hl8, n8⟩) (fun _ s9 ⟨_, H9, I9, _, n9⟩ => back I9 n9) fun e s h => noX e s h

/-- the whole comprehension, whatever is done with its list -/
theorem comp_core {M : List Str} {scN : List (Str × NameKind)} {pins : List (Addr × Obj)} {s : Shared} {σ : St} {H : Hp} {use : Option (Value → Sem Unit)} {Z : Value → Shared → Prop} {G : VK} {pos2 : Pos} (S : CompS scN X.N M x scope) (hsc : X.env.scope.names = scN) (hc : X.calm = true)
    (hi : PI X (.Name x px) iter wi) (hif : ∀ cl s H fp, PF (compOf X scope cl M s H fp) ifs tf) (hel : ∀ cl s H fp, PE (compOf X scope cl M s H fp) elt te) (hs : ∀ v, foldedSetIterable iter X.env v = pure v)
    (I : Inv X pins σ H s) (h : tComp wi tf te σ H G)
    (fin : ∀ (s3 : Shared) (H3 : Hp) (fp : List Addr) (cl : List (Str × Addr)) (D : Addr) (H' : Hp) (s' : Shared), Inv X pins σ H3 s3 → (∀ b ∈ fp, FpOk X pins H3 b) → Inv (compOf X scope cl M s3 H3 fp) pins (σ ++ [none]) H' s' → G (.ref D) H' →
      compPost (model X.prog X.w) X.A X.xe use Z (.ref D) s3.heap.objs.size (.ok .next) s') :
    wpAny (model X.prog X.w) X.A (comprehension (.ListComp elt [⟨.Name x px, iter, ifs, 0⟩] scope pos) scope X.env pos2 (newList []) false (eval iter X.env) use) Z X.xe s := by
  obtain ⟨cl, hclo, hcl1, hcl2⟩ := closure_ok (scope := scope) (env := X.env) fun p hp hf => I.ok.has p.1 (by have q := S.fr p hp hf; rw [← hsc] at q; exact q)
  refine wpAny_comprehension_free rfl hs hclo S.kind (fun y hy hl => by rw [lookup_of_mem S.keys hy, hl]) (thn (hi pins s σ H _ I h) fun v s1 h1 => thn h1 fun itv s2 h2 => ?_)
  obtain ⟨it, fp, tn, J, H2, e, I2, T, st2, f2, q⟩ := h2
  subst e
  refine wpAny_newObj_type ?_
  have fr : H2 s2.heap.objs.size = none := I2.hok.fresh (Nat.le_refl _)
  have I3 : Inv X pins σ (upd H2 s2.heap.objs.size (.lst [])) { s2 with heap := s2.heap.push { cls := .type "list", dict := none, data := .seq ([] : List Value).toArray } } :=
    I2.laid (t' := s2.toks) (fun b u e => Heap.get?_push_of_some _ e) (Nat.le_refl _) ⟨Nat.zero_le _, [], 0, .nil, Heap.get?_push_size _ rfl⟩
  obtain ⟨W, w0, turn⟩ := q s2.heap.objs.size fr
  have hlt2 : ∀ b ∈ fp, b < s2.heap.objs.size := fun b hb => let ⟨o, e, _⟩ := T.obj 0 _ st2 b hb; Heap.lt_size e
  have f3 : ∀ b ∈ fp, FpOk X pins (upd H2 s2.heap.objs.size (.lst [])) b := fun b hb => ⟨by rw [upd_ne (Nat.ne_of_lt (hlt2 b hb))]; exact (f2 b hb).1, (f2 b hb).2⟩
  refine newEnv_comp fun h4 hns hk hcell cenv hcenv hloc => ?_
  rw [hcenv, hloc]
  have hlt3 : ∀ b ∈ fp, b < ({ s2 with heap := s2.heap.push { cls := .type "list", dict := none, data := .seq ([] : List Value).toArray } } : Shared).heap.objs.size := fun b hb => by
    show b < (s2.heap.push _).objs.size
    rw [Heap.size_push]; exact Nat.lt_succ_of_lt (hlt2 b hb)
  have J4 := comp_start I3 S hsc hcl1 hcl2 f3 hlt3 hns hk hcell
  have st4 : tn 0 h4 := T.keep 0 _ _ st2 fun b hb o e => hk b o (Heap.get?_push_of_some _ e)
  have f4 : ∀ b ∈ fp, FpOk (compOf X scope cl M { s2 with heap := s2.heap.push { cls := .type "list", dict := none, data := .seq ([] : List Value).toArray } } (upd H2 s2.heap.objs.size (.lst [])) fp) pins (upd H2 s2.heap.objs.size (.lst [])) b := fun b hb =>
    ⟨(f3 b hb).1, (J4.ok.exf b hb).1, J4.ok.exfs b hb, .inl hb, (J4.ok.exf b hb).2, (f3 b hb).2.2.2.2.2⟩
  have loc : Loc (relabel scope X.env) x ∧ ((compOf X scope cl M { s2 with heap := s2.heap.push { cls := .type "list", dict := none, data := .seq ([] : List Value).toArray } } (upd H2 s2.heap.objs.size (.lst [])) fp).fn x = true ∨ (relabel scope X.env).names.lookup x = some .local) := by
    rcases S.own with z | z
    · have q := lookup_relabel_local (env := X.env) z
      exact ⟨.inl q, .inr q⟩
    · refine ⟨.inr ?_, .inl ?_⟩
      · exact lookup_relabel_cell z
      · show (scope.names.lookup x == some NameKind.cell) = true
        rw [z]; rfl
  have loop : ∀ s5 : Shared, s5 = { ({ s2 with heap := s2.heap.push { cls := .type "list", dict := none, data := .seq ([] : List Value).toArray } } : Shared) with heap := h4 } →
      codeAny (model X.prog X.w) X.A (.compLoop (.ListComp elt [⟨.Name x px, iter, ifs, 0⟩] scope pos) 0 (.ref it) (.ref s2.heap.objs.size) (compEnvC scope (cellsFrom (({ s2 with heap := s2.heap.push { cls := .type "list", dict := none, data := .seq ([] : List Value).toArray } } : Shared).heap.objs.size + 1) scope.names cl) ({ s2 with heap := s2.heap.push { cls := .type "list", dict := none, data := .seq ([] : List Value).toArray } } : Shared).heap.objs.size X.env))
        (compPost (model X.prog X.w) X.A X.xe use Z (.ref s2.heap.objs.size) ({ s2 with heap := s2.heap.push { cls := .type "list", dict := none, data := .seq ([] : List Value).toArray } } : Shared).heap.objs.size) s5 := by
    rintro s5 rfl
    exact comp_turns (Y := compOf X scope cl M { s2 with heap := s2.heap.push { cls := .type "list", dict := none, data := .seq ([] : List Value).toArray } } (upd H2 s2.heap.objs.size (.lst [])) fp)
      (Q := fun H' => G (.ref s2.heap.objs.size) H') hc rfl S.nd I.len S.last loc.1 loc.2 T f4 st4 J4 (hif _ _ _ _) (hel _ _ _ _) W w0 turn fun H' s' J' g => fin _ _ fp cl _ H' s' I3 f3 J' g
  exact codeAny_compStart_list (loop _ rfl) (T.self _ 0 _ _ _ st4 (loop _ rfl))

theorem pe_comp (scN : List (Str × NameKind)) (N M : List Str) (hi : PI X (.Name x px) iter wi) (hif : ∀ cl s H fp, PF (compOf X scope cl M s H fp) ifs tf) (hel : ∀ cl s H fp, PE (compOf X scope cl M s H fp) elt te)
    (S : CompS scN N M x scope := by first | exact ⟨rfl, by decide +kernel, by decide +kernel, by decide +kernel, rfl, rfl, .inl rfl, by decide +kernel⟩ | exact ⟨rfl, by decide +kernel, by decide +kernel, by decide +kernel, rfl, rfl, .inr rfl, by decide +kernel⟩)
    (hN : X.N = N := by rfl) (hsc : X.env.scope.names = scN := by rfl) (hc : X.calm = true := by rfl) (hs : ∀ v, foldedSetIterable iter X.env v = pure v := by intro _; rfl) : PE X (.ListComp elt [⟨.Name x px, iter, ifs, 0⟩] scope pos) (tComp wi tf te) := by
  intro pins s σ H Q I h
  subst hN
  rw [eval_ListComp]
  refine comp_core (use := none) S hsc hc hi hif hel hs I h fun s3 H3 fp cl D H' s' I3 f3 J' g => ?_
  obtain ⟨m, hn, _⟩ := J'.loc
  exact ⟨m, hn, fun h' hs' => ⟨.ref D, H', comp_gone I3 (comp_back I3 f3 J') J'.free hs', rfl, g⟩⟩

/-- y = [.. for ..], y a plain local: the store comes ahead of the letting go -/
def tSetC (j : Nat) (te : TE) : TS := fun D σ H => te σ H fun v H' => D.nx (σ.set j (some v)) H'
theorem ps_setC (scN : List (Str × NameKind)) (N M : List Str) (j : Nat) {y : Str} {py spos : Pos} (hn : X.N.Nodup) (hj : X.N[j]? = some y) (hy : Loc X.env.scope y) (hi : PI X (.Name x px) iter wi)
    (hif : ∀ cl s H fp, PF (compOf X scope cl M s H fp) ifs tf) (hel : ∀ cl s H fp, PE (compOf X scope cl M s H fp) elt te)
    (S : CompS scN N M x scope := by first | exact ⟨rfl, by decide +kernel, by decide +kernel, by decide +kernel, rfl, rfl, .inl rfl, by decide +kernel⟩ | exact ⟨rfl, by decide +kernel, by decide +kernel, by decide +kernel, rfl, rfl, .inr rfl, by decide +kernel⟩)
    (hN : X.N = N := by rfl) (hsc : X.env.scope.names = scN := by rfl) (hc : X.calm = true := by rfl)
    (hsw : swapsWith (.ListComp elt [⟨.Name x px, iter, ifs, 0⟩] scope pos) (some (.Name y py)) spos.line X.env = pure true := by rfl) (hs : ∀ v, foldedSetIterable iter X.env v = pure v := by intro _; rfl)
    (hf : X.fn y = true ∨ X.env.scope.names.lookup y = some .local := by first | exact .inl rfl | exact .inr rfl | assumption) :
    PS X (.Assign [.Name y py] (.ListComp elt [⟨.Name x px, iter, ifs, 0⟩] scope pos) spos) (tSetC j (tComp wi tf te)) := by
  intro pins s σ H D I h
  subst hN
  rw [exec_Assign_Name_used _ _ _ _ hsw]
  refine wpAny_bind (wpAny_standAt (wpAny_bind ?_))
  show wpAny _ _ (do let _ ← comprehension (.ListComp elt [⟨.Name x px, iter, ifs, 0⟩] scope pos) scope X.env _ (newList []) false (eval iter X.env) (some (assign (.Name y py) X.env))) _ _ s
  refine wpAny_bind (wpAny_mono (comp_core (use := some (assign (.Name y py) X.env)) (Z := fun _ s' => SP X pins D .next s') S hsc hc hi hif hel hs I h fun s3 H3 fp cl A H' s' I3 f3 J' g => ?_) (fun _ s' hq => wpAny_pure (wpAny_pure hq)) fun _ _ e => e)
  obtain ⟨m, hns, _⟩ := J'.loc
  show wpAny _ _ (assign (.Name y py) X.env (.ref A)) _ _ _
  refine wpAny_assign_Name (store_ok2 (comp_back I3 f3 J') hn hj hy (v := .ref A) rfl (fun s'' J'' hch => ?_) hf)
  obtain ⟨a, sb, ha⟩ := hch
  have hne : s3.heap.objs.size ≠ a := by
    rcases ha with z | z
    · rw [z]; exact Nat.ne_of_gt I3.lt
    · obtain ⟨v, q⟩ := I3.cell y a z
      exact Nat.ne_of_gt q.lt
  exact ⟨m, hns.sameBut sb hne, fun h' hs' => ⟨_, H', comp_gone I3 J'' J'.free hs', g⟩⟩
end
end L2

namespace L2
open PySem PySem.Spec PyProof.Rows

/-! ### comprehensions with any target: k names of their own -/
structure CompG (scN : List (Str × NameKind)) (N M : List Str) (k : Nat) (sc : Scope) : Prop where
  kind : sc.kind = .function
  keys : (sc.names.map (·.1)).Nodup
  fr : ∀ p ∈ sc.names, p.2 = .free → scN.lookup p.1 = some .cell ∨ scN.lookup p.1 = some .free
  nd : M.Nodup
  len : M.length = N.length + k
  old : oldB N M sc = true
section
variable {X : Cx} {pins : List (Addr × Obj)} {σ : St} {H : Hp} {s : Shared} {scope : Scope} {cl : List (Str × Addr)} {M : List Str} {kn : Nat} {fp : List Addr} {scN : List (Str × NameKind)}

end
/-- the reading: as tComp's, the target's own reading ahead -/
def tCompG (kn : Nat) (wi : TI) (g : TG) (tf : TT) (te : TE) : TE := fun σ H Q => wi σ H fun J H1 => ∀ D, H1 D = none → ∃ W : Nat → Nat → List V → Hp → Prop, (∃ m, W 0 m [] (upd H1 D (.lst []))) ∧ ∀ i m ys H2, W i m ys H2 →
  H2 D = some (.lst ys) ∧ ((J.stop i H2 ∧ Q (.ref D) H2) ∨ (J.go i H2 ∧ ∃ N : List V → Hp → Prop, (∀ ys' H', N ys' H' → ∃ m', m' < m ∧ W (i + 1) m' ys' H') ∧ ∀ y H3, J.yld i H2 y H3 →
    g y (σ ++ List.replicate kn none) H3 fun τ H3' => (∃ ρ, τ = σ ++ ρ ∧ ρ.length = kn) ∧ tf τ H3' fun c H4 => if c = true then te τ H4 fun z H5 => H5 D = some (.lst ys) ∧ ys.length < sizeLine ∧ N (ys ++ [z]) (upd H5 D (.lst (ys ++ [z]))) else N ys H4))
section
variable {X : Cx} {elt iter : Expr} {ifs : List Expr} {scope : Scope} {pos : Pos} {tg : Expr} {kn : Nat} {g : TG} {wi : TI} {tf : TT} {te : TE}

end
end L2

namespace L2
open PySem PySem.Spec PyProof.Rows

/-! ### a dict walked: frozen meanwhile -/
section
variable {X : Cx} {pins : List (Addr × Obj)} {σ : St} {H : Hp} {s : Shared} {a : Addr} {kvs : List (Key × V)} {o : Obj}

end

/-- the keys of the dict at a, which is known to the object -/
def Itd (a : Addr) (o : Obj) (kvs : List (Key × V)) : It :=
  ⟨fun i H => H a = some (.frz o (.dK kvs)) ∧ i < kvs.length, fun i H x H' => H' = H ∧ ∃ kv, kvs[i]? = some kv ∧ x = kV kv.1, fun i H => H a = some (.frz o (.dK kvs)) ∧ kvs.length ≤ i⟩
theorem KV.len {kvs : List (Key × V)} {vs : List (Key × Value)} (r : KV kvs vs) : kvs.length = vs.length := Paired.length r
theorem KV.at {kvs : List (Key × V)} {vs : List (Key × Value)} (r : KV kvs vs) : ∀ {i : Nat} {p : Key × V}, kvs[i]? = some p → ∃ q, vs[i]? = some q ∧ p.1 = q.1 := by
  induction r with
  | nil => intro i p e; simp at e
  | cons h t ih =>
    intro i p e
    cases i with
    | zero => simp at e; subst e; exact ⟨_, rfl, h.1⟩
    | succ i => exact ih (by simpa using e)

section
variable {X : Cx} {tg : Expr}
def iDict (td : TE) : TI := fun σ H R => td σ H fun x H1 => ∃ a kvs, x = .ref a ∧ H1 a = some (.dK kvs) ∧ ∀ o, R (Itd a o kvs) (upd H1 a (.frz o (.dK kvs)))
end

/-- a statement that leaves a dict frozen (a loop over it): it is as it was behind it -/
def tThaw (t : TS) : TS := fun D σ H => t { nx := fun σ' H' => ∃ a o kvs, H' a = some (.frz o (.dK kvs)) ∧ (∀ o' u', H a ≠ some (.frz o' u')) ∧ D.nx σ' (upd H' a (.dK kvs)), rt := fun _ _ => False } σ H
end L2

namespace L2
open PySem PySem.Spec PyProof.Rows
section
variable {X : Cx}

/-! ### all, sum of a list -/
theorem keptIter {s : Shared} {h' : Heap} {o : Obj} (hk : ∀ b x, b ∉ [s.heap.objs.size] → (s.heap.push o).get? b = some x → h'.get? b = some x) : ∀ b x, s.heap.get? b = some x → h'.get? b = some x :=
  fun b x e => hk b x (fun hm => by rw [List.mem_singleton.mp hm] at e; exact Nat.lt_irrefl _ (Heap.lt_size e)) (Heap.get?_push_of_some _ e)
theorem range_all (bs : List Bool) : ((List.range bs.length).all fun i => (bs[i]?).getD true) = bs.all id := by
  rw [Bool.eq_iff_iff, List.all_eq_true, List.all_eq_true]
  constructor
  · intro h b hb
    obtain ⟨i, hi, rfl⟩ := List.getElem_of_mem hb
    have q := h i (List.mem_range.mpr hi)
    simpa [List.getElem?_eq_getElem hi] using q
  · intro h i hi
    have hi' := List.mem_range.mp hi
    simp only [List.getElem?_eq_getElem hi', Option.getD_some]
    exact h _ (List.getElem_mem hi')
theorem call_all (hc : X.calm = true) : CallR X (.builtin "all") (fun xs H Q => ∃ (p : Addr) (bs : List Bool), xs = [.ref p] ∧ SqL X.K H p (bs.map V.bl) ∧ Q (.bl (bs.all id)) H) := by
  intro pins s σ H xs us Q I r h
  obtain ⟨p, bs, rfl, hp, q⟩ := h
  obtain ⟨u, rfl, ru⟩ := vals1 r
  cases ru
  obtain ⟨its, rv, pl, hz⟩ := I.list hp
  have hl : s.heap.IsList p its.toArray := pl.isList
  have hlt : p < s.heap.objs.size := by obtain ⟨_, e, _⟩ := hl; exact Heap.lt_size e
  have len : its.length = bs.length := by have := rv.length; rw [List.length_map] at this; exact this.symm
  refine call_all_walk (wpAny_pyIter_list hl ?_)
  refine ⟨s.heap.objs.size, [s.heap.objs.size, p], [s.heap.objs.size], its.toArray.size, _, _, fun i => (bs[i]?).getD true, rfl, Walks.list (A := X.A.in1) (I.ok.hd hc) _ p (Nat.ne_of_lt hlt) its.toArray,
    ⟨⟨_, Heap.get?_push_size _ rfl, rfl, rfl⟩, hl.push _⟩, fun i v s' Q' E' hP hQ => ?_, fun h' tk hk => ?_⟩
  · have hv : its[i]? = some v := by simpa using hP
    have hi : i < bs.length := by rw [← len]; exact (List.getElem?_eq_some_iff.mp hv).1
    obtain ⟨u, hu, ru⟩ := rv.get (i := i) (x := V.bl bs[i]) (by simp [hi])
    rw [hv] at hu; cases hu
    cases ru
    simp only [List.getElem?_eq_getElem hi, Option.getD_some] at hQ
    exact wpAny_truthy_bool hQ
  · have e : ((List.range its.toArray.size).all fun i => (bs[i]?).getD true) = bs.all id := by rw [List.size_toArray, len]; exact range_all bs
    rw [e]
    exact ⟨.bl _, H, I.kept (keptIter hk), rfl, q⟩
/-! ### isinstance by a built-in class -/
theorem call_isinst : CallR X (.builtin "isinstance") (fun xs H Q => ∃ x t n b, xs = [x, .ty n] ∧ TyOf X.K H x t ∧ PySem.W.kitOne X.K t (.type n) = some b ∧ Q (.bl b) H) := by
  intro pins s σ H xs us Q I r h
  obtain ⟨x, t, n, b, rfl, ty, e, q⟩ := h
  obtain ⟨u, w', rfl, ru, rw'⟩ := vals2 r
  cases rw'
  exact isinst_ok I ru ty e fun tk => ⟨.bl b, H, I.tok tk, rfl, q⟩

/-! ### insert -/
theorem Vals.ins {xs : List V} {us : List Value} {y : V} {u : Value} (r : Vals xs us) (ry : RelV y u) (k : Nat) : Vals (xs.take k ++ y :: xs.drop k) (us.take k ++ u :: us.drop k) := (r.take k).append (.cons ry (r.drop k))
def rInsert : V → List V → Hp → VK → Prop := fun x vs H Q => ∃ l xs k y, x = .ref l ∧ vs = [.int ((k : Nat) : Int), y] ∧ H l = some (.lst xs) ∧ k ≤ xs.length ∧ xs.length < sizeLine ∧ Q .non (upd H l (.lst (xs.take k ++ y :: xs.drop k)))
/-! ### xs[::-1] -/
def tRev (K : PySem.W.Frag) (te ts : TE) : TE := fun σ H Q => te σ H fun x H1 => ts σ H1 fun y H2 => ∃ a xs, y = .int (-1) ∧ x = .ref a ∧ SqL K H2 a xs ∧ ∀ p, H2 p = none → Q (.ref p) (upd H2 p (.lst xs.reverse))
/-! ### lists of flat values, lists of such lists, compared -/
/-- EqAt of two lists of flat values -/
def eqVs (xs ys : List V) : Bool := xs.length == ys.length && (List.range xs.length).all fun j => eqV (xs.getD j .non) (ys.getD j .non)
theorem rc_flat {A : Around} {pins : List (Addr × Obj)} {s : Shared} {σ : St} {H : Hp} {a b : Addr} {xs ys : List V} (I : Inv X pins σ H s) (ha : SqL X.K H a xs) (hb : SqL X.K H b ys) (fx : xs.all flatV = true) (fy : ys.all flatV = true) (hu : A.units < cLine) :
    SeqAt.RcAt A s (.ref a) (.ref b) (eqVs xs ys) ∧ SeqAt.RcNeAt A s (.ref a) (.ref b) (!eqVs xs ys) := by
  obtain ⟨us, ru, pu, _⟩ := I.list ha
  obtain ⟨vs, rv, pv, _⟩ := I.list hb
  have l1 := ru.length
  have l2 := rv.length
  by_cases hl : xs.length = ys.length
  · have he : ∀ j (h1 : j < us.toArray.size) (h2 : j < vs.toArray.size), SeqAt.EqAt A.in1 s us.toArray[j] vs.toArray[j] (eqV (xs.getD j .non) (ys.getD j .non)) := fun j h1 h2 => by
      rw [List.size_toArray] at h1 h2
      have hj1 : j < xs.length := by omega
      have hj2 : j < ys.length := by omega
      obtain ⟨u, hu, ru'⟩ := ru.get (i := j) (x := xs[j]) (by simp [hj1])
      obtain ⟨v, hv, rv'⟩ := rv.get (i := j) (x := ys[j]) (by simp [hj2])
      have e1 : us.toArray[j] = u := by
        have := List.getElem?_eq_some_iff.mp hu
        obtain ⟨_, q⟩ := this
        simpa using q
      have e2 : vs.toArray[j] = v := by
        obtain ⟨_, q⟩ := List.getElem?_eq_some_iff.mp hv
        simpa using q
      have g1 : xs.getD j .non = xs[j] := by simp [List.getD_eq_getElem?_getD, hj1]
      have g2 : ys.getD j .non = ys[j] := by simp [List.getD_eq_getElem?_getD, hj2]
      rw [e1, e2, g1, g2]
      exact eqAt_V ru' rv' (List.all_eq_true.mp fx _ (List.getElem_mem hj1)) (List.all_eq_true.mp fy _ (List.getElem_mem hj2))
    have hsz : us.toArray.size = vs.toArray.size := by rw [List.size_toArray, List.size_toArray]; omega
    have e : eqVs xs ys = (List.range us.toArray.size).all fun j => eqV (xs.getD j .non) (ys.getD j .non) := by
      unfold eqVs
      rw [beq_iff_eq.mpr hl, Bool.true_and, List.size_toArray, ← l1]
    rw [e]
    exact ⟨SeqAt.RcAt.lists pu.isList pv.isList hsz hu he, SeqAt.RcNeAt.lists pu.isList pv.isList hsz hu he⟩
  · have hsz : (us.toArray.size != vs.toArray.size) = true := by
      rw [bne_iff_ne, List.size_toArray, List.size_toArray]; omega
    have e : eqVs xs ys = false := by
      unfold eqVs
      rw [beq_eq_false_iff_ne.mpr hl, Bool.false_and]
    rw [e]
    exact ⟨SeqAt.RcAt.lists_lengths pu.isList pv.isList hsz hu, SeqAt.RcNeAt.lists_lengths pu.isList pv.isList hsz hu⟩
def rEqL (K : PySem.W.Frag) (neg : Bool) : R2 := fun x y H Q => ∃ a b xs ys, x = .ref a ∧ y = .ref b ∧ SqL K H a xs ∧ SqL K H b ys ∧ xs.all flatV = true ∧ ys.all flatV = true ∧ Q (.bl (if neg then !eqVs xs ys else eqVs xs ys)) H
/-- rows: lists of references to lists of flat values -/
structure Rows2 (K : PySem.W.Frag) (H : Hp) (a : Addr) (as : List Addr) (xss : List (List V)) : Prop where
  at' : SqL K H a (as.map V.ref)
  len : as.length = xss.length
  row : ∀ (i : Nat) (p : Addr) (xs : List V), as[i]? = some p → xss[i]? = some xs → SqL K H p xs ∧ xs.all flatV = true
theorem rc_rows {A : Around} {pins : List (Addr × Obj)} {s : Shared} {σ : St} {H : Hp} {a b : Addr} {as bs : List Addr} {xss yss : List (List V)} (I : Inv X pins σ H s) (ha : Rows2 X.K H a as xss) (hb : Rows2 X.K H b bs yss)
    (hd : ∀ p ∈ as, p ∉ bs) (hl : xss.length = yss.length) (hu : A.units + 1 < cLine) :
    SeqAt.RcAt A s (.ref a) (.ref b) ((List.range xss.length).all fun j => eqVs (xss.getD j []) (yss.getD j [])) := by
  obtain ⟨us, ru, pu, _⟩ := I.list ha.at'
  obtain ⟨vs, rv, pv, _⟩ := I.list hb.at'
  have l1 := ru.length
  have l2 := rv.length
  rw [List.length_map] at l1 l2
  have n1 := ha.len
  have n2 := hb.len
  have hsz : us.toArray.size = vs.toArray.size := by rw [List.size_toArray, List.size_toArray]; omega
  have e : xss.length = us.toArray.size := by rw [List.size_toArray]; omega
  rw [e]
  refine SeqAt.RcAt.lists pu.isList pv.isList hsz (Nat.lt_of_succ_lt hu) fun j h1 h2 => ?_
  rw [List.size_toArray] at h1 h2
  have j1 : j < as.length := by omega
  have j2 : j < bs.length := by omega
  have j3 : j < xss.length := by omega
  have j4 : j < yss.length := by omega
  obtain ⟨u, hu', ru'⟩ := ru.get (i := j) (x := V.ref as[j]) (by simp [j1])
  obtain ⟨v, hv', rv'⟩ := rv.get (i := j) (x := V.ref bs[j]) (by simp [j2])
  have e1 : us.toArray[j] = .ref as[j] := by
    obtain ⟨_, q⟩ := List.getElem?_eq_some_iff.mp hu'
    cases ru'
    simpa using q
  have e2 : vs.toArray[j] = .ref bs[j] := by
    obtain ⟨_, q⟩ := List.getElem?_eq_some_iff.mp hv'
    cases rv'
    simpa using q
  have g1 : xss.getD j [] = xss[j] := by simp [List.getD_eq_getElem?_getD, j3]
  have g2 : yss.getD j [] = yss[j] := by simp [List.getD_eq_getElem?_getD, j4]
  rw [e1, e2, g1, g2]
  obtain ⟨q1, f1⟩ := ha.row j as[j] xss[j] (by simp [j1]) (by simp [j3])
  obtain ⟨q2, f2⟩ := hb.row j bs[j] yss[j] (by simp [j2]) (by simp [j4])
  have ne : as[j] ≠ bs[j] := fun e => hd _ (List.getElem_mem j1) (e ▸ List.getElem_mem j2)
  exact SeqAt.EqAt.of_refs ne (rc_flat (A := A.in1) I q1 q2 f1 f2 hu).1
def rEqR (K : PySem.W.Frag) : R2 := fun x y H Q => ∃ a b as bs xss yss, x = .ref a ∧ y = .ref b ∧ Rows2 K H a as xss ∧ Rows2 K H b bs yss ∧ (∀ p ∈ as, p ∉ bs) ∧ xss.length = yss.length ∧
  Q (.bl ((List.range xss.length).all fun j => eqVs (xss.getD j []) (yss.getD j []))) H
theorem op_eqR (hu : X.A.units + 1 < cLine) : OpR X (compareOp .Eq) (rEqR X.K) := by
  intro pins s σ H x y v u Q I rx ry h
  obtain ⟨a, b, as, bs, xss, yss, rfl, rfl, ha, hb, hd, hl, q⟩ := h
  cases rx; cases ry
  exact rc_rows I ha hb hd hl hu _ _ _ _ ⟨.bl _, H, I, rfl, q⟩
theorem eqV_refl : ∀ {x : V}, flatV x = true → eqV x x = true := by
  intro x h
  cases x <;> simp_all [flatV, eqV]
theorem eqVs_refl {xs : List V} (h : xs.all flatV = true) : eqVs xs xs = true := by
  unfold eqVs
  rw [beq_self_eq_true, Bool.true_and, List.all_eq_true]
  intro j hj
  have hj' := List.mem_range.mp hj
  have g : xs.getD j .non = xs[j] := by simp [List.getD_eq_getElem?_getD, hj']
  rw [g]
  exact eqV_refl (List.all_eq_true.mp h _ (List.getElem_mem hj'))
end
end L2

namespace Tw
/-- a road: two places and its length -/
abbrev Road := Int × Int × Int
/-- v is one of its places -/
def inc (v : Int) (r : Road) : Bool := decide (r.1 = v) || decide (r.2.1 = v)
def deg (rs : List Road) (v : Int) : Nat := rs.countP (inc v)
def Joins (r : Road) (u w : Int) : Prop := (r.1 = u ∧ r.2.1 = w) ∨ (r.1 = w ∧ r.2.1 = u)

/-- roads that make a tree of these places: each is hung to the elder ones -/
inductive Tr : List Road → List Int → Prop
  | one (v : Int) : Tr [] [v]
  | hang {rs rs' : List Road} {vs vs' : List Int} {u w : Int} {r : Road} : Tr rs vs → u ∈ vs → w ∉ vs → Joins r u w → rs'.Perm (r :: rs) → vs'.Perm (w :: vs) → Tr rs' vs'

theorem Joins.symm {r : Road} {u w : Int} (h : Joins r u w) : Joins r w u := h.elim .inr .inl
theorem inc_iff {v : Int} {r : Road} : inc v r = true ↔ r.1 = v ∨ r.2.1 = v := by
  unfold inc; simp
theorem Joins.inc {r : Road} {u w : Int} (h : Joins r u w) : inc u r = true ∧ inc w r = true := by
  rcases h with ⟨a, b⟩ | ⟨a, b⟩
  · exact ⟨inc_iff.mpr (.inl a), inc_iff.mpr (.inr b)⟩
  · exact ⟨inc_iff.mpr (.inr b), inc_iff.mpr (.inl a)⟩
theorem Joins.inc_only {r : Road} {u w v : Int} (h : Joins r u w) (hv : Tw.inc v r = true) : v = u ∨ v = w := by
  rcases h with ⟨a, b⟩ | ⟨a, b⟩ <;> rcases inc_iff.mp hv with c | c <;> omega

theorem Tr.perm {rs rs' : List Road} {vs vs' : List Int} (t : Tr rs vs) (hr : rs'.Perm rs) (hv : vs'.Perm vs) : Tr rs' vs' := by
  cases t with
  | one v =>
    have e1 := hr.eq_nil
    have e2 : vs' = [v] := List.perm_singleton.mp hv
    subst e1; subst e2
    exact .one v
  | hang t hu hw j p q => exact .hang t hu hw j (hr.trans p) (hv.trans q)

theorem Tr.length {rs : List Road} {vs : List Int} (t : Tr rs vs) : rs.length + 1 = vs.length := by
  induction t with
  | one => rfl
  | hang _ _ _ _ p q ih => rw [p.length_eq, q.length_eq, List.length_cons, List.length_cons, ih]

theorem Tr.places {rs : List Road} {vs : List Int} (t : Tr rs vs) : ∀ r ∈ rs, r.1 ∈ vs ∧ r.2.1 ∈ vs ∧ r.1 ≠ r.2.1 := by
  induction t with
  | one v => intro r hr; cases hr
  | @hang rs rs' vs vs' u w r _ hu hw j p q ih =>
    intro x hx
    rcases List.mem_cons.mp (p.mem_iff.mp hx) with e | hx
    · subst e
      have hu' : u ∈ vs' := q.mem_iff.mpr (List.mem_cons_of_mem _ hu)
      have hw' : w ∈ vs' := q.mem_iff.mpr List.mem_cons_self
      have ne : u ≠ w := fun e => hw (e ▸ hu)
      rcases j with ⟨a, b⟩ | ⟨a, b⟩
      · rw [a, b]; exact ⟨hu', hw', ne⟩
      · rw [a, b]; exact ⟨hw', hu', ne.symm⟩
    · obtain ⟨h1, h2, h3⟩ := ih x hx
      exact ⟨q.mem_iff.mpr (List.mem_cons_of_mem _ h1), q.mem_iff.mpr (List.mem_cons_of_mem _ h2), h3⟩

/-- what the roads keep together: a word that goes over each road goes over all places -/
theorem Tr.whole {rs : List Road} {vs : List Int} (t : Tr rs vs) {P : Int → Prop} (h : ∀ r ∈ rs, P r.1 ↔ P r.2.1) : ∀ u ∈ vs, ∀ v ∈ vs, P u → P v := by
  induction t with
  | one x =>
    intro u hu v hv
    rw [List.mem_singleton.mp hu, List.mem_singleton.mp hv]; exact id
  | @hang rs rs' vs vs' u w r _ hu hw j p q ih =>
    have ih' := ih fun r hr => h r (p.mem_iff.mpr (List.mem_cons_of_mem _ hr))
    have hj := h r (p.mem_iff.mpr List.mem_cons_self)
    have huw : P u ↔ P w := by
      rcases j with ⟨a, b⟩ | ⟨a, b⟩
      · rw [a, b] at hj; exact hj
      · rw [a, b] at hj; exact hj.symm
    intro x hx y hy px
    have pu : P u := by
      rcases List.mem_cons.mp (q.mem_iff.mp hx) with e | hx
      · subst e; exact huw.mpr px
      · exact ih' x hx u hu px
    rcases List.mem_cons.mp (q.mem_iff.mp hy) with e | hy
    · subst e; exact huw.mp pu
    · exact ih' u hu y hy pu

theorem deg_perm {rs rs' : List Road} (p : rs'.Perm rs) (v : Int) : deg rs' v = deg rs v := p.countP_eq _
theorem deg_cons (r : Road) (rs : List Road) (v : Int) : deg (r :: rs) v = deg rs v + if inc v r = true then 1 else 0 := by
  unfold deg; rw [List.countP_cons]
theorem deg_out {rs : List Road} {vs : List Int} (t : Tr rs vs) {v : Int} (h : v ∉ vs) : deg rs v = 0 := by
  unfold deg
  rw [List.countP_eq_zero]
  intro r hr hi
  obtain ⟨h1, h2, _⟩ := t.places r hr
  rcases inc_iff.mp hi with e | e
  · exact h (e ▸ h1)
  · exact h (e ▸ h2)

/-- each place of two or more has a road -/
theorem Tr.deg_pos {rs : List Road} {vs : List Int} (t : Tr rs vs) (hr : rs ≠ []) : ∀ v ∈ vs, 1 ≤ deg rs v := by
  induction t with
  | one => exact absurd rfl hr
  | @hang rs rs' vs vs' u w r t hu hw j p q ih =>
    intro v hv
    rw [deg_perm p, deg_cons]
    rcases List.mem_cons.mp (q.mem_iff.mp hv) with e | hv
    · subst e; rw [if_pos j.inc.2]; omega
    · by_cases e : rs = []
      · subst e
        cases t with
        | one x =>
          have e1 := List.mem_singleton.mp hv
          have e2 := List.mem_singleton.mp hu
          rw [e1, ← e2, if_pos j.inc.1]; omega
        | hang _ _ _ _ p' _ => exact absurd p'.length_eq (by simp)
      · have := ih e v hv; omega

/-- two places or more: one of them has just one road -/
theorem Tr.leaf {rs : List Road} {vs : List Int} (t : Tr rs vs) (hr : rs ≠ []) : ∃ v ∈ vs, deg rs v = 1 := by
  cases t with
  | one => exact absurd rfl hr
  | @hang rs _ vs _ u w r t hu hw j p q =>
    refine ⟨w, q.mem_iff.mpr List.mem_cons_self, ?_⟩
    rw [deg_perm p, deg_cons, deg_out t hw, if_pos j.inc.2]

theorem perm_cons_erase {vs : List Int} {p : Int} (h : p ∈ vs) : vs.Perm (p :: vs.erase p) := List.perm_cons_erase h

/-- a place with just one road taken away -/
theorem Tr.cut {rs : List Road} {vs : List Int} (t : Tr rs vs) : ∀ {p : Int}, p ∈ vs → deg rs p = 1 → ∃ r rs0 u vs0, rs.Perm (r :: rs0) ∧ vs.Perm (p :: vs0) ∧ Joins r u p ∧ u ∈ vs0 ∧ p ∉ vs0 ∧ Tr rs0 vs0 ∧ deg rs0 p = 0 := by
  induction t with
  | one v => intro p _ h; simp [deg] at h
  | @hang rs rs' vs vs' u w r t hu hw j p q ih =>
    intro x hx hd
    rw [deg_perm p, deg_cons] at hd
    by_cases e : x = w
    · subst e
      exact ⟨r, rs, u, vs, p, q, j, hu, hw, t, deg_out t hw⟩
    · have hxv : x ∈ vs := (List.mem_cons.mp (q.mem_iff.mp hx)).resolve_left e
      by_cases eu : x = u
      · subst eu
        rw [if_pos j.inc.1] at hd
        have hz : rs = [] := by
          by_cases hn : rs = []
          · exact hn
          · have := t.deg_pos hn x hxv; omega
        subst hz
        cases t with
        | one y =>
          have e1 := List.mem_singleton.mp hu
          subst e1
          refine ⟨r, [], w, [w], p, q.trans (List.Perm.swap _ _ _), j.symm, by simp, by simpa using e, .one w, rfl⟩
        | hang _ _ _ _ p' _ => exact absurd p'.length_eq (by simp)
      · have hni : ¬ inc x r = true := fun hi => (j.inc_only hi).elim eu e
        rw [if_neg hni] at hd
        obtain ⟨r1, rs1, u1, vs1, p1, q1, j1, hu1, hx1, t1, d1⟩ := ih hxv hd
        refine ⟨r1, r :: rs1, u1, w :: vs1, (p.trans (p1.cons r)).trans (List.Perm.swap _ _ _), (q.trans (q1.cons w)).trans (List.Perm.swap _ _ _), j1, List.mem_cons_of_mem _ hu1, ?_, ?_, ?_⟩
        · intro h
          rcases List.mem_cons.mp h with h | h
          · exact e h
          · exact hx1 h
        · refine .hang t1 (u := u) (w := w) (r := r) ?_ ?_ j (List.Perm.refl _) (List.Perm.refl _)
          · exact (List.mem_cons.mp (q1.mem_iff.mp hu)).resolve_left (fun h => eu h.symm)
          · intro h; exact hw (q1.mem_iff.mpr (List.mem_cons_of_mem _ h))
        · rw [deg_cons, if_neg hni, d1]

/-- no two roads join the same two places -/
def Apart (r q : Road) : Prop := ¬ (r.1 = q.1 ∧ r.2.1 = q.2.1) ∧ ¬ (r.1 = q.2.1 ∧ r.2.1 = q.1)
theorem Apart.symm {r q : Road} (h : Apart r q) : Apart q r := ⟨fun ⟨a, b⟩ => h.1 ⟨a.symm, b.symm⟩, fun ⟨a, b⟩ => h.2 ⟨b.symm, a.symm⟩⟩
theorem Tr.apart {rs : List Road} {vs : List Int} (t : Tr rs vs) : rs.Pairwise Apart := by
  induction t with
  | one => exact .nil
  | @hang rs rs' vs vs' u w r t hu hw j p q ih =>
    refine (p.pairwise_iff (fun h => h.symm)).mpr (List.pairwise_cons.mpr ⟨fun x hx => ?_, ih⟩)
    obtain ⟨h1, h2, _⟩ := t.places x hx
    have n1 : w ≠ x.1 := fun e => hw (e ▸ h1)
    have n2 : w ≠ x.2.1 := fun e => hw (e ▸ h2)
    constructor
    · rintro ⟨a, b⟩
      rcases j with ⟨c, d⟩ | ⟨c, d⟩
      · exact n2 (d.symm.trans b)
      · exact n1 (c.symm.trans a)
    · rintro ⟨a, b⟩
      rcases j with ⟨c, d⟩ | ⟨c, d⟩
      · exact n1 (d.symm.trans b)
      · exact n2 (c.symm.trans a)

end Tw

namespace Tw
/-! ### rows of numbers as roads -/
def rowI (r : Road) : List Int := [r.1, r.2.1, r.2.2]
def isRoadB (n : Int) (z : List Int) : Bool := match z with
  | [a, b, l] => decide (0 ≤ a ∧ a < n) && decide (0 ≤ b ∧ b < n) && !decide (a = b) && decide (1 ≤ l)
  | _ => false
structure Valid (n : Int) (r : Road) : Prop where
  a0 : 0 ≤ r.1
  a1 : r.1 < n
  b0 : 0 ≤ r.2.1
  b1 : r.2.1 < n
  ne : r.1 ≠ r.2.1
  l1 : 1 ≤ r.2.2
/-- all places hang together -/
def Conn (n : Int) (rs : List Road) : Prop := ∀ P : Int → Prop, P 0 → (∀ r ∈ rs, P r.1 ↔ P r.2.1) → ∀ v, 0 ≤ v → v < n → P v
/-- what is a tree, of any rows -/
structure IsTree (n : Int) (zss : List (List Int)) : Prop where
  lo : 1 ≤ n
  hi : n ≤ 12
  len : (zss.length : Int) = n - 1
  ex : ∃ rs : List Road, zss = rs.map rowI ∧ (∀ r ∈ rs, Valid n r) ∧ Conn n rs

/-! ### neighbours: dicts as lists of pairs -/
def put (d : List (Int × Int)) (k v : Int) : List (Int × Int) :=
  if (d.any fun p => decide (p.1 = k)) = true then d.map (fun p => if p.1 = k then (p.1, v) else p) else d ++ [(k, v)]
def nb1 (v : Int) (d : List (Int × Int)) (r : Road) : List (Int × Int) :=
  if r.1 = v then put d r.2.1 r.2.2 else if r.2.1 = v then put d r.1 r.2.2 else d
def nbOf (rs : List Road) (v : Int) : List (Int × Int) := rs.foldl (nb1 v) []
theorem nbOf_snoc (rs : List Road) (r : Road) (v : Int) : nbOf (rs ++ [r]) v = nb1 v (nbOf rs v) r := by
  unfold nbOf; rw [List.foldl_append]; rfl
theorem put_keys (d : List (Int × Int)) (k v : Int) (x : Int) : x ∈ (put d k v).map (·.1) ↔ x ∈ d.map (·.1) ∨ x = k := by
  unfold put
  split
  · rename_i h
    have e : (d.map fun p => if p.1 = k then (p.1, v) else p).map (·.1) = d.map (·.1) := by
      rw [List.map_map]
      refine List.map_congr_left fun p _ => ?_
      simp only [Function.comp]
      split <;> rfl
    rw [e]
    constructor
    · exact .inl
    · rintro (h' | h')
      · exact h'
      · obtain ⟨p, hp, e⟩ := List.any_eq_true.mp h
        exact List.mem_map.mpr ⟨p, hp, (of_decide_eq_true e).trans h'.symm⟩
  · rw [List.map_append, List.mem_append]
    simp
theorem put_nodup {d : List (Int × Int)} (k v : Int) (h : (d.map (·.1)).Nodup) : ((put d k v).map (·.1)).Nodup := by
  unfold put
  split
  · have e : (d.map fun p => if p.1 = k then (p.1, v) else p).map (·.1) = d.map (·.1) := by
      rw [List.map_map]
      refine List.map_congr_left fun p _ => ?_
      simp only [Function.comp]
      split <;> rfl
    rw [e]; exact h
  · rename_i hn
    rw [List.map_append]
    refine List.nodup_append.mpr ⟨h, by simp, ?_⟩
    intro a ha b hb e
    simp only [List.map_cons, List.map_nil, List.mem_singleton] at hb
    obtain ⟨p, hp, ep⟩ := List.mem_map.mp ha
    exact hn (List.any_eq_true.mpr ⟨p, hp, decide_eq_true (by rw [ep, e, hb])⟩)
theorem nbOf_nodup (v : Int) : ∀ rs : List Road, ((nbOf rs v).map (·.1)).Nodup := by
  intro rs
  have gen : ∀ (rs : List Road) (d : List (Int × Int)), (d.map (·.1)).Nodup → ((rs.foldl (nb1 v) d).map (·.1)).Nodup := by
    intro rs
    induction rs with
    | nil => intro d h; exact h
    | cons r t ih =>
      intro d h
      rw [List.foldl_cons]
      refine ih _ ?_
      unfold nb1
      split
      · exact put_nodup _ _ h
      · split
        · exact put_nodup _ _ h
        · exact h
  exact gen rs [] (by simp)
/-- two places with a road -/
def Adj (rs : List Road) (u w : Int) : Prop := ∃ r ∈ rs, Joins r u w
theorem nbOf_keys (rs : List Road) (v x : Int) : x ∈ (nbOf rs v).map (·.1) ↔ Adj rs v x := by
  have gen : ∀ (rs : List Road) (d : List (Int × Int)), x ∈ (rs.foldl (nb1 v) d).map (·.1) ↔ x ∈ d.map (·.1) ∨ Adj rs v x := by
    intro rs
    induction rs with
    | nil => intro d; exact ⟨.inl, fun h => h.elim id (fun ⟨r, h, _⟩ => nomatch h)⟩
    | cons r t ih =>
      intro d
      rw [List.foldl_cons, ih]
      have adj : Adj (r :: t) v x ↔ Joins r v x ∨ Adj t v x := by
        constructor
        · rintro ⟨q, hq, j⟩
          rcases List.mem_cons.mp hq with e | hq
          · subst e; exact .inl j
          · exact .inr ⟨q, hq, j⟩
        · rintro (j | ⟨q, hq, j⟩)
          · exact ⟨r, List.mem_cons_self, j⟩
          · exact ⟨q, List.mem_cons_of_mem _ hq, j⟩
      rw [adj]
      have one : x ∈ (nb1 v d r).map (·.1) ↔ x ∈ d.map (·.1) ∨ (Joins r v x) ∨ (r.1 = v ∧ r.2.1 = v ∧ False) := by
        unfold nb1 Joins
        split
        · rename_i h1
          rw [put_keys]
          constructor
          · rintro (h | h)
            · exact .inl h
            · exact .inr (.inl (.inl ⟨h1, h.symm⟩))
          · rintro (h | (⟨h, h'⟩ | ⟨h, h'⟩) | ⟨_, _, h⟩)
            · exact .inl h
            · exact .inr h'.symm
            · exact .inr (by omega)
            · exact h.elim
        · rename_i h1
          split
          · rename_i h2
            rw [put_keys]
            constructor
            · rintro (h | h)
              · exact .inl h
              · exact .inr (.inl (.inr ⟨h.symm, h2⟩))
            · rintro (h | (⟨h, h'⟩ | ⟨h, h'⟩) | ⟨_, _, h⟩)
              · exact .inl h
              · exact absurd h h1
              · exact .inr h.symm
              · exact h.elim
          · rename_i h2
            constructor
            · exact .inl
            · rintro (h | (⟨h, h'⟩ | ⟨h, h'⟩) | ⟨_, _, h⟩)
              · exact h
              · exact absurd h h1
              · exact absurd h' h2
              · exact h.elim
      rw [one]
      constructor
      · rintro ((h | h | ⟨_, _, h⟩) | h)
        · exact .inl h
        · exact .inr (.inl h)
        · exact h.elim
        · exact .inr (.inr h)
      · rintro (h | h | h)
        · exact .inl (.inl h)
        · exact .inl (.inr (.inl h))
        · exact .inr h
  have := gen rs []
  unfold nbOf
  rw [this]
  simp
/-- where no two roads join the same places, each road gives one neighbour -/
theorem nbOf_length {rs : List Road} (ap : rs.Pairwise Apart) (hv : ∀ r ∈ rs, r.1 ≠ r.2.1) (v : Int) : (nbOf rs v).length = deg rs v := by
  have gen : ∀ (l : List Road) (pre : List Road), (pre ++ l).Pairwise Apart → (∀ r ∈ pre ++ l, r.1 ≠ r.2.1) → (nbOf pre v).length = deg pre v → (nbOf (pre ++ l) v).length = deg (pre ++ l) v := by
    intro l
    induction l with
    | nil => intro pre _ _ h; rw [List.append_nil]; exact h
    | cons r t ih =>
      intro pre hp hne h
      have e : pre ++ r :: t = (pre ++ [r]) ++ t := by simp
      rw [e] at hp hne ⊢
      refine ih (pre ++ [r]) hp hne ?_
      have hp1 : (pre ++ [r]).Pairwise Apart := (List.pairwise_append.mp hp).1
      have hap : ∀ q ∈ pre, Apart q r := fun q hq => (List.pairwise_append.mp hp1).2.2 q hq r (by simp)
      have hr : r.1 ≠ r.2.1 := hne r (by simp)
      have new : ∀ x, Joins r v x → ¬ x ∈ (nbOf pre v).map (·.1) := fun x j hx => by
        obtain ⟨q, hq, j'⟩ := (nbOf_keys pre v x).mp hx
        obtain ⟨a1, a2⟩ := hap q hq
        rcases j with ⟨c, d⟩ | ⟨c, d⟩ <;> rcases j' with ⟨c', d'⟩ | ⟨c', d'⟩
        · exact a1 ⟨by omega, by omega⟩
        · exact a2 ⟨by omega, by omega⟩
        · exact a2 ⟨by omega, by omega⟩
        · exact a1 ⟨by omega, by omega⟩
      have plen : ∀ x y, ¬ x ∈ (nbOf pre v).map (·.1) → (put (nbOf pre v) x y).length = (nbOf pre v).length + 1 := fun x y hx => by
        unfold put
        rw [if_neg]
        · simp
        · intro h
          obtain ⟨p, hp, e⟩ := List.any_eq_true.mp h
          exact hx (List.mem_map.mpr ⟨p, hp, of_decide_eq_true e⟩)
      rw [nbOf_snoc]
      have hd : deg (pre ++ [r]) v = deg pre v + if inc v r = true then 1 else 0 := by
        unfold deg; rw [List.countP_append, List.countP_cons, List.countP_nil]; omega
      rw [hd]
      unfold nb1
      split
      · rename_i h1
        rw [plen _ _ (new _ (.inl ⟨h1, rfl⟩)), h, if_pos (inc_iff.mpr (.inl h1))]
      · rename_i h1
        split
        · rename_i h2
          rw [plen _ _ (new _ (.inr ⟨rfl, h2⟩)), h, if_pos (inc_iff.mpr (.inr h2))]
        · rename_i h2
          rw [if_neg (fun hi => (inc_iff.mp hi).elim h1 h2), h]; rfl
  have := gen rs [] (by simpa using ap) (by simpa using hv) rfl
  simpa using this

/-! ### the steps to a place -/
/-- what the search has found when it is through with the first k of the reached places -/
structure Srch (n : Nat) (nb : Int → List (Int × Int)) (g : Int) (k : Nat) (st : List (Int × Int)) : Prop where
  first : st[0]? = some (g, g)
  nd : (st.map (·.1)).Nodup
  rng : ∀ p ∈ st, 0 ≤ p.1 ∧ p.1 < n
  par : ∀ i p q, st[i]? = some (p, q) → 0 < i → ∃ j, j < i ∧ j < k ∧ (st.map (·.1))[j]? = some q ∧ p ∈ (nb q).map (·.1)
  clo : ∀ j q, j < k → (st.map (·.1))[j]? = some q → ∀ p ∈ (nb q).map (·.1), p ∈ st.map (·.1)
theorem Srch.length {n : Nat} {nb : Int → List (Int × Int)} {g : Int} {k : Nat} {st : List (Int × Int)} (s : Srch n nb g k st) : st.length ≤ n := by
  have h : ∀ (m : Nat) (l : List Int), l.Nodup → (∀ x ∈ l, 0 ≤ x ∧ x < m) → l.length ≤ m := by
    intro m
    induction m with
    | zero =>
      intro l _ h
      cases l with
      | nil => exact Nat.le_refl _
      | cons x t => have := h x (by simp); omega
    | succ m ih =>
      intro l hn h
      by_cases hm : ((m : Nat) : Int) ∈ l
      · have hp := List.perm_cons_erase hm
        rw [hp.length_eq, List.length_cons]
        have hn' := hp.nodup_iff.mp hn
        obtain ⟨h1, h2⟩ := List.nodup_cons.mp hn'
        have := ih (l.erase (m : Int)) h2 fun x hx => by
          have hx' := List.mem_of_mem_erase hx
          have b := h x hx'
          have : x ≠ (m : Int) := fun e => h1 (e ▸ hx)
          omega
        omega
      · have := ih l hn fun x hx => by
          have b := h x hx
          have : x ≠ (m : Int) := fun e => hm (e ▸ hx)
          omega
        omega
  have := h n (st.map (·.1)) s.nd fun x hx => by
    obtain ⟨p, hp, e⟩ := List.mem_map.mp hx
    rw [← e]; exact s.rng p hp
  simpa using this
theorem full_of_length : ∀ (m : Nat) (l : List Int), l.Nodup → (∀ x ∈ l, 0 ≤ x ∧ x < m) → l.length = m → ∀ v : Int, 0 ≤ v → v < (m : Int) → v ∈ l := by
  intro m
  induction m with
  | zero => intro l _ _ _ v h1 h2; omega
  | succ m ih =>
    intro l hn h hl v h1 h2
    have hm : ((m : Nat) : Int) ∈ l := by
      refine Classical.byContradiction fun hm => ?_
      have : l.length ≤ m := by
        have key : ∀ (m : Nat) (l : List Int), l.Nodup → (∀ x ∈ l, 0 ≤ x ∧ x < m) → l.length ≤ m := by
          intro m
          induction m with
          | zero =>
            intro l _ h
            cases l with
            | nil => exact Nat.le_refl _
            | cons x t => have := h x (by simp); omega
          | succ m ih =>
            intro l hn h
            by_cases hm : ((m : Nat) : Int) ∈ l
            · have hp := List.perm_cons_erase hm
              rw [hp.length_eq, List.length_cons]
              obtain ⟨h1, h2⟩ := List.nodup_cons.mp (hp.nodup_iff.mp hn)
              have := ih (l.erase (m : Int)) h2 fun x hx => by
                have b := h x (List.mem_of_mem_erase hx)
                have : x ≠ (m : Int) := fun e => h1 (e ▸ hx)
                omega
              omega
            · have := ih l hn fun x hx => by
                have b := h x hx
                have : x ≠ (m : Int) := fun e => hm (e ▸ hx)
                omega
              omega
        exact key m l hn fun x hx => by
          have b := h x hx
          have : x ≠ (m : Int) := fun e => hm (e ▸ hx)
          omega
      omega
    by_cases hv : v = (m : Int)
    · rw [hv]; exact hm
    · have hp := List.perm_cons_erase hm
      obtain ⟨h3, h4⟩ := List.nodup_cons.mp (hp.nodup_iff.mp hn)
      have q := ih (l.erase (m : Int)) h4 (fun x hx => by
        have b := h x (List.mem_of_mem_erase hx)
        have : x ≠ (m : Int) := fun e => h3 (e ▸ hx)
        omega) (by have := hp.length_eq; rw [List.length_cons] at this; omega) v h1 (by omega)
      exact List.mem_of_mem_erase q

/-! ### the start, a neighbour, a turn of the search -/
theorem Srch.start {n : Nat} {nb : Int → List (Int × Int)} {g : Int} (h0 : 0 ≤ g) (h1 : g < n) : Srch n nb g 0 [(g, g)] := by
  refine ⟨rfl, by simp, fun p hp => ?_, fun i p q h hi => ?_, fun j q hj => absurd hj (Nat.not_lt_zero _)⟩
  · rw [List.mem_singleton.mp hp]; exact ⟨h0, h1⟩
  · cases i with
    | zero => omega
    | succ i => simp at h
/-- within the turn of the k-th place q: the first i of its neighbours are seen -/
structure Mid (n : Nat) (nb : Int → List (Int × Int)) (g : Int) (k i : Nat) (q : Int) (st : List (Int × Int)) : Prop where
  first : st[0]? = some (g, g)
  nd : (st.map (·.1)).Nodup
  rng : ∀ p ∈ st, 0 ≤ p.1 ∧ p.1 < n
  par : ∀ i p q, st[i]? = some (p, q) → 0 < i → ∃ j, j < i ∧ j < k + 1 ∧ (st.map (·.1))[j]? = some q ∧ p ∈ (nb q).map (·.1)
  clo : ∀ j q, j < k → (st.map (·.1))[j]? = some q → ∀ p ∈ (nb q).map (·.1), p ∈ st.map (·.1)
  here : (st.map (·.1))[k]? = some q
  seen : ∀ p ∈ ((nb q).map (·.1)).take i, p ∈ st.map (·.1)
theorem Mid.old {n : Nat} {nb : Int → List (Int × Int)} {g : Int} {k i : Nat} {q p : Int} {st : List (Int × Int)} (s : Mid n nb g k i q st) (hi : ((nb q).map (·.1))[i]? = some p) (hp : p ∈ st.map (·.1)) : Mid n nb g k (i + 1) q st :=
  ⟨s.first, s.nd, s.rng, s.par, s.clo, s.here, fun x hx => by
    rw [List.take_add_one, hi, List.mem_append] at hx
    rcases hx with hx | hx
    · exact s.seen x hx
    · have : x = p := by simpa using hx
      rw [this]; exact hp⟩
theorem Mid.new {n : Nat} {nb : Int → List (Int × Int)} {g : Int} {k i : Nat} {q p : Int} {st : List (Int × Int)} (s : Mid n nb g k i q st) (hi : ((nb q).map (·.1))[i]? = some p) (hp : p ∉ st.map (·.1)) (h0 : 0 ≤ p) (h1 : p < n) :
    Mid n nb g k (i + 1) q (st ++ [(p, q)]) := by
  have hkl : k < st.length := by
    have := (List.getElem?_eq_some_iff.mp s.here).1
    simpa using this
  have em : (st ++ [(p, q)]).map (·.1) = st.map (·.1) ++ [p] := by rw [List.map_append]; rfl
  have old : ∀ {j : Nat} {x : Int}, (st.map (·.1))[j]? = some x → (st.map (·.1) ++ [p])[j]? = some x := fun {j x} h => by
    rw [List.getElem?_append_left (List.getElem?_eq_some_iff.mp h).1]; exact h
  refine ⟨?_, ?_, ?_, ?_, ?_, ?_, ?_⟩
  · rw [List.getElem?_append_left (by omega)]; exact s.first
  · rw [em]
    refine List.nodup_append.mpr ⟨s.nd, by simp, ?_⟩
    intro a ha b hb e
    have : b = p := by simpa using hb
    exact hp (by rw [← this, ← e]; exact ha)
  · intro x hx
    rcases List.mem_append.mp hx with hx | hx
    · exact s.rng x hx
    · rw [List.mem_singleton.mp hx]; exact ⟨h0, h1⟩
  · intro j a b h hj
    rw [em]
    by_cases hjl : j < st.length
    · rw [List.getElem?_append_left hjl] at h
      obtain ⟨t, t1, t2, t3, t4⟩ := s.par j a b h hj
      exact ⟨t, t1, t2, old t3, t4⟩
    · rw [List.getElem?_append_right (by omega)] at h
      have hz : j - st.length = 0 := by
        have := (List.getElem?_eq_some_iff.mp h).1
        simp at this; omega
      rw [hz] at h
      have e : (p, q) = (a, b) := by simpa using h
      cases e
      exact ⟨k, by omega, Nat.lt_succ_self _, old s.here, List.mem_of_getElem? hi⟩
  · intro j x hj hx y hy
    rw [em] at hx ⊢
    have hjl : j < (st.map (·.1)).length := by rw [List.length_map]; omega
    rw [List.getElem?_append_left hjl] at hx
    exact List.mem_append_left _ (s.clo j x hj hx y hy)
  · rw [em]; exact old s.here
  · intro x hx
    rw [em]
    rw [List.take_add_one, hi, List.mem_append] at hx
    rcases hx with hx | hx
    · exact List.mem_append_left _ (s.seen x hx)
    · have : x = p := by simpa using hx
      rw [this]; exact List.mem_append_right _ (by simp)
theorem Mid.done {n : Nat} {nb : Int → List (Int × Int)} {g : Int} {k i : Nat} {q : Int} {st : List (Int × Int)} (s : Mid n nb g k i q st) (hi : i = (nb q).length) : Srch n nb g (k + 1) st := by
  refine ⟨s.first, s.nd, s.rng, s.par, fun j x hj hx p hp => ?_⟩
  by_cases hjk : j < k
  · exact s.clo j x hjk hx p hp
  · have e : j = k := by omega
    subst e
    rw [s.here] at hx
    cases hx
    exact s.seen p (by rw [List.take_of_length_le (by simp [hi])]; exact hp)
end Tw

namespace Tw
/-- the places 0 to n - 1 -/
def pl (n : Nat) : List Int := (List.range n).map fun i => ((i : Nat) : Int)
theorem mem_pl {n : Nat} {v : Int} : v ∈ pl n ↔ 0 ≤ v ∧ v < n := by
  unfold pl
  rw [List.mem_map]
  constructor
  · rintro ⟨i, hi, rfl⟩
    have := List.mem_range.mp hi
    omega
  · rintro ⟨h1, h2⟩
    exact ⟨v.toNat, List.mem_range.mpr (by omega), by omega⟩
theorem pl_length (n : Nat) : (pl n).length = n := by unfold pl; simp
theorem pl_succ (n : Nat) : pl (n + 1) = pl n ++ [(n : Int)] := by
  unfold pl
  rw [List.range_succ, List.map_append]; rfl
theorem pl_get {n i : Nat} (h : i < n) : (pl n)[i]? = some (i : Int) := by
  unfold pl
  rw [List.getElem?_map, List.getElem?_range h]; rfl
theorem pl_nodup (n : Nat) : (pl n).Nodup := by
  induction n with
  | zero => unfold pl; simp
  | succ n ih =>
    rw [pl_succ]
    refine List.nodup_append.mpr ⟨ih, by simp, ?_⟩
    intro a ha b hb e
    have := mem_pl.mp ha
    have hb' : b = (n : Int) := by simpa using hb
    omega
def ends (r : Road) : Int × Int := (r.1, r.2.1)
/-- a tree of n places, roads with lengths -/
structure Tree (n : Nat) (rs : List Road) : Prop where
  lo : 1 ≤ n
  hi : n ≤ 12
  tr : Tr rs (pl n)
  len : ∀ r ∈ rs, 1 ≤ r.2.2
theorem Tree.length {n : Nat} {rs : List Road} (t : Tree n rs) : rs.length + 1 = n := by
  have := t.tr.length
  rw [pl_length] at this; exact this
theorem Tree.nb {n : Nat} {rs : List Road} (t : Tree n rs) (v : Int) : (nbOf rs v).length = deg rs v := nbOf_length t.tr.apart (fun r hr => (t.tr.places r hr).2.2) v
theorem Tree.leaf {n : Nat} {rs : List Road} (t : Tree n rs) (h : 1 < n) : ∃ v ∈ pl n, deg rs v = 1 := by
  refine t.tr.leaf fun e => ?_
  have := t.length
  rw [e] at this; simp at this; omega
/-! ### counts -/
def b2n (b : Bool) : Int := if b then 1 else 0
end Tw

namespace Tw
open PySem L2

/-! ### what stands in the heap -/
def zV (z : List Int) : List V := z.map V.int
/-- a list of lists of numbers -/
structure RowsAt (H : Hp) (a : Addr) (as : List Addr) (zss : List (List Int)) : Prop where
  top : H a = some (.lst (as.map V.ref))
  len : as.length = zss.length
  row : ∀ (i : Nat) (p : Addr) (z : List Int), as[i]? = some p → zss[i]? = some z → H p = some (.lst (zV z))
theorem RowsAt.mono {H H' : Hp} {a : Addr} {as : List Addr} {zss : List (List Int)} (h : RowsAt H a as zss) (s : Same H H') : RowsAt H' a as zss :=
  ⟨s _ _ h.top, h.len, fun i p z e1 e2 => s _ _ (h.row i p z e1 e2)⟩
theorem RowsAt.get {H : Hp} {a : Addr} {as : List Addr} {zss : List (List Int)} (h : RowsAt H a as zss) {i : Nat} {z : List Int} (e : zss[i]? = some z) : ∃ p, as[i]? = some p ∧ H p = some (.lst (zV z)) := by
  have hi : i < as.length := by rw [h.len]; exact (List.getElem?_eq_some_iff.mp e).1
  exact ⟨as[i], by simp [hi], h.row i _ z (by simp [hi]) e⟩
/-- roads: rows of three, each an object of its own -/
structure RoadsAt (H : Hp) (a : Addr) (as : List Addr) (rs : List Road) : Prop where
  rows : RowsAt H a as (rs.map rowI)
  nd : as.Nodup
theorem RoadsAt.mono {H H' : Hp} {a : Addr} {as : List Addr} {rs : List Road} (h : RoadsAt H a as rs) (s : Same H H') : RoadsAt H' a as rs := ⟨h.rows.mono s, h.nd⟩
theorem RoadsAt.get {H : Hp} {a : Addr} {as : List Addr} {rs : List Road} (h : RoadsAt H a as rs) {i : Nat} {r : Road} (e : rs[i]? = some r) : ∃ p, as[i]? = some p ∧ H p = some (.lst [.int r.1, .int r.2.1, .int r.2.2]) :=
  h.rows.get (z := rowI r) (by rw [List.getElem?_map, e]; rfl)
theorem RoadsAt.len {H : Hp} {a : Addr} {as : List Addr} {rs : List Road} (h : RoadsAt H a as rs) : as.length = rs.length := by have := h.rows.len; rw [List.length_map] at this; exact this
/-- a dict of numbers -/
def dV (d : List (Int × Int)) : List (Key × V) := d.map fun p => (Sum.inl p.1, V.int p.2)
/-- a list of dicts of numbers -/
structure NearAt (H : Hp) (a : Addr) (ds : List Addr) (nr : List (List (Int × Int))) : Prop where
  top : H a = some (.lst (ds.map V.ref))
  len : ds.length = nr.length
  row : ∀ (i : Nat) (p : Addr) (d : List (Int × Int)), ds[i]? = some p → nr[i]? = some d → H p = some (.dK (dV d))
theorem NearAt.mono {H H' : Hp} {a : Addr} {as : List Addr} {nr : List (List (Int × Int))} (h : NearAt H a as nr) (s : Same H H') : NearAt H' a as nr :=
  ⟨s _ _ h.top, h.len, fun i p z e1 e2 => s _ _ (h.row i p z e1 e2)⟩
theorem NearAt.get {H : Hp} {a : Addr} {as : List Addr} {nr : List (List (Int × Int))} (h : NearAt H a as nr) {i : Nat} {d : List (Int × Int)} (e : nr[i]? = some d) : ∃ p, as[i]? = some p ∧ H p = some (.dK (dV d)) := by
  have hi : i < as.length := by rw [h.len]; exact (List.getElem?_eq_some_iff.mp e).1
  exact ⟨as[i], by simp [hi], h.row i _ d (by simp [hi]) e⟩
def nearOf (n : Nat) (rs : List Road) : List (List (Int × Int)) := (pl n).map (nbOf rs)
/-! ### heaps that grow -/
theorem same_upd {H : Hp} {p : Addr} {o : HO} (h : H p = none) : Same H (upd H p o) := fun b u e => by rw [upd_ne (ne_of_none e h)]; exact e
/-- all but what stands at a is as it was -/
def But (a : Addr) (H H' : Hp) : Prop := ∀ b o, H b = some o → b ≠ a → H' b = some o
theorem But.refl (a : Addr) (H : Hp) : But a H H := fun _ _ e _ => e
theorem But.trans {a : Addr} {H H1 H2 : Hp} (x : But a H H1) (y : But a H1 H2) : But a H H2 := fun b o e n => y b o (x b o e n) n
theorem But.of {a : Addr} {H H' : Hp} (s : Same H H') : But a H H' := fun b o e _ => s b o e
theorem len12 {n : Nat} (h : n ≤ 1000) : n ≤ sizeLine := Nat.le_of_lt (small1000 h)
end Tw

namespace L2
open PySem PySem.Spec PyProof.Rows
/-! ### comprehensions as one uses them -/
theorem comp_list {K : PySem.W.Frag} {a : Addr} {xs : List V} {tf : TT} {te : TE} {σ : St} {H1 : Hp} {D : Addr} {Q : Hp → Prop} (Pv : Nat → List V → Hp → Prop) (hD : ∀ i ys H, Pv i ys H → H D = some (.lst ys) ∧ SqL K H a xs) (h0 : Pv 0 [] (upd H1 D (.lst [])))
    (hs : ∀ i y ys H, xs[i]? = some y → Pv i ys H → tf (σ ++ [some y]) H fun c H4 => if c = true then te (σ ++ [some y]) H4 fun z H5 => H5 D = some (.lst ys) ∧ ys.length < sizeLine ∧ Pv (i + 1) (ys ++ [z]) (upd H5 D (.lst (ys ++ [z]))) else Pv (i + 1) ys H4)
    (hd : ∀ ys H, Pv xs.length ys H → Q H) :
    ∃ W : Nat → Nat → List V → Hp → Prop, (∃ m, W 0 m [] (upd H1 D (.lst []))) ∧ ∀ i m ys H2, W i m ys H2 →
      H2 D = some (.lst ys) ∧ (((Itl K a).stop i H2 ∧ Q H2) ∨ ((Itl K a).go i H2 ∧ ∃ N : List V → Hp → Prop, (∀ ys' H', N ys' H' → ∃ m', m' < m ∧ W (i + 1) m' ys' H') ∧ ∀ y H3, (Itl K a).yld i H2 y H3 →
        tf (σ ++ [some y]) H3 fun c H4 => if c = true then te (σ ++ [some y]) H4 fun z H5 => H5 D = some (.lst ys) ∧ ys.length < sizeLine ∧ N (ys ++ [z]) (upd H5 D (.lst (ys ++ [z]))) else N ys H4)) := by
  refine ⟨fun i m ys H => m = xs.length - i ∧ i ≤ xs.length ∧ Pv i ys H, ⟨xs.length, by simp, Nat.zero_le _, h0⟩, ?_⟩
  rintro i m ys H ⟨rfl, hi, p⟩
  obtain ⟨q1, q2⟩ := hD i ys H p
  refine ⟨q1, ?_⟩
  by_cases hlt : i < xs.length
  · refine .inr ⟨⟨xs, xs[i], q2, by simp [hlt]⟩, Pv (i + 1), fun ys' H' p' => ⟨xs.length - (i + 1), by omega, rfl, hlt, p'⟩, fun y H' yl => ?_⟩
    obtain ⟨e, yl⟩ := yl
    subst e
    exact hs i y ys _ (yl xs q2) p
  · have e : i = xs.length := by omega
    subst e
    exact .inl ⟨⟨xs, q2, Nat.le_refl _⟩, hd ys H p⟩
theorem yesI {A B : Hp → Prop} {σ : St} {H : Hp} (h : A H) : tYes σ H (fun c H4 => if c = true then A H4 else B H4) := iteT (A := A H) (B := B H) h
theorem iteD {c : Prop} [Decidable c] {A B : Prop} (h1 : c → A) (h2 : ¬ c → B) : if decide c = true then A else B := by
  by_cases h : c
  · rw [decide_eq_true h]; exact iteT (h1 h)
  · rw [decide_eq_false h]; exact iteF (h2 h)
theorem iteB {b : Bool} {A B : Prop} (h1 : b = true → A) (h2 : b = false → B) : if b = true then A else B := by
  cases b with
  | true => exact iteT (h1 rfl)
  | false => exact iteF (h2 rfl)
end L2

namespace L2
open PySem PySem.Spec PyProof.Rows
open PySem.Builtin.Int (intBits)
section
variable {X : Cx} {tg : Expr}
/-! ### the same rules, the written part named apart (within a comprehension) -/
theorem ixK (K : PySem.W.Frag) (h : X.K = K := by rfl) : IxR X (rIxL K) := h ▸ ix_list
theorem slK (K : PySem.W.Frag) (h : X.K = K := by rfl) : SlR X (rSlL K) := h ▸ sl_list
theorem pi_listK (K : PySem.W.Frag) {l : Expr} {tl : TE} (hl : PE X l tl) (h : X.K = K := by rfl) : PI X tg l (iList K tl) := h ▸ pi_list hl
theorem lenK (K : PySem.W.Frag) (h : X.K = K := by rfl) : CallR X (.builtin "len") (fun xs H Q => ∃ p ys, xs = [.ref p] ∧ (SqL K H p ys ∨ SqT K H p ys) ∧ Q (.int ys.length) H) := h ▸ call_len_seq
theorem listK (K : PySem.W.Frag) (h : X.K = K := by rfl) : CallR X (.type "list") (fun xs H Q => ∃ p ys, xs = [.ref p] ∧ (SqL K H p ys ∨ SqT K H p ys) ∧ ∀ l, H l = none → Q (.ref l) (upd H l (.lst ys))) := h ▸ call_list_of
theorem isinstK (K : PySem.W.Frag) (h : X.K = K := by rfl) : CallR X (.builtin "isinstance") (fun xs H Q => ∃ x t n b, xs = [x, .ty n] ∧ TyOf K H x t ∧ PySem.W.kitOne K t (.type n) = some b ∧ Q (.bl b) H) := h ▸ call_isinst
/-! ### a product of two that are not too great -/
theorem op_mulB : OpR X (binaryOp .Mult) (rI IntMulOk fun i j => .int (i * j)) := opI fun _ _ _ _ _ _ _ hc q => mul_int q hc
/-- numbers of at most two to the twentieth bits, as a script has them -/
def Bits (i : Int) : Prop := intBits i ≤ 2 ^ 20
theorem mul_bits {a b : Int} {m n : Nat} (ha : intBits a ≤ m) (hb : intBits b ≤ n) (h : m + n ≤ 134217728) : IntMulOk a b := PyProof.Rows.mulOk_of_bits ha hb h
end

/-- the head, where the script's numbers are bounded -/
theorem bits_of_lay {ns : List Int} (h : PySem.W.WData.layableAll [PySem.W.WData.list (ns.map PySem.W.WData.int)] = true) : ∀ n ∈ ns, Bits n := by
  intro n hn
  have h1 : (PySem.W.WData.list (ns.map PySem.W.WData.int)).layable = true := (PySem.W.layW_cons h).1
  have h2 : (PySem.W.WData.int n).layable = true := PySem.W.layableW_item h1 _ (List.mem_map.mpr ⟨n, hn, rfl⟩)
  exact PyData.bits_of_layable h2
end L2
namespace Att
open PySem PySem.W PySem.Calls PyProof.Rows
theorem attach_bits {l : OpenLaw} {n : Nat} {q : Program} {loose : List Str} {XP : (Str → Option Value) → Heap → Prop} {YP : World → Heap → Prop} {d : DefRec}
    (hn : l.most = some n) (hdf : d.params.defaults = [])
    (call : ∀ (w : World) (s₀ s₁ : Shared) (mg mb : Str → Option Value) (fa : Addr) (o : Obj) (pm cd doc : Value) (a : Addr) (vs : List Value) (ns : List Int),
      Ground q loose [] XP w s₀ mg mb s₁.heap → YP w s₁.heap →
      s₁.heap.get? fa = some o → o.data = .func (docDef d.name d.params d.body d.scope pm cd doc) → s₁.heap.CodeRec cd d.name → mg d.name = some (.ref fa) →
      s₁.heap.get? a = some { cls := .type "list", data := .seq vs.toArray } → IntsAre vs ns → ns.length ≤ n → (∀ n ∈ ns, L2.Bits n) → s₁.gens = #[] →
      codeAny (model l.prog w) callerA (.call (.ref fa) ⟨[.ref a], []⟩) (fun r s' => r = .ok (.ret (.bool true)) ∧ OldK s₁.heap s'.heap ∧ s'.os = s₁.os ∧ AllBare s'.gens) s₁) :
    WalkO q loose XP YP l.row.toRowW d [] (fun f vs => PySem.call f vs) := by
  intro w s₀ s₁ mg mb G Y fa o pm cd doc dV kV ho hd hcd hD hmg hg args vals as hpre hlay hrd hwl hlo
  obtain rfl : dV = .none := Dflts.none hD hdf
  obtain rfl : kV = .none := Dflts.noKw hD
  obtain ⟨a, vs, ns, rfl, rfl, hobj, hints, hlen⟩ := Att.script_of hn hpre hwl
  refine enter_call (codeAny_mono (call w s₀ s₁ mg mb fa o pm cd doc a vs ns G Y ho (fd_plain hd) hcd hmg hobj hints hlen (L2.bits_of_lay hlay) hg) fun r s' hq => ?_)
  obtain ⟨rfl, h2, h3, h4⟩ := hq
  exact ⟨.inl ⟨.bool true, .bool true, [], rfl, fun _ => rfl, .bool true, Att.post_true l _, fun _ => ⟨List.Pairwise.nil, fun _ hm => (nomatch hm)⟩⟩, h2, h3, h4⟩
end Att
namespace L2
open PySem PySem.Spec PyProof.Rows
theorem walk_bits {l : PySem.W.OpenLaw} {n k : Nat} {q : Program} {loose : List Str} {XP : (Str → Option Value) → Heap → Prop} {YP : World → Heap → Prop} {d : DefRec} {K : Params → PySem.W.Frag} {CX : CXT} {sp : PySem.W.Frag → Sp} {x : Str}
    (hn : l.most = some n) (hn2 : n ≤ sizeLine) (hdf : d.params.defaults = []) (hr : Room k callerA)
    (hY : ∀ (w : World) (h : Heap), YP w h → (K w.params).In h)
    (F : ∀ (w : World) (mg : Str → Option Value) (fa : Addr) (h : Heap), (K w.params).In h → h.Ns mainGlobals mg → mg d.name = some (.ref fa) →
      ∃ fd : FuncData, (∀ (s : Shared) (u : Value), BindsTo s fd ⟨[u], []⟩ [(x, u)]) ∧
        ∀ base : Heap, (K w.params).In base → base.Ns mainGlobals mg → FnOk l.prog w (K w.params) mg base CX k fa fd [x] (sp (K w.params)))
    (hsp : ∀ (K : PySem.W.Frag) (H : Hp) (a : Addr) (ns : List Int), ns.length ≤ n → (∀ n ∈ ns, Bits n) → Only H → SqL K H a (ns.map V.int) → sp K [.ref a] H (fun v _ => v = .bl true) fun _ _ _ => False)
    (hCX : ∀ (H : Hp) (s : Shared) (e : Value) (s' : Shared), CX [] H s (fun _ _ _ => False) e s' → False) :
    PySem.W.WalkO q loose XP YP l.row.toRowW d [] (fun f vs => PySem.call f vs) := by
  refine Att.attach_bits hn hdf fun w s₀ s₁ mg mb fa o pm cd doc a vs ns G Y ho hd hcd hmg hobj hints hlen hbits hg => ?_
  have KX := hY w _ Y
  obtain ⟨fd, hb, hF⟩ := F w mg fa _ KX G.T.g hmg
  exact law_call KX G.T.g G.T.b G.T.builtins G.T.nolimit hg hobj hints (Nat.le_trans hlen hn2) hr hF hb (fun H hO hS => hsp _ H a ns hlen hbits hO hS) fun H e s' => hCX H s₁ e s'
end L2

namespace L2
open PySem PySem.Spec PyProof.Rows
section
variable {prog : Program} {w : World} {A : Around} {E : Value → Shared → Prop} {s : Shared}
end
section
variable {X : Cx} {pos : Pos}
/-- (a, b, ..) = a list of that length -/
def gLst (K : PySem.W.Frag) (n : Nat) (t : TGs) : TG := fun v σ H Q => ∃ a xs, v = .ref a ∧ SqL K H a xs ∧ xs.length = n ∧ t xs σ H Q
end
end L2

namespace L2
open PySem PySem.Spec PyProof.Rows
section
variable {X : Cx}
/-! ### count -/
def rCount : V → List V → Hp → VK → Prop := fun x vs H Q => ∃ l xs y, x = .ref l ∧ vs = [y] ∧ H l = some (.lst xs) ∧ flatV y = true ∧ xs.all flatV = true ∧ Q (.int (xs.countP fun z => eqV z y : Nat)) H
/-! ### a list among lists -/
def rInR (K : PySem.W.Frag) (neg : Bool) : R2 := fun x y H Q => ∃ a p as xs xss, x = .ref a ∧ y = .ref p ∧ SqL K H a xs ∧ xs.all flatV = true ∧ Rows2 K H p as xss ∧ as.Nodup ∧ a ∉ as ∧
  Q (.bl (if neg then !(xss.any fun z => eqVs z xs) else xss.any fun z => eqVs z xs)) H
def eR (as : List Addr) (xss : List (List V)) (xs : List V) (u : Value) : Bool := match u with
  | .ref b => (as.zip xss).any fun p => decide (p.1 = b) && eqVs p.2 xs
  | _ => false
end
end L2

namespace L2
open PySem PySem.Spec PyProof.Rows
section
variable {X : Cx}
/-! ### least and greatest of a list -/
/-! ### len(set(xs)) -/
/-- how many unlike numbers -/
def unlike (ns : List Int) : Nat := (firstMet (fun i => ns.getD i 0) ns.length).length
def tLenSet (K : PySem.W.Frag) (te : TE) : TE := fun σ H Q => te σ H fun x H1 => ∃ (p : Addr) (ns : List Int), x = .ref p ∧ SqL K H1 p (ns.map V.int) ∧ ns.length ≤ 100 ∧ Q (.int (unlike ns)) H1
/-! ### list(range(n)) -/
def tListRange (te : TE) : TE := fun σ H Q => te σ H fun x H1 => ∃ n : Nat, x = .int n ∧ n ≤ 1000 ∧ ∀ l, H1 l = none → Q (.ref l) (upd H1 l (.lst ((List.range n).map fun i => V.int (i : Nat))))
end
/-! ### arguments by their form: nothing to be looked into -/
section
variable {X : Cx} {es : List Expr} {t : TA} {te : TE}
theorem pa_consS {a b : Expr} {p : Pos} (ha : PE X (.Subscript a b p) te) (hr : PA X es t) : PA X (.Subscript a b p :: es) (tCons te t) := pa_cons ha hr rfl
theorem pa_consB {a b : Expr} {o : Operator} {p : Pos} (ha : PE X (.BinOp a o b p) te) (hr : PA X es t) : PA X (.BinOp a o b p :: es) (tCons te t) := pa_cons ha hr rfl
theorem pa_consC {c : Const} {k : Nat} {p : Pos} (ha : PE X (.Constant c k p) te) (hr : PA X es t) : PA X (.Constant c k p :: es) (tCons te t) := pa_cons ha hr rfl
end
end L2

namespace L2
open PySem PySem.Spec PyProof.Rows
section
variable {X : Cx}
/-! ### // by a great divisor; rows that differ -/
def CDivB (i j : Int) : Prop := 0 < j ∧ j < 2 ^ 200
theorem rc_rowsN {A : Around} {pins : List (Addr × Obj)} {s : Shared} {σ : St} {H : Hp} {a b : Addr} {as bs : List Addr} {xss yss : List (List V)} (I : Inv X pins σ H s) (ha : Rows2 X.K H a as xss) (hb : Rows2 X.K H b bs yss)
    (hd : ∀ p ∈ as, p ∉ bs) (hl : xss.length = yss.length) (hu : A.units + 1 < cLine) :
    SeqAt.RcNeAt A s (.ref a) (.ref b) (!(List.range xss.length).all fun j => eqVs (xss.getD j []) (yss.getD j [])) := by
  obtain ⟨us, ru, pu, _⟩ := I.list ha.at'
  obtain ⟨vs, rv, pv, _⟩ := I.list hb.at'
  have l1 := ru.length
  have l2 := rv.length
  rw [List.length_map] at l1 l2
  have n1 := ha.len
  have n2 := hb.len
  have hsz : us.toArray.size = vs.toArray.size := by rw [List.size_toArray, List.size_toArray]; omega
  have e : xss.length = us.toArray.size := by rw [List.size_toArray]; omega
  rw [e]
  refine SeqAt.RcNeAt.lists pu.isList pv.isList hsz (Nat.lt_of_succ_lt hu) fun j h1 h2 => ?_
  rw [List.size_toArray] at h1 h2
  have j1 : j < as.length := by omega
  have j2 : j < bs.length := by omega
  have j3 : j < xss.length := by omega
  have j4 : j < yss.length := by omega
  obtain ⟨u, hu', ru'⟩ := ru.get (i := j) (x := V.ref as[j]) (by simp [j1])
  obtain ⟨v, hv', rv'⟩ := rv.get (i := j) (x := V.ref bs[j]) (by simp [j2])
  have e1 : us.toArray[j] = .ref as[j] := by
    obtain ⟨_, q⟩ := List.getElem?_eq_some_iff.mp hu'
    cases ru'
    simpa using q
  have e2 : vs.toArray[j] = .ref bs[j] := by
    obtain ⟨_, q⟩ := List.getElem?_eq_some_iff.mp hv'
    cases rv'
    simpa using q
  have g1 : xss.getD j [] = xss[j] := by simp [List.getD_eq_getElem?_getD, j3]
  have g2 : yss.getD j [] = yss[j] := by simp [List.getD_eq_getElem?_getD, j4]
  rw [e1, e2, g1, g2]
  obtain ⟨q1, f1⟩ := ha.row j as[j] xss[j] (by simp [j1]) (by simp [j3])
  obtain ⟨q2, f2⟩ := hb.row j bs[j] yss[j] (by simp [j2]) (by simp [j4])
  have ne : as[j] ≠ bs[j] := fun e => hd _ (List.getElem_mem j1) (e ▸ List.getElem_mem j2)
  exact SeqAt.EqAt.of_refs ne (rc_flat (A := A.in1) I q1 q2 f1 f2 hu).1
def rNeR (K : PySem.W.Frag) : R2 := fun x y H Q => ∃ a b as bs xss yss, x = .ref a ∧ y = .ref b ∧ Rows2 K H a as xss ∧ Rows2 K H b bs yss ∧ (∀ p ∈ as, p ∉ bs) ∧ xss.length = yss.length ∧
  Q (.bl (!(List.range xss.length).all fun j => eqVs (xss.getD j []) (yss.getD j []))) H
theorem op_neR (hu : X.A.units + 1 < cLine) : OpR X (compareOp .NotEq) (rNeR X.K) := by
  intro pins s σ H x y v u Q I rx ry h
  obtain ⟨a, b, as, bs, xss, yss, rfl, rfl, ha, hb, hd, hl, q⟩ := h
  cases rx; cases ry
  exact rc_rowsN I ha hb hd hl hu _ _ _ _ ⟨.bl _, H, I, rfl, q⟩
end
end L2

namespace L2
open PySem PySem.Spec PyProof.Rows
section
variable {X : Cx} {pins : List (Addr × Obj)} {σ : St} {H : Hp} {s : Shared} {h' : Heap}
/-! ### two lists walked at once -/
end
def Itz (K : PySem.W.Frag) (a b : Addr) : It :=
  ⟨fun i H => ∃ xs ys x y, SqL K H a xs ∧ SqL K H b ys ∧ xs[i]? = some x ∧ ys[i]? = some y,
   fun i H v H' => ∃ t x y, v = .ref t ∧ H t = none ∧ H' = upd H t (.tup [x, y]) ∧ (∀ xs, SqL K H a xs → xs[i]? = some x) ∧ ∀ ys, SqL K H b ys → ys[i]? = some y,
   fun i H => ∃ xs ys, SqL K H a xs ∧ SqL K H b ys ∧ (xs.length ≤ i ∨ ys.length ≤ i)⟩
def iZip (K : PySem.W.Frag) (ta : TA) : TI := fun σ H R => ta σ H fun vs H1 => ∃ a b, vs = [.ref a, .ref b] ∧ (∃ xs, SqL K H1 a xs) ∧ (∃ ys, SqL K H1 b ys) ∧ R (Itz K a b) H1
section
variable {X : Cx}
end
end L2

namespace L2
open PySem PySem.Spec PyProof.Rows
section
variable {X : Cx}
/-! ### index -/
def rIndex : V → List V → Hp → VK → Prop := fun x vs H Q => ∃ (l : Addr) (ns : List Int) (k : Int) (j : Nat), x = .ref l ∧ vs = [.int k] ∧ H l = some (.lst (ns.map V.int)) ∧ ns[j]? = some k ∧ (∀ m, m < j → ns[m]? ≠ some k) ∧ Q (.int (j : Nat)) H
/-! ### a list of rows and a list of numbers, compared with another such -/
def rEqH (K : PySem.W.Frag) : R2 := fun x y H Q => ∃ a b p q p' q' as bs xss yss us vs, x = .ref a ∧ y = .ref b ∧ SqL K H a [.ref p, .ref q] ∧ SqL K H b [.ref p', .ref q'] ∧ Rows2 K H p as xss ∧ Rows2 K H p' bs yss ∧ (∀ p ∈ as, p ∉ bs) ∧ xss.length = yss.length ∧
  SqL K H q us ∧ SqL K H q' vs ∧ us.all flatV = true ∧ vs.all flatV = true ∧ p ≠ p' ∧ q ≠ q' ∧ Q (.bl ((List.range xss.length).all (fun j => eqVs (xss.getD j []) (yss.getD j [])) && eqVs us vs)) H
end
end L2

namespace L2
open PySem PySem.Spec PyProof.Rows
section
variable {X : Cx}
/-! ### a tuple as a target, K named -/
/-! ### sorted -/
end
end L2

namespace L2
open PySem PySem.Spec PyProof.Rows
/-! ### min and max of a tuple -/
section
variable {prog : Program} {w : World} {A : Around} {E : Value → Shared → Prop} {s : Shared} {l : Addr} {xs : Array (Int × Tok)}
end
section
variable {X : Cx}
end
end L2

namespace L2
open PySem PySem.Spec PyProof.Rows
/-! ### leaving a frame with a traceback, whatever it says of the flight -/
theorem leaving_any {M : Model} {A : Around} {E : Value → Shared → Prop} {s : Shared} {base : Heap} {env : Env} {outer : List Env} {L e T : Addr} {oe oT : Obj} {vs ts : Array Value} {v3 : Value} {Q : Unit → Shared → Prop}
    (hfr : A.frames = some (env :: outer)) (hl : s.heap.FunFrames base (env :: outer)) (hf : env.frame = some L) (he : s.heap.get? e = some oe) (hd : oe.data = .fields vs) (h1 : vs[1]? = some (.ref T)) (hnT : base.get? T = none) (hTe : T ≠ e)
    (hT : s.heap.get? T = some oT) (hdT : oT.data = .fields ts) (h3 : ts[3]? = some v3) (hkb : base.StaysIn s.heap) (hen : base.get? e = none) (h : ∀ h', Heap.Left base (env :: outer) e oe.cls s.heap h' → Q () { s with heap := h' }) : wpAny M A (leaving env (.ref e)) Q E s := by
  have l3 := (Array.getElem?_eq_some_iff.mp h3).1
  have oth : ∀ b, b ≠ T → (s.heap.update T (Obj.mapFields (·.setIfInBounds 3 Value.none))).get? b = s.heap.get? b := fun b hb => Heap.get?_update_other _ _ (Ne.symm hb)
  have nrec : ∀ b o, s.heap.get? b = some o → (∀ vs, o.data ≠ .fields vs) → b ≠ T := fun b o hb hnf q => by
    rw [q, hT] at hb; cases hb; exact hnf ts hdT
  have nb : ∀ b o, base.get? b = some o → b ≠ T := fun b o hb q => by rw [q, hnT] at hb; cases hb
  unfold leaving noteFrame
  simp only [hf]
  refine wpAny_bind (wpAny_bind (wpAny_field he hd h1 ?_))
  rw [if_pos (show (Value.ref T != Value.none) = true from by simp)]
  refine wpAny_bind (wpAny_field hT hdT h3 ?_)
  by_cases hv : (v3 == rawInt L) = true
  · rw [if_pos hv]
    refine wpAny_pure ?_
    unfold setFlight
    refine wpAny_bind (wpAny_field he hd h1 ?_)
    rw [if_pos (show (Value.ref T != Value.none) = true from by simp)]
    refine wpAny_setField hT hdT l3 (h _ ⟨fun b o hb => (oth b (nb b o hb)).trans (hkb b o hb), hl.of_keeps fun b o hb hnf => ⟨o, (oth b (nrec b o hb hnf)).trans hb, rfl⟩, ?_, fun b o hb hnf => ⟨o.slots, (oth b (nrec b o hb hnf)).trans hb⟩⟩)
    have hd3 := Obj.data_mapFields hdT (·.setIfInBounds 3 Value.none)
    exact ⟨oe, vs, T, _, _, (oth e (Ne.symm hTe)).trans he, rfl, hd, h1, hnT, hTe, Heap.get?_update_self _ hT (Obj.isFreed_of_fields hd3), hd3, by simp [l3]⟩
  · rw [if_neg hv]
    refine wpAny_bind (wpAny_setField hT hdT l3 ?_)
    exact wpAny_newEntry hfr (hl.of_keeps fun b o hb hnf => ⟨o, (oth b (nrec b o hb hnf)).trans hb, rfl⟩) hf ((oth e (Ne.symm hTe)).trans he) (fun b o hb => (oth b (nb b o hb)).trans (hkb b o hb)) hen hd (Array.getElem?_eq_some_iff.mp h1).1
      fun h' ⟨x1, x2, x3, x4⟩ => h h' ⟨x1, x2, x3, fun b o hb hnf => x4 b o ((oth b (nrec b o hb hnf)).trans hb) hnf⟩
/-! ### exceptions: what flies -/
theorem ObjOk.some_at {P : Program} {w : World} {H : Hp} {h : Heap} {a : Addr} {o : HO} (x : ObjOk P w H h a o) : ∃ ob, h.get? a = some ob := by
  cases o with
  | lst xs => obtain ⟨_, _, _, _, e⟩ := x; exact ⟨_, e⟩
  | tup xs => obtain ⟨_, _, _, ob, e, _⟩ := x; exact ⟨_, e⟩
  | dK kvs => obtain ⟨_, _, _, _, o, _, _, e, _⟩ := x; exact ⟨_, e⟩
  | dT kvs => obtain ⟨_, _, _, _, o, _, _, e, _⟩ := x; exact ⟨_, e⟩
  | set S n => obtain ⟨o, _, _, _, e, _⟩ := x; exact ⟨_, e⟩
  | ins C dx fs => obtain ⟨_, _, _, e, _⟩ := x; exact ⟨_, e⟩
  | own y => exact x
  | xd fs => obtain ⟨_, ⟨_, _, _, e, _⟩, _⟩ := x; exact ⟨_, e⟩
  | rng lo hi => obtain ⟨_, _, _, e⟩ := x; exact ⟨_, e⟩
  | frz ob u => obtain ⟨e, _⟩ := x; exact ⟨_, e⟩
  | tbl ps => exact ⟨_, x⟩
  | met f y => exact ⟨_, x⟩
  | ext φ => exact x.2.1
theorem HOk.untracked {P : Program} {w : World} {H : Hp} {h : Heap} {a : Addr} (x : HOk P w H h) (e : h.get? a = none) : H a = none := by
  cases q : H a with
  | none => rfl
  | some u => obtain ⟨ob, e'⟩ := (x a u q).some_at; rw [e] at e'; cases e'

/-- its second field: nothing yet, or a traceback of ours -/
def Back (h0 : Heap) (H : Hp) (h : Heap) (x : Addr) (v : Value) : Prop :=
  v = .none ∨ ∃ T oT ts v3, v = .ref T ∧ T ≠ x ∧ h0.get? T = none ∧ H T = none ∧ h.get? T = some oT ∧ oT.data = .fields ts ∧ ts[3]? = some v3
/-- an exception of the class C at x, new since h0, not tracked -/
def Fly (h0 : Heap) (H : Hp) (h : Heap) (x : Addr) (C : Value) : Prop :=
  ∃ oe vs v, h0.get? x = none ∧ H x = none ∧ h.get? x = some oe ∧ oe.cls = C ∧ oe.data = .fields vs ∧ vs[1]? = some v ∧ Back h0 H h x v
/-- .. that has left a frame -/
def FlyT (h0 : Heap) (H : Hp) (h : Heap) (x : Addr) (C : Value) : Prop :=
  ∃ oe vs T oT ts, h0.get? x = none ∧ H x = none ∧ h.get? x = some oe ∧ oe.cls = C ∧ oe.data = .fields vs ∧ vs[1]? = some (.ref T) ∧ T ≠ x ∧ h0.get? T = none ∧ H T = none ∧ h.get? T = some oT ∧ oT.data = .fields ts ∧ ts[3]? = some .none
theorem FlyT.fly {h0 : Heap} {H : Hp} {h : Heap} {x : Addr} {C : Value} (f : FlyT h0 H h x C) : Fly h0 H h x C := by
  obtain ⟨oe, vs, T, oT, ts, a, b, c, d, e, g, q1, q2, q3, q4, q5, q6⟩ := f
  exact ⟨oe, vs, .ref T, a, b, c, d, e, g, .inr ⟨T, oT, ts, .none, rfl, q1, q2, q3, q4, q5, q6⟩⟩
/-- what is wanted of an exception that leaves a call -/
def CXE (P : Program) (w : World) : CXT := fun outer H s E e s' => ∃ x C H', e = .ref x ∧ s'.os = s.os ∧ AllBare s'.gens ∧ Un (frs outer) [] H H' s.heap s'.heap ∧ HOk P w H' s'.heap ∧ FlyT s.heap H' s'.heap x C ∧ E C none H'
theorem Fly.older {h0 h1 : Heap} {H : Hp} {h : Heap} {x : Addr} {C : Value} (f : Fly h1 H h x C) (k : ∀ b, h1.get? b = none → h0.get? b = none) : Fly h0 H h x C := by
  obtain ⟨oe, vs, v, a, b, c, d, e, g, q⟩ := f
  refine ⟨oe, vs, v, k _ a, b, c, d, e, g, ?_⟩
  rcases q with q | ⟨T, oT, ts, v3, q1, q2, q3, q⟩
  · exact .inl q
  · exact .inr ⟨T, oT, ts, v3, q1, q2, k _ q3, q⟩
/-- a body's exception goes on to what the body wants -/
def XE (X : Cx) (E : XK) : Prop := ∀ (pins : List (Addr × Obj)) (σ : St) (H : Hp) (s : Shared) (x : Addr) (C : Value), Inv X pins σ H s → Fly X.s₀.heap H s.heap x C → E C none H → X.xe (.ref x) s
theorem Inv.gone {X : Cx} {pins : List (Addr × Obj)} {σ : St} {H : Hp} {s : Shared} (I : Inv X pins σ H s) (hx : X.ex = []) {b : Addr} (e : s.heap.get? b = none) : X.s₀.heap.get? b = none := by
  cases q : X.s₀.heap.get? b with
  | none => rfl
  | some o =>
    obtain ⟨o', z⟩ := I.base.there b o q (by rw [hx]; simp)
    rw [e] at z; cases z
theorem XE.passes {X : Cx} {E : XK} (x : XE X E) (hx : X.ex = []) : Passes (CXE X.prog X.w) X E := by
  intro pins σ H s e s' I h
  obtain ⟨a, C, H', rfl, os, bare, un, hok, f, q⟩ := h
  have I' := I.call' (s' := s') (ch := []) os un hok bare (fun b z => absurd z (by simp))
  exact x pins σ H' s' a C I' (f.fly.older fun b e => I.gone hx e) q

section
variable {P : Program} {w : World} {K : PySem.W.Frag} {mg : Str → Option Value} {base : Heap} {N : List Str} {qual : Str} {scope : Scope} {f : Addr} {cd : Value} {A : Around} {outer : List Env} {s : Shared} {H : Hp} {E : XK}
/-- an exception leaves a def's frame -/
theorem XE.of : XE (cxOf (CXE P w) P w K mg base N qual scope f cd A outer s H E) E := by
  intro pins σ H1 s1 x C I fl q
  generalize hX : cxOf (CXE P w) P w K mg base N qual scope f cd A outer s H E = X at I fl
  have hxe : X.xe = fun e s' => wpAny (model P w) X.A (leaving X.env e) (fun _ s'' => CXE P w outer H s E e s'') (fun e' s'' => CXE P w outer H s E e' s'') s' := by subst hX; rfl
  have hfr : X.A.frames = some (X.env :: X.outer) := by rw [I.ok.frames]; subst hX; rfl
  have hst : X.stack = X.env :: X.outer := by subst hX; rfl
  have hlf : X.env.frame = some X.env.locals := by subst hX; rfl
  have hex : X.ex = [] := by subst hX; rfl
  have ho : X.outer = outer := by subst hX; rfl
  have hs0 : X.s₀ = s := by subst hX; rfl
  have hH0 : X.H₀ = H := by subst hX; rfl
  have hP : X.prog = P := by subst hX; rfl
  have hw : X.w = w := by subst hX; rfl
  clear hX
  subst ho hs0 hH0 hP hw
  rw [hxe]
  obtain ⟨oe, vs, v, n0, nH, he, hc, hd, h1, bk⟩ := fl
  -- what may change: x, its traceback, the frames
  have core : ∀ (hid : List Addr) (h' : Heap), (∀ b ∈ hid, b = x ∨ (X.s₀.heap.get? b = none ∧ H1 b = none) ∨ b ∈ frs X.stack) → Heap.Left (PySem.W.hideAll s1.heap hid) (X.env :: X.outer) x C s1.heap h' →
      CXE X.prog X.w X.outer X.H₀ X.s₀ E (.ref x) { s1 with heap := h' } := by
    intro hid h' hh hL
    obtain ⟨l1, l2, l3, l4⟩ := hL
    have unhid : ∀ b, b ∉ hid → ∀ o, s1.heap.get? b = some o → h'.get? b = some o := fun b nb o e => l1 b o (PySem.W.hideAll_get _ e nb)
    have old : ∀ b o, X.s₀.heap.get? b = some o → b ∉ X.fs → b ∉ hid := fun b o e nb hb => by
      rcases hh b hb with rfl | ⟨z, _⟩ | z
      · rw [n0] at e; cases e
      · rw [e] at z; cases z
      · rcases List.mem_cons.mp (I.stkSub b z) with z | z
        · rw [z] at e
          exact absurd (Heap.lt_size e) (Nat.not_lt.mpr I.ok.above)
        · exact nb z
    have trk : ∀ b u, H1 b = some u → b ∉ hid := fun b u e hb => by
      rcases hh b hb with rfl | ⟨_, z⟩ | z
      · rw [nH] at e; cases e
      · rw [z] at e; cases e
      · rw [I.stkFree b z] at e; cases e
    have frm : ∀ b ∈ X.fs, ∃ o, s1.heap.get? b = some o ∧ (∀ vs, o.data ≠ .fields vs) := fun b hb => (I.funs.mem hb).2
    refine ⟨x, C, H1, rfl, I.os, I.bare, ⟨fun b o e n nb _ => ?_, fun b o e n nb _ => ?_, fun b o e n _ => ?_, fun b o e _ => ?_, I.base.tups, I.base.frzs, I.base.tbls⟩, fun a o e => ?_, ?_, q⟩
    · exact unhid b (old b o e nb) o (I.base.keep b o e n nb (by rw [hex]; simp))
    · obtain ⟨sl, z⟩ := I.base.slot b o e n nb (by rw [hex]; simp)
      obtain ⟨o', z', nd⟩ := frm b nb
      rw [z] at z'; cases z'
      obtain ⟨sl', z2⟩ := l4 b _ z nd
      exact ⟨sl', z2⟩
    · exact I.base.free b o e n (by rw [hex]; simp)
    · by_cases hb : b ∈ X.fs
      · obtain ⟨o', z', nd⟩ := frm b hb
        obtain ⟨sl', z2⟩ := l4 b _ z' nd
        exact ⟨_, z2⟩
      · obtain ⟨o', z'⟩ := I.base.there b o e (by rw [hex]; simp)
        exact ⟨o', unhid b (old b o e hb) o' z'⟩
    · refine (I.hok a o e).stay (fun b u hb z => unhid b ?_ u z) (fun _ z => z) fun _ _ z => z
      rcases hb with rfl | hb
      · exact trk _ _ e
      · exact trk _ _ hb
    · obtain ⟨oe', vs', T, oT, ts, t1, t2, t3, t4, t5, t6, t7, t8, t9⟩ := l3
      have hfree : s1.heap.get? T = none ∨ (X.s₀.heap.get? T = none ∧ H1 T = none) := by
        by_cases hT : T ∈ hid
        · rcases hh T hT with z | z | z
          · exact absurd z t6
          · exact .inr z
          · have hz : T ∈ (X.env :: X.outer).filterMap (·.frame) := by rw [← hst]; exact z
            obtain ⟨_, o, z1, z2⟩ := l2.mem hz
            rw [t7] at z1; cases z1
            exact absurd t8 (z2 _)
        · cases z : s1.heap.get? T with
          | none => exact .inl rfl
          | some o => rw [PySem.W.hideAll_get _ z hT] at t5; cases t5
      refine ⟨oe', vs', T, oT, ts, n0, nH, t1, t2, t3, t4, t6, ?_, ?_, t7, t8, t9⟩
      · rcases hfree with z | z
        · exact I.gone hex z
        · exact z.1
      · rcases hfree with z | z
        · exact I.hok.untracked z
        · exact z.2
  have hin : ∀ hid : List Addr, (∀ b ∈ frs X.stack, b ∈ hid) → s1.heap.FunFrames (PySem.W.hideAll s1.heap hid) (X.env :: X.outer) := fun hid hs => by
    refine PySem.W.funFrames_hide (hst ▸ I.stack) fun env hm a ha => hs a ?_
    rw [hst]
    exact List.mem_filterMap.mpr ⟨env, hm, ha⟩
  subst hc
  rcases bk with rfl | ⟨T, oT, ts, v3, rfl, b1, b2, b3, b4, b5, b6⟩
  · refine wpAny_leaving_first (base := PySem.W.hideAll s1.heap (x :: frs X.stack)) hfr (hin _ fun b hb => .tail _ hb) hlf he (fun b o z => PySem.W.of_hideAll _ z) (PySem.W.hideAll_none _ (.head _)) hd h1 fun h' hL => ?_
    exact core _ h' (fun b hb => (List.mem_cons.mp hb).elim .inl fun z => .inr (.inr z)) hL
  · refine leaving_any (base := PySem.W.hideAll s1.heap (x :: T :: frs X.stack)) hfr (hin _ fun b hb => .tail _ (.tail _ hb)) hlf he hd h1 (PySem.W.hideAll_none _ (.tail _ (.head _))) b1 b4 b5 b6
      (fun b o z => PySem.W.of_hideAll _ z) (PySem.W.hideAll_none _ (.head _)) fun h' hL => ?_
    refine core _ h' (fun b hb => ?_) hL
    rcases List.mem_cons.mp hb with z | z
    · exact .inl z
    · rcases List.mem_cons.mp z with rfl | z
      · exact .inr (.inl ⟨b2, b3⟩)
      · exact .inr (.inr z)
end
end L2

namespace L2
open PySem PySem.Spec PyProof.Rows
/-! ### raise -/
abbrev veB : List Value := [.type "ValueError", .type "Exception", .type "BaseException", .type "object"]
def XCls (K : PySem.W.Frag) (C : Addr) : Prop := PySem.W.excIn K C veB "ValueError.__new__" = true
theorem XCls.obj {K : PySem.W.Frag} {h : Heap} {C : Addr} (x : XCls K C) (X : K.In h) :
    ∃ bm Ns nm qn bs hdc sn sb ab cl dd k0 k1 k2 k3 k5 m, h.get? C = some (excClassObj nm qn C Ns bs bm hdc sn sb ab cl dd k0 k1 k2 k3 k5 "ValueError.__new__") ∧ h.Ns Ns m ∧ m "__init__" = none ∧ OwnTail h veB bm := by
  unfold XCls PySem.W.excIn at x
  cases e : K.lookup C with
  | none => rw [e] at x; cases x
  | some ob =>
    have hC := X _ _ e
    rw [e] at x
    split at x
    · rename_i oe dd cd sl he
      cases he
      split at x
      · rename_i C' bm k0 k1 k2 k3 n k5 hm hs
        obtain ⟨nm, bs, mro, ns, qn, hd, sn, sb, ab, cl, del⟩ := cd
        obtain ⟨l⟩ := sl
        dsimp only at hm hs x
        subst hm hs
        simp only [Bool.and_eq_true, beq_iff_eq, Bool.not_eq_true'] at x
        obtain ⟨⟨⟨⟨⟨y1, y2⟩, y3⟩, y4⟩, y5⟩, y6⟩ := x
        subst y1 y2 y3
        exact ⟨bm, ns, nm, qn, bs, hd, sn, sb, ab, cl, dd, k0, k1, k2, k3, k5, _, hC, .of_isNs (PySem.W.isNs_of_in X y5), PySem.W.nsMap_none_of_in X y5 y6, PySem.W.tail_of_in X y4⟩
      · cases x
    · cases x

def tRaise (E : XK) (C : Addr) (t : TA) : TS := fun _ σ H => t σ H fun us H1 => us.length ≤ 1000 ∧ E (.ref C) none H1
end L2

namespace L2
open PySem PySem.Spec PyProof.Rows
/-! ### try: f(..) except C as e: y = e -/
/-- within an except suite -/
abbrev Cx.suite (X : Cx) (x : Addr) : Cx := { X with A := X.A.mark (some (.ref x)), calm := false, xe := fun _ _ => False }
section
variable {X : Cx} {pins : List (Addr × Obj)} {σ : St} {H : Hp} {s : Shared} {x : Addr}
theorem Inv.suite (I : Inv X pins σ H s) (x : Addr) : Inv (X.suite x) pins σ H s :=
  have ok := I.ok
  ⟨⟨ok.mod, ok.kind, ok.glob, ok.blt, ok.above, ok.inj, ok.has, ok.cab, (fun z => nomatch z), ok.frames, ok.stk, ok.exf, ok.bs, ok.bsz, ok.noex, ok.exfs, ok.funs, ok.frf⟩, I.os, I.bare, I.base, I.loc, I.cell, I.free, I.freeC, I.pin, I.hok, I.len⟩
end
/-- an exception that is kept, by its class -/
def exO (x : Addr) (C : Value) : HO := .ext fun h => ∃ o vs, h.get? x = some o ∧ o.cls = C ∧ o.data = .fields vs
def tTry (K : PySem.W.Frag) (CT : Addr) (i j : Nat) (sp : Sp) (dvs : List V) (t : TA) : TS := fun D σ H => t σ H fun vs H1 => sp (vs ++ dvs) H1 (fun _ H2 => D.nx σ H2)
  (fun C _ H2 => PySem.W.exmOne K C (.ref CT) = some true ∧ ∀ x, H2 x = none → D.nx (((σ.set i (some (.ref x))).set j (some (.ref x))).set i none) (upd H2 x (exO x C)))
end L2

namespace L2
open PySem PySem.Spec PyProof.Rows PySem.W Builtin Builtin.ObjectAttr Builtin.Getset_descriptor
/-! ### isinstance of an exception that is kept -/
/-- what is asked of its class -/
structure XIs (K : PySem.W.Frag) (C : Addr) : Prop where
  ga : PySem.W.findIn K (.ref C) "__getattribute__" = some (some (.builtin "BaseException.__getattribute__"))
  gn : PySem.W.findIn K (.ref C) "__getattr__" = some none
  cl : PySem.W.findIn K (.ref C) "__class__" = some (some (.builtin "object.__class__"))
  mo : PySem.W.mroIn K C (.type "object") = some true
  mb : PySem.W.mroIn K C (.type "BaseException") = some true
section
variable {prog : Program} {w : World} {A : Around} {E : Value → Shared → Prop} {hh : Heap} {g : Array GenState} {dr : Drawn} {t : Nat} {os : OsState} {x C : Addr} {ob : Obj} {K : PySem.W.Frag}
end
section
variable {X : Cx}
/-- isinstance(e, C), isinstance(e, (C, ..)) -/
def rIsx (K : Frag) : List V → Hp → VK → Prop := fun xs H Q => ∃ (x C : Addr) (y : V) (b : Bool), xs = [.ref x, y] ∧ H x = some (exO x (.ref C)) ∧ XIs K C ∧
  ((∃ D, y = .ref D ∧ kitOne K (.ref C) (.ref D) = some b) ∨ (∃ n, y = .ty n ∧ kitOne K (.ref C) (.type n) = some b) ∨ (∃ (p : Addr) (ds : List Addr), y = .ref p ∧ H p = some (.tup (ds.map V.ref)) ∧ kitAny K (.ref C) (ds.map Value.ref) = some b)) ∧ Q (.bl b) H
end
end L2

namespace L2
open PySem PySem.Spec PyProof.Rows
/-! ### promises put together -/
section
variable {P : Program} {w : World} {K : PySem.W.Frag} {mg : Str → Option Value} {base : Heap} {k : Nat} {f : Addr} {fd : FuncData} {ps : List Str} {sp sp' : Sp} {CX : CXT}
theorem FnOk.or (F : FnOk P w K mg base CX k f fd ps sp) (G : FnOk P w K mg base CX k f fd ps sp') : FnOk P w K mg base CX k f fd ps (fun vs H Q E => sp vs H Q E ∨ sp' vs H Q E) :=
  ⟨fun vs H Q E h => h.elim (F.len vs H Q E) (G.len vs H Q E), fun A outer s H args us vs Q E hr e0 hb r h => h.elim (F.run A outer s H args us vs Q E hr e0 hb r) (G.run A outer s H args us vs Q E hr e0 hb r)⟩
end
theorem PS.nox {X : Cx} {st : Stmt} {t : TS} (h : PS X.nox st t) : PS X st t := fun pins s σ H D I hw =>
  wpAny_mono (h pins s σ H D (I.wish _) hw) (fun _ _ q => q.unwish) fun _ _ z => False.elim z
/-- what is known of a refusal's class -/
structure Err (K : PySem.W.Frag) (mg : Str → Option Value) (x : Str) (C : Addr) : Prop where
  mg : mg x = some (.ref C)
  cls : XCls K C
  is : XIs K C
end L2
namespace L2
open PySem PySem.Spec PyProof.Rows
/-! ### index of any flat value -/
section
variable {X : Cx}
def rIndexV : V → List V → Hp → VK → Prop := fun x vs H Q => ∃ (l : Addr) (xs : List V) (y z : V) (j : Nat), x = .ref l ∧ vs = [y] ∧ H l = some (.lst xs) ∧ flatV y = true ∧ xs.all flatV = true ∧ xs[j]? = some z ∧ eqV z y = true ∧ (∀ m u, m < j → xs[m]? = some u → eqV u y = false) ∧ Q (.int (j : Nat)) H
end
/-- a name of a class, no more -/
structure Nam (mg : Str → Option Value) (x : Str) (C : Addr) : Prop where
  mg : mg x = some (.ref C)
end L2

namespace L2
open PySem PySem.Spec PyProof.Rows
section
variable {X : Cx}
/-! ### rows unpacked in a comprehension -/
end
end L2

namespace Tw
open PySem L2
section
variable {K : PySem.W.Frag}
/-! ### comprehensions that tell a value of each item -/
theorem comp_map {α : Type} {a D : Addr} {xs : List α} {el fv : α → V} {te : TE} {σ : St} {H : Hp} {Q : Hp → Prop} (ha : H a = some (.lst (xs.map el))) (hD : H D = none) (hl : xs.length ≤ 1000)
    (hs : ∀ (i : Nat) (x : α), xs[i]? = some x → ∀ (H4 : Hp) (Qv : VK), Same H H4 → (∀ H5, Same H4 H5 → Qv (fv x) H5) → te (σ ++ [some (el x)]) H4 Qv)
    (hq : ∀ H2, H2 D = some (.lst (xs.map fv)) → Same H H2 → Q H2) :
    ∃ W : Nat → Nat → List V → Hp → Prop, (∃ m, W 0 m [] (upd H D (.lst []))) ∧ ∀ i m ys H2, W i m ys H2 →
      H2 D = some (.lst ys) ∧ (((Itl K a).stop i H2 ∧ Q H2) ∨ ((Itl K a).go i H2 ∧ ∃ N : List V → Hp → Prop, (∀ ys' H', N ys' H' → ∃ m', m' < m ∧ W (i + 1) m' ys' H') ∧ ∀ y H3, (Itl K a).yld i H2 y H3 →
        tYes (σ ++ [some y]) H3 fun c H4 => if c = true then te (σ ++ [some y]) H4 fun z H5 => H5 D = some (.lst ys) ∧ ys.length < sizeLine ∧ N (ys ++ [z]) (upd H5 D (.lst (ys ++ [z]))) else N ys H4)) := by
  refine comp_list (K := K) (a := a) (xs := xs.map el) (fun i ys H2 => ys = (xs.take i).map fv ∧ H2 D = some (.lst ys) ∧ Same H H2) (fun _ _ _ h => ⟨h.2.1, SqL.of (h.2.2 _ _ ha)⟩) ⟨rfl, upd_same, same_upd hD⟩ ?_ ?_
  · rintro i y ys H2 hi ⟨rfl, hD2, s2⟩
    rw [List.getElem?_map] at hi
    cases e : xs[i]? with
    | none => rw [e] at hi; cases hi
    | some x =>
      rw [e] at hi
      cases hi
      have hil := (List.getElem?_eq_some_iff.mp e).1
      refine yesI (hs i x e H2 _ s2 fun H5 s5 => ⟨s5 _ _ hD2, by rw [List.length_map, List.length_take]; exact small1000 (by omega), by rw [List.take_add_one, e, List.map_append]; rfl, upd_same, fun b o e => by rw [upd_ne (ne_of_none e hD)]; exact s5 b o (s2 b o e)⟩)
  · rintro ys H2 ⟨rfl, hD2, s2⟩
    rw [List.take_of_length_le (by rw [List.length_map]; exact Nat.le_refl _)] at hD2
    exact hq H2 hD2 s2
end
end Tw

namespace L2
open PySem PySem.Spec PyProof.Rows
section
variable {X : Cx}
/-! ### l[i] by values, any -/
def rGetL (K : PySem.W.Frag) : V → V → Hp → VK → Prop := fun x y H Q => ∃ p xs i v, x = .ref p ∧ y = .int i ∧ 0 ≤ i ∧ SqL K H p xs ∧ atI xs i = some v ∧ Q v H
end
end L2
namespace Tw
open PySem L2
section
variable {K : PySem.W.Frag}
end
end Tw

namespace L2
open PySem PySem.Spec PyProof.Rows
section
variable {X : Cx}
def rNeH (K : PySem.W.Frag) : R2 := fun x y H Q => ∃ a b p q p' q' as bs xss yss us vs, x = .ref a ∧ y = .ref b ∧ SqL K H a [.ref p, .ref q] ∧ SqL K H b [.ref p', .ref q'] ∧ Rows2 K H p as xss ∧ Rows2 K H p' bs yss ∧ (∀ p ∈ as, p ∉ bs) ∧ xss.length = yss.length ∧
  SqL K H q us ∧ SqL K H q' vs ∧ us.all flatV = true ∧ vs.all flatV = true ∧ p ≠ p' ∧ q ≠ q' ∧ Q (.bl (!((List.range xss.length).all (fun j => eqVs (xss.getD j []) (yss.getD j [])) && eqVs us vs))) H
/-! ### l == [] -/
def rEqNil (K : PySem.W.Frag) : R2 := fun x y H Q => ∃ a b xs, x = .ref a ∧ y = .ref b ∧ SqL K H a xs ∧ SqL K H b [] ∧ Q (.bl (decide (xs = []))) H
end
end L2

namespace L2
open PySem PySem.Spec PyProof.Rows
section
variable {X : Cx}
/-! ### the least key of a dict of numbers -/
end
end L2

namespace L2
open PySem PySem.Spec PyProof.Rows
open PySem.Builtin PySem.Builtin.Str
section
variable {X : Cx}
/-! ### lists of texts -/
theorem vals_str : ∀ {l : List (Str × Tok)} {ys : List Str}, l.map (·.1) = ys → Vals (ys.map V.str) (strValues l)
  | [], _, e => by subst e; exact .nil
  | p :: l, _, e => by subst e; exact .cons ⟨p.2, rfl⟩ (vals_str rfl)
theorem str_vals : ∀ {ys : List Str} {its : List Value}, Vals (ys.map V.str) its → ∃ l : List (Str × Tok), its = strValues l ∧ l.map (·.1) = ys
  | [], _, .nil => ⟨[], rfl, rfl⟩
  | y :: ys, _, .cons h r => by
    obtain ⟨t, e⟩ := h
    obtain ⟨l, e1, e2⟩ := str_vals r
    subst e e1 e2
    exact ⟨(y, t) :: l, rfl, rfl⟩
/-! ### join -/
def rJoin (K : PySem.W.Frag) : V → List V → Hp → VK → Prop := fun x vs H Q => ∃ a p ys, x = .str a ∧ vs = [.ref p] ∧ SqL K H p (ys.map V.str) ∧ JoinOk a ys = true ∧ Q (.str (Str.join a ys)) H
theorem mt_joinK (K : PySem.W.Frag) (hK : X.K = K := by rfl) : MtM X "str.join" (rJoin K) := by
  subst hK
  intro pins s σ H x vs v us Q I rx rv h
  obtain ⟨a, p, ys, rfl, rfl, hp, ok, q⟩ := h
  obtain ⟨t, rfl⟩ := rx
  obtain ⟨u, rfl, ru⟩ := rv.one
  cases ru
  obtain ⟨its, r, pl, _⟩ := I.list hp
  obtain ⟨l, rfl, e⟩ := str_vals r
  refine SC.join pl.isList e ok fun t' k => ⟨.str (Str.join a ys), H, I.tok _, ⟨t', ?_⟩, q⟩
  rw [show Txt.join a ys = Str.join a ys from StrLaws.glued_eq_join a ys]
/-! ### split -/
def rSplit : V → List V → Hp → VK → Prop := fun x vs H Q => ∃ a b, x = .str a ∧ vs = [.str b] ∧ (b.length == 0) = false ∧ a.length + 2 ≤ sizeLine ∧ ∀ l, H l = none → Q (.ref l) (upd H l (.lst ((Txt.split a b).map V.str)))
theorem mt_split : MtM X "str.split" rSplit := by
  intro pins s σ H x vs v us Q I rx rv h
  obtain ⟨a, b, rfl, rfl, hb, hz, q⟩ := h
  obtain ⟨t, rfl⟩ := rx
  obtain ⟨u, rfl, ru⟩ := rv.one
  obtain ⟨t', rfl⟩ := ru
  have hsp := split_le a b
  cases h1 : (decide (a.length < b.length) || decide (strKind a < strKind b))
  · cases hf : (occurrences a b 0 a.length (a.length + 1)).isEmpty
    · have e : Txt.split a b = partsBetween a (occurrences a b 0 a.length (a.length + 1)) b.length := (if_neg (ne_true_of_eq_false h1)).trans (if_neg (ne_true_of_eq_false hf))
      rw [e] at hsp q
      refine call_meets F.slot_str_split (typeIs_str _ _ _) F.entry_str_split (F.args_str_split_2 _ _) (meets_str_split_sep a b t t' h1 hb hf (by omega) (by omega)) ?_
      rw [strsFrom_eq]
      exact ⟨.ref s.heap.objs.size, _, I.lnew (vals_str (numbered_texts _ _)) (by rw [List.length_map]; omega), rfl, q _ I.fresh⟩
    · have e : Txt.split a b = [a] := (if_neg (ne_true_of_eq_false h1)).trans (if_pos hf)
      rw [e] at q
      exact call_meets F.slot_str_split (typeIs_str _ _ _) F.entry_str_split (F.args_str_split_2 _ _) (meets_str_split_not_found a b t t' h1 hb hf)
        ⟨.ref s.heap.objs.size, _, I.lnew (ys := [V.str a]) (t' := s.toks) (its := [.str a t]) (.cons ⟨t, rfl⟩ .nil) (by show 1 ≤ sizeLine; omega), rfl, q _ I.fresh⟩
  · have e : Txt.split a b = [a] := if_pos h1
    rw [e] at q
    exact call_meets F.slot_str_split (typeIs_str _ _ _) F.entry_str_split (F.args_str_split_2 _ _) (meets_str_split_cannot_occur a b t t' h1)
      ⟨.ref s.heap.objs.size, _, I.lnew (ys := [V.str a]) (t' := s.toks) (its := [.str a t]) (.cons ⟨t, rfl⟩ .nil) (by show 1 ≤ sizeLine; omega), rfl, q _ I.fresh⟩
/-! ### startswith -/
def rStarts : V → List V → Hp → VK → Prop := fun x vs H Q => ∃ a b, x = .str a ∧ vs = [.str b] ∧ Q (.bl (Txt.startswith a b)) H
theorem mt_startswith : MtM X "str.startswith" rStarts := by
  intro pins s σ H x vs v us Q I rx rv h
  obtain ⟨a, b, rfl, rfl, q⟩ := h
  obtain ⟨t, rfl⟩ := rx
  obtain ⟨u, rfl, ru⟩ := rv.one
  obtain ⟨t', rfl⟩ := ru
  exact SC.startswith ⟨.bl _, H, I, rfl, q⟩
/-! ### int of a text -/
theorem call_intS : CallR X (.type "int") (fun xs H Q => ∃ a n, xs = [.str a] ∧ PySem.intText? a = some n ∧ a.length ≤ 640 ∧ Q (.int n) H) := by
  intro pins s σ H xs us Q I r h
  obtain ⟨a, n, rfl, hn, hl, q⟩ := h
  obtain ⟨u, rfl, t, rfl⟩ := vals1 r
  exact PySem.W.KIN.call_text hn hl ⟨.int n, H, I.tok _, ⟨_, rfl⟩, q⟩
/-! ### a text from a place on -/
def rSlS : V → Option Int → Option Int → Hp → VK → Prop := fun x lo hi H Q => ∃ (a : Str) (i : Nat), x = .str a ∧ lo = some (i : Int) ∧ hi = none ∧ i ≤ a.length ∧ a.length ≤ sizeLine ∧ Q (.str ⟨(a.cps.toList.drop i).toArray⟩) H
theorem sl_str : SlR X rSlS := by
  intro pins s σ H x v vl vu lo hi sl Q I rx hs pl pu h
  obtain ⟨a, i, rfl, rfl, rfl, hi, hz, q⟩ := h
  obtain ⟨t, rfl⟩ := rx
  cases pl with
  | int _ tl =>
  cases pu
  have la : a.cps.toList.length = a.length := Array.length_toList
  refine ⟨"str", _, F.slot_str_getitem.lookup, typeIs_str _ _ _, ?_⟩
  have e : StrLaws.sliceText a (some (i : Int)) none = ⟨(a.cps.toList.drop i).toArray⟩ := by
    rw [StrLaws.sliceText_from ⟨by omega, by omega⟩, Int.toNat_natCast, List.take_of_length_le (by rw [List.length_drop]; omega)]
  refine wpAny_getItem_str_slice (l := some ((i : Int), tl)) (u := none) (st := none) hs rfl ?_
  rw [← e] at q
  unfold StrLaws.sliceText at q
  show (if ((1 : Int) == 1 && (strSliceIndices (some (i : Int)) none 1 a.length).length == a.length) = true then Made.val (.str a t) else Made.str ⟨((strSliceIndices (some (i : Int)) none 1 a.length).filterMap (a.cps[·]?)).toArray⟩).post (EP X pins σ Q) s
  by_cases hc : ((1 : Int) == 1 && (strSliceIndices (some (i : Int)) none 1 a.length).length == a.length) = true
  · rw [if_pos hc] at q
    rw [if_pos hc]
    exact ⟨.str a, H, I, ⟨t, rfl⟩, q⟩
  · rw [if_neg hc] at q
    rw [if_neg hc]
    have hl : (⟨((strSliceIndices (some (i : Int)) none 1 a.length).filterMap (a.cps[·]?)).toArray⟩ : Str).length ≤ sizeLine := by
      have e2 : StrLaws.sliceText a (some (i : Int)) none = ⟨((strSliceIndices (some (i : Int)) none 1 a.length).filterMap (a.cps[·]?)).toArray⟩ := by unfold StrLaws.sliceText; rw [if_neg hc]
      rw [← e2, e]
      show (a.cps.toList.drop i).toArray.size ≤ sizeLine
      rw [List.size_toArray, List.length_drop]; omega
    exact ⟨hl, .str _, H, I.tok _, ⟨_, rfl⟩, q⟩
/-! ### the signs of a text, walked -/
def Its (x : Str) : It := ⟨fun i _ => i < x.cps.toList.length, fun i H y H' => H' = H ∧ ∃ c, x.cps.toList[i]? = some c ∧ y = .str ⟨#[c]⟩, fun i _ => x.cps.toList.length ≤ i⟩
theorem cps_get {x : Str} {i c : Nat} (h : x.cps.toList[i]? = some c) : x.cps[i]? = some c := by simpa using h
theorem cps_none {x : Str} {i : Nat} (h : x.cps.toList.length ≤ i) : x.cps[i]? = none := by simpa using h
theorem turn_ascii {P : Program} {w : World} {K : PySem.W.Frag} {tg : Expr} (x : Str) (t : Tok) (it : Addr) : Turn P w K tg (Its x) [it] it (fun i h => h.IsStrIter it "str_ascii_iterator" x t i) where
  mem := by simp
  obj := fun i h st b hb => by
    have e : b = it := by simpa using hb
    subst e
    obtain ⟨o, e, c, d⟩ := st
    exact ⟨o, e, fun v z => by rw [d] at z; cases z⟩
  keep := fun i h h' st k => let ⟨o, e, r⟩ := st; ⟨o, k it (by simp) o e, r⟩
  item := by
    intro X hP hw hK hc i pins s σ H E I hf st hg
    subst hP hw hK
    obtain ⟨f0, f1, f2, f3, f4, f5⟩ := hf it (by simp)
    obtain ⟨c, ec⟩ : ∃ c, x.cps.toList[i]? = some c := ⟨_, List.getElem?_eq_getElem hg⟩
    refine wpAny_pyNext_ascii_item st (cps_get ec) fun h' st' sb => ?_
    have I1 : Inv X pins σ H { s with heap := h', toks := s.toks + 1 } := I.turned (fun b o hb e => (sb.2 b hb).trans e) f0 f1 f3 f4 f5
    obtain ⟨o, e, c', d⟩ := id st'
    exact ⟨_, rfl, go_of (s := { s with heap := h', toks := s.toks + 1 }) e c' d (by decide) ⟨.str ⟨#[c]⟩, H, I1, ⟨_, rfl⟩, ⟨rfl, c, ec, rfl⟩, st', fun b hb => (hf b hb).1⟩⟩
  done := by
    intro X hP hw hK hc i pins s σ H E I hf st hg
    subst hP hw hK
    obtain ⟨f0, f1, f2, f3, f4, f5⟩ := hf it (by simp)
    exact wpAny_pyNext_ascii_end (I.ok.hd hc) st (cps_none hg) fun h' eb => ⟨rfl, I.turned (t' := s.toks) (fun b o hb e => eb b o hb e) f0 f1 f3 f4 f5⟩
  self := fun _ _ _ _ _ st h => wpAny_pyIter_striter_ascii st h
theorem turn_wide {P : Program} {w : World} {K : PySem.W.Frag} {tg : Expr} (x : Str) (t : Tok) (it : Addr) : Turn P w K tg (Its x) [it] it (fun i h => h.IsStrIter it "str_iterator" x t i) where
  mem := by simp
  obj := fun i h st b hb => by
    have e : b = it := by simpa using hb
    subst e
    obtain ⟨o, e, c, d⟩ := st
    exact ⟨o, e, fun v z => by rw [d] at z; cases z⟩
  keep := fun i h h' st k => let ⟨o, e, r⟩ := st; ⟨o, k it (by simp) o e, r⟩
  item := by
    intro X hP hw hK hc i pins s σ H E I hf st hg
    subst hP hw hK
    obtain ⟨f0, f1, f2, f3, f4, f5⟩ := hf it (by simp)
    obtain ⟨c, ec⟩ : ∃ c, x.cps.toList[i]? = some c := ⟨_, List.getElem?_eq_getElem hg⟩
    refine wpAny_pyNext_wide_item st (cps_get ec) fun h' st' sb => ?_
    have I1 : Inv X pins σ H { s with heap := h', toks := s.toks + 1 } := I.turned (fun b o hb e => (sb.2 b hb).trans e) f0 f1 f3 f4 f5
    obtain ⟨o, e, c', d⟩ := id st'
    exact ⟨_, rfl, go_of (s := { s with heap := h', toks := s.toks + 1 }) e c' d (by decide) ⟨.str ⟨#[c]⟩, H, I1, ⟨_, rfl⟩, ⟨rfl, c, ec, rfl⟩, st', fun b hb => (hf b hb).1⟩⟩
  done := by
    intro X hP hw hK hc i pins s σ H E I hf st hg
    subst hP hw hK
    obtain ⟨f0, f1, f2, f3, f4, f5⟩ := hf it (by simp)
    exact wpAny_pyNext_wide_end (I.ok.hd hc) st (cps_none hg) fun h' eb => ⟨rfl, I.turned (t' := s.toks) (fun b o hb e => eb b o hb e) f0 f1 f3 f4 f5⟩
  self := fun _ _ _ _ _ st h => wpAny_pyIter_striter_wide st h
def iStr (tl : TE) : TI := fun σ H R => tl σ H fun x H1 => ∃ a, x = .str a ∧ R (Its a) H1
theorem pi_str {tg l : Expr} {tl : TE} (hl : PE X l tl) : PI X tg l (iStr tl) := by
  intro pins s σ H R I h
  refine thn (hl pins s σ H _ I h) fun v s1 ⟨x, H1, I1, r1, q1⟩ => ?_
  obtain ⟨a, e, q⟩ := q1
  subst e
  obtain ⟨t, rfl⟩ := r1
  have fp : ∀ b ∈ [s1.heap.objs.size], FpOk X pins H1 b := fun b hb => by
    have e : b = s1.heap.objs.size := by simpa using hb
    subst e
    exact I1.fpOk (Nat.le_refl _) (I1.hok.fresh (Nat.le_refl _))
  cases ha : a.cps.all (· < 128)
  · exact wpAny_pyIter_wide ha ⟨s1.heap.objs.size, [s1.heap.objs.size], _, _, H1, rfl, I1.kept (t' := s1.toks) fun b o e => Heap.get?_push_of_some _ e, turn_wide a t _, ⟨_, Heap.get?_push_size _ rfl, rfl, rfl⟩, fp, q⟩
  · exact wpAny_pyIter_ascii ha ⟨s1.heap.objs.size, [s1.heap.objs.size], _, _, H1, rfl, I1.kept (t' := s1.toks) fun b o e => Heap.get?_push_of_some _ e, turn_ascii a t _, ⟨_, Heap.get?_push_size _ rfl, rfl, rfl⟩, fp, q⟩
end
end L2
namespace Tw
open PySem L2
section
variable {K : PySem.W.Frag}
/-- a comprehension over the signs of a text -/
theorem comp_signs {x : Str} {D : Addr} {fv : Nat → V} {te : TE} {σ : St} {H : Hp} {Q : Hp → Prop} (hD : H D = none) (hl : x.cps.toList.length ≤ 1000)
    (hs : ∀ c ∈ x.cps.toList, ∀ (H4 : Hp) (Qv : VK), Same H H4 → (∀ H5, Same H4 H5 → Qv (fv c) H5) → te (σ ++ [some (.str ⟨#[c]⟩)]) H4 Qv)
    (hq : ∀ H2, H2 D = some (.lst (x.cps.toList.map fv)) → Same H H2 → Q H2) :
    ∃ W : Nat → Nat → List V → Hp → Prop, (∃ m, W 0 m [] (upd H D (.lst []))) ∧ ∀ i m ys H2, W i m ys H2 →
      H2 D = some (.lst ys) ∧ (((Its x).stop i H2 ∧ Q H2) ∨ ((Its x).go i H2 ∧ ∃ N : List V → Hp → Prop, (∀ ys' H', N ys' H' → ∃ m', m' < m ∧ W (i + 1) m' ys' H') ∧ ∀ y H3, (Its x).yld i H2 y H3 →
        tYes (σ ++ [some y]) H3 fun c H4 => if c = true then te (σ ++ [some y]) H4 fun z H5 => H5 D = some (.lst ys) ∧ ys.length < sizeLine ∧ N (ys ++ [z]) (upd H5 D (.lst (ys ++ [z]))) else N ys H4)) := by
  refine ⟨fun i m ys H2 => m = x.cps.toList.length - i ∧ i ≤ x.cps.toList.length ∧ ys = (x.cps.toList.take i).map fv ∧ H2 D = some (.lst ys) ∧ Same H H2, ⟨_, rfl, Nat.zero_le _, rfl, upd_same, same_upd hD⟩, ?_⟩
  rintro i m ys H2 ⟨rfl, hi, rfl, hD2, s2⟩
  refine ⟨hD2, ?_⟩
  by_cases hlt : i < x.cps.toList.length
  · refine .inr ⟨hlt, fun ys' H' => i + 1 ≤ x.cps.toList.length ∧ ys' = (x.cps.toList.take (i + 1)).map fv ∧ H' D = some (.lst ys') ∧ Same H H', fun ys' H' ⟨a, b, c, d⟩ => ⟨x.cps.toList.length - (i + 1), by omega, rfl, a, b, c, d⟩, fun y H3 yl => ?_⟩
    obtain ⟨rfl, c, ec, rfl⟩ := yl
    refine yesI (hs c (List.mem_of_getElem? ec) H3 _ s2 fun H5 s5 => ⟨s5 _ _ hD2, by rw [List.length_map, List.length_take]; exact small1000 (by omega), hlt, by rw [List.take_add_one, ec, List.map_append]; rfl, upd_same, fun b o e => by rw [upd_ne (ne_of_none e hD)]; exact s5 b o (s2 b o e)⟩)
  · have e : i = x.cps.toList.length := by omega
    subst e
    rw [List.take_length] at hD2
    exact .inl ⟨Nat.le_refl _, hq H2 hD2 s2⟩
end
end Tw

namespace Tw
open PySem L2 PySem.StrLaws PySem.Builtin.Str PySem.NumText
/-! ### texts with a text between -/
theorem lenS (x : Str) : x.cps.toList.length = x.length := Array.length_toList
theorem str_ext {a b : Str} (h : a.cps.toList = b.cps.toList) : a = b := Str.ext' (Array.toList_inj.mp h)
def body (sp : List Nat) : List (List Nat) → List Nat
  | [] => []
  | [p] => p
  | p :: q :: r => p ++ sp ++ body sp (q :: r)
theorem join_body (sep : Str) : ∀ ps : List Str, (Str.join sep ps).cps.toList = body sep.cps.toList (ps.map (·.cps.toList))
  | [] => rfl
  | [p] => rfl
  | p :: q :: r => by
    show (p ++ sep ++ Str.join sep (q :: r)).cps.toList = p.cps.toList ++ sep.cps.toList ++ body sep.cps.toList ((q :: r).map (·.cps.toList))
    rw [Str.cps_append, Str.cps_append, Array.toList_append, Array.toList_append, join_body sep (q :: r)]
theorem at_sign {x y : Str} {n k m c : Nat} (h : At x y n k) (hm : y.cps.toList[m]? = some c) : x.cps.toList[k + m]? = some c := by
  have e := h.2
  rw [subAt_eq] at e
  have e := eq_of_beq e
  have l : m < y.cps.toList.length := (List.getElem?_eq_some_iff.mp hm).1
  have ly := lenS y
  rw [← e, List.getElem?_take_of_lt (by omega), List.getElem?_drop] at hm
  exact hm
theorem at_mk {x y : Str} {A B : List Nat} (h : x.cps.toList = A ++ (y.cps.toList ++ B)) : At x y x.length A.length := by
  have lx := lenS x
  have ly := lenS y
  refine ⟨?_, ?_⟩
  · rw [← lx, h, ← ly]; simp only [List.length_append]; omega
  · rw [subAt_eq, h, List.drop_left, ← ly, List.take_left]; exact beq_self_eq_true _
theorem parts_body {x y : Str} {m c : Nat} (hm : y.cps.toList[m]? = some c) (hb : ∀ i, i < m → y.cps.toList[i]? ≠ some c) :
    ∀ (ps : List (List Nat)) (A : List Nat) (cuts : List Nat) (f : Nat), ps ≠ [] → (∀ p ∈ ps, c ∉ p) → x.cps.toList = A ++ body y.cps.toList ps → ChainG x y x.length A.length cuts f → (∀ k, f ≤ k → ¬ At x y x.length k) →
      (partsFrom x y.length A.length cuts).map (·.cps.toList) = ps
  | [], _, _, _, h, _, _, _, _ => absurd rfl h
  | [p], A, cuts, f, _, hc, hx, hg, hf => by
    have hx : x.cps.toList = A ++ p := hx
    have lx := lenS x
    rw [hx, List.length_append] at lx
    have no : ∀ k, A.length ≤ k → ¬ At x y x.length k := fun k hk ha => by
      have e := at_sign ha hm
      rw [hx, List.getElem?_append_right (by omega)] at e
      exact hc p List.mem_cons_self (List.mem_of_getElem? e)
    cases cuts with
    | nil =>
      show [(strSub x A.length x.length).cps.toList] = [p]
      rw [strSub_toList, hx, List.drop_left, List.take_of_length_le (by omega)]
    | cons a r => exact absurd hg.2.1 (no a hg.1)
  | p :: q :: r, A, cuts, f, _, hc, hx, hg, hf => by
    have hx' : x.cps.toList = A ++ (p ++ (y.cps.toList ++ body y.cps.toList (q :: r))) := by
      rw [hx]
      show A ++ (p ++ y.cps.toList ++ body y.cps.toList (q :: r)) = _
      rw [List.append_assoc p]
    have yes : At x y x.length (A.length + p.length) := by
      have := at_mk (x := x) (y := y) (A := A ++ p) (B := body y.cps.toList (q :: r)) (by rw [hx', List.append_assoc])
      rw [List.length_append] at this; exact this
    have no : ∀ k, A.length ≤ k → k < A.length + p.length → ¬ At x y x.length k := fun k h0 h1 ha => by
      have e := at_sign ha hm
      rw [hx', List.getElem?_append_right (by omega)] at e
      by_cases h2 : k + m - A.length < p.length
      · rw [List.getElem?_append_left h2] at e
        exact hc p List.mem_cons_self (List.mem_of_getElem? e)
      · rw [List.getElem?_append_right (by omega)] at e
        have l : m < y.cps.toList.length := (List.getElem?_eq_some_iff.mp hm).1
        rw [List.getElem?_append_left (by omega)] at e
        exact hb _ (by omega) e
    cases cuts with
    | nil =>
      have e : f = A.length := hg
      exact absurd yes (hf _ (by omega))
    | cons a t =>
      obtain ⟨h1, h2, h3, h4⟩ := hg
      have e : a = A.length + p.length := by
        rcases Nat.lt_trichotomy a (A.length + p.length) with h | h | h
        · exact absurd h2 (no a h1 h)
        · exact h
        · exact absurd yes (h3 _ (by omega) h)
      subst e
      have ly := lenS y
      have ih := parts_body hm hb (q :: r) (A ++ p ++ y.cps.toList) t f (by simp) (fun z hz => hc z (List.mem_cons_of_mem _ hz)) (by rw [hx']; simp only [List.append_assoc]) (by rw [List.length_append, List.length_append, ly]; exact h4) hf
      show (strSub x A.length (A.length + p.length)).cps.toList :: (partsFrom x y.length (A.length + p.length + y.length) t).map (·.cps.toList) = _
      rw [List.length_append, List.length_append, ly] at ih
      rw [ih, strSub_toList, hx', List.drop_left, Nat.add_sub_cancel_left, List.take_left]
theorem map_sinj : ∀ {a b : List Str}, a.map (·.cps.toList) = b.map (·.cps.toList) → a = b
  | [], [], _ => rfl
  | [], _ :: _, h => by cases h
  | _ :: _, [], h => by cases h
  | x :: a, y :: b, h => by
    rw [List.map_cons, List.map_cons] at h
    injection h with h1 h2
    rw [str_ext h1, map_sinj h2]
theorem sub_whole (x : Str) : strSub x 0 x.length = x := str_ext (by rw [strSub_toList, List.drop_zero, List.take_of_length_le (by rw [lenS]; omega)])
theorem split_join {y : Str} {m c : Nat} (hm : y.cps.toList[m]? = some c) (hb : ∀ i, i < m → y.cps.toList[i]? ≠ some c) (hk : Builtin.Str.strKind y = 1) {ps : List Str} (hp : ps ≠ []) (hc : ∀ p ∈ ps, c ∉ p.cps.toList) :
    Txt.split (Str.join y ps) y = ps := by
  have hy : 1 ≤ y.length := by
    have := (List.getElem?_eq_some_iff.mp hm).1
    have := lenS y
    omega
  have hj := join_body y ps
  generalize Str.join y ps = x at hj
  obtain ⟨f, hg, hf⟩ := occ_tight x y hy
  have key := parts_body (x := x) hm hb (ps.map (·.cps.toList)) [] _ f (by simpa using hp) (by intro p h; obtain ⟨q, hq, rfl⟩ := List.mem_map.mp h; exact hc q hq) (by rw [hj]; rfl) hg hf
  have key2 : partsFrom x y.length 0 (occurrences x y 0 x.length (x.length + 1)) = ps := map_sinj key
  have none : occurrences x y 0 x.length (x.length + 1) = [] → [x] = ps := fun h => by
    rw [h] at key2
    have e : partsFrom x y.length 0 [] = [x] := by show [strSub x 0 x.length] = [x]; rw [sub_whole]
    rw [e] at key2; exact key2
  unfold Txt.split
  split
  · rename_i h
    have h0 : x.length < y.length := by
      rw [Bool.or_eq_true, decide_eq_true_eq, decide_eq_true_eq] at h
      rcases h with h | h
      · exact h
      · rw [hk] at h
        exfalso
        unfold Builtin.Str.strKind at h
        split at h
        · omega
        · split at h <;> omega
    refine none ?_
    cases e : occurrences x y 0 x.length (x.length + 1) with
    | nil => rfl
    | cons a t =>
      rw [e] at hg
      exact absurd hg.2.1.1 (by omega)
  · split
    · rename_i h
      exact none (List.isEmpty_iff.mp h)
    · rw [partsBetween_eq]; exact key2
/-! ### texts of numbers -/
def dgs (m : Nat) : List Nat := (Nat.toDigits 10 m).map Char.toNat
theorem dgs_all (m : Nat) : AllDigits (dgs m) := by
  intro c hc
  obtain ⟨ch, hch, e⟩ := List.mem_map.mp hc
  rw [← e]
  exact PyProof.Rows.digit_range (Nat.isDigit_of_mem_toDigits (by decide) (by decide) hch)
theorem dgs_ne (m : Nat) : dgs m ≠ [] := fun e => by
  have h := PySem.toDigits_len_ge 10 m
  rw [List.map_eq_nil_iff.mp e] at h
  exact absurd h (by decide)
theorem dgs_more {m : Nat} (h : ¬ m < 10) : dgs m = dgs (m / 10) ++ dgs (m % 10) := by
  have hm : m % 10 < 10 := Nat.mod_lt m (by decide)
  have t : Nat.toDigits 10 (m / 10) ++ Nat.toDigits 10 (m % 10) = Nat.toDigits 10 (10 * (m / 10) + m % 10) := Nat.toDigits_append_toDigits (by decide) (by omega) hm
  rw [Nat.div_add_mod] at t
  unfold dgs
  rw [← t, List.map_append]
theorem dgs_one {m : Nat} (h : m < 10) : dgs m = [48 + m] := by
  unfold dgs
  rw [Nat.toDigits_of_lt_base h]
  show [(Nat.digitChar m).toNat] = [48 + m]
  have : ∀ d : Nat, d < 10 → (Nat.digitChar d).toNat = 48 + d := by decide
  rw [this m h]
theorem dgs_head (m : Nat) : 1 ≤ m → ∃ c r, dgs m = c :: r ∧ 49 ≤ c := by
  induction m using Nat.strongRecOn with
  | _ m ih =>
    intro h1
    by_cases h : m < 10
    · exact ⟨48 + m, [], dgs_one h, by omega⟩
    · obtain ⟨c, r, e, hc⟩ := ih (m / 10) (by omega) (by omega)
      exact ⟨c, r ++ dgs (m % 10), by rw [dgs_more h, e]; rfl, hc⟩
theorem dgs_len (k m : Nat) : m < 10 ^ (k + 1) → (dgs m).length ≤ k + 1 := by
  induction k generalizing m with
  | zero =>
    intro h
    rw [dgs_one (by omega)]; exact Nat.le_refl _
  | succ k ih =>
    intro h
    by_cases h1 : m < 10
    · rw [dgs_one h1]; simp
    · have h2 : m / 10 < 10 ^ (k + 1) := by
        rw [Nat.pow_succ] at h
        omega
      rw [dgs_more h1, List.length_append, dgs_one (Nat.mod_lt m (by decide))]
      have := ih (m / 10) h2
      simp only [List.length_cons, List.length_nil]; omega
def num (n : Int) : Str := Str.ofString (toString n)
theorem num_pos (m : Nat) : (num (m : Int)).cps.toList = dgs m := PySem.W.KIN.signs_num m
theorem num_neg (m : Nat) : (num (Int.negSucc m)).cps.toList = 45 :: dgs (m + 1) := by
  unfold num dgs
  rw [PyProof.Rows.signs_ofString]
  show ("-" ++ Nat.repr (m + 1)).toList.map Char.toNat = _
  rw [String.toList_append, List.map_append, Nat.toList_repr]
  rfl
/-- of at most sixty figures -/
def Fit (n : Int) : Prop := -(10 ^ 60) < n ∧ n < 10 ^ 60
theorem num_cases {n : Int} (h : Fit n) : (∃ m : Nat, n = m ∧ m < 10 ^ 60) ∨ ∃ m : Nat, n = Int.negSucc m ∧ m + 1 < 10 ^ 60 := by
  obtain ⟨h1, h2⟩ := h
  cases n with
  | ofNat m => exact .inl ⟨m, rfl, by have h2 : (m : Int) < 10 ^ 60 := h2; omega⟩
  | negSucc m => exact .inr ⟨m, rfl, by omega⟩
theorem num_signs {n : Int} (h : Fit n) : ∀ c ∈ (num n).cps.toList, c = 45 ∨ (48 ≤ c ∧ c ≤ 57) := by
  intro c hc
  rcases num_cases h with ⟨m, rfl, _⟩ | ⟨m, rfl, _⟩
  · rw [num_pos] at hc; exact .inr (dgs_all m c hc)
  · rw [num_neg] at hc
    rcases List.mem_cons.mp hc with e | e
    · exact .inl e
    · exact .inr (dgs_all _ c e)
theorem num_digit {n : Int} (h : Fit n) : ∃ c ∈ (num n).cps.toList, 48 ≤ c := by
  rcases num_cases h with ⟨m, rfl, _⟩ | ⟨m, rfl, _⟩
  · obtain ⟨c, hc⟩ := List.exists_mem_of_ne_nil _ (dgs_ne m)
    exact ⟨c, by rw [num_pos]; exact hc, (dgs_all m c hc).1⟩
  · obtain ⟨c, hc⟩ := List.exists_mem_of_ne_nil _ (dgs_ne (m + 1))
    exact ⟨c, by rw [num_neg]; exact List.mem_cons_of_mem _ hc, (dgs_all _ c hc).1⟩
theorem num_len {n : Int} (h : Fit n) : (num n).length ≤ 61 := by
  rw [← lenS]
  rcases num_cases h with ⟨m, rfl, hm⟩ | ⟨m, rfl, hm⟩
  · rw [num_pos]; exact Nat.le_trans (dgs_len 59 m hm) (by decide)
  · rw [num_neg, List.length_cons]; have := dgs_len 59 (m + 1) hm; omega
theorem num_reads {n : Int} (h : Fit n) : PySem.intText? (num n) = some n := by
  have hl := num_len h
  rcases num_cases h with ⟨m, rfl, hm⟩ | ⟨m, rfl, hm⟩
  · rw [intText_digits (by rw [num_pos]; exact dgs_all m) (by rw [num_pos]; exact dgs_ne m) (by omega), num_pos]
    exact congrArg (fun z : Nat => some (z : Int)) (PySem.W.KIN.val_back m)
  · rw [intText_neg (num_neg m) (dgs_all _) (dgs_ne _) (by omega)]
    have : digitsVal (dgs (m + 1)) = m + 1 := PySem.W.KIN.val_back (m + 1)
    rw [this]; rfl
theorem bits_num {n : Int} (h : Fit n) : n.natAbs.log2 < 1920 := by
  obtain ⟨h1, h2⟩ := h
  have : n.natAbs < 2 ^ 1920 := Nat.lt_of_lt_of_le (show n.natAbs < 10 ^ 60 by omega) (by decide +kernel)
  by_cases h0 : n.natAbs = 0
  · rw [h0]; decide
  · exact (Nat.log2_lt h0).mpr this
/-- figures of a number from 0 on -/
structure Figs (x : Str) : Prop where
  all : AllDigits x.cps.toList
  ne : x.cps.toList ≠ []
  len : x.length ≤ 60
  zero : x.cps.toList = [48] ∨ x.cps.toList[0]? ≠ some 48
theorem figs_of {x : Str} {m : Nat} (hm : m < 10 ^ 60) (h : x.cps.toList = dgs m) : Figs x := by
  refine ⟨by rw [h]; exact dgs_all m, by rw [h]; exact dgs_ne m, by rw [← lenS, h]; exact dgs_len 59 m hm, ?_⟩
  rw [h]
  by_cases h0 : m = 0
  · subst h0; exact .inl rfl
  · obtain ⟨c, r, e, hc⟩ := dgs_head m (by omega)
    rw [e]
    refine .inr ?_
    show some c ≠ some 48
    intro e; cases e; omega
theorem starts_one (x : Str) (c : Nat) : Txt.startswith x ⟨#[c]⟩ = decide (x.cps.toList[0]? = some c) := by
  rw [Bool.eq_iff_iff, decide_eq_true_eq]
  have h := subAt_one x c 0
  unfold Txt.startswith
  rw [Bool.and_eq_true, decide_eq_true_eq]
  exact h
/-! ### texts of rows -/
def sB : Str := ⟨#[32]⟩
def sS : Str := ⟨#[32, 47, 32]⟩
def sD : Str := ⟨#[46]⟩
def sM : Str := ⟨#[45]⟩
def rowT (z : List Int) : Str := if z = [] then sD else Str.join sB (z.map num)
def rowsT (zss : List (List Int)) : Str := if zss = [] then sM else Str.join sS (zss.map rowT)
theorem mem_body {sp : List Nat} : ∀ {ps : List (List Nat)} {c : Nat}, c ∈ body sp ps → c ∈ sp ∨ ∃ p ∈ ps, c ∈ p
  | [], c, h => by cases h
  | [p], c, h => .inr ⟨p, List.mem_cons_self, h⟩
  | p :: q :: r, c, h => by
    rcases List.mem_append.mp h with h | h
    · rcases List.mem_append.mp h with h | h
      · exact .inr ⟨p, List.mem_cons_self, h⟩
      · exact .inl h
    · rcases mem_body h with h | ⟨p', hp, h⟩
      · exact .inl h
      · exact .inr ⟨p', List.mem_cons_of_mem _ hp, h⟩
theorem body_mem {sp : List Nat} : ∀ {ps : List (List Nat)} {c : Nat} {p : List Nat}, p ∈ ps → c ∈ p → c ∈ body sp ps
  | [q], c, p, hp, h => by rw [List.mem_singleton.mp hp] at h; exact h
  | q :: q' :: r, c, p, hp, h => by
    rcases List.mem_cons.mp hp with e | hp
    · subst e; exact List.mem_append_left _ (List.mem_append_left _ h)
    · exact List.mem_append_right _ (body_mem hp h)
theorem mem_join {sep : Str} {ps : List Str} {c : Nat} (h : c ∈ (Str.join sep ps).cps.toList) : c ∈ sep.cps.toList ∨ ∃ p ∈ ps, c ∈ p.cps.toList := by
  rw [join_body] at h
  rcases mem_body h with h | ⟨p, hp, h⟩
  · exact .inl h
  · obtain ⟨q, hq, rfl⟩ := List.mem_map.mp hp
    exact .inr ⟨q, hq, h⟩
theorem join_mem {sep : Str} {ps : List Str} {p : Str} {c : Nat} (hp : p ∈ ps) (h : c ∈ p.cps.toList) : c ∈ (Str.join sep ps).cps.toList := by
  rw [join_body]
  exact body_mem (List.mem_map.mpr ⟨p, hp, rfl⟩) h
def FitR (z : List Int) : Prop := (∀ n ∈ z, Fit n) ∧ z.length ≤ 4
def FitRs (zss : List (List Int)) : Prop := (∀ z ∈ zss, FitR z) ∧ zss.length ≤ 4
theorem row_slash {z : List Int} (h : FitR z) : 47 ∉ (rowT z).cps.toList := by
  unfold rowT
  split
  · decide
  · intro hm
    rcases mem_join hm with e | ⟨p, hp, e⟩
    · revert e; decide
    · obtain ⟨n, hn, rfl⟩ := List.mem_map.mp hp
      have := num_signs (h.1 n hn) 47 e
      omega
theorem row_digit {z : List Int} (h : FitR z) (h0 : z ≠ []) : ∃ c ∈ (rowT z).cps.toList, 48 ≤ c := by
  obtain ⟨n, hn⟩ := List.exists_mem_of_ne_nil _ h0
  obtain ⟨c, hc, c48⟩ := num_digit (h.1 n hn)
  refine ⟨c, ?_, c48⟩
  unfold rowT
  rw [if_neg h0]
  exact join_mem (List.mem_map.mpr ⟨n, hn, rfl⟩) hc
theorem row_some {z : List Int} (h : FitR z) : ∃ c ∈ (rowT z).cps.toList, 46 ≤ c := by
  by_cases h0 : z = []
  · subst h0; exact ⟨46, by decide, by decide⟩
  · obtain ⟨c, hc, h1⟩ := row_digit h h0
    exact ⟨c, hc, by omega⟩
theorem row_dot {z : List Int} (h : FitR z) (h0 : z ≠ []) : rowT z ≠ sD := fun e => by
  obtain ⟨c, hc, h1⟩ := row_digit h h0
  rw [e] at hc
  have : c = 46 := by simpa [sD] using hc
  omega
theorem rows_minus {zss : List (List Int)} (h : FitRs zss) (h0 : zss ≠ []) : rowsT zss ≠ sM := fun e => by
  obtain ⟨z, hz⟩ := List.exists_mem_of_ne_nil _ h0
  obtain ⟨c, hc, h1⟩ := row_some (h.1 z hz)
  have hm : c ∈ (rowsT zss).cps.toList := by
    unfold rowsT
    rw [if_neg h0]
    exact join_mem (List.mem_map.mpr ⟨z, hz, rfl⟩) hc
  rw [e] at hm
  have : c = 45 := by simpa [sM] using hm
  omega
theorem split_row {z : List Int} (h : FitR z) (h0 : z ≠ []) : Txt.split (rowT z) sB = z.map num := by
  unfold rowT
  rw [if_neg h0]
  refine split_join (m := 0) (c := 32) rfl (fun i hi => absurd hi (by omega)) (by decide +kernel) (by simpa using h0) fun p hp hm => ?_
  obtain ⟨n, hn, rfl⟩ := List.mem_map.mp hp
  have := num_signs (h.1 n hn) 32 hm
  omega
theorem split_rows {zss : List (List Int)} (h : FitRs zss) (h0 : zss ≠ []) : Txt.split (rowsT zss) sS = zss.map rowT := by
  unfold rowsT
  rw [if_neg h0]
  refine split_join (m := 1) (c := 47) rfl (fun i hi => ?_) (by decide +kernel) (by simpa using h0) fun p hp hm => ?_
  · have : i = 0 := by omega
    subst this
    show some 32 ≠ some 47
    intro e; cases e
  · obtain ⟨z, hz, rfl⟩ := List.mem_map.mp hp
    exact row_slash (h.1 z hz) hm
theorem row_len {z : List Int} (h : FitR z) : (rowT z).length ≤ 248 := by
  unfold rowT
  split
  · show 1 ≤ 248; decide
  · have h1 := StrLaws.join_length_le sB (z.map num)
    have h2 := sumLen_le (B := 61) (z.map num) fun y hy => by
      obtain ⟨n, hn, rfl⟩ := List.mem_map.mp hy
      exact num_len (h.1 n hn)
    rw [List.length_map] at h1 h2
    have h3 : sB.length = 1 := rfl
    rw [h3] at h1
    have h4 := h.2
    omega
theorem rows_len {zss : List (List Int)} (h : FitRs zss) : (rowsT zss).length ≤ 1004 := by
  unfold rowsT
  split
  · show 1 ≤ 1004; decide
  · have h1 := StrLaws.join_length_le sS (zss.map rowT)
    have h2 := sumLen_le (B := 248) (zss.map rowT) fun y hy => by
      obtain ⟨z, hz, rfl⟩ := List.mem_map.mp hy
      exact row_len (h.1 z hz)
    rw [List.length_map] at h1 h2
    have h3 : sS.length = 3 := rfl
    rw [h3] at h1
    have h4 := h.2
    omega
theorem join_ok {sep : Str} {ps : List Str} {B : Nat} (hB : ∀ y ∈ ps, y.length ≤ B) (h : ps.length * B + ps.length * sep.length ≤ 16777216) : JoinOk sep ps = true := by
  unfold JoinOk
  rw [joinFits hB h]; rfl
theorem joinOk_row {z : List Int} (h : FitR z) : JoinOk sB (z.map num) = true := by
  refine join_ok (B := 61) (fun y hy => ?_) ?_
  · obtain ⟨n, hn, rfl⟩ := List.mem_map.mp hy
    exact num_len (h.1 n hn)
  · rw [List.length_map, show sB.length = 1 from rfl]; have := h.2; omega
theorem joinOk_rows {zss : List (List Int)} (h : FitRs zss) : JoinOk sS (zss.map rowT) = true := by
  refine join_ok (B := 248) (fun y hy => ?_) ?_
  · obtain ⟨z, hz, rfl⟩ := List.mem_map.mp hy
    exact row_len (h.1 z hz)
  · rw [List.length_map, show sS.length = 3 from rfl]; have := h.2; omega
/-- a text more -/
theorem join_snoc (sep z : Str) : ∀ {ps : List Str}, ps ≠ [] → Str.join sep (ps ++ [z]) = Str.join sep ps ++ sep ++ z
  | [], h => absurd rfl h
  | [p], _ => rfl
  | p :: q :: r, _ => by
    show p ++ sep ++ Str.join sep ((q :: r) ++ [z]) = p ++ sep ++ Str.join sep (q :: r) ++ sep ++ z
    rw [join_snoc sep z (by simp)]
    simp only [Str.append_assoc]
end Tw
namespace Tw
open PySem L2 PySem.StrLaws
/-! ### texts as they are made sign by sign -/
def preT (zss : List (List Int)) (k : Nat) : Str := if k = 0 then Str.empty else rowsT (zss.take k)
def innT (z : List Int) (j : Nat) : Str := if j = 0 then Str.empty else rowT (z.take j)
theorem pre_step {zss : List (List Int)} {k : Nat} {z : List Int} (e : zss[k]? = some z) : preT zss (k + 1) = (if k = 0 then Str.empty else preT zss k ++ sS) ++ rowT z := by
  have h1 : zss.take (k + 1) = zss.take k ++ [z] := by rw [List.take_add_one, e]; rfl
  have hk := (List.getElem?_eq_some_iff.mp e).1
  unfold preT
  rw [if_neg (by omega), h1]
  by_cases h0 : k = 0
  · subst h0
    rw [if_pos rfl, Str.empty_append]; rfl
  · have hn : zss.take k ≠ [] := fun h => by
      have := congrArg List.length h
      rw [List.length_take, List.length_nil] at this
      omega
    rw [if_neg h0, if_neg h0]
    unfold rowsT
    rw [if_neg (by simp), if_neg hn, List.map_append]
    exact join_snoc sS (rowT z) (by simpa using hn)
theorem inn_step {z : List Int} {j : Nat} {n : Int} (e : z[j]? = some n) : innT z (j + 1) = (if j = 0 then Str.empty else innT z j ++ sB) ++ num n := by
  have h1 : z.take (j + 1) = z.take j ++ [n] := by rw [List.take_add_one, e]; rfl
  have hk := (List.getElem?_eq_some_iff.mp e).1
  unfold innT
  rw [if_neg (by omega), h1]
  by_cases h0 : j = 0
  · subst h0
    rw [if_pos rfl, Str.empty_append]; rfl
  · have hn : z.take j ≠ [] := fun h => by
      have := congrArg List.length h
      rw [List.length_take, List.length_nil] at this
      omega
    rw [if_neg h0, if_neg h0]
    unfold rowT
    rw [if_neg (by simp), if_neg hn, List.map_append]
    exact join_snoc sB (num n) (by simpa using hn)
theorem pre_len {zss : List (List Int)} (h : FitRs zss) (k : Nat) : (preT zss k).length ≤ 1004 := by
  unfold preT
  split
  · exact Nat.zero_le _
  · exact rows_len ⟨fun z hz => h.1 z (List.mem_of_mem_take hz), by rw [List.length_take]; have := h.2; omega⟩
theorem inn_len {z : List Int} (h : FitR z) (j : Nat) : (innT z j).length ≤ 248 := by
  unfold innT
  split
  · exact Nat.zero_le _
  · exact row_len ⟨fun n hn => h.1 n (List.mem_of_mem_take hn), by rw [List.length_take]; have := h.2; omega⟩
theorem shown_end {zss : List (List Int)} {i : Nat} {z : List Int} (e : zss[i]? = some z) {t1 t2 : Str} (h1 : t1 = if i = 0 then Str.empty else preT zss i ++ sS) (h2 : t2 = if z = [] then t1 ++ sD else t1) : t2 ++ innT z z.length = preT zss (i + 1) := by
  rw [pre_step e, ← h1, h2]
  by_cases h0 : z = []
  · subst h0
    rw [if_pos rfl]
    show t1 ++ sD ++ Str.empty = t1 ++ sD
    rw [Str.append_empty]
  · rw [if_neg h0]
    unfold innT
    rw [if_neg (by intro h; exact h0 (List.eq_nil_of_length_eq_zero h)), List.take_length]
theorem inn_end {z : List Int} {j : Nat} {n : Int} (e : z[j]? = some n) {t2 t3 : Str} (h : t3 = if j = 0 then t2 ++ innT z j else t2 ++ innT z j ++ sB) : t3 ++ num n = t2 ++ innT z (j + 1) := by
  rw [inn_step e, h]
  by_cases h0 : j = 0
  · subst h0
    rw [if_pos rfl, if_pos rfl]
    show t2 ++ Str.empty ++ num n = t2 ++ (Str.empty ++ num n)
    rw [Str.append_assoc]
  · rw [if_neg h0, if_neg h0, Str.append_assoc, Str.append_assoc, Str.append_assoc]
theorem pre_all {zss : List (List Int)} (h : zss ≠ []) : preT zss zss.length = rowsT zss := by
  unfold preT
  rw [if_neg (by intro h0; exact h (List.eq_nil_of_length_eq_zero h0)), List.take_length]
end Tw

namespace Tw
/-! ### how far places are apart -/
structure Met (rs : List Road) (vs : List Int) (f : Int → Int → Int) : Prop where
  zero : ∀ x ∈ vs, f x x = 0
  nn : ∀ x ∈ vs, ∀ y ∈ vs, 0 ≤ f x y
  sym : ∀ x ∈ vs, ∀ y ∈ vs, f x y = f y x
  road : ∀ x ∈ vs, ∀ r ∈ rs, f x r.1 = f x r.2.1 + r.2.2 ∨ f x r.2.1 = f x r.1 + r.2.2
  one : ∀ x ∈ vs, ∀ r ∈ rs, ∀ q ∈ rs, ∀ v p p', Joins r v p → Joins q v p' → f x v = f x p + r.2.2 → f x v = f x p' + q.2.2 → p = p'
theorem Met.perm {rs rs' : List Road} {vs vs' : List Int} {f : Int → Int → Int} (h : Met rs vs f) (hr : rs'.Perm rs) (hv : vs'.Perm vs) : Met rs' vs' f :=
  ⟨fun x hx => h.zero x (hv.mem_iff.mp hx), fun x hx y hy => h.nn x (hv.mem_iff.mp hx) y (hv.mem_iff.mp hy), fun x hx y hy => h.sym x (hv.mem_iff.mp hx) y (hv.mem_iff.mp hy), fun x hx r hr' => h.road x (hv.mem_iff.mp hx) r (hr.mem_iff.mp hr'),
    fun x hx r hr' q hq => h.one x (hv.mem_iff.mp hx) r (hr.mem_iff.mp hr') q (hr.mem_iff.mp hq)⟩
/-- the farness with a leaf w more, hung to u by a road of length l -/
def metX (f : Int → Int → Int) (u w l : Int) (x y : Int) : Int := if x = w then (if y = w then 0 else f u y + l) else if y = w then f x u + l else f x y
theorem metX_old {f : Int → Int → Int} {u w l x y : Int} (hx : x ≠ w) (hy : y ≠ w) : metX f u w l x y = f x y := by unfold metX; rw [if_neg hx, if_neg hy]
theorem metX_to {f : Int → Int → Int} {u w l x : Int} (hx : x ≠ w) : metX f u w l x w = f x u + l := by unfold metX; rw [if_neg hx, if_pos rfl]
theorem metX_from {f : Int → Int → Int} {u w l y : Int} (hy : y ≠ w) : metX f u w l w y = f u y + l := by unfold metX; rw [if_pos rfl, if_neg hy]
theorem metX_self {f : Int → Int → Int} {u w l : Int} : metX f u w l w w = 0 := by unfold metX; rw [if_pos rfl, if_pos rfl]
theorem Met.hang {rs : List Road} {vs : List Int} {f : Int → Int → Int} (h : Met rs vs f) (pl : ∀ r ∈ rs, r.1 ∈ vs ∧ r.2.1 ∈ vs) (hl : ∀ r ∈ rs, 1 ≤ r.2.2) {u w : Int} {r : Road} (hu : u ∈ vs) (hw : w ∉ vs) (j : Joins r u w) (h1 : 1 ≤ r.2.2) :
    Met (r :: rs) (w :: vs) (metX f u w r.2.2) := by
  have ne : ∀ {x : Int}, x ∈ vs → x ≠ w := fun hx e => hw (e ▸ hx)
  have zu := h.zero u hu
  refine ⟨fun x hx => ?_, fun x hx y hy => ?_, fun x hx y hy => ?_, fun x hx q hq => ?_, fun x hx q hq q' hq' v p p' jq jq' e e' => ?_⟩
  · rcases List.mem_cons.mp hx with z | hx
    · rw [z]; exact metX_self
    · rw [metX_old (ne hx) (ne hx)]; exact h.zero x hx
  · rcases List.mem_cons.mp hx with z | hx <;> rcases List.mem_cons.mp hy with z' | hy
    · rw [z, z', metX_self]; exact Int.le_refl _
    · rw [z, metX_from (ne hy)]; have := h.nn u hu y hy; omega
    · rw [z', metX_to (ne hx)]; have := h.nn x hx u hu; omega
    · rw [metX_old (ne hx) (ne hy)]; exact h.nn x hx y hy
  · rcases List.mem_cons.mp hx with z | hx <;> rcases List.mem_cons.mp hy with z' | hy
    · rw [z, z']
    · rw [z, metX_from (ne hy), metX_to (ne hy), h.sym u hu y hy]
    · rw [z', metX_to (ne hx), metX_from (ne hx), h.sym x hx u hu]
    · rw [metX_old (ne hx) (ne hy), metX_old (ne hy) (ne hx)]; exact h.sym x hx y hy
  · have key : ∀ {a b : Int}, a = u → b = w → metX f u w r.2.2 x a = metX f u w r.2.2 x b + r.2.2 ∨ metX f u w r.2.2 x b = metX f u w r.2.2 x a + r.2.2 := fun {a b} ea eb => by
      subst ea; subst eb
      rcases List.mem_cons.mp hx with z | hx
      · rw [z, metX_self, metX_from (ne hu)]; left; omega
      · rw [metX_to (ne hx), metX_old (ne hx) (ne hu)]; right; rfl
    rcases List.mem_cons.mp hq with e | hq
    · subst e
      rcases j with ⟨a, b⟩ | ⟨a, b⟩
      · exact key a b
      · exact (key b a).symm
    · obtain ⟨p1, p2⟩ := pl q hq
      rcases List.mem_cons.mp hx with z | hx
      · rw [z, metX_from (ne p1), metX_from (ne p2)]
        rcases h.road u hu q hq with e | e <;> omega
      · rw [metX_old (ne hx) (ne p1), metX_old (ne hx) (ne p2)]
        exact h.road x hx q hq
  · -- the ends of roads
    have mem : ∀ {q : Road} {v p : Int}, q ∈ rs → Joins q v p → v ∈ vs ∧ p ∈ vs := fun {q v p} hq jq => by
      obtain ⟨p1, p2⟩ := pl q hq
      rcases jq with ⟨a, b⟩ | ⟨a, b⟩
      · rw [a] at p1; rw [b] at p2; exact ⟨p1, p2⟩
      · rw [a] at p1; rw [b] at p2; exact ⟨p2, p1⟩
    have new : ∀ {v p : Int}, Joins r v p → (v = u ∧ p = w) ∨ (v = w ∧ p = u) := fun {v p} jr => by
      rcases j with ⟨a, b⟩ | ⟨a, b⟩ <;> rcases jr with ⟨c, d⟩ | ⟨c, d⟩
      · left; omega
      · right; omega
      · right; omega
      · left; omega
    rcases List.mem_cons.mp hq with eq | hm <;> rcases List.mem_cons.mp hq' with eq' | hm'
    · subst eq; subst eq'
      rcases new jq with ⟨a, b⟩ | ⟨a, b⟩ <;> rcases new jq' with ⟨c, d⟩ | ⟨c, d⟩
      · omega
      · have := ne hu; omega
      · have := ne hu; omega
      · omega
    · subst eq
      obtain ⟨mv, mp⟩ := mem hm' jq'
      rcases new jq with ⟨a, b⟩ | ⟨a, b⟩
      · subst a; subst b
        -- the road to w tells u farther: so x is w
        rcases List.mem_cons.mp hx with z | hx
        · subst z
          rw [metX_from (ne hu), metX_from (ne mp), zu] at e'
          have := h.nn v hu p' mp
          have := hl q' hm'
          omega
        · rw [metX_to (ne hx), metX_old (ne hx) (ne hu)] at e
          omega
      · rw [a] at mv; exact absurd mv hw
    · subst eq'
      obtain ⟨mv, mp⟩ := mem hm jq
      rcases new jq' with ⟨a, b⟩ | ⟨a, b⟩
      · subst a; subst b
        rcases List.mem_cons.mp hx with z | hx
        · subst z
          rw [metX_from (ne hu), metX_from (ne mp), zu] at e
          have := h.nn v hu p mp
          have := hl q hm
          omega
        · rw [metX_to (ne hx), metX_old (ne hx) (ne hu)] at e'
          omega
      · rw [a] at mv; exact absurd mv hw
    · obtain ⟨mv, mp⟩ := mem hm jq
      obtain ⟨_, mp'⟩ := mem hm' jq'
      rcases List.mem_cons.mp hx with z | hx
      · subst z
        rw [metX_from (ne mv), metX_from (ne mp)] at e
        rw [metX_from (ne mv), metX_from (ne mp')] at e'
        exact h.one u hu q hm q' hm' v p p' jq jq' (by omega) (by omega)
      · rw [metX_old (ne hx) (ne mv), metX_old (ne hx) (ne mp)] at e
        rw [metX_old (ne hx) (ne mv), metX_old (ne hx) (ne mp')] at e'
        exact h.one x hx q hm q' hm' v p p' jq jq' e e'
theorem Tr.met {rs : List Road} {vs : List Int} (t : Tr rs vs) : (∀ r ∈ rs, 1 ≤ r.2.2) → ∃ f, Met rs vs f := by
  induction t with
  | one v =>
    intro _
    refine ⟨fun _ _ => 0, fun _ _ => rfl, fun _ _ _ _ => Int.le_refl _, fun _ _ _ _ => rfl, fun _ _ r hr => (nomatch hr), fun _ _ r hr => (nomatch hr)⟩
  | @hang rs rs' vs vs' u w r t hu hw j p q ih =>
    intro hl
    have hl' : ∀ r ∈ rs, 1 ≤ r.2.2 := fun x hx => hl x (p.mem_iff.mpr (List.mem_cons_of_mem _ hx))
    obtain ⟨f, h⟩ := ih hl'
    exact ⟨_, (h.hang (fun r hr => let ⟨a, b, _⟩ := t.places r hr; ⟨a, b⟩) hl' hu hw j (hl r (p.mem_iff.mpr List.mem_cons_self))).perm p q⟩
theorem Tree.met {n : Nat} {rs : List Road} (t : Tree n rs) : ∃ f, Met rs (pl n) f := t.tr.met t.len

/-! ### the lengths that the neighbours' dicts hold -/
theorem nbOf_mem {rs : List Road} (ap : rs.Pairwise Apart) (hv : ∀ r ∈ rs, r.1 ≠ r.2.1) (v x l : Int) : (x, l) ∈ nbOf rs v ↔ ∃ r ∈ rs, Joins r v x ∧ r.2.2 = l := by
  have gen : ∀ (t : List Road) (pre : List Road), (pre ++ t).Pairwise Apart → (∀ r ∈ pre ++ t, r.1 ≠ r.2.1) → ((x, l) ∈ nbOf pre v ↔ ∃ r ∈ pre, Joins r v x ∧ r.2.2 = l) → ((x, l) ∈ nbOf (pre ++ t) v ↔ ∃ r ∈ pre ++ t, Joins r v x ∧ r.2.2 = l) := by
    intro t
    induction t with
    | nil => intro pre _ _ h; rw [List.append_nil]; exact h
    | cons r t ih =>
      intro pre hp hne h
      have e : pre ++ r :: t = (pre ++ [r]) ++ t := by simp
      rw [e] at hp hne ⊢
      refine ih (pre ++ [r]) hp hne ?_
      have hp1 : (pre ++ [r]).Pairwise Apart := (List.pairwise_append.mp hp).1
      have hap : ∀ q ∈ pre, Apart q r := fun q hq => (List.pairwise_append.mp hp1).2.2 q hq r (by simp)
      have hr : r.1 ≠ r.2.1 := hne r (by simp)
      have new : ∀ x, Joins r v x → ¬ x ∈ (nbOf pre v).map (·.1) := fun x j hx => by
        obtain ⟨q, hq, j'⟩ := (nbOf_keys pre v x).mp hx
        obtain ⟨a1, a2⟩ := hap q hq
        rcases j with ⟨c, d⟩ | ⟨c, d⟩ <;> rcases j' with ⟨c', d'⟩ | ⟨c', d'⟩
        · exact a1 ⟨by omega, by omega⟩
        · exact a2 ⟨by omega, by omega⟩
        · exact a2 ⟨by omega, by omega⟩
        · exact a1 ⟨by omega, by omega⟩
      have pm : ∀ z y, ¬ z ∈ (nbOf pre v).map (·.1) → ((x, l) ∈ put (nbOf pre v) z y ↔ (x, l) ∈ nbOf pre v ∨ (x = z ∧ l = y)) := fun z y hz => by
        unfold put
        rw [if_neg]
        · rw [List.mem_append]; simp
        · intro h
          obtain ⟨p, hp, e⟩ := List.any_eq_true.mp h
          exact hz (List.mem_map.mpr ⟨p, hp, of_decide_eq_true e⟩)
      have ex : (∃ q ∈ pre ++ [r], Joins q v x ∧ q.2.2 = l) ↔ (∃ q ∈ pre, Joins q v x ∧ q.2.2 = l) ∨ (Joins r v x ∧ r.2.2 = l) := by
        constructor
        · rintro ⟨q, hq, z⟩
          rcases List.mem_append.mp hq with hq | hq
          · exact .inl ⟨q, hq, z⟩
          · rw [List.mem_singleton.mp hq] at z; exact .inr z
        · rintro (⟨q, hq, z⟩ | z)
          · exact ⟨q, List.mem_append_left _ hq, z⟩
          · exact ⟨r, List.mem_append_right _ (by simp), z⟩
      rw [ex, nbOf_snoc, ← h]
      unfold nb1
      split
      · rename_i h1
        rw [pm _ _ (new _ (.inl ⟨h1, rfl⟩))]
        constructor
        · rintro (z | ⟨z1, z2⟩)
          · exact .inl z
          · exact .inr ⟨.inl ⟨h1, z1.symm⟩, z2.symm⟩
        · rintro (z | ⟨z1, z2⟩)
          · exact .inl z
          · refine .inr ⟨?_, z2.symm⟩
            rcases z1 with ⟨a, b⟩ | ⟨a, b⟩ <;> omega
      · rename_i h1
        split
        · rename_i h2
          rw [pm _ _ (new _ (.inr ⟨rfl, h2⟩))]
          constructor
          · rintro (z | ⟨z1, z2⟩)
            · exact .inl z
            · exact .inr ⟨.inr ⟨z1.symm, h2⟩, z2.symm⟩
          · rintro (z | ⟨z1, z2⟩)
            · exact .inl z
            · refine .inr ⟨?_, z2.symm⟩
              rcases z1 with ⟨a, b⟩ | ⟨a, b⟩ <;> omega
        · rename_i h2
          constructor
          · exact .inl
          · rintro (z | ⟨z1, z2⟩)
            · exact z
            · rcases z1 with ⟨a, b⟩ | ⟨a, b⟩
              · exact absurd a h1
              · exact absurd b h2
  have := gen rs [] (by simpa using ap) (by simpa using hv) (by simp [nbOf])
  simpa using this
theorem Tree.nb_mem {n : Nat} {rs : List Road} (t : Tree n rs) (v x l : Int) : (x, l) ∈ nbOf rs v ↔ ∃ r ∈ rs, Joins r v x ∧ r.2.2 = l := nbOf_mem t.tr.apart (fun r hr => (t.tr.places r hr).2.2) v x l

/-! ### what a search reaches lies as far as its step says -/
theorem Srch.all {n : Nat} {rs : List Road} {s : Int} {st : List (Int × Int)} (t : Tree n rs) (sr : Srch n (nbOf rs) s st.length st) : ∀ v ∈ pl n, v ∈ st.map (·.1) := by
  have hs : s ∈ st.map (·.1) := List.mem_map.mpr ⟨(s, s), List.mem_of_getElem? sr.first, rfl⟩
  have hs' : s ∈ pl n := mem_pl.mpr (sr.rng (s, s) (List.mem_of_getElem? sr.first))
  intro v hv
  refine t.tr.whole (P := fun v => v ∈ st.map (·.1)) (fun r hr => ?_) s hs' v hv hs
  have go : ∀ a b, Joins r a b → a ∈ st.map (·.1) → b ∈ st.map (·.1) := fun a b j ha => by
    obtain ⟨i, hi⟩ := List.mem_iff_getElem?.mp ha
    have hil : i < st.length := by
      have := (List.getElem?_eq_some_iff.mp hi).1
      simpa using this
    exact sr.clo i a hil hi b ((nbOf_keys rs a b).mpr ⟨r, hr, j⟩)
  exact ⟨go _ _ (.inl ⟨rfl, rfl⟩), go _ _ (.inr ⟨rfl, rfl⟩)⟩
end Tw

namespace Tw
/-! ### places found one after another, each with how far it is -/
structure Gr (rs : List Road) (n : Nat) (f : Int → Int → Int) (s : Int) (fd : List (Int × Int)) : Prop where
  nd : (fd.map (·.1)).Nodup
  rng : ∀ p ∈ fd.map (·.1), p ∈ pl n
  val : ∀ p d, (p, d) ∈ fd → d = f s p
  st : s ∈ fd.map (·.1)
  clo : ∀ p ∈ fd.map (·.1), p ≠ s → ∀ r ∈ rs, ∀ q, Joins r p q → f s p = f s q + r.2.2 → q ∈ fd.map (·.1)
theorem Gr.start {rs : List Road} {n : Nat} {f : Int → Int → Int} {s : Int} (m : Met rs (pl n) f) (hs : s ∈ pl n) : Gr rs n f s [(s, 0)] := by
  refine ⟨by simp, fun p hp => ?_, fun p d h => ?_, by simp, fun p hp ne => ?_⟩
  · have : p = s := by simpa using hp
    rw [this]; exact hs
  · have : p = s ∧ d = 0 := by simpa using h
    rw [this.1, this.2, m.zero s hs]
  · exact absurd (by simpa using hp) ne
theorem Met.two {rs : List Road} {vs : List Int} {f : Int → Int → Int} (m : Met rs vs f) {s : Int} (hs : s ∈ vs) {r : Road} (hr : r ∈ rs) {p q : Int} (j : Joins r p q) : f s q = f s p + r.2.2 ∨ f s p = f s q + r.2.2 := by
  rcases m.road s hs r hr with e | e <;> rcases j with ⟨a, b⟩ | ⟨a, b⟩ <;> rw [a, b] at e
  · exact .inr e
  · exact .inl e
  · exact .inl e
  · exact .inr e
theorem Gr.grow {rs : List Road} {n : Nat} {f : Int → Int → Int} {s : Int} {fd : List (Int × Int)} (g : Gr rs n f s fd) (m : Met rs (pl n) f) (hl : ∀ r ∈ rs, 1 ≤ r.2.2) {r : Road} (hr : r ∈ rs) {p q d : Int} (j : Joins r p q) (hq : q ∈ pl n)
    (hp : (p, d) ∈ fd) (nq : q ∉ fd.map (·.1)) : Gr rs n f s (fd ++ [(q, d + r.2.2)]) := by
  have hpk : p ∈ fd.map (·.1) := List.mem_map.mpr ⟨_, hp, rfl⟩
  have hs := g.rng s g.st
  have em : (fd ++ [(q, d + r.2.2)]).map (·.1) = fd.map (·.1) ++ [q] := by rw [List.map_append]; rfl
  have key : f s q = f s p + r.2.2 := by
    rcases m.two hs hr j with e | e
    · exact e
    · exfalso
      by_cases ps : p = s
      · have := m.zero s hs
        have := m.nn s hs q hq
        have := hl r hr
        rw [ps] at e; omega
      · exact nq (g.clo p hpk ps r hr q j e)
  refine ⟨?_, fun x hx => ?_, fun x y h => ?_, ?_, fun x hx nx r' hr' y j' e => ?_⟩
  · rw [em]
    refine List.nodup_append.mpr ⟨g.nd, by simp, fun a ha b hb e => ?_⟩
    have : b = q := by simpa using hb
    exact nq (by rw [← this, ← e]; exact ha)
  · rw [em] at hx
    rcases List.mem_append.mp hx with h | h
    · exact g.rng x h
    · rw [List.mem_singleton.mp h]; exact hq
  · rcases List.mem_append.mp h with h | h
    · exact g.val x y h
    · have : x = q ∧ y = d + r.2.2 := by simpa using h
      rw [this.1, this.2, key, g.val p d hp]
  · rw [em]; exact List.mem_append_left _ g.st
  · rw [em] at hx ⊢
    rcases List.mem_append.mp hx with h | h
    · exact List.mem_append_left _ (g.clo x h nx r' hr' y j' e)
    · have ex := List.mem_singleton.mp h
      subst ex
      have : y = p := m.one s hs r' hr' r hr x y p j' j.symm e key
      rw [this]; exact List.mem_append_left _ hpk
theorem Gr.length {rs : List Road} {n : Nat} {f : Int → Int → Int} {s : Int} {fd : List (Int × Int)} (g : Gr rs n f s fd) (h : n ≤ fd.length) : ∀ v ∈ pl n, v ∈ fd.map (·.1) := by
  have le : (fd.map (·.1)).length ≤ n := by
    have key : ∀ (m : Nat) (l : List Int), l.Nodup → (∀ x ∈ l, 0 ≤ x ∧ x < m) → l.length ≤ m := by
      intro m
      induction m with
      | zero =>
        intro l _ h
        cases l with
        | nil => exact Nat.le_refl _
        | cons x t => have := h x (by simp); omega
      | succ m ih =>
        intro l hn h
        by_cases hm : ((m : Nat) : Int) ∈ l
        · have hp := List.perm_cons_erase hm
          rw [hp.length_eq, List.length_cons]
          obtain ⟨h1, h2⟩ := List.nodup_cons.mp (hp.nodup_iff.mp hn)
          have := ih (l.erase (m : Int)) h2 fun x hx => by
            have b := h x (List.mem_of_mem_erase hx)
            have : x ≠ (m : Int) := fun e => h1 (e ▸ hx)
            omega
          omega
        · have := ih l hn fun x hx => by
            have b := h x hx
            have : x ≠ (m : Int) := fun e => hm (e ▸ hx)
            omega
          omega
    exact key n _ g.nd fun x hx => mem_pl.mp (g.rng x hx)
  intro v hv
  obtain ⟨h1, h2⟩ := mem_pl.mp hv
  exact full_of_length n _ g.nd (fun x hx => mem_pl.mp (g.rng x hx)) (by rw [List.length_map] at le ⊢; omega) v h1 h2
/-- nothing more to be found: all are -/
theorem Gr.full {rs : List Road} {n : Nat} {f : Int → Int → Int} {s : Int} {fd : List (Int × Int)} (g : Gr rs n f s fd) (t : Tree n rs) (h : ∀ r ∈ rs, r.1 ∈ fd.map (·.1) ↔ r.2.1 ∈ fd.map (·.1)) : n ≤ fd.length := by
  have all : ∀ v ∈ pl n, v ∈ fd.map (·.1) := fun v hv => t.tr.whole (P := fun v => v ∈ fd.map (·.1)) h s (g.rng s g.st) v hv g.st
  have sub : ∀ (m : Nat) (l : List Int), (∀ v, 0 ≤ v → v < (m : Int) → v ∈ l) → m ≤ l.length := by
    intro m
    induction m with
    | zero => intro l _; omega
    | succ m ih =>
      intro l hl
      have hm := hl m (by omega) (by omega)
      have hp := List.perm_cons_erase hm
      rw [hp.length_eq, List.length_cons]
      have := ih (l.erase (m : Int)) fun v h1 h2 => (List.mem_erase_of_ne (by omega)).mpr (hl v h1 (by omega))
      omega
  have := sub n (fd.map (·.1)) fun v h1 h2 => all v (mem_pl.mpr ⟨h1, h2⟩)
  simpa using this
end Tw

namespace Tw
/-! ### ways: each place nearer to the goal by the road to it -/
def Desc (rs : List Road) (f : Int → Int → Int) (b : Int) (ws : List Int) : Prop := ∀ (i : Nat) (p q : Int), ws[i]? = some p → ws[i + 1]? = some q → ∃ r ∈ rs, Joins r p q ∧ f b p = f b q + r.2.2
theorem Desc.one {rs : List Road} {f : Int → Int → Int} {b a : Int} : Desc rs f b [a] := fun i p q _ h => by simp at h
theorem Desc.lt {rs : List Road} {f : Int → Int → Int} {b : Int} {ws : List Int} (d : Desc rs f b ws) (hl : ∀ r ∈ rs, 1 ≤ r.2.2) : ∀ (k i : Nat) (p q : Int), ws[i]? = some p → ws[i + k + 1]? = some q → f b q < f b p := by
  intro k
  induction k with
  | zero =>
    intro i p q h1 h2
    obtain ⟨r, hr, _, e⟩ := d i p q h1 h2
    have := hl r hr; omega
  | succ k ih =>
    intro i p q h1 h2
    have hlt : i + k + 1 < ws.length := by
      have := (List.getElem?_eq_some_iff.mp h2).1; omega
    obtain ⟨x, hx⟩ : ∃ x, ws[i + k + 1]? = some x := ⟨_, List.getElem?_eq_getElem hlt⟩
    have := ih i p x h1 hx
    obtain ⟨r, hr, _, e⟩ := d (i + k + 1) x q hx h2
    have := hl r hr; omega
theorem Desc.snoc {rs : List Road} {f : Int → Int → Int} {b : Int} {ws : List Int} {p q : Int} (d : Desc rs f b ws) (hp : ws[ws.length - 1]? = some p) {r : Road} (hr : r ∈ rs) (j : Joins r p q) (e : f b p = f b q + r.2.2) : Desc rs f b (ws ++ [q]) := by
  intro i x y h1 h2
  have hw : 0 < ws.length := by
    have := (List.getElem?_eq_some_iff.mp hp).1; omega
  have hi : i + 1 < (ws ++ [q]).length := (List.getElem?_eq_some_iff.mp h2).1
  rw [List.length_append] at hi
  have hi' : i < ws.length := by simp at hi; omega
  rw [List.getElem?_append_left hi'] at h1
  by_cases hlt : i + 1 < ws.length
  · rw [List.getElem?_append_left hlt] at h2
    exact d i x y h1 h2
  · have ei : i = ws.length - 1 := by omega
    rw [List.getElem?_append_right (by omega), show i + 1 - ws.length = 0 by omega] at h2
    have ey : q = y := by simpa using h2
    rw [ei, hp] at h1
    cases h1
    subst ey
    exact ⟨r, hr, j, e⟩
/-- a way from a to b -/
structure WayOf (n : Nat) (rs : List Road) (f : Int → Int → Int) (a b : Int) (ws : List Int) : Prop where
  d : Desc rs f b ws
  first : ws[0]? = some a
  last : ws[ws.length - 1]? = some b
  rng : ∀ x ∈ ws, x ∈ pl n
end Tw

namespace Tw
/-! ### marks: alike just where roads lead from one place to the other -/
structure Marks (n : Nat) (rs : List Road) (ms : List Int) : Prop where
  len : ms.length = n
  alike : ∀ r ∈ rs, ms[r.1.toNat]? = ms[r.2.1.toNat]?
  sound : ∀ (u v : Nat) (x : Int), ms[u]? = some x → ms[v]? = some x → ∀ P : Int → Prop, (∀ r ∈ rs, P r.1 ↔ P r.2.1) → (P (u : Int) ↔ P (v : Int))
theorem Marks.start {n : Nat} : Marks n [] (pl n) := by
  refine ⟨pl_length n, (fun r hr => nomatch hr), fun u v x h1 h2 P _ => ?_⟩
  have hu : u < n := by have := (List.getElem?_eq_some_iff.mp h1).1; rw [pl_length] at this; exact this
  have hv : v < n := by have := (List.getElem?_eq_some_iff.mp h2).1; rw [pl_length] at this; exact this
  rw [pl_get hu] at h1
  rw [pl_get hv] at h2
  have e1 : (u : Int) = x := Option.some.inj h1
  have e2 : (v : Int) = x := Option.some.inj h2
  rw [e1, e2]
def remark (a b m : Int) : Int := if m = b then a else m
theorem Marks.step {n : Nat} {rs : List Road} {ms : List Int} (k : Marks n rs ms) {r : Road} (v : Valid n r) {a b : Int} (ha : ms[r.1.toNat]? = some a) (hb : ms[r.2.1.toNat]? = some b) : Marks n (rs ++ [r]) (ms.map (remark a b)) := by
  have v1 := v.a0; have v2 := v.b0
  refine ⟨by rw [List.length_map]; exact k.len, fun q hq => ?_, fun u w x h1 h2 P hP => ?_⟩
  · rw [List.getElem?_map, List.getElem?_map]
    rcases List.mem_append.mp hq with h | h
    · rw [k.alike q h]
    · have e : q = r := by simpa using h
      subst e
      rw [ha, hb]
      show some (remark a b a) = some (remark a b b)
      unfold remark
      rw [if_pos rfl]
      split <;> rfl
  · have hP' : ∀ q ∈ rs, P q.1 ↔ P q.2.1 := fun q hq => hP q (List.mem_append_left _ hq)
    have hr : P r.1 ↔ P r.2.1 := hP r (List.mem_append_right _ (by simp))
    have e1 : ((r.1.toNat : Nat) : Int) = r.1 := by omega
    have e2 : ((r.2.1.toNat : Nat) : Int) = r.2.1 := by omega
    rw [List.getElem?_map] at h1 h2
    cases eu : ms[u]? with
    | none => rw [eu] at h1; cases h1
    | some y =>
      cases ew : ms[w]? with
      | none => rw [ew] at h2; cases h2
      | some z =>
        rw [eu] at h1
        rw [ew] at h2
        have g1 : remark a b y = x := Option.some.inj h1
        have g2 : remark a b z = x := Option.some.inj h2
        have ofb : ∀ {i : Nat}, ms[i]? = some b → (P (i : Int) ↔ P r.2.1) := fun hi => by rw [← e2]; exact k.sound _ _ b hi hb P hP'
        have ofa : ∀ {i : Nat}, ms[i]? = some a → (P (i : Int) ↔ P r.1) := fun hi => by rw [← e1]; exact k.sound _ _ a hi ha P hP'
        unfold remark at g1 g2
        by_cases yb : y = b <;> by_cases zb : z = b
        · rw [yb] at eu; rw [zb] at ew
          exact (ofb eu).trans (ofb ew).symm
        · rw [if_pos yb] at g1; rw [if_neg zb] at g2
          rw [yb] at eu; rw [g2, ← g1] at ew
          exact (ofb eu).trans (hr.symm.trans (ofa ew).symm)
        · rw [if_neg yb] at g1; rw [if_pos zb] at g2
          rw [zb] at ew; rw [g1, ← g2] at eu
          exact (ofa eu).trans (hr.trans (ofb ew).symm)
        · rw [if_neg yb] at g1; rw [if_neg zb] at g2
          rw [g1] at eu; rw [g2] at ew
          exact k.sound u w x eu ew P hP'
end Tw

namespace Tw
/-! ### all places are reached by growing from one -/
theorem Met.grown {n : Nat} {rs : List Road} {f : Int → Int → Int} (t : Tree n rs) (m : Met rs (pl n) f) {s B : Int} (hs : s ∈ pl n) (hB : ∀ r ∈ rs, r.2.2 ≤ B) {P : Int → Prop} (h0 : P s)
    (hstep : ∀ r ∈ rs, ∀ p q, p ∈ pl n → q ∈ pl n → Joins r p q → f s q = f s p + r.2.2 → P p → P q) :
    ∀ k : Nat, k < n → ∃ fd : List (Int × Int), Gr rs n f s fd ∧ fd.length = k + 1 ∧ ∀ x ∈ fd, x.2 ≤ (k : Int) * B ∧ P x.1
  | 0, _ => ⟨[(s, 0)], Gr.start m hs, rfl, fun x hx => by rw [List.mem_singleton.mp hx]; exact ⟨by simp, h0⟩⟩
  | k + 1, hk => by
    obtain ⟨fd, g, hl, hx⟩ := Met.grown t m hs hB h0 hstep k (by omega)
    have hno : ¬ ∀ r ∈ rs, r.1 ∈ fd.map (·.1) ↔ r.2.1 ∈ fd.map (·.1) := fun h => by have := g.full t h; omega
    obtain ⟨r, hr, p, q, j, hp, hq⟩ : ∃ r ∈ rs, ∃ p q, Joins r p q ∧ p ∈ fd.map (·.1) ∧ q ∉ fd.map (·.1) := by
      apply Classical.byContradiction
      intro hn
      apply hno
      intro r hr
      constructor
      · intro h1
        apply Classical.byContradiction
        intro h2
        exact hn ⟨r, hr, r.1, r.2.1, .inl ⟨rfl, rfl⟩, h1, h2⟩
      · intro h1
        apply Classical.byContradiction
        intro h2
        exact hn ⟨r, hr, r.2.1, r.1, .inr ⟨rfl, rfl⟩, h1, h2⟩
    obtain ⟨⟨p', d⟩, hpd, ep⟩ := List.mem_map.mp hp
    have ep' : p' = p := ep
    subst ep'
    obtain ⟨m1, m2, _⟩ := t.tr.places r hr
    have qm : q ∈ pl n := by
      rcases j with ⟨_, e⟩ | ⟨e, _⟩
      · rw [← e]; exact m2
      · rw [← e]; exact m1
    have g2 := g.grow m t.len hr j qm hpd hq
    have lr := t.len r hr
    have br := hB r hr
    have ek : ((k + 1 : Nat) : Int) * B = (k : Int) * B + B := by rw [Int.natCast_add, Int.add_mul]; simp
    refine ⟨fd ++ [(q, d + r.2.2)], g2, by rw [List.length_append, hl]; rfl, fun x hx' => ?_⟩
    rw [ek]
    rcases List.mem_append.mp hx' with h | h
    · have := hx x h
      exact ⟨by omega, this.2⟩
    · have e : x = (q, d + r.2.2) := List.mem_singleton.mp h
      subst e
      have hp2 := hx _ hpd
      refine ⟨by have := hp2.1; show d + r.2.2 ≤ _; have h1 : d ≤ (k : Int) * B := hp2.1; omega, hstep r hr p' q (g.rng p' hp) qm j ?_ hp2.2⟩
      have v1 := g2.val q (d + r.2.2) (List.mem_append_right _ (List.mem_singleton.mpr rfl))
      have v2 := g.val p' d hpd
      omega
theorem Met.ind {n : Nat} {rs : List Road} {f : Int → Int → Int} (t : Tree n rs) (m : Met rs (pl n) f) {s : Int} (hs : s ∈ pl n) {P : Int → Prop} (h0 : P s)
    (hstep : ∀ r ∈ rs, ∀ p q, p ∈ pl n → q ∈ pl n → Joins r p q → f s q = f s p + r.2.2 → P p → P q) : ∀ v ∈ pl n, P v := by
  intro v hv
  have n1 := t.lo
  obtain ⟨B, hB⟩ : ∃ B : Int, ∀ r ∈ rs, r.2.2 ≤ B := by
    clear hstep m t
    induction rs with
    | nil => exact ⟨0, fun _ h => nomatch h⟩
    | cons r q ih =>
      obtain ⟨B, h⟩ := ih
      refine ⟨max B r.2.2, fun x hx => ?_⟩
      rcases List.mem_cons.mp hx with e | e
      · rw [e]; exact Int.le_max_right _ _
      · exact Int.le_trans (h x e) (Int.le_max_left _ _)
  obtain ⟨fd, g, hl, hx⟩ := Met.grown t m hs hB h0 hstep (n - 1) (by omega)
  obtain ⟨x, hxm, e⟩ := List.mem_map.mp (g.length (by omega) v hv)
  rw [← e]; exact (hx x hxm).2
theorem Met.bound {n : Nat} {rs : List Road} {f : Int → Int → Int} (t : Tree n rs) (m : Met rs (pl n) f) {B : Int} (hB : ∀ r ∈ rs, r.2.2 ≤ B) (hB0 : 0 ≤ B) {s v : Int} (hs : s ∈ pl n) (hv : v ∈ pl n) : f s v ≤ 11 * B := by
  have n1 := t.lo
  have n2 := t.hi
  obtain ⟨fd, g, hl, hx⟩ := Met.grown (P := fun _ => True) t m hs hB trivial (fun _ _ _ _ _ _ _ _ _ => trivial) (n - 1) (by omega)
  obtain ⟨x, hxm, e⟩ := List.mem_map.mp (g.length (by omega) v hv)
  have h1 := (hx x hxm).1
  have h2 := g.val x.1 x.2 hxm
  rw [e] at h2
  rw [← h2]
  have : ((n - 1 : Nat) : Int) * B ≤ 11 * B := Int.mul_le_mul_of_nonneg_right (by omega) hB0
  omega
end Tw

namespace Tw
section
variable {n : Nat} {rs : List Road} {f : Int → Int → Int}
theorem Met.joins {p q : Int} {r : Road} (t : Tree n rs) (hr : r ∈ rs) (j : Joins r p q) : p ∈ pl n ∧ q ∈ pl n ∧ 1 ≤ r.2.2 := by
  obtain ⟨m1, m2, _⟩ := t.tr.places r hr
  rcases j with ⟨e1, e2⟩ | ⟨e1, e2⟩
  · rw [← e1, ← e2]; exact ⟨m1, m2, t.len r hr⟩
  · rw [← e1, ← e2]; exact ⟨m2, m1, t.len r hr⟩
/-- the way by another place is no shorter -/
theorem Met.tri (t : Tree n rs) (m : Met rs (pl n) f) {a c d : Int} (ha : a ∈ pl n) (hc : c ∈ pl n) (hd : d ∈ pl n) : f c d ≤ f c a + f a d := by
  refine Met.ind t m ha (P := fun d => f c d ≤ f c a + f a d) ?_ (fun r hr p q hp hq j e ih => ?_) d hd
  · have := m.zero a ha; omega
  · have l := (Met.joins t hr j).2.2
    rcases m.two hc hr j with z | z
    · show f c q ≤ _; have ih' : f c p ≤ f c a + f a p := ih; omega
    · show f c q ≤ _; have ih' : f c p ≤ f c a + f a p := ih; omega
/-- a road parts the places: ways from one side to the other go over it -/
theorem Met.cut (t : Tree n rs) (m : Met rs (pl n) f) {r : Road} (hr : r ∈ rs) {p q : Int} (j : Joins r p q) {x y : Int} (hx : x ∈ pl n) (hy : y ∈ pl n) (ex : f x q = f x p + r.2.2) (ey : f p y = f q y + r.2.2) : f x y = f x p + r.2.2 + f q y := by
  obtain ⟨hp, hq, hl⟩ := Met.joins t hr j
  have key : ∀ u ∈ pl n, f p u = f q u + r.2.2 → f x u = f x p + r.2.2 + f q u ∧ ∃ w, ∃ r0 ∈ rs, Joins r0 u w ∧ f x u = f x w + r0.2.2 ∧ ((w = p ∧ u = q) ∨ f q w < f q u) := by
    refine Met.ind t m hq (P := fun u => f p u = f q u + r.2.2 → f x u = f x p + r.2.2 + f q u ∧ ∃ w, ∃ r0 ∈ rs, Joins r0 u w ∧ f x u = f x w + r0.2.2 ∧ ((w = p ∧ u = q) ∨ f q w < f q u)) ?_ (fun r' hr' u v hu hv j' e ih ev => ?_)
    · intro _
      have z := m.zero q hq
      exact ⟨by omega, p, r, hr, j.symm, ex, .inl ⟨rfl, rfl⟩⟩
    · have hl' := (Met.joins t hr' j').2.2
      have eu : f p u = f q u + r.2.2 := by
        have s1 := m.sym p hp u hu
        have s2 := m.sym q hq u hu
        rcases m.two hu hr j with z | z
        · -- u on the side of p
          rcases m.two hp hr' j' with y1 | y1 <;> omega
        · omega
      obtain ⟨e1, w, r0, hr0, j0, e2, e3⟩ := ih eu
      rcases m.two hx hr' j' with z | z
      · exact ⟨by omega, u, r', hr', j'.symm, z, .inr (by omega)⟩
      · exfalso
        have hw : v = w := m.one x hx r' hr' r0 hr0 u v w j' j0 z e2
        rcases e3 with ⟨e4, e5⟩ | e4
        · rw [hw, e4] at ev
          have z0 := m.zero p hp
          have nn := m.nn q hq p hp
          omega
        · rw [hw] at e; omega
  exact (key y hy ey).1
/-- four places: of three sums of two ways each two are greatest -/
theorem Met.four (t : Tree n rs) (m : Met rs (pl n) f) {a b c d : Int} (ha : a ∈ pl n) (hb : b ∈ pl n) (hc : c ∈ pl n) (hd : d ∈ pl n) : f a b + f c d ≤ f a c + f b d ∨ f a b + f c d ≤ f a d + f b c := by
  refine Met.ind t m ha (P := fun b => f a b + f c d ≤ f a c + f b d ∨ f a b + f c d ≤ f a d + f b c) ?_ (fun r hr p q hp hq j e ih => ?_) b hb
  · have z := m.zero a ha
    have tr := Met.tri t m ha hc hd
    have s := m.sym c hc a ha
    left; omega
  · have hl := (Met.joins t hr j).2.2
    have sc1 := m.sym q hq c hc
    have sc2 := m.sym p hp c hc
    have sd1 := m.sym q hq d hd
    have sd2 := m.sym p hp d hd
    rcases m.two hc hr j with zc | zc
    · rcases m.two hd hr j with zd | zd
      · have ih' : f a p + f c d ≤ f a c + f p d ∨ f a p + f c d ≤ f a d + f p c := ih
        show f a q + f c d ≤ f a c + f q d ∨ f a q + f c d ≤ f a d + f q c
        rcases ih' with h | h
        · left; omega
        · right; omega
      · -- d beyond, c not
        have c1 := Met.cut t m hr j ha hd e (by omega)
        have c2 := Met.cut t m hr j hc hd zc (by omega)
        right
        show f a q + f c d ≤ f a d + f q c
        omega
    · rcases m.two hd hr j with zd | zd
      · have c1 := Met.cut t m hr j ha hc e (by omega)
        have c2 := Met.cut t m hr j hd hc zd (by omega)
        have sdc := m.sym d hd c hc
        left
        show f a q + f c d ≤ f a c + f q d
        omega
      · have c1 := Met.cut t m hr j ha hc e (by omega)
        have tr := Met.tri t m hq hc hd
        left
        show f a q + f c d ≤ f a c + f q d
        omega
/-! ### sums of wants -/
/-- the sum over the places -/
def tot (n : Nat) (g : Int → Int) : Int := ((pl n).map g).sum
/-- what lies beyond the road from p to q wants so much -/
def beyW (n : Nat) (w : Int → Int) (f : Int → Int → Int) (p q : Int) : Int := tot n fun x => if f q x < f p x then w x else 0
end
end Tw

namespace Tw
section
variable {n : Nat} {rs : List Road} {f : Int → Int → Int}
/-! ### ends and middles -/
theorem Met.ends (t : Tree n rs) (m : Met rs (pl n) f) {o a b : Int} (ho : o ∈ pl n) (ha : a ∈ pl n) (h0 : ∀ x ∈ pl n, f o x ≤ f o a) (h1 : ∀ x ∈ pl n, f a x ≤ f a b) : ∀ x ∈ pl n, ∀ y ∈ pl n, f x y ≤ f a b := by
  intro x hx y hy
  have a1 := h0 x hx
  have a2 := h0 y hy
  have b1 := h1 x hx
  have b2 := h1 y hy
  have s1 := m.sym x hx o ho
  have s2 := m.sym y hy o ho
  have s3 := m.sym x hx a ha
  have s4 := m.sym y hy a ha
  rcases Met.four t m hx hy ho ha with h | h <;> omega
/-- a spot: on the road from a to b, or a itself -/
structure SpotOk (n : Nat) (rs : List Road) (a b p len : Int) : Prop where
  ha : a ∈ pl n
  hb : b ∈ pl n
  on : (a = b ∧ p = 0 ∧ len = 0) ∨ (a ≠ b ∧ 0 ≤ p ∧ p ≤ 2 * len ∧ ∃ r ∈ rs, Joins r a b ∧ r.2.2 = len)
/-- how far it lies, in halves -/
def spotV (f : Int → Int → Int) (x a b p len : Int) : Int := if 2 * (f x b + len) - p < 2 * f x a + p then 2 * (f x b + len) - p else 2 * f x a + p
theorem joins_ne (t : Tree n rs) {r : Road} (hr : r ∈ rs) {a b : Int} (j : Joins r a b) : a ≠ b := by
  have := (t.tr.places r hr).2.2
  rcases j with ⟨h1, h2⟩ | ⟨h1, h2⟩
  · rw [← h1, ← h2]; exact this
  · rw [← h1, ← h2]; exact this.symm
/-- along the way the two parts come to the whole -/
theorem Met.along (t : Tree n rs) (m : Met rs (pl n) f) {a b p q : Int} (ha : a ∈ pl n) (hb : b ∈ pl n) {r : Road} (hr : r ∈ rs) (j : Joins r p q) (eb : f b p = f b q + r.2.2) (ep : f a b = f a p + f b p) : f a q = f a p + r.2.2 ∧ f a b = f a q + f b q := by
  obtain ⟨hp, hq, hl⟩ := Met.joins t hr j
  have tr := Met.tri t m hq ha hb
  have sq := m.sym q hq b hb
  rcases m.two ha hr j with z | z
  · exact ⟨z, by omega⟩
  · exfalso; omega
end
end Tw

namespace Tw
section
variable {n : Nat} {rs : List Road} {f : Int → Int → Int}
theorem Met.zero_eq (t : Tree n rs) (m : Met rs (pl n) f) {a x : Int} (ha : a ∈ pl n) (hx : x ∈ pl n) (h : f a x = 0) : x = a := by
  have key : x = a ∨ 0 < f a x := Met.ind t m ha (P := fun x => x = a ∨ 0 < f a x) (.inl rfl) (fun r hr p q hp hq j e _ => by
    have h1 := m.nn a ha p hp
    have h2 := t.len r hr
    exact .inr (by omega)) x hx
  rcases key with e | e
  · exact e
  · omega
/-- a road that goes from one side of a road to the other joins its two places -/
theorem Met.cross (t : Tree n rs) (m : Met rs (pl n) f) {r q : Road} (hr : r ∈ rs) (hq : q ∈ rs) {a b u v : Int} (j : Joins r a b) (k : Joins q u v) (su : f a u < f b u) (sv : ¬ f a v < f b v) : u = a ∧ v = b := by
  obtain ⟨ha, hb, hl⟩ := Met.joins t hr j
  obtain ⟨hu, hv, hk⟩ := Met.joins t hq k
  have eu : f u b = f u a + r.2.2 := by
    rcases m.two hu hr j with e | e
    · exact e
    · have h1 := m.sym u hu a ha
      have h2 := m.sym u hu b hb
      omega
  have ev : f a v = f b v + r.2.2 := by
    have h1 := m.sym v hv a ha
    have h2 := m.sym v hv b hb
    rcases m.two hv hr j with e | e
    · omega
    · omega
  have c := Met.cut t m hr j hu hv eu ev
  have z := m.zero u hu
  have lq : f u v = q.2.2 := by
    have := m.nn u hu v hv
    rcases m.two hu hq k with e | e
    · omega
    · omega
  have s1 := m.sym u hu a ha
  have s2 := m.sym u hu b hb
  have n1 := m.nn a ha u hu
  have n2 := m.nn b hb v hv
  have n3 := m.nn a ha v hv
  have n4 := m.nn b hb u hu
  refine ⟨Met.zero_eq t m ha hu ?_, Met.zero_eq t m hb hv ?_⟩
  · rcases m.two ha hq k with e | e <;> omega
  · rcases m.two hb hq k with e | e <;> omega
end
end Tw

namespace Tw
section
variable {n : Nat} {rs : List Road} {f : Int → Int → Int}
/-! ### one side of a road, grown -/
structure SideGr (n : Nat) (f : Int → Int → Int) (s o : Int) (fd : List Int) : Prop where
  nd : fd.Nodup
  rng : ∀ x ∈ fd, x ∈ pl n
  near : ∀ x ∈ fd, f s x < f o x
  st : s ∈ fd
theorem SideGr.grow {s o : Int} {fd : List Int} (g : SideGr n f s o fd) (t : Tree n rs) (m : Met rs (pl n) f) {r0 r : Road} (h0 : r0 ∈ rs) (j0 : Joins r0 s o) (hr : r ∈ rs) {u x : Int} (j : Joins r u x) (nj : ¬ Joins r s o) (hu : u ∈ fd) (hx : x ∉ fd) : SideGr n f s o (fd ++ [x]) := by
  obtain ⟨_, hxm, _⟩ := Met.joins t hr j
  refine ⟨?_, fun y hy => ?_, fun y hy => ?_, List.mem_append_left _ g.st⟩
  · rw [List.nodup_append]
    exact ⟨g.nd, by simp, fun a ha b hb e => hx (by rw [← List.mem_singleton.mp hb, ← e]; exact ha)⟩
  · rcases List.mem_append.mp hy with h | h
    · exact g.rng y h
    · rw [List.mem_singleton.mp h]; exact hxm
  · rcases List.mem_append.mp hy with h | h
    · exact g.near y h
    · rw [List.mem_singleton.mp h]
      apply Classical.byContradiction
      intro hn
      obtain ⟨e1, e2⟩ := Met.cross t m h0 hr j0 j (g.near u hu) hn
      subst e1; subst e2
      exact nj j
theorem SideGr.full {s o : Int} {fd : List Int} (g : SideGr n f s o fd) (t : Tree n rs) (m : Met rs (pl n) f) {r0 : Road} (h0 : r0 ∈ rs) (j0 : Joins r0 s o) (h : ∀ r ∈ rs, ¬ Joins r s o → (r.1 ∈ fd ↔ r.2.1 ∈ fd)) : ∀ x ∈ pl n, f s x < f o x → x ∈ fd := by
  obtain ⟨hs, ho, hl0⟩ := Met.joins t h0 j0
  refine Met.ind t m hs (P := fun x => f s x < f o x → x ∈ fd) (fun _ => g.st) fun r hr p q hp hq j e ih hlt => ?_
  have lr := t.len r hr
  have z := m.zero s hs
  have zo := m.zero o ho
  have nn1 := m.nn s hs p hp
  have nn2 := m.nn s hs o ho
  have hp' : f s p < f o p := by
    apply Classical.byContradiction
    intro hn
    obtain ⟨e1, e2⟩ := Met.cross t m h0 hr j0 j.symm hlt hn
    subst e1; omega
  have nj : ¬ Joins r s o := fun k => by
    have : (p = s ∧ q = o) ∨ (p = o ∧ q = s) := by
      rcases j with ⟨a, b⟩ | ⟨a, b⟩ <;> rcases k with ⟨c, d⟩ | ⟨c, d⟩
      · exact .inl ⟨by omega, by omega⟩
      · exact .inr ⟨by omega, by omega⟩
      · exact .inr ⟨by omega, by omega⟩
      · exact .inl ⟨by omega, by omega⟩
    rcases this with ⟨a, b⟩ | ⟨a, b⟩
    · subst b; omega
    · subst b; omega
  have hpf := ih hp'
  have hh := h r hr nj
  rcases j with ⟨a, b⟩ | ⟨a, b⟩
  · rw [← b]; exact hh.mp (by rw [a]; exact hpf)
  · rw [← a]; exact hh.mpr (by rw [b]; exact hpf)
theorem SideGr.length {s o : Int} {fd : List Int} (g : SideGr n f s o fd) (h : fd.length = n) : ∀ x ∈ pl n, f s x < f o x → x ∈ fd := fun x hx _ => by
  have := mem_pl.mp hx
  exact full_of_length n fd g.nd (fun y hy => mem_pl.mp (g.rng y hy)) h x this.1 this.2
/-- the places nearer to s than to o -/
def sideOf (n : Nat) (f : Int → Int → Int) (s o : Int) : List Int := (pl n).filter fun x => decide (f s x < f o x)
theorem SideGr.perm {s o : Int} {fd : List Int} (g : SideGr n f s o fd) (h : ∀ x ∈ pl n, f s x < f o x → x ∈ fd) : fd.Perm (sideOf n f s o) := by
  refine (List.perm_ext_iff_of_nodup g.nd ((pl_nodup n).sublist List.filter_sublist)).mpr fun x => ?_
  rw [List.mem_filter, decide_eq_true_iff]
  exact ⟨fun hx => ⟨g.rng x hx, g.near x hx⟩, fun hx => h x hx.1 hx.2⟩
end
end Tw

namespace Tw
section
variable {n : Nat} {rs : List Road} {f : Int → Int → Int}
/-! ### levels and loads -/
/-- what lies beyond the roads, by a number of each -/
def lift (rs : List Road) (f : Int → Int → Int) (d : Road → Int) (x : Int) : Int := (rs.map fun r => if f r.2.1 x < f r.1 x then d r else 0).sum
def absI (x : Int) : Int := if x < 0 then -x else x
/-- what goes over a road -/
def loadOf (n : Nat) (g : Int → Int) (f : Int → Int → Int) (r : Road) : Int := -(beyW n g f r.1 r.2.1)
def costOf (n : Nat) (g : Int → Int) (f : Int → Int → Int) (rs : List Road) : Int := (rs.map fun r => r.2.2 * absI (loadOf n g f r)).sum
end
end Tw

namespace Tw
section
variable {n : Nat} {rs : List Road} {f : Int → Int → Int}
/-! ### sendings and levels of the least cost -/
/-- a number of each road, by the side -/
def bySide (rs : List Road) (f : Int → Int → Int) (h : Road → Bool → Int) (x : Int) : Int := (rs.map fun r => h r (decide (f r.2.1 x < f r.1 x))).sum
/-- the level rises by a road's length to where its goods go -/
def levH (n : Nat) (g : Int → Int) (f : Int → Int → Int) (r : Road) (b : Bool) : Int := if b then (if loadOf n g f r > 0 then r.2.2 else 0) else (if loadOf n g f r < 0 then r.2.2 else 0)
def levOf (n : Nat) (g : Int → Int) (f : Int → Int → Int) (rs : List Road) : Int → Int := bySide rs f (levH n g f)
end
end Tw

namespace Tw
section
variable {n : Nat} {rs : List Road} {f : Int → Int → Int}
/-! ### rows that send -/
def okRow (n : Nat) (z : List Int) : Bool := match z with
  | [a, b, c] => decide ((0 ≤ a ∧ a < n) ∧ (0 ≤ b ∧ b < n) ∧ a ≠ b ∧ 1 ≤ c)
  | _ => false
def send1 (l : List Int) (z : List Int) : List Int := match z with
  | [a, b, c] => (l.set a.toNat (l.getD a.toNat 0 - c)).set b.toNat ((l.set a.toNat (l.getD a.toNat 0 - c)).getD b.toNat 0 + c)
  | _ => l
def leftOf (gs : List Int) (zss : List (List Int)) : List Int := zss.foldl send1 gs
/-- what rows send from a place, less what they send to it -/
def netOf (ss : List Road) (x : Int) : Int := (ss.map fun s => ((if s.1 = x then 1 else 0) - (if s.2.1 = x then 1 else 0)) * s.2.2).sum
/-! ### sendings along the roads -/
def sOf (n : Nat) (g : Int → Int) (f : Int → Int → Int) (r : Road) : List Road := (if loadOf n g f r > 0 then [(r.1, r.2.1, loadOf n g f r)] else []) ++ (if loadOf n g f r < 0 then [(r.2.1, r.1, -(loadOf n g f r))] else [])
def sends (n : Nat) (g : Int → Int) (f : Int → Int → Int) (rs : List Road) : List Road := rs.flatMap (sOf n g f)
end
end Tw

namespace Tw
section
variable {n : Nat} {rs : List Road} {f : Int → Int → Int}
instance decJ16 (r : Road) (u v : Int) : Decidable (Joins r u v) := by unfold Joins; infer_instance
/-! ### roads that are left -/
def usedB (rs : List Road) (ks : List Nat) (u v : Int) : Bool := ks.any fun k => match rs[k]? with
  | some r => decide (Joins r u v)
  | none => false
theorem usedB_iff {ks : List Nat} {u v : Int} : usedB rs ks u v = true ↔ ∃ k ∈ ks, ∃ r, rs[k]? = some r ∧ Joins r u v := by
  unfold usedB
  rw [List.any_eq_true]
  constructor
  · rintro ⟨k, hk, h⟩
    cases e : rs[k]? with
    | none => rw [e] at h; cases h
    | some r => rw [e] at h; exact ⟨k, hk, r, e, of_decide_eq_true h⟩
  · rintro ⟨k, hk, r, e, h⟩
    exact ⟨k, hk, by rw [e]; exact decide_eq_true h⟩
theorem usedB_symm (ks : List Nat) (u v : Int) : usedB rs ks u v = usedB rs ks v u := by
  have key : ∀ a b, usedB rs ks a b = true → usedB rs ks b a = true := fun a b h => by
    obtain ⟨k, hk, r, e, j⟩ := usedB_iff.mp h
    exact usedB_iff.mpr ⟨k, hk, r, e, j.symm⟩
  cases h : usedB rs ks u v with
  | true => rw [key _ _ h]
  | false =>
    cases h2 : usedB rs ks v u with
    | false => rfl
    | true => rw [key _ _ h2] at h; cases h
def lft (rs : List Road) (ks : List Nat) (v : Int) : List (Int × Int) := (nbOf rs v).filter fun p => !usedB rs ks v p.1
theorem lft_nodup (ks : List Nat) (v : Int) : ((lft rs ks v).map (·.1)).Nodup := by
  unfold lft
  exact (nbOf_nodup v rs).sublist (List.filter_sublist.map _)
theorem lft_mem (t : Tree n rs) {ks : List Nat} {v x l : Int} : (x, l) ∈ lft rs ks v ↔ (∃ r ∈ rs, Joins r v x ∧ r.2.2 = l) ∧ usedB rs ks v x = false := by
  unfold lft
  rw [List.mem_filter, t.nb_mem]
  show _ ∧ (!usedB rs ks v x) = true ↔ _
  cases usedB rs ks v x <;> simp
theorem used_snoc (ks : List Nat) {k : Nat} {r : Road} (hk : rs[k]? = some r) (v x : Int) : usedB rs (ks ++ [k]) v x = (usedB rs ks v x || decide (Joins r v x)) := by
  unfold usedB
  rw [List.any_append]
  show (_ || ((match rs[k]? with | some r => decide (Joins r v x) | none => false) || false)) = _
  rw [hk, Bool.or_false]
theorem lft_at (ks : List Nat) {k : Nat} {r : Road} (hk : rs[k]? = some r) {u w : Int} (j : Joins r u w) (ne : u ≠ w) : lft rs (ks ++ [k]) u = (lft rs ks u).filter fun p => decide (p.1 ≠ w) := by
  unfold lft
  rw [List.filter_filter]
  refine List.filter_congr fun p _ => ?_
  rw [used_snoc ks hk]
  have : decide (Joins r u p.1) = decide (p.1 = w) := by
    by_cases e : p.1 = w
    · rw [e, decide_eq_true j, decide_eq_true rfl]
    · rw [decide_eq_false e, decide_eq_false]
      intro h
      rcases j with ⟨a, b⟩ | ⟨a, b⟩ <;> rcases h with ⟨c, d⟩ | ⟨c, d⟩
      · exact e (d.symm.trans b)
      · exact ne (d.symm.trans b)
      · exact ne (c.symm.trans a)
      · exact e (c.symm.trans a)
  rw [this]
  cases usedB rs ks u p.1 <;> by_cases e : p.1 = w <;> simp [e]
theorem lft_off (ks : List Nat) {k : Nat} {r : Road} (hk : rs[k]? = some r) {u w v : Int} (j : Joins r u w) (h1 : v ≠ u) (h2 : v ≠ w) : lft rs (ks ++ [k]) v = lft rs ks v := by
  unfold lft
  refine List.filter_congr fun p _ => ?_
  rw [used_snoc ks hk, decide_eq_false, Bool.or_false]
  intro h
  rcases j with ⟨a, b⟩ | ⟨a, b⟩ <;> rcases h with ⟨c, d⟩ | ⟨c, d⟩
  · exact h1 (c.symm.trans a)
  · exact h2 (d.symm.trans b)
  · exact h2 (c.symm.trans a)
  · exact h1 (d.symm.trans b)
theorem filter_ne_length : ∀ {d : List (Int × Int)} {w l : Int}, (d.map (·.1)).Nodup → (w, l) ∈ d → (d.filter fun p => decide (p.1 ≠ w)).length + 1 = d.length
  | [], _, _, _, h => nomatch h
  | p :: t, w, l, nd, h => by
    obtain ⟨n1, n2⟩ := List.nodup_cons.mp (show (p.1 :: t.map (·.1)).Nodup from nd)
    rcases List.mem_cons.mp h with e | h
    · subst e
      have : t.filter (fun p => decide (p.1 ≠ w)) = t := by
        rw [List.filter_eq_self]
        intro q hq
        exact decide_eq_true fun e => n1 (List.mem_map.mpr ⟨q, hq, e⟩)
      rw [List.filter_cons, if_neg (by simp), this]; rfl
    · have ne : p.1 ≠ w := fun e => n1 (e ▸ List.mem_map.mpr ⟨_, h, rfl⟩)
      rw [List.filter_cons, if_pos (decide_eq_true ne), List.length_cons, List.length_cons, filter_ne_length n2 h]
def dl (rs : List Road) (ks : List Nat) (v : Int) : Nat := (lft rs ks v).length
def i1 (a b : Int) : Nat := if a = b then 1 else 0
/-- a road goes: two places have one less -/
theorem dl_step (t : Tree n rs) {ks : List Nat} {k : Nat} {r : Road} (hk : rs[k]? = some r) {u w l : Int} (j : Joins r u w) (hw : (w, l) ∈ lft rs ks u) (v : Int) : dl rs (ks ++ [k]) v + i1 v u + i1 v w = dl rs ks v := by
  have ne : u ≠ w := joins_ne t (List.mem_of_getElem? hk) j
  unfold dl i1
  by_cases h1 : v = u
  · subst h1
    rw [if_pos rfl, if_neg ne, lft_at ks hk j ne]
    have := filter_ne_length (lft_nodup ks v) hw
    omega
  · by_cases h2 : v = w
    · subst h2
      rw [if_neg h1, if_pos rfl, lft_at ks hk j.symm ne.symm]
      obtain ⟨⟨q, hq, jq, el⟩, us⟩ := (lft_mem t).mp hw
      have hu : (u, l) ∈ lft rs ks v := (lft_mem t).mpr ⟨⟨q, hq, jq.symm, el⟩, by rw [usedB_symm]; exact us⟩
      have := filter_ne_length (lft_nodup ks v) hu
      omega
    · rw [if_neg h1, if_neg h2, lft_off ks hk j h1 h2]; rfl
/-! ### a walk off -/
structure Off (n : Nat) (rs : List Road) (f : Int → Int → Int) (ks : List Nat) (s : Int) (ws : List Int) (js : List Nat) : Prop where
  len : js.length + 1 = ws.length
  first : ws[0]? = some s
  tour : ∀ (i k : Nat), js[i]? = some k → ∃ r p q, rs[k]? = some r ∧ ws[i]? = some p ∧ ws[i + 1]? = some q ∧ Joins r p q ∧ f s q = f s p + r.2.2
  nd : (ks ++ js).Nodup
  bd : ∀ k ∈ ks ++ js, k < rs.length
  par : ∀ v l : Int, ws[ws.length - 1]? = some l → (dl rs (ks ++ js) v + i1 v s + i1 v l) % 2 = dl rs ks v % 2
theorem Off.start {ks : List Nat} {s : Int} (hk : ks.Nodup) (hb : ∀ k ∈ ks, k < rs.length) : Off n rs f ks s [s] [] := by
  refine ⟨rfl, rfl, fun i k e => by simp at e, by rw [List.append_nil]; exact hk, by rw [List.append_nil]; exact hb, fun v l e => ?_⟩
  have : s = l := by simpa using e
  subst this
  rw [List.append_nil]; omega
theorem Off.rng (t : Tree n rs) {ks : List Nat} {s : Int} {ws : List Int} {js : List Nat} (o : Off n rs f ks s ws js) (hs : s ∈ pl n) : ∀ x ∈ ws, x ∈ pl n := fun x hx => by
  obtain ⟨i, hi⟩ := List.mem_iff_getElem?.mp hx
  cases i with
  | zero => rw [o.first] at hi; cases hi; exact hs
  | succ i =>
    have hl := o.len
    have : i < js.length := by have := (List.getElem?_eq_some_iff.mp hi).1; omega
    obtain ⟨r, p, q, e1, e2, e3, j, _⟩ := o.tour i js[i] (List.getElem?_eq_getElem this)
    rw [hi] at e3; cases e3
    exact (Met.joins t (List.mem_of_getElem? e1) j).2.1
/-- the farther on the walk, the farther from its start -/
theorem Off.lt (t : Tree n rs) {ks : List Nat} {s : Int} {ws : List Int} {js : List Nat} (o : Off n rs f ks s ws js) : ∀ (d i : Nat) (p q : Int), ws[i]? = some p → ws[i + d + 1]? = some q → f s p < f s q
  | 0, i, p, q, h1, h2 => by
    have hl := o.len
    have : i < js.length := by have := (List.getElem?_eq_some_iff.mp h2).1; omega
    obtain ⟨r, p', q', e1, e2, e3, j, e4⟩ := o.tour i js[i] (List.getElem?_eq_getElem this)
    rw [h1] at e2; cases e2
    rw [show i + 0 + 1 = i + 1 from rfl] at h2
    rw [h2] at e3; cases e3
    have := t.len r (List.mem_of_getElem? e1)
    omega
  | d + 1, i, p, q, h1, h2 => by
    have hl := o.len
    have hi : i + d + 1 < js.length := by have := (List.getElem?_eq_some_iff.mp h2).1; omega
    obtain ⟨r, p', q', e1, e2, e3, j, e4⟩ := o.tour (i + d + 1) js[i + d + 1] (List.getElem?_eq_getElem hi)
    have h3 := Off.lt t o d i p p' h1 e2
    rw [show i + (d + 1) + 1 = i + d + 1 + 1 by omega] at h2
    rw [h2] at e3; cases e3
    have := t.len r (List.mem_of_getElem? e1)
    omega
/-- a step more -/
theorem Off.step (t : Tree n rs) (m : Met rs (pl n) f) {ks : List Nat} {s : Int} {ws : List Int} {js : List Nat} (o : Off n rs f ks s ws js) (hs : s ∈ pl n) {l x d : Int} (hl : ws[ws.length - 1]? = some l) (hx : (x, d) ∈ lft rs (ks ++ js) l) :
    ∃ k r, rs[k]? = some r ∧ Joins r l x ∧ Off n rs f ks s (ws ++ [x]) (js ++ [k]) := by
  obtain ⟨⟨r, hr, j, ed⟩, us⟩ := (lft_mem t).mp hx
  obtain ⟨k, hk⟩ := List.mem_iff_getElem?.mp hr
  obtain ⟨lm, xm, lr⟩ := Met.joins t hr j
  have len := o.len
  have nu : k ∉ ks ++ js := fun h => by
    have := usedB_iff.mpr ⟨k, h, r, hk, j⟩
    rw [us] at this; cases this
  have up : f s x = f s l + r.2.2 := by
    rcases m.two hs hr j with e | e
    · exact e
    · exfalso
      by_cases h1 : js.length = 0
      · have : l = s := by
          rw [show ws.length - 1 = 0 by omega, o.first] at hl
          exact (Option.some.inj hl).symm
        subst this
        have := m.zero l hs
        have := m.nn l hs x xm
        omega
      · obtain ⟨r', p, q, e1, e2, e3, j', e4⟩ := o.tour (js.length - 1) js[js.length - 1] (List.getElem?_eq_getElem (by omega))
        rw [show js.length - 1 + 1 = ws.length - 1 by omega, hl] at e3
        cases e3
        have hp := m.one s hs r hr r' (List.mem_of_getElem? e1) l x p j j'.symm e e4
        subst hp
        have := (usedB_iff (rs := rs) (ks := ks ++ js) (u := l) (v := x)).mpr ⟨js[js.length - 1], List.mem_append_right _ (List.getElem_mem _), r', e1, j'.symm⟩
        rw [us] at this; cases this
  refine ⟨k, r, hk, j, ⟨by rw [List.length_append, List.length_append]; show js.length + 1 + 1 = ws.length + 1; omega, ?_, fun i k' e => ?_, ?_, fun k' h => ?_, fun v l' e => ?_⟩⟩
  · rw [List.getElem?_append_left (by omega)]; exact o.first
  · by_cases hi : i < js.length
    · rw [List.getElem?_append_left hi] at e
      obtain ⟨r', p, q, e1, e2, e3, j', e4⟩ := o.tour i k' e
      exact ⟨r', p, q, e1, by rw [List.getElem?_append_left (by omega)]; exact e2, by rw [List.getElem?_append_left (by omega)]; exact e3, j', e4⟩
    · rw [List.getElem?_append_right (by omega)] at e
      have h0 : i - js.length = 0 := by have := (List.getElem?_eq_some_iff.mp e).1; simp at this; omega
      rw [h0] at e
      have : k = k' := by simpa using e
      subst this
      refine ⟨r, l, x, hk, ?_, ?_, j, up⟩
      · rw [List.getElem?_append_left (by omega), show i = ws.length - 1 by omega]; exact hl
      · rw [List.getElem?_append_right (by omega), show i + 1 - ws.length = 0 by omega]; rfl
  · rw [← List.append_assoc, List.nodup_append]
    exact ⟨o.nd, by simp, fun a ha b hb e => nu (by rw [← List.mem_singleton.mp hb, ← e]; exact ha)⟩
  · rw [← List.append_assoc] at h
    rcases List.mem_append.mp h with h | h
    · exact o.bd k' h
    · rw [List.mem_singleton.mp h]; exact (List.getElem?_eq_some_iff.mp hk).1
  · have : x = l' := by
      rw [List.length_append, show ws.length + [x].length - 1 = ws.length from by simp, List.getElem?_append_right (Nat.le_refl _), Nat.sub_self] at e
      simpa using e
    subst this
    have h1 := dl_step t hk j hx v
    have h2 := o.par v l hl
    rw [← List.append_assoc]
    omega
end
end Tw

namespace Tw
section
variable {n : Nat} {rs : List Road} {f : Int → Int → Int}
/-! ### walks that take all roads -/
def oddL (n : Nat) (rs : List Road) (ks : List Nat) : List Int := (pl n).filter fun v => decide (dl rs ks v % 2 = 1)
theorem Off.fin {ks : List Nat} {s : Int} {ws : List Int} {js : List Nat} (o : Off n rs f ks s ws js) {l : Int} (hl : ws[ws.length - 1]? = some l) (h0 : dl rs (ks ++ js) l = 0) (hodd : dl rs ks s % 2 = 1) :
    l ≠ s ∧ dl rs ks l % 2 = 1 ∧ ∀ v, (dl rs (ks ++ js) v % 2 = 1 ↔ dl rs ks v % 2 = 1 ∧ v ≠ s ∧ v ≠ l) := by
  have par := fun v => o.par v l hl
  have ne : l ≠ s := fun e => by
    subst e
    have := par l
    unfold i1 at this
    rw [if_pos rfl] at this; omega
  have pl' := par l
  unfold i1 at pl' par
  rw [if_neg ne, if_pos rfl] at pl'
  refine ⟨ne, by omega, fun v => ?_⟩
  have pv := par v
  by_cases h1 : v = s
  · subst h1
    rw [if_pos rfl, if_neg (Ne.symm ne)] at pv
    constructor
    · intro h; omega
    · intro h; exact absurd rfl h.2.1
  · by_cases h2 : v = l
    · subst h2
      constructor
      · intro h; omega
      · intro h; exact absurd rfl h.2.2
    · rw [if_neg h1, if_neg h2] at pv
      constructor
      · intro h; exact ⟨by omega, h1, h2⟩
      · intro h; omega
end
end Tw

namespace Tw
open PySem L2
def top (i : Nat) : Stmt := PySem.Challenge.pw_treewells_k83_rows_as_texts.main.body.getD i (.Pass ⟨0, 0, 0, 0⟩)
abbrev sAreFigures : Stmt := top 6
abbrev sIsNumber : Stmt := top 7
abbrev sReadNumber : Stmt := top 8
abbrev sReadRow : Stmt := top 9
abbrev sReadRows : Stmt := top 10
abbrev sShownRow : Stmt := top 11
abbrev sShownRows : Stmt := top 12
abbrev sMix : Stmt := top 14
abbrev sLWhole : Stmt := top 15
abbrev sRows : Stmt := top 16
abbrev sShown : Stmt := top 17
abbrev sLike : Stmt := top 18
abbrev sLaw : Stmt := top 19
end Tw

namespace Tw
open PySem L2
open PySem.Builtin.Int (intBits)
structure Bi (K : PySem.W.Frag) (mg : Str → Option Value) : Prop where
  isinstance : mg "isinstance" = none
  int : mg "int" = none
  bool : mg "bool" = none
  list : mg "list" = none
  len : mg "len" = none
  all : mg "all" = none
  sum : mg "sum" = none
  range : mg "range" = none
  max : mg "max" = none
  min : mg "min" = none
  set : mg "set" = none
  sorted : mg "sorted" = none
  zip : mg "zip" = none
  any : mg "any" = none
  dict : mg "dict" = none
  reversed : mg "reversed" = none
  tuple : mg "tuple" = none
  ii : PySem.W.kitOne K (.type "int") (.type "int") = some true
  ib : PySem.W.kitOne K (.type "int") (.type "bool") = some false
  ll : PySem.W.kitOne K (.type "list") (.type "list") = some true
  bb : PySem.W.kitOne K (.type "bool") (.type "bool") = some true
  tt : PySem.W.kitOne K (.type "tuple") (.type "tuple") = some true
structure Def (K : PySem.W.Frag) (mg : Str → Option Value) (x : Str) (st : Stmt) (ps : List Str) (f : Addr) (fd : FuncData) : Prop where
  fn : Fun K x x st f fd
  bn : Binds K fd ps []
  mg : mg x = some (.ref f)
section
variable {P : Program} {w : World} {K : PySem.W.Frag} {mg : Str → Option Value} {base : Heap}
def spWhole : Sp := fun vs H Q _ => ∃ i : Int, vs = [.int i] ∧ Q (.bl true) H
theorem atI_int {α : Type} {xs : List α} {i : Int} {v : α} (h0 : 0 ≤ i) (h : xs[i.toNat]? = some v) : atI xs i = some v := by
  have e : i = ((i.toNat : Nat) : Int) := by omega
  rw [e]; exact atI_nat h
theorem get_ref {as : List Addr} {i : Nat} {y : V} (h : (as.map V.ref)[i]? = some y) : ∃ p, as[i]? = some p ∧ y = V.ref p := by
  rw [List.getElem?_map] at h
  cases e : as[i]? with
  | none => rw [e] at h; cases h
  | some p => rw [e] at h; exact ⟨p, rfl, (Option.some.inj h).symm⟩
theorem zV_append (a : List Int) (x : Int) : zV a ++ [V.int x] = zV (a ++ [x]) := by unfold zV; rw [List.map_append]; rfl
theorem zV_get {z : List Int} {i : Nat} {x : Int} (h : z[i]? = some x) : (zV z)[i]? = some (V.int x) := by unfold zV; rw [List.getElem?_map, h]; rfl
theorem zV_length (z : List Int) : (zV z).length = z.length := by unfold zV; simp
def mix1 (x k : Int) : Int := (x * x + k * x + 7 * k * k) * 1103515245 % 2147483629
def mixF (x k : Int) : Int := mix1 x k * mix1 x k % 2147483587
theorem mix1_lo (x k : Int) : 0 ≤ mix1 x k := Int.emod_nonneg _ (by decide)
theorem mix1_hi (x k : Int) : mix1 x k < 2147483629 := Int.emod_lt_of_pos _ (by decide)
theorem mixF_lo (x k : Int) : 0 ≤ mixF x k := Int.emod_nonneg _ (by decide)
theorem mixF_hi (x k : Int) : mixF x k < 2147483587 := Int.emod_lt_of_pos _ (by decide)
def spMix : Sp := fun vs H Q _ => ∃ x k : Int, vs = [.int x, .int k] ∧ intBits x ≤ 2 ^ 21 ∧ -1000 < k ∧ k < 1000 ∧ Q (.int (mixF x k)) H
theorem scMix : FnScope ["_law_number", "_law_k", "_law_mixed"] ["_law_number", "_law_k"] (defScope sMix) := ⟨rfl, rfl, rfl, by decide +kernel, rfl, by decide +kernel, by decide +kernel⟩
theorem ok_mix {f : Addr} {fd : FuncData} (F : Def K mg "_law_mix" sMix ["_law_number", "_law_k"] f fd) : FnOk P w K mg base CX0 1 f fd ["_law_number", "_law_k"] spMix := by
  refine F.fn.ok scMix (fun vs H Q E h => ?_) (fun cdv A outer s H vs Q E hr h => ?_)
  · obtain ⟨x, k, rfl, _⟩ := h
    rfl
  · obtain ⟨x, k, rfl, hx, k0, k1, q⟩ := h
    refine ⟨_, pss_cons (ps_set (i := 2) scMix.nd rfl (Or.inl rfl) (pe_op op_mod (pe_op op_mul (pe_op op_add (pe_op op_add (pe_op op_mulB (pv 0) (pv 0)) (pe_op op_mul (pv 1) (pv 0))) (pe_op op_mul (pe_op op_mul pe_int (pv 1)) (pv 1))) pe_int) pe_int))
      (pss_one (ps_ret (pe_op op_mod (pe_op op_mul (pv 2) (pv 2)) pe_int))), ?_⟩
    refine ⟨_, rfl, _, rfl, _, _, rfl, rfl, mul_bits hx hx (by decide), _, rfl, _, rfl, _, _, rfl, rfl, .inl ⟨by omega, by omega⟩, _, _, rfl, rfl, _, rfl, _, _, rfl, rfl, .inl ⟨by decide, by decide⟩, _, rfl, _, _, rfl, rfl, .inr ⟨by omega, by omega⟩, _, _, rfl, rfl, _, _, rfl, rfl, .inr ⟨by decide, by decide⟩, _, _, rfl, rfl, (by show (0 : Int) < 2147483629; decide), ?_⟩
    have a := mix1_lo x k; have b := mix1_hi x k
    refine ⟨_, rfl, _, rfl, _, _, rfl, rfl, .inl ⟨?_, ?_⟩, _, _, rfl, rfl, (by show (0 : Int) < 2147483587; decide), q⟩
    · show -(2 ^ 64) < mix1 x k; omega
    · show mix1 x k < 2 ^ 64; omega
theorem scLWhole : FnScope ["_law_found"] ["_law_found"] (defScope sLWhole) := ⟨rfl, rfl, rfl, by decide +kernel, rfl, by decide +kernel, by decide +kernel⟩
theorem ok_lwhole {f : Addr} {fd : FuncData} (F : Def K mg "_law_whole" sLWhole ["_law_found"] f fd) (B : Bi K mg) : FnOk P w K mg base CX0 1 f fd ["_law_found"] spWhole := by
  refine F.fn.ok scLWhole (fun vs H Q E h => ?_) (fun cdv A outer s H vs Q E hr h => ?_)
  · obtain ⟨i, rfl, _⟩ := h
    rfl
  · obtain ⟨i, rfl, k⟩ := h
    refine ⟨_, pss_one (ps_ret (pe_and (pe_callB call_isinst (by rfl) B.isinstance PyProof.Rows.boot_isinstance (pa_cons (pv 0) (pa_cons (pe_bltn (v := .ty "int") rfl B.int PyProof.Rows.boot_int rfl) pa_nil)))
      (pe_one (pe_not (pe_callB call_isinst (by rfl) B.isinstance PyProof.Rows.boot_isinstance (pa_cons (pv 0) (pa_cons (pe_bltn (v := .ty "bool") rfl B.bool PyProof.Rows.boot_bool rfl) pa_nil))))))), ?_⟩
    refine ⟨_, rfl, _, _, _, _, rfl, .int i, B.ii, _, rfl, iteT ?_⟩
    exact ⟨_, rfl, _, _, _, _, rfl, .int i, B.ib, _, rfl, k⟩
theorem pick_list {K : PySem.W.Frag} {H : Hp} {p : Addr} {xs : List V} (h : H p = some (.lst xs)) {i : Int} (h0 : 0 ≤ i) (h1 : i < xs.length) : ∃ v, v ∈ xs ∧ SqL K H p xs ∧ atI xs i = some v ∧ xs[i.toNat]? = some v := by
  have hi : i.toNat < xs.length := by omega
  exact ⟨xs[i.toNat], List.getElem_mem hi, SqL.of h, atI_int h0 (List.getElem?_eq_getElem hi), List.getElem?_eq_getElem hi⟩
theorem bits_small {a : Int} (h1 : -(2 ^ 64) < a) (h2 : a < 2 ^ 64) : intBits a ≤ 64 := intBits_le_64 h1 h2
theorem bits_add' {a b : Int} (ha : intBits a ≤ 2 ^ 20 + 1) (hb : -(2 ^ 64) < b ∧ b < 2 ^ 64) : intBits (a + b) ≤ 2 ^ 21 := by
  refine Nat.le_trans (PyProof.Rows.bits_add ha (bits_small hb.1 hb.2)) ?_
  have : max (2 ^ 20 + 1) 64 = 2 ^ 20 + 1 := by decide
  rw [this]; decide
theorem mem_cutV {xs : List V} {lo hi : Option Int} {y : V} (h : y ∈ cutV xs lo hi) : y ∈ xs := by
  unfold cutV at h
  exact List.mem_of_mem_drop (List.mem_of_mem_take h)
theorem zV_flat (z : List Int) : (zV z).all flatV = true := by
  unfold zV; rw [List.all_map, List.all_eq_true]; intro x _; rfl
theorem zV_item {z : List Int} {i : Nat} {y : V} (h : (zV z)[i]? = some y) : ∃ x, z[i]? = some x ∧ y = V.int x := by
  unfold zV at h
  rw [List.getElem?_map] at h
  cases e : z[i]? with
  | none => rw [e] at h; cases h
  | some x => rw [e] at h; exact ⟨x, rfl, (Option.some.inj h).symm⟩
theorem rows2_of {H : Hp} {a : Addr} {as : List Addr} {zss : List (List Int)} (h : RowsAt H a as zss) : Rows2 K H a as (zss.map zV) := by
  refine ⟨SqL.of h.top, by rw [List.length_map]; exact h.len, fun i p xs e1 e2 => ?_⟩
  rw [List.getElem?_map] at e2
  cases e : zss[i]? with
  | none => rw [e] at e2; cases e2
  | some z =>
    rw [e] at e2
    cases e2
    exact ⟨SqL.of (h.row i p z e1 e), zV_flat z⟩
theorem rows_same (zss : List (List Int)) : ((List.range (zss.map zV).length).all fun j => eqVs ((zss.map zV).getD j []) ((zss.map zV).getD j [])) = true := by
  rw [List.all_eq_true]
  intro j hj
  have hj' := List.mem_range.mp hj
  rw [List.length_map] at hj'
  have e : (zss.map zV).getD j [] = zV zss[j] := by
    rw [List.getD_eq_getElem?_getD, List.getElem?_map, List.getElem?_eq_getElem hj']; rfl
  rw [e]
  exact eqVs_refl (zV_flat _)
def spLaw (K : PySem.W.Frag) : Sp := fun vs H Q _ => ∃ (a : Addr) (ns : List Int), vs = [.ref a] ∧ SqL K H a (zV ns) ∧ (∀ n ∈ ns, Bits n) ∧ ns.length ≤ 63 ∧ ∀ H', Q (.bl true) H'
theorem copy_rows {H1 : Hp} {R D : Addr} {as : List Addr} {zss : List (List Int)} {te : TE} {σ : St} {Qf : Hp → Prop} (hR : RowsAt H1 R as zss) (hz : zss.length ≤ 100) (hD : H1 D = none)
    (hte : ∀ (p : Addr) (H4 : Hp) (Qv : VK) (zs : List V), H4 p = some (.lst zs) → (∀ l, H4 l = none → Qv (.ref l) (upd H4 l (.lst zs))) → te (σ ++ [some (.ref p)]) H4 Qv)
    (k : ∀ (bs : List Addr) (H2 : Hp), RowsAt H2 D bs zss → Same H1 H2 → (∀ b ∈ bs, H1 b = none) → Qf H2) :
    ∃ W : Nat → Nat → List V → Hp → Prop, (∃ m, W 0 m [] (upd H1 D (.lst []))) ∧ ∀ i m ys H2, W i m ys H2 →
      H2 D = some (.lst ys) ∧ (((Itl K R).stop i H2 ∧ Qf H2) ∨ ((Itl K R).go i H2 ∧ ∃ N : List V → Hp → Prop, (∀ ys' H', N ys' H' → ∃ m', m' < m ∧ W (i + 1) m' ys' H') ∧ ∀ y H3, (Itl K R).yld i H2 y H3 →
        tYes (σ ++ [some y]) H3 fun c H4 => if c = true then te (σ ++ [some y]) H4 fun z H5 => H5 D = some (.lst ys) ∧ ys.length < sizeLine ∧ N (ys ++ [z]) (upd H5 D (.lst (ys ++ [z]))) else N ys H4)) := by
  have al := hR.len
  refine comp_list (K := K) (a := R) (xs := as.map V.ref) (fun i ys H2 => ∃ bs : List Addr, ys = bs.map V.ref ∧ bs.length = i ∧ H2 D = some (.lst ys) ∧ Same H1 H2 ∧ (∀ (j : Nat) (p : Addr) (z : List Int), bs[j]? = some p → zss[j]? = some z → H2 p = some (.lst (zV z))) ∧ ∀ b ∈ bs, H1 b = none ∧ b ≠ D)
      (fun i ys H2 ⟨_, _, _, h1, h2, _⟩ => ⟨h1, SqL.of (h2 _ _ hR.top)⟩) ⟨[], rfl, rfl, upd_same, same_upd hD, (fun j p r e => by simp at e), (fun b hb => nomatch hb)⟩ ?_ ?_
  · rintro i y ys H2 hi ⟨bs, rfl, bl, hD2, s2, rw2, fr2⟩
    obtain ⟨p, hp, rfl⟩ := get_ref hi
    have hil : i < zss.length := by rw [← al]; exact (List.getElem?_eq_some_iff.mp hp).1
    have er : zss[i]? = some zss[i] := List.getElem?_eq_getElem hil
    have hrow := s2 _ _ (hR.row i p zss[i] hp er)
    refine yesI ?_
    refine hte p H2 _ _ hrow fun q hq => ?_
    have nDq : D ≠ q := ne_of_none hD2 hq
    refine ⟨by rw [upd_ne nDq]; exact hD2, by rw [List.length_map, bl]; exact small1000 (by omega), bs ++ [q], by rw [List.map_append]; rfl, by rw [List.length_append, bl]; rfl, upd_same, fun b o e => ?_, fun j p' r e1 e2 => ?_, fun b hb => ?_⟩
    · rw [upd_ne (ne_of_none e hD), upd_ne (ne_of_none (s2 b o e) hq)]; exact s2 b o e
    · by_cases hj : j < bs.length
      · rw [List.getElem?_append_left hj] at e1
        have h2 := rw2 j p' r e1 e2
        rw [upd_ne (fr2 p' (List.mem_of_getElem? e1)).2, upd_ne (ne_of_none h2 hq)]; exact h2
      · rw [List.getElem?_append_right (by omega)] at e1
        have hz : j - bs.length = 0 := by
          have := (List.getElem?_eq_some_iff.mp e1).1
          simp at this; omega
        rw [hz] at e1
        have e3 : q = p' := by simpa using e1
        subst e3
        have e4 : j = i := by omega
        subst e4
        rw [er] at e2; cases e2
        rw [upd_ne nDq.symm, upd_same]
    · rcases List.mem_append.mp hb with z | z
      · exact fr2 b z
      · have e : b = q := by simpa using z
        subst e
        exact ⟨s2.free hq, nDq.symm⟩
  · rintro ys H2 ⟨bs, rfl, bl, hD2, s2, rw2, fr2⟩
    rw [List.length_map, al] at bl
    exact k bs H2 ⟨hD2, bl, fun i p z e1 e2 => rw2 i p z e1 e2⟩ s2 fun b hb => (fr2 b hb).1
theorem RowsAt.freshR {H : Hp} {a q : Addr} {as : List Addr} {zss : List (List Int)} (h : RowsAt H a as zss) (hq0 : H q = none) : q ∉ as := fun z => by
  obtain ⟨j, hj⟩ := List.mem_iff_getElem?.mp z
  have hjl : j < zss.length := by rw [← h.len]; exact (List.getElem?_eq_some_iff.mp hj).1
  have e := h.row j q zss[j] hj (List.getElem?_eq_getElem hjl)
  rw [hq0] at e; cases e
theorem RowsAt.snoc {H : Hp} {a q : Addr} {as : List Addr} {zss : List (List Int)} {z : List Int} (h : RowsAt H a as zss) (na : a ∉ as) (nq : a ≠ q) (hq : H q = some (.lst (zV z))) : RowsAt (upd H a (.lst (as.map V.ref ++ [V.ref q]))) a (as ++ [q]) (zss ++ [z]) := by
  have hl := h.len
  refine ⟨by rw [upd_same, List.map_append]; rfl, by rw [List.length_append, List.length_append, hl]; rfl, fun i p y e1 e2 => ?_⟩
  by_cases hi : i < as.length
  · rw [List.getElem?_append_left hi] at e1
    rw [List.getElem?_append_left (by omega)] at e2
    have : p ≠ a := fun e => na (e ▸ List.mem_of_getElem? e1)
    rw [upd_ne this]; exact h.row i p y e1 e2
  · rw [List.getElem?_append_right (by omega)] at e1
    rw [List.getElem?_append_right (by omega)] at e2
    have hz : i - as.length = 0 := by have := (List.getElem?_eq_some_iff.mp e1).1; simp at this; omega
    rw [hz] at e1
    rw [← hl, hz] at e2
    have e3 : q = p := by simpa using e1
    have e4 : z = y := by simpa using e2
    subst e3; subst e4
    rw [upd_ne nq.symm]; exact hq
theorem zV_of : ∀ {xs : List V} {p : Int → Prop}, (∀ v ∈ xs, ∃ z, v = V.int z ∧ p z) → ∃ ls : List Int, xs = zV ls ∧ ∀ z ∈ ls, p z
  | [], _, _ => ⟨[], rfl, fun _ h => nomatch h⟩
  | x :: t, p, h => by
    obtain ⟨z, rfl, hz⟩ := h x List.mem_cons_self
    obtain ⟨ls, rfl, hl⟩ := zV_of (xs := t) (p := p) fun v hv => h v (List.mem_cons_of_mem _ hv)
    refine ⟨z :: ls, rfl, fun y hy => ?_⟩
    rcases List.mem_cons.mp hy with rfl | e
    · exact hz
    · exact hl y e
end
end Tw

namespace Tw
open PySem L2 PySem.StrLaws
section
variable {P : Program} {w : World} {K : PySem.W.Frag} {mg : Str → Option Value} {base : Heap}
/-! ### comprehensions over rows -/
/-- a new list of each item -/
theorem comp_new {α : Type} {a D : Addr} {xs : List α} {el : α → V} {fz : α → List Int} {te : TE} {σ : St} {H1 : Hp} {Qf : Hp → Prop} (ha : H1 a = some (.lst (xs.map el))) (hl : xs.length ≤ 100) (hD : H1 D = none)
    (hte : ∀ x ∈ xs, ∀ (H4 : Hp) (Qv : VK), Same H1 H4 → (∀ L H5, Same H4 H5 → H4 L = none → H5 L = some (.lst (zV (fz x))) → Qv (.ref L) H5) → te (σ ++ [some (el x)]) H4 Qv)
    (k : ∀ (bs : List Addr) (H2 : Hp), RowsAt H2 D bs (xs.map fz) → Same H1 H2 → (∀ b ∈ bs, H1 b = none) → Qf H2) :
    ∃ W : Nat → Nat → List V → Hp → Prop, (∃ m, W 0 m [] (upd H1 D (.lst []))) ∧ ∀ i m ys H2, W i m ys H2 →
      H2 D = some (.lst ys) ∧ (((Itl K a).stop i H2 ∧ Qf H2) ∨ ((Itl K a).go i H2 ∧ ∃ N : List V → Hp → Prop, (∀ ys' H', N ys' H' → ∃ m', m' < m ∧ W (i + 1) m' ys' H') ∧ ∀ y H3, (Itl K a).yld i H2 y H3 →
        tYes (σ ++ [some y]) H3 fun c H4 => if c = true then te (σ ++ [some y]) H4 fun z H5 => H5 D = some (.lst ys) ∧ ys.length < sizeLine ∧ N (ys ++ [z]) (upd H5 D (.lst (ys ++ [z]))) else N ys H4)) := by
  refine comp_list (K := K) (a := a) (xs := xs.map el) (fun i ys H2 => ∃ bs : List Addr, ys = bs.map V.ref ∧ bs.length = i ∧ H2 D = some (.lst ys) ∧ Same H1 H2 ∧ (∀ (j : Nat) (p : Addr) (x : α), bs[j]? = some p → xs[j]? = some x → H2 p = some (.lst (zV (fz x)))) ∧ ∀ b ∈ bs, H1 b = none ∧ b ≠ D)
      (fun i ys H2 ⟨_, _, _, h1, h2, _⟩ => ⟨h1, SqL.of (h2 _ _ ha)⟩) ⟨[], rfl, rfl, upd_same, same_upd hD, (fun j p r e => by simp at e), (fun b hb => nomatch hb)⟩ ?_ ?_
  · rintro i y ys H2 hi ⟨bs, rfl, bl, hD2, s2, rw2, fr2⟩
    rw [List.getElem?_map] at hi
    cases er : xs[i]? with
    | none => rw [er] at hi; cases hi
    | some x =>
      rw [er] at hi
      cases hi
      have hil := (List.getElem?_eq_some_iff.mp er).1
      refine yesI ?_
      refine hte x (List.mem_of_getElem? er) H2 _ s2 fun q H5 s5 hq h5 => ?_
      have nDq : D ≠ q := ne_of_none hD2 hq
      have s15 := s2.trans s5
      refine ⟨s5 _ _ hD2, by rw [List.length_map, bl]; exact small1000 (by omega), bs ++ [q], by rw [List.map_append]; rfl, by rw [List.length_append, bl]; rfl, upd_same, fun b o e => ?_, fun j p' r e1 e2 => ?_, fun b hb => ?_⟩
      · rw [upd_ne (ne_of_none e hD)]; exact s15 b o e
      · by_cases hj : j < bs.length
        · rw [List.getElem?_append_left hj] at e1
          have h2 := rw2 j p' r e1 e2
          rw [upd_ne (fr2 p' (List.mem_of_getElem? e1)).2]; exact s5 _ _ h2
        · rw [List.getElem?_append_right (by omega)] at e1
          have hz : j - bs.length = 0 := by
            have := (List.getElem?_eq_some_iff.mp e1).1
            simp at this; omega
          rw [hz] at e1
          have e3 : q = p' := by simpa using e1
          subst e3
          have e4 : j = i := by omega
          subst e4
          rw [er] at e2; cases e2
          rw [upd_ne nDq.symm]; exact h5
      · rcases List.mem_append.mp hb with z | z
        · exact fr2 b z
        · have e : b = q := by simpa using z
          subst e
          exact ⟨s2.free hq, nDq.symm⟩
  · rintro ys H2 ⟨bs, rfl, bl, hD2, s2, rw2, fr2⟩
    rw [List.length_map] at bl
    refine k bs H2 ⟨hD2, by rw [bl, List.length_map], fun i p z e1 e2 => ?_⟩ s2 fun b hb => (fr2 b hb).1
    rw [List.getElem?_map] at e2
    cases e : xs[i]? with
    | none => rw [e] at e2; cases e2
    | some x => rw [e] at e2; cases e2; exact rw2 i p x e1 e
/-- a value of each row -/
theorem comp_rowsV {a D : Addr} {as : List Addr} {zss : List (List Int)} {fv : List Int → V} {te : TE} {σ : St} {H : Hp} {Q : Hp → Prop} (hR : RowsAt H a as zss) (hD : H D = none) (hl : zss.length ≤ 1000)
    (hs : ∀ z p, z ∈ zss → ∀ (H4 : Hp) (Qv : VK), H4 p = some (.lst (zV z)) → Same H H4 → (∀ H5, Same H4 H5 → Qv (fv z) H5) → te (σ ++ [some (.ref p)]) H4 Qv)
    (hq : ∀ H2, H2 D = some (.lst (zss.map fv)) → Same H H2 → Q H2) :
    ∃ W : Nat → Nat → List V → Hp → Prop, (∃ m, W 0 m [] (upd H D (.lst []))) ∧ ∀ i m ys H2, W i m ys H2 →
      H2 D = some (.lst ys) ∧ (((Itl K a).stop i H2 ∧ Q H2) ∨ ((Itl K a).go i H2 ∧ ∃ N : List V → Hp → Prop, (∀ ys' H', N ys' H' → ∃ m', m' < m ∧ W (i + 1) m' ys' H') ∧ ∀ y H3, (Itl K a).yld i H2 y H3 →
        tYes (σ ++ [some y]) H3 fun c H4 => if c = true then te (σ ++ [some y]) H4 fun z H5 => H5 D = some (.lst ys) ∧ ys.length < sizeLine ∧ N (ys ++ [z]) (upd H5 D (.lst (ys ++ [z]))) else N ys H4)) := by
  have al := hR.len
  refine comp_list (K := K) (a := a) (xs := as.map V.ref) (fun i ys H2 => ys = (zss.take i).map fv ∧ H2 D = some (.lst ys) ∧ Same H H2) (fun _ _ _ h => ⟨h.2.1, SqL.of (h.2.2 _ _ hR.top)⟩) ⟨rfl, upd_same, same_upd hD⟩ ?_ ?_
  · rintro i y zs H2 hi ⟨rfl, hD2, s2⟩
    obtain ⟨p, e, rfl⟩ := get_ref hi
    have hil : i < zss.length := by rw [← al]; exact (List.getElem?_eq_some_iff.mp e).1
    have er : zss[i]? = some zss[i] := List.getElem?_eq_getElem hil
    have hrow := s2 _ _ (hR.row i p zss[i] e er)
    refine yesI (hs zss[i] p (List.mem_of_getElem? er) H2 _ hrow s2 fun H5 s5 => ⟨s5 _ _ hD2, by rw [List.length_map, List.length_take]; exact small1000 (by omega), by rw [List.take_add_one, er, List.map_append]; rfl, upd_same, fun b o e => by rw [upd_ne (ne_of_none e hD)]; exact s5 b o (s2 b o e)⟩)
  · rintro ys H2 ⟨rfl, hD2, s2⟩
    rw [List.length_map, al, List.take_length] at hD2
    exact hq H2 hD2 s2
theorem len2000 {n : Nat} (h : n ≤ 4000) : n ≤ sizeLine := Nat.le_trans h (by decide)
/-! ### figures -/
def spFigs : Sp := fun vs H Q _ => ∃ x : Str, vs = [.str x] ∧ Figs x ∧ ∀ H', Same H H' → Q (.bl true) H'
theorem scFigs : FnScope ["text"] ["text"] (defScope sAreFigures) := ⟨rfl, rfl, rfl, by decide +kernel, rfl, by decide +kernel, by decide +kernel⟩
theorem ok_figs {f : Addr} {fd : FuncData} {tF tN : Tok} (F : Def K mg "are_figures" sAreFigures ["text"] f fd) (hF : mg "FIGURES" = some (.str "0123456789" tF)) (hN : mg "MOST_FIGURES" = some (.int 60 tN)) (B : Bi K mg) : FnOk P w K mg base CX0 1 f fd ["text"] spFigs := by
  refine F.fn.ok scFigs (fun vs H Q E h => ?_) (fun cdv A outer s H vs Q E hr h => ?_)
  · obtain ⟨x, rfl, _⟩ := h
    rfl
  · obtain ⟨x, rfl, fx, k⟩ := h
    have hl := fx.len
    have ll := lenS x
    have hz : x.length ≤ sizeLine := len2000 (by omega)
    refine ⟨_, (pss_cons (ps_if (PW.pt (pw_or (pt_cmpR op_eq (pe_callB call_len_str (by rfl) B.len PySem.boot_len (pa_cons (pv 0) pa_nil)) pe_int (nomark _)) (pw_or (pt_cmpR op_gt (pe_callB call_len_str (by rfl) B.len PySem.boot_len (pa_cons (pv 0) pa_nil)) (pe_glob (v := .int 60) rfl hN ⟨_, rfl⟩) (nomark _)) (pw_or1 (pt_not (pt_val (pe_callB (call_all rfl) (by rfl) B.all PyProof.Rows.boot_all (pa_cons (pe_comp (defScope sAreFigures).names ["text"] ["text", "sign"] (pi_str (pv 0)) (fun _ _ _ _ => pf_nil) (fun _ _ _ _ => (pe_cmpR op_in_str (pv 1) (pe_glob (v := .str "0123456789") rfl hF ⟨_, rfl⟩) rfl))) pa_nil)))))))) (pss_one (ps_ret pe_bl)) pss_nil)
      (pss_one (ps_ret (pe_or (pe_cmpR op_eq (pv 0) pe_str (nomark _)) (pe_one (pe_not (pe_bm PySem.F.plainAttrs_str PySem.F.slot_str_startswith PySem.F.type_str_startswith mt_startswith (pv 0) (pa_consC pe_str pa_nil)))))))), ?_⟩
    refine ⟨_, rfl, x, rfl, hz, rfl, _, rfl, ?_⟩
    refine iteD (fun e => ?_) (fun _ => ?_)
    · exfalso
      have e : (x.length : Int) = 0 := by injection e
      exact fx.ne (List.eq_nil_of_length_eq_zero (by omega))
    refine ⟨_, rfl, x, rfl, hz, _, _, rfl, rfl, _, rfl, ?_⟩
    refine iteD (fun e => absurd e (by omega)) (fun _ => ?_)
    refine ⟨_, rfl, x, rfl, fun D hD => ?_⟩
    refine comp_signs (fv := fun c => V.bl (decide (c ∈ ("0123456789" : Str).cps.toList))) hD (by omega) (fun c hc H4 Qv s4 kk => ⟨_, rfl, _, _, rfl, rfl, ?_⟩) fun H2 hD2 s2 => ?_
    · rw [found_one]; exact kk H4 (Same.refl _)
    refine ⟨D, x.cps.toList.map fun c => decide (c ∈ ("0123456789" : Str).cps.toList), rfl, SqL.of (by rw [List.map_map]; exact hD2), ?_⟩
    have ea : ((x.cps.toList.map fun c => decide (c ∈ ("0123456789" : Str).cps.toList)).all id) = true := by
      rw [List.all_map, List.all_eq_true]
      intro c hc
      have h := fx.all c hc
      show decide (c ∈ ("0123456789" : Str).cps.toList) = true
      have : ∀ c : Nat, c < 58 → 48 ≤ c → decide (c ∈ ("0123456789" : Str).cps.toList) = true := by decide +kernel
      exact this c (by omega) h.1
    rw [ea]
    refine ⟨_, rfl, iteF ?_⟩
    rcases fx.zero with e | e
    · have e2 : x = ("0" : Str) := str_ext (by rw [e]; rfl)
      subst e2
      exact ⟨_, rfl, rfl, _, rfl, iteT (k H2 s2)⟩
    · refine ⟨_, rfl, rfl, _, rfl, ?_⟩
      refine iteD (fun e2 => ?_) (fun _ => ?_)
      · exfalso
        have e2 : x = ("0" : Str) := by injection e2
        subst e2
        exact e rfl
      · refine ⟨_, rfl, rfl, x, _, rfl, rfl, _, rfl, ?_⟩
        rw [show Txt.startswith x ("0" : Str) = decide (x.cps.toList[0]? = some 48) from starts_one x 48, decide_eq_false e]
        exact k H2 s2
/-! ### numbers -/
def spIsNum : Sp := fun vs H Q _ => ∃ n : Int, vs = [.str (num n)] ∧ Fit n ∧ ∀ H', Same H H' → Q (.bl true) H'
theorem scIsNum : FnScope ["text"] ["text"] (defScope sIsNumber) := ⟨rfl, rfl, rfl, by decide +kernel, rfl, by decide +kernel, by decide +kernel⟩
theorem ok_isnum {f fAF : Addr} {fd fdAF : FuncData} (F : Def K mg "is_number" sIsNumber ["text"] f fd) (FAF : Def K mg "are_figures" sAreFigures ["text"] fAF fdAF) (GAF : FnOk P w K mg base CX0 1 fAF fdAF ["text"] spFigs) : FnOk P w K mg base CX0 2 f fd ["text"] spIsNum := by
  refine F.fn.ok scIsNum (fun vs H Q E h => ?_) (fun cdv A outer s H vs Q E hr h => ?_)
  · obtain ⟨n, rfl, _⟩ := h
    rfl
  · obtain ⟨n, rfl, fn, k⟩ := h
    have hl := num_len fn
    refine ⟨_, (pss_cons (ps_if (pt_val (pe_bm PySem.F.plainAttrs_str PySem.F.slot_str_startswith PySem.F.type_str_startswith mt_startswith (pv 0) (pa_consC pe_str pa_nil))) (pss_one (ps_ret (pe_and (pe_call GAF (hr.mono (by decide)) rfl FAF.mg FAF.fn.kp FAF.bn .nil pass0 (pa_consS (pe_slice sl_str (pv 0) (po_some pe_int) po_none) pa_nil)) (pe_one (pe_cmpR op_ne (pv 0) pe_str (nomark _)))))) pss_nil)
      (pss_one (ps_ret (pe_call GAF (hr.mono (by decide)) rfl FAF.mg FAF.fn.kp FAF.bn .nil pass0 (pa_cons (pv 0) pa_nil))))), ?_⟩
    refine ⟨_, rfl, rfl, _, _, rfl, rfl, _, rfl, ?_⟩
    refine iteB (fun e => ?_) (fun e => ?_)
    · rw [show Txt.startswith (num n) ("-" : Str) = decide ((num n).cps.toList[0]? = some 45) from starts_one _ 45, decide_eq_true_eq] at e
      rcases num_cases fn with ⟨m, rfl, hm⟩ | ⟨m, rfl, hm⟩
      · exfalso
        rw [num_pos] at e
        have := dgs_all m 45 (List.mem_of_getElem? e)
        omega
      · have en := num_neg m
        have l1 : 1 ≤ (num (Int.negSucc m)).length := by rw [← lenS, en]; simp
        refine ⟨_, rfl, _, rfl, _, 1, rfl, rfl, rfl, l1, len2000 (by omega), _, rfl, figs_of (m := m + 1) hm (by show ((num (Int.negSucc m)).cps.toList.drop 1).toArray.toList = _; rw [en]; simp), fun H' s' => ?_⟩
        refine ⟨_, rfl, iteT ?_⟩
        refine ⟨_, rfl, rfl, ?_⟩
        have ne : ¬ V.str (num (Int.negSucc m)) = V.str ("-0" : Str) := fun e => by
          have e : num (Int.negSucc m) = ("-0" : Str) := by injection e
          rw [e] at en
          obtain ⟨c, r, e2, hc⟩ := dgs_head (m + 1) (by omega)
          rw [e2] at en
          have en : ([45, 48] : List Nat) = 45 :: c :: r := en
          injection en with _ h2
          injection h2 with h3 _
          omega
        rw [decide_eq_false ne]
        exact k H' s'
    · rw [show Txt.startswith (num n) ("-" : Str) = decide ((num n).cps.toList[0]? = some 45) from starts_one _ 45, decide_eq_false_iff_not] at e
      rcases num_cases fn with ⟨m, rfl, hm⟩ | ⟨m, rfl, hm⟩
      · exact ⟨_, rfl, _, rfl, figs_of hm (num_pos m), k⟩
      · exfalso
        rw [num_neg] at e
        exact e rfl
def spReadNum : Sp := fun vs H Q _ => ∃ n : Int, vs = [.str (num n)] ∧ Fit n ∧ ∀ H', Same H H' → Q (.int n) H'
theorem scReadNum : FnScope ["text"] ["text"] (defScope sReadNumber) := ⟨rfl, rfl, rfl, by decide +kernel, rfl, by decide +kernel, by decide +kernel⟩
theorem ok_readnum {f fIN : Addr} {fd fdIN : FuncData} (F : Def K mg "read_number" sReadNumber ["text"] f fd) (FIN : Def K mg "is_number" sIsNumber ["text"] fIN fdIN) (GIN : FnOk P w K mg base CX0 2 fIN fdIN ["text"] spIsNum) (B : Bi K mg) : FnOk P w K mg base CX0 3 f fd ["text"] spReadNum := by
  refine F.fn.ok scReadNum (fun vs H Q E h => ?_) (fun cdv A outer s H vs Q E hr h => ?_)
  · obtain ⟨n, rfl, _⟩ := h
    rfl
  · obtain ⟨n, rfl, fn, k⟩ := h
    have hl := num_len fn
    refine ⟨_, (pss_cons (ps_if (pt_not (pt_val (pe_call GIN (hr.mono (by decide)) rfl FIN.mg FIN.fn.kp FIN.bn .nil pass0 (pa_cons (pv 0) pa_nil)))) (pss_one ps_never) pss_nil)
      (pss_one (ps_ret (pe_callTy call_intS (by rfl) B.int PyProof.Rows.boot_int (pa_cons (pv 0) pa_nil))))), ?_⟩
    refine ⟨_, rfl, n, rfl, fn, fun H' s' => ⟨_, rfl, iteF ?_⟩⟩
    exact ⟨_, rfl, _, n, rfl, num_reads fn, by omega, k H' s'⟩
/-! ### rows -/
def spReadRow : Sp := fun vs H Q _ => ∃ z : List Int, vs = [.str (rowT z)] ∧ FitR z ∧ ∀ (L : Addr) (H' : Hp), Same H H' → H L = none → H' L = some (.lst (zV z)) → Q (.ref L) H'
theorem scReadRow : FnScope ["text"] ["text"] (defScope sReadRow) := ⟨rfl, rfl, rfl, by decide +kernel, rfl, by decide +kernel, by decide +kernel⟩
theorem ok_readrow {f fRN : Addr} {fd fdRN : FuncData} (F : Def K mg "read_row" sReadRow ["text"] f fd) (FRN : Def K mg "read_number" sReadNumber ["text"] fRN fdRN) (GRN : FnOk P w K mg base CX0 3 fRN fdRN ["text"] spReadNum) : FnOk P w K mg base CX0 4 f fd ["text"] spReadRow := by
  refine F.fn.ok scReadRow (fun vs H Q E h => ?_) (fun cdv A outer s H vs Q E hr h => ?_)
  · obtain ⟨z, rfl, _⟩ := h
    rfl
  · obtain ⟨z, rfl, fz, k⟩ := h
    have hl := row_len fz
    refine ⟨_, (pss_cons (ps_if (pt_cmpR op_eq (pv 0) pe_str (nomark _)) (pss_one (ps_ret (pe_lst pa_nil))) pss_nil)
      (pss_one (ps_ret (pe_comp (defScope sReadRow).names ["text"] ["text", "word"] (pi_listK K (pe_bm PySem.F.plainAttrs_str PySem.F.slot_str_split PySem.F.type_str_split mt_split (pv 0) (pa_consC pe_str pa_nil))) (fun _ _ _ _ => pf_nil) (fun _ _ _ _ => (pe_call GRN (hr.mono (by decide)) rfl FRN.mg FRN.fn.kp FRN.bn .nil pass0 (pa_cons (pv 1) pa_nil))))))), ?_⟩
    refine ⟨_, rfl, rfl, _, rfl, ?_⟩
    refine iteD (fun e => ?_) (fun e => ?_)
    · have e : rowT z = sD := by injection e
      have e0 : z = [] := Classical.byContradiction fun h0 => row_dot fz h0 e
      subst e0
      exact ⟨by show 0 ≤ sizeLine; exact len12 (by decide), fun L hL => k L _ (same_upd hL) hL upd_same⟩
    · have h0 : z ≠ [] := fun h0 => by subst h0; exact e rfl
      refine ⟨_, rfl, rfl, _, _, rfl, rfl, rfl, len2000 (by omega), fun S hS => ?_⟩
      refine ⟨S, rfl, ⟨_, SqL.of upd_same⟩, fun D hD => ?_⟩
      have hS2 : (upd H S (.lst ((Txt.split (rowT z) (" " : Str)).map V.str))) S = some (.lst (z.map fun n => V.str (num n))) := by
        rw [upd_same, show Txt.split (rowT z) (" " : Str) = z.map num from split_row fz h0, List.map_map]; rfl
      have s1 := same_upd (o := .lst ((Txt.split (rowT z) (" " : Str)).map V.str)) hS
      refine comp_map (K := K) (a := S) (xs := z) (el := fun n => V.str (num n)) (fv := V.int) hS2 hD (by have := fz.2; omega) (fun i n en H4 Qv s4 kk => ?_) fun H2 hD2 s2 => ?_
      · exact ⟨_, rfl, n, rfl, fz.1 n (List.mem_of_getElem? en), fun H5 s5 => kk H5 s5⟩
      · exact k D H2 (s1.trans s2) (s1.free hD) hD2
def spReadRows : Sp := fun vs H Q _ => ∃ zss : List (List Int), vs = [.str (rowsT zss)] ∧ FitRs zss ∧ ∀ (D : Addr) (bs : List Addr) (H' : Hp), RowsAt H' D bs zss → Same H H' → (∀ b ∈ bs, H b = none) → H D = none → Q (.ref D) H'
theorem scReadRows : FnScope ["text"] ["text"] (defScope sReadRows) := ⟨rfl, rfl, rfl, by decide +kernel, rfl, by decide +kernel, by decide +kernel⟩
theorem ok_readrows {f fRR : Addr} {fd fdRR : FuncData} (F : Def K mg "read_rows" sReadRows ["text"] f fd) (FRR : Def K mg "read_row" sReadRow ["text"] fRR fdRR) (GRR : FnOk P w K mg base CX0 4 fRR fdRR ["text"] spReadRow) : FnOk P w K mg base CX0 5 f fd ["text"] spReadRows := by
  refine F.fn.ok scReadRows (fun vs H Q E h => ?_) (fun cdv A outer s H vs Q E hr h => ?_)
  · obtain ⟨zss, rfl, _⟩ := h
    rfl
  · obtain ⟨zss, rfl, fz, k⟩ := h
    have hl := rows_len fz
    refine ⟨_, (pss_cons (ps_if (pt_cmpR op_eq (pv 0) pe_str (nomark _)) (pss_one (ps_ret (pe_lst pa_nil))) pss_nil)
      (pss_one (ps_ret (pe_comp (defScope sReadRows).names ["text"] ["text", "part"] (pi_listK K (pe_bm PySem.F.plainAttrs_str PySem.F.slot_str_split PySem.F.type_str_split mt_split (pv 0) (pa_consC pe_str pa_nil))) (fun _ _ _ _ => pf_nil) (fun _ _ _ _ => (pe_call GRR (hr.mono (by decide)) rfl FRR.mg FRR.fn.kp FRR.bn .nil pass0 (pa_cons (pv 1) pa_nil))))))), ?_⟩
    refine ⟨_, rfl, rfl, _, rfl, ?_⟩
    refine iteD (fun e => ?_) (fun e => ?_)
    · have e : rowsT zss = sM := by injection e
      have e0 : zss = [] := Classical.byContradiction fun h0 => rows_minus fz h0 e
      subst e0
      exact ⟨by show 0 ≤ sizeLine; exact len12 (by decide), fun L hL => k L [] _ ⟨upd_same, rfl, fun i p z e => by simp at e⟩ (same_upd hL) (fun b hb => nomatch hb) hL⟩
    · have h0 : zss ≠ [] := fun h0 => by subst h0; exact e rfl
      refine ⟨_, rfl, rfl, _, _, rfl, rfl, rfl, len2000 (by omega), fun S hS => ?_⟩
      refine ⟨S, rfl, ⟨_, SqL.of upd_same⟩, fun D hD => ?_⟩
      have hS2 : (upd H S (.lst ((Txt.split (rowsT zss) (" / " : Str)).map V.str))) S = some (.lst (zss.map fun z => V.str (rowT z))) := by
        rw [upd_same, show Txt.split (rowsT zss) (" / " : Str) = zss.map rowT from split_rows fz h0, List.map_map]; rfl
      have s1 := same_upd (o := .lst ((Txt.split (rowsT zss) (" / " : Str)).map V.str)) hS
      refine comp_new (K := K) (a := S) (xs := zss) (el := fun z => V.str (rowT z)) (fz := id) hS2 (by have := fz.2; omega) hD (fun z hz H4 Qv s4 kk => ?_) fun bs H2 hR s2 fr => ?_
      · exact ⟨_, rfl, z, rfl, fz.1 z hz, fun L H5 s5 f5 h5 => kk L H5 s5 f5 h5⟩
      · rw [List.map_id] at hR
        exact k D bs H2 hR (s1.trans s2) (fun b hb => s1.free (fr b hb)) (s1.free hD)
def spShowRow : Sp := fun vs H Q _ => ∃ (p : Addr) (z : List Int), vs = [.ref p] ∧ H p = some (.lst (zV z)) ∧ FitR z ∧ ∀ H', Same H H' → Q (.str (rowT z)) H'
theorem scShowRow : FnScope ["row"] ["row"] (defScope sShownRow) := ⟨rfl, rfl, rfl, by decide +kernel, rfl, by decide +kernel, by decide +kernel⟩
theorem ok_showrow {f : Addr} {fd : FuncData} (F : Def K mg "shown_row" sShownRow ["row"] f fd) (hS : mg "str" = none) (B : Bi K mg) : FnOk P w K mg base CX0 1 f fd ["row"] spShowRow := by
  refine F.fn.ok scShowRow (fun vs H Q E h => ?_) (fun cdv A outer s H vs Q E hr h => ?_)
  · obtain ⟨p, z, rfl, _⟩ := h
    rfl
  · obtain ⟨p, z, rfl, hp, fz, k⟩ := h
    have hl := row_len fz
    refine ⟨_, (pss_cons (ps_if (pt_cmpR op_eq (pe_callB (lenK K) (by rfl) B.len PySem.boot_len (pa_cons (pv 0) pa_nil)) pe_int (nomark _)) (pss_one (ps_ret pe_str)) pss_nil)
      (pss_one (ps_ret (pe_bm PySem.F.plainAttrs_str PySem.F.slot_str_join PySem.F.type_str_join (mt_joinK K) pe_str (pa_cons (pe_comp (defScope sShownRow).names ["row"] ["row", "value"] (pi_listK K (pv 0)) (fun _ _ _ _ => pf_nil) (fun _ _ _ _ => (pe_callTy call_str_int (by rfl) hS PyProof.Rows.boot_str (pa_cons (pv 1) pa_nil)))) pa_nil))))), ?_⟩
    refine ⟨_, rfl, p, _, rfl, .inl (SqL.of hp), rfl, _, rfl, ?_⟩
    rw [zV_length]
    refine iteD (fun e => ?_) (fun e => ?_)
    · have e : (z.length : Int) = 0 := by injection e
      have e0 : z = [] := List.eq_nil_of_length_eq_zero (by omega)
      subst e0
      exact k H (Same.refl _)
    · have h0 : z ≠ [] := fun h0 => by subst h0; exact e rfl
      refine ⟨rfl, _, rfl, p, rfl, ⟨_, SqL.of hp⟩, fun D hD => ?_⟩
      refine comp_map (K := K) (a := p) (xs := z) (el := V.int) (fv := fun n => V.str (num n)) hp hD (by have := fz.2; omega) (fun i n en H4 Qv s4 kk => ?_) fun H2 hD2 s2 => ?_
      · exact ⟨_, rfl, n, rfl, bits_num (fz.1 n (List.mem_of_getElem? en)), kk H4 (Same.refl _)⟩
      · refine ⟨_, D, z.map num, rfl, rfl, SqL.of (by rw [List.map_map]; exact hD2), joinOk_row fz, ?_⟩
        have := k H2 s2
        unfold rowT at this
        rw [if_neg h0] at this; exact this
def spShowRows : Sp := fun vs H Q _ => ∃ (a : Addr) (as : List Addr) (zss : List (List Int)), vs = [.ref a] ∧ RowsAt H a as zss ∧ FitRs zss ∧ ∀ H', Same H H' → Q (.str (rowsT zss)) H'
theorem scShowRows : FnScope ["rows"] ["rows"] (defScope sShownRows) := ⟨rfl, rfl, rfl, by decide +kernel, rfl, by decide +kernel, by decide +kernel⟩
theorem ok_showrows {f fSR : Addr} {fd fdSR : FuncData} (F : Def K mg "shown_rows" sShownRows ["rows"] f fd) (FSR : Def K mg "shown_row" sShownRow ["row"] fSR fdSR) (GSR : FnOk P w K mg base CX0 1 fSR fdSR ["row"] spShowRow) (B : Bi K mg) : FnOk P w K mg base CX0 2 f fd ["rows"] spShowRows := by
  refine F.fn.ok scShowRows (fun vs H Q E h => ?_) (fun cdv A outer s H vs Q E hr h => ?_)
  · obtain ⟨a, as, zss, rfl, _⟩ := h
    rfl
  · obtain ⟨a, as, zss, rfl, hR, fz, k⟩ := h
    have al := hR.len
    refine ⟨_, (pss_cons (ps_if (pt_cmpR op_eq (pe_callB (lenK K) (by rfl) B.len PySem.boot_len (pa_cons (pv 0) pa_nil)) pe_int (nomark _)) (pss_one (ps_ret pe_str)) pss_nil)
      (pss_one (ps_ret (pe_bm PySem.F.plainAttrs_str PySem.F.slot_str_join PySem.F.type_str_join (mt_joinK K) pe_str (pa_cons (pe_comp (defScope sShownRows).names ["rows"] ["rows", "row"] (pi_listK K (pv 0)) (fun _ _ _ _ => pf_nil) (fun _ _ _ _ => (pe_call GSR (hr.mono (by decide)) rfl FSR.mg FSR.fn.kp FSR.bn .nil pass0 (pa_cons (pv 1) pa_nil)))) pa_nil))))), ?_⟩
    refine ⟨_, rfl, a, _, rfl, .inl (SqL.of hR.top), rfl, _, rfl, ?_⟩
    rw [List.length_map, al]
    refine iteD (fun e => ?_) (fun e => ?_)
    · have e : (zss.length : Int) = 0 := by injection e
      have e0 : zss = [] := List.eq_nil_of_length_eq_zero (by omega)
      subst e0
      exact k H (Same.refl _)
    · have h0 : zss ≠ [] := fun h0 => by subst h0; exact e rfl
      refine ⟨rfl, _, rfl, a, rfl, ⟨_, SqL.of hR.top⟩, fun D hD => ?_⟩
      refine comp_rowsV (K := K) (fv := fun z => V.str (rowT z)) hR hD (by have := fz.2; omega) (fun z p hz H4 Qv hp s4 kk => ?_) fun H2 hD2 s2 => ?_
      · exact ⟨_, rfl, p, z, rfl, hp, fz.1 z hz, fun H5 s5 => kk H5 s5⟩
      · refine ⟨_, D, zss.map rowT, rfl, rfl, SqL.of (by rw [List.map_map]; exact hD2), joinOk_rows fz, ?_⟩
        have := k H2 s2
        unfold rowsT at this
        rw [if_neg h0] at this; exact this
end
end Tw

namespace Tw
open PySem L2 PySem.StrLaws
open PySem.Builtin.Int (intBits)
section
variable {P : Program} {w : World} {K : PySem.W.Frag} {mg : Str → Option Value} {base : Heap}
/-! ### the law's rows -/
def spRows : Sp := fun vs H Q _ => ∃ c : Int, vs = [.int c] ∧ intBits c ≤ 2 ^ 20 ∧ ∀ (M : Addr) (ms : List Addr) (zss : List (List Int)) (H' : Hp), Same H H' → H M = none → RowsAt H' M ms zss → FitRs zss → (∀ b ∈ ms, H b = none) → Q (.ref M) H'
theorem scRows : FnScope ["_law_cell", "_law_rows_here", "_law_k", "_law_row", "_law_j", "_law_mixed", "_law_far_off"] ["_law_cell"] (defScope sRows) := ⟨rfl, rfl, rfl, by decide +kernel, rfl, by decide +kernel, by decide +kernel⟩
theorem fit_small {x : Int} (h1 : -1000 ≤ x) (h2 : x ≤ 1000) : Fit x := ⟨by omega, by omega⟩
theorem ok_rows {f fM : Addr} {fd fdM : FuncData} (F : Def K mg "_law_rows" sRows ["_law_cell"] f fd) (FM : Def K mg "_law_mix" sMix ["_law_number", "_law_k"] fM fdM) (B : Bi K mg) : FnOk P w K mg base CX0 2 f fd ["_law_cell"] spRows := by
  have GM : FnOk P w K mg base CX0 1 fM fdM ["_law_number", "_law_k"] spMix := ok_mix FM
  refine F.fn.ok scRows (fun vs H Q E h => ?_) (fun cdv A outer s H vs Q E hr h => ?_)
  · obtain ⟨c, rfl, _⟩ := h
    rfl
  · obtain ⟨c, rfl, hc, k⟩ := h
    have nd := scRows.nd
    refine ⟨_, (pss_cons (ps_set (i := 1) nd rfl (Or.inl rfl) (pe_lst pa_nil))
      (pss_cons (ps_for PassesOwn.never rfl (pi_range1 rfl B.range (pa_consB (pe_op op_mod (pe_call GM (hr.mono (by decide)) rfl FM.mg FM.fn.kp FM.bn .nil pass0 (pa_cons (pv 0) (pa_consC pe_int pa_nil))) pe_int) pa_nil)) (pg_name (i := 2) nd rfl (Or.inl rfl)) (pss_cons (ps_set (i := 3) nd rfl (Or.inl rfl) (pe_lst pa_nil))
      (pss_cons (ps_for PassesOwn.never rfl (pi_range1 rfl B.range (pa_consB (pe_op op_mod (pe_call GM (hr.mono (by decide)) rfl FM.mg FM.fn.kp FM.bn .nil pass0 (pa_consB (pe_op op_add (pv 0) (pv 2)) (pa_consC pe_int pa_nil))) pe_int) pa_nil)) (pg_name (i := 4) nd rfl (Or.inl rfl)) (pss_cons (ps_set (i := 5) nd rfl (Or.inl rfl) (pe_call GM (hr.mono (by decide)) rfl FM.mg FM.fn.kp FM.bn .nil pass0 (pa_consB (pe_op op_add (pe_op op_add (pv 0) (pe_op op_mul pe_int (pv 2))) (pv 4)) (pa_consC pe_int pa_nil))))
      (pss_cons (ps_set (i := 6) nd rfl (Or.inl rfl) (pe_op op_mod (pe_op op_add (pe_op op_fdiv (pv 0) pe_int) (pv 5)) (pe_op op_pow pe_int pe_int)))
      (pss_one (ps_expr (pe_bm PySem.F.plainAttrs_list PySem.F.slot_list_append PySem.F.type_list_append mt_append (pv 3) (pa_consS (pe_ix (ixK K) (pe_lst (pa_consB (pe_op op_mod (pv 5) pe_int) (pa_consC pe_int (pa_consB (pe_op op_sub (pe_un un_neg pe_int) (pe_op op_mod (pv 5) pe_int)) (pa_cons (pv 6) (pa_consB (pe_op op_sub pe_int (pv 6)) (pa_consB (pe_op op_sub (pe_op op_sub (pe_op op_pow pe_int pe_int) pe_int) (pv 6)) pa_nil))))))) (pe_op op_mod (pe_op op_fdiv (pv 5) pe_int) pe_int) (fun _ _ => rfl)) pa_nil)))))))
      (pss_one (ps_expr (pe_bm PySem.F.plainAttrs_list PySem.F.slot_list_append PySem.F.type_list_append mt_append (pv 1) (pa_cons (pv 3) pa_nil)))))))
      (pss_one (ps_ret (pv 1))))), ?_⟩
    refine ⟨by show 0 ≤ sizeLine; exact len12 (by decide), fun M hM => ?_⟩
    have q0 := Int.emod_nonneg (mixF c 2) (show (5 : Int) ≠ 0 by decide)
    have q1 := Int.emod_lt_of_pos (mixF c 2) (show (0 : Int) < 5 by decide)
    refine ⟨_, rfl, c, 2, rfl, Nat.le_trans hc (by decide), by decide, by decide, _, _, rfl, rfl, (by show (0 : Int) < 5; decide), _, rfl, by omega, by omega, ?_⟩
    refine for_range (fun i σ H2 => ∃ (ms : List Addr) (zss : List (List Int)) (v2 v3 v4 v5 v6 : Option V), σ = [some (.int c), some (.ref M), v2, v3, v4, v5, v6] ∧ RowsAt H2 M ms zss ∧ M ∉ ms ∧ (∀ b ∈ ms, H b = none) ∧ (∀ z ∈ zss, FitR z) ∧ zss.length = i ∧ Same H H2)
      ⟨[], [], none, none, none, none, none, rfl, ⟨upd_same, rfl, fun i p z e => by simp at e⟩, (fun h => nomatch h), (fun b hb => nomatch hb), (fun z hz => nomatch hz), rfl, same_upd hM⟩ ?_ ?_
    · rintro i σ H2 hi ⟨ms, zss, v2, v3, v4, v5, v6, rfl, hM2, nM, fr, fz, zl, s2⟩
      refine ⟨by show 0 ≤ sizeLine; exact len12 (by decide), fun R hR => ?_⟩
      have nMR : M ≠ R := ne_of_none hM2.top hR
      have p0 := Int.emod_nonneg (mixF (c + (0 + (i : Int))) 3) (show (5 : Int) ≠ 0 by decide)
      have p1 := Int.emod_lt_of_pos (mixF (c + (0 + (i : Int))) 3) (show (0 : Int) < 5 by decide)
      refine ⟨_, rfl, _, rfl, _, _, rfl, rfl, _, _, rfl, bits_add' (Nat.le_trans hc (by decide)) ⟨by omega, by omega⟩, by decide, by decide, _, _, rfl, rfl, (by show (0 : Int) < 5; decide), _, rfl, by omega, by omega, ?_⟩
      refine for_range (fun j σ H3 => ∃ (z : List Int) (w4 w5 w6 : Option V), σ = [some (.int c), some (.ref M), some (.int (0 + (i : Int))), some (.ref R), w4, w5, w6] ∧ H3 R = some (.lst (zV z)) ∧ z.length = j ∧ (∀ n ∈ z, Fit n) ∧ Same H2 H3)
        ⟨[], v4, v5, v6, rfl, upd_same, rfl, (fun n hn => nomatch hn), same_upd hR⟩ ?_ ?_
      · rintro j σ H3 hj ⟨z, w4, w5, w6, rfl, hR3, zl3, zf, s3⟩
        refine ⟨_, rfl, _, rfl, _, _, rfl, rfl, .inl ⟨by decide, by decide⟩, _, _, rfl, rfl, _, rfl, _, _, rfl, rfl, _, _, rfl, ?_, by decide, by decide, ?_⟩
        · rw [Int.add_assoc]; exact bits_add' (Nat.le_trans hc (by decide)) ⟨by omega, by omega⟩
        generalize hm : mixF (c + 5 * (0 + (i : Int)) + (0 + (j : Int))) 4 = m
        have m0 : 0 ≤ m := hm ▸ mixF_lo _ _
        refine ⟨_, rfl, _, _, rfl, rfl, ⟨by decide, by decide⟩, _, rfl, _, _, rfl, rfl, _, _, rfl, rfl, ⟨by decide, by decide, by decide⟩, _, _, rfl, rfl, (by show (0 : Int) < 10 ^ 59; decide), ?_⟩
        have f0 : 0 ≤ (c / 7 + m) % 10 ^ (59 : Int).toNat := Int.emod_nonneg _ (by decide)
        have f1 : (c / 7 + m) % 10 ^ (59 : Int).toNat < 10 ^ 59 := Int.emod_lt_of_pos _ (by decide)
        have a0 := Int.emod_nonneg m (show (14 : Int) ≠ 0 by decide)
        have a1 := Int.emod_lt_of_pos m (show (0 : Int) < 14 by decide)
        refine ⟨_, rfl, .inl ⟨rfl, _, SqL.of hR3⟩, _, rfl, _, _, rfl, rfl, (by show (0 : Int) < 14; decide), _, rfl, _, rfl, _, _, rfl, rfl, (by show (0 : Int) < 14; decide), _, _, rfl, rfl, _, rfl, _, rfl, _, _, rfl, rfl, _, _, rfl, rfl, ⟨by decide, by decide, by decide⟩, _, _, rfl, rfl, _, rfl, _, _, rfl, rfl, by show 6 ≤ sizeLine; exact len12 (by decide), fun p hp => ?_⟩
        refine ⟨_, rfl, _, _, rfl, rfl, ⟨by decide, by decide⟩, _, _, rfl, rfl, (by show (0 : Int) < 6; decide), ?_⟩
        have e60 : (10 : Int) ^ (60 : Int).toNat = 10 ^ 60 := rfl
        obtain ⟨v, hv, hs, hat, _⟩ := pick_list (K := K) (H := upd H3 p (.lst [V.int (m % 14), V.int 0, V.int (-1 - m % 14), V.int ((c / 7 + m) % 10 ^ (59 : Int).toNat), V.int (0 - (c / 7 + m) % 10 ^ (59 : Int).toNat), V.int (10 ^ (60 : Int).toNat - 1 - (c / 7 + m) % 10 ^ (59 : Int).toNat)])) upd_same (i := m / 16 % 6) (Int.emod_nonneg _ (by decide)) (Int.emod_lt_of_pos _ (by decide))
        refine ⟨p, _, _, v, rfl, rfl, hs, hat, ?_⟩
        obtain ⟨x, rfl, fx⟩ : ∃ x : Int, v = V.int x ∧ Fit x := by
          clear hs hat
          generalize (c / 7 + m) % 10 ^ (59 : Int).toNat = fo at f0 f1 hv
          simp only [List.mem_cons, List.not_mem_nil, or_false] at hv
          rcases hv with rfl | rfl | rfl | rfl | rfl | rfl
          · exact ⟨_, rfl, fit_small (by omega) (by omega)⟩
          · exact ⟨_, rfl, fit_small (by omega) (by omega)⟩
          · exact ⟨_, rfl, fit_small (by omega) (by omega)⟩
          · exact ⟨_, rfl, by omega, by omega⟩
          · exact ⟨_, rfl, by omega, by omega⟩
          · exact ⟨_, rfl, by rw [e60]; omega, by rw [e60]; omega⟩
        have nRp : R ≠ p := ne_of_none hR3 hp
        refine ⟨R, _, _, rfl, rfl, by rw [upd_ne nRp]; exact hR3, by rw [zV_length]; exact small1000 (by omega), ?_⟩
        refine ⟨z ++ [x], _, _, _, rfl, by rw [upd_same, zV_append], by rw [List.length_append, zl3]; rfl, fun n hn => ?_, fun b o e => ?_⟩
        · rcases List.mem_append.mp hn with h | h
          · exact zf n h
          · rw [List.mem_singleton.mp h]; exact fx
        · rw [upd_ne (ne_of_none e hR), upd_ne (ne_of_none (s3 b o e) hp)]; exact s3 b o e
      · rintro σ H3 ⟨z, w4, w5, w6, rfl, hR3, zl3, zf, s3⟩
        have hM3 := hM2.mono s3
        refine ⟨_, rfl, .inl ⟨rfl, _, SqL.of hM3.top⟩, _, rfl, M, _, _, rfl, rfl, hM3.top, by rw [List.length_map, hM2.len]; exact small1000 (by omega), ?_⟩
        refine ⟨ms ++ [R], zss ++ [z], _, _, _, _, _, rfl, hM3.snoc nM nMR hR3, fun h => ?_, fun b hb => ?_, fun y hy => ?_, by rw [List.length_append, zl]; rfl, fun b o e => ?_⟩
        · rcases List.mem_append.mp h with q | q
          · exact nM q
          · exact nMR (List.mem_singleton.mp q)
        · rcases List.mem_append.mp hb with q | q
          · exact fr b q
          · rw [List.mem_singleton.mp q]; exact s2.free hR
        · rcases List.mem_append.mp hy with q | q
          · exact fz y q
          · rw [List.mem_singleton.mp q]; exact ⟨zf, by omega⟩
        · rw [upd_ne (ne_of_none e hM)]; exact s3 b o (s2 b o e)
    · rintro σ H2 ⟨ms, zss, v2, v3, v4, v5, v6, rfl, hM2, nM, fr, fz, zl, s2⟩
      exact ⟨_, rfl, k M ms zss H2 s2 hM hM2 ⟨fz, by omega⟩ fr⟩
/-! ### the law's own text of rows -/
def spShown : Sp := fun vs H Q _ => ∃ (a : Addr) (as : List Addr) (zss : List (List Int)), vs = [.ref a] ∧ RowsAt H a as zss ∧ FitRs zss ∧ Q (.str (rowsT zss)) H
theorem scShown : FnScope ["_law_rows_here", "_law_text", "_law_k", "_law_j"] ["_law_rows_here"] (defScope sShown) := ⟨rfl, rfl, rfl, by decide +kernel, rfl, by decide +kernel, by decide +kernel⟩
theorem lenA (x y : Str) : (x ++ y).length = x.length + y.length := Str.length_append x y
theorem ok_shown {f : Addr} {fd : FuncData} (F : Def K mg "_law_shown" sShown ["_law_rows_here"] f fd) (hS : mg "str" = none) (B : Bi K mg) : FnOk P w K mg base CX0 1 f fd ["_law_rows_here"] spShown := by
  refine F.fn.ok scShown (fun vs H Q E h => ?_) (fun cdv A outer s H vs Q E hr h => ?_)
  · obtain ⟨a, as, zss, rfl, _⟩ := h
    rfl
  · obtain ⟨a, as, zss, rfl, hR, fz, q⟩ := h
    have nd := scShown.nd
    have al := hR.len
    have zl := fz.2
    refine ⟨_, (pss_cons (ps_if (pt_cmpR op_eq (pe_callB (lenK K) (by rfl) B.len PySem.boot_len (pa_cons (pv 0) pa_nil)) pe_int (nomark _)) (pss_one (ps_ret pe_str)) pss_nil)
      (pss_cons (ps_set (i := 1) nd rfl (Or.inl rfl) pe_str)
      (pss_cons (ps_for PassesOwn.never rfl (pi_range1 rfl B.range (pa_cons (pe_callB (lenK K) (by rfl) B.len PySem.boot_len (pa_cons (pv 0) pa_nil)) pa_nil)) (pg_name (i := 2) nd rfl (Or.inl rfl)) (pss_cons (ps_if (pt_cmpR op_gt (pv 2) pe_int (nomark _)) (pss_one (ps_set (i := 1) nd rfl (Or.inl rfl) (pe_op op_add_str (pv 1) pe_str))) pss_nil)
      (pss_cons (ps_if (pt_cmpR op_eq (pe_callB (lenK K) (by rfl) B.len PySem.boot_len (pa_consS (pe_ix (ixK K) (pv 0) (pv 2) (fun _ _ => rfl)) pa_nil)) pe_int (nomark _)) (pss_one (ps_set (i := 1) nd rfl (Or.inl rfl) (pe_op op_add_str (pv 1) pe_str))) pss_nil)
      (pss_one (ps_for PassesOwn.never rfl (pi_range1 rfl B.range (pa_cons (pe_callB (lenK K) (by rfl) B.len PySem.boot_len (pa_consS (pe_ix (ixK K) (pv 0) (pv 2) (fun _ _ => rfl)) pa_nil)) pa_nil)) (pg_name (i := 3) nd rfl (Or.inl rfl)) (pss_cons (ps_if (pt_cmpR op_gt (pv 3) pe_int (nomark _)) (pss_one (ps_set (i := 1) nd rfl (Or.inl rfl) (pe_op op_add_str (pv 1) pe_str))) pss_nil)
      (pss_one (ps_set (i := 1) nd rfl (Or.inl rfl) (pe_op op_add_str (pv 1) (pe_callTy call_str_int (by rfl) hS PyProof.Rows.boot_str (pa_consS (pe_ix (ixK K) (pe_ix (ixK K) (pv 0) (pv 2) (fun _ _ => rfl)) (pv 3) (fun _ _ => rfl)) pa_nil)))))))))))
      (pss_one (ps_ret (pv 1)))))), ?_⟩
    refine ⟨_, rfl, a, _, rfl, .inl (SqL.of hR.top), rfl, _, rfl, ?_⟩
    rw [List.length_map, al]
    refine iteD (fun e => ?_) (fun e => ?_)
    · have e : (zss.length : Int) = 0 := by injection e
      have e0 : zss = [] := List.eq_nil_of_length_eq_zero (by omega)
      subst e0
      exact q
    have h0 : zss ≠ [] := fun h0 => by subst h0; exact e rfl
    refine ⟨_, rfl, a, _, rfl, .inl (SqL.of hR.top), _, rfl, by omega, by rw [List.length_map, al]; omega, ?_⟩
    rw [List.length_map, al, Int.toNat_natCast]
    refine for_range (fun i σ H2 => ∃ v2 v3 : Option V, σ = [some (.ref a), some (.str (preT zss i)), v2, v3] ∧ H2 = H) ⟨none, none, rfl, rfl⟩ ?_ ?_
    · rintro i σ H2 hi ⟨v2, v3, rfl, rfl⟩
      obtain ⟨z, ez⟩ : ∃ z, zss[i]? = some z := ⟨_, List.getElem?_eq_getElem hi⟩
      obtain ⟨p, ep, hp⟩ := hR.get ez
      have fzz := fz.1 z (List.mem_of_getElem? ez)
      have z4 := fzz.2
      have atk : atI (as.map V.ref) (0 + (i : Int)) = some (V.ref p) := atI_int (by omega) (by rw [show (0 + (i : Int)).toNat = i by omega, List.getElem?_map, ep]; rfl)
      have pl := pre_len fz i
      refine ⟨_, rfl, _, _, rfl, rfl, _, rfl, ?_⟩
      refine iteD (fun e => ?qa) (fun e => ?qb)
      case' qa =>
        refine ⟨_, rfl, _, _, rfl, rfl, ?_, ?_⟩
        · exact len2000 (show (preT zss i).length + 3 ≤ 4000 by omega)
        have ht : preT zss i ++ (" / " : Str) = if i = 0 then Str.empty else preT zss i ++ sS := by rw [if_neg (by omega)]; rfl
        have hl1 : (preT zss i ++ (" / " : Str)).length ≤ 1007 := by rw [lenA]; show (preT zss i).length + 3 ≤ 1007; omega
        generalize preT zss i ++ (" / " : Str) = t1 at ht hl1
      case' qb =>
        have ht : preT zss i = if i = 0 then Str.empty else preT zss i ++ sS := by
          have hi0 : i = 0 := by omega
          subst hi0; rfl
        have hl1 : (preT zss i).length ≤ 1007 := by omega
        generalize hq : preT zss i = t1 at hl1
        rw [hq] at ht
        have ht : t1 = if i = 0 then Str.empty else preT zss i ++ sS := by rw [hq]; exact ht
      all_goals
        refine ⟨_, rfl, _, rfl, a, _, _, _, rfl, rfl, SqL.of hR.top, atk, p, _, rfl, .inl (SqL.of hp), rfl, _, rfl, ?_⟩
        rw [zV_length]
        refine iteD (fun e2 => ?_) (fun e2 => ?_)
        refine ⟨_, rfl, _, _, rfl, rfl, ?_, ?_⟩
        · exact len2000 (show t1.length + 1 ≤ 4000 by omega)
        have z0 : z = [] := List.eq_nil_of_length_eq_zero (by have e2 : (z.length : Int) = 0 := by injection e2
                                                              omega)
        have ht2 : t1 ++ ("." : Str) = if z = [] then t1 ++ sD else t1 := by rw [if_pos z0]; rfl
        have hl2 : (t1 ++ ("." : Str)).length ≤ 1008 := by rw [lenA]; show t1.length + 1 ≤ 1008; omega
        generalize t1 ++ ("." : Str) = t2 at ht2 hl2
        rotate_left
        have z0 : z ≠ [] := fun h => by subst h; exact e2 rfl
        obtain ⟨t2, et2⟩ : ∃ t2, t1 = t2 := ⟨_, rfl⟩
        have ht2 : t2 = if z = [] then t1 ++ sD else t1 := by rw [if_neg z0]; exact et2.symm
        have hl2 : t2.length ≤ 1008 := by rw [← et2]; omega
        rw [show V.str t1 = V.str t2 by rw [et2]]
        all_goals
          refine ⟨_, rfl, _, rfl, a, _, _, _, rfl, rfl, SqL.of hR.top, atk, p, _, rfl, .inl (SqL.of hp), _, rfl, by omega, by rw [zV_length]; omega, ?_⟩
          rw [zV_length, Int.toNat_natCast]
          refine for_range (fun j σ H3 => ∃ v3 : Option V, σ = [some (.ref a), some (.str (t2 ++ innT z j)), some (.int (0 + (i : Int))), v3] ∧ H3 = H2) ⟨v3, ?_, rfl⟩ ?_ ?_
          · rw [show innT z 0 = Str.empty from rfl, Str.append_empty]; rfl
          · rintro j σ H3 hj ⟨w3, rfl, rfl⟩
            obtain ⟨n, en⟩ : ∃ n, z[j]? = some n := ⟨_, List.getElem?_eq_getElem hj⟩
            have fn := fzz.1 n (List.mem_of_getElem? en)
            have nl := num_len fn
            have il := inn_len fzz j
            have atj : atI (zV z) (0 + (j : Int)) = some (V.int n) := atI_int (by omega) (by rw [show (0 + (j : Int)).toNat = j by omega]; exact zV_get en)
            refine ⟨_, rfl, _, _, rfl, rfl, _, rfl, ?_⟩
            refine iteD (fun e3 => ?_) (fun e3 => ?_)
            · refine ⟨_, rfl, _, _, rfl, rfl, ?_, ?_⟩
              · rw [lenA]; exact len2000 (show t2.length + (innT z j).length + 1 ≤ 4000 by omega)
              refine ⟨_, rfl, _, rfl, _, rfl, a, _, _, _, rfl, rfl, SqL.of hR.top, atk, _, rfl, p, _, _, _, rfl, rfl, SqL.of hp, atj, n, rfl, bits_num fn, _, _, rfl, rfl, ?_, ?_⟩
              · rw [lenA, lenA]; exact len2000 (show t2.length + (innT z j).length + 1 + (num n).length ≤ 4000 by omega)
              · refine ⟨some (.int (0 + (j : Int))), ?_, rfl⟩
                rw [← inn_end en (t2 := t2) (t3 := t2 ++ innT z j ++ sB) (by rw [if_neg (by omega)])]; rfl
            · refine ⟨_, rfl, _, rfl, _, rfl, a, _, _, _, rfl, rfl, SqL.of hR.top, atk, _, rfl, p, _, _, _, rfl, rfl, SqL.of hp, atj, n, rfl, bits_num fn, _, _, rfl, rfl, ?_, ?_⟩
              · rw [lenA]; exact len2000 (show t2.length + (innT z j).length + (num n).length ≤ 4000 by omega)
              · refine ⟨some (.int (0 + (j : Int))), ?_, rfl⟩
                rw [← inn_end en (t2 := t2) (t3 := t2 ++ innT z j) (by rw [if_pos (by omega)])]; rfl
          · rintro σ H3 ⟨w3, rfl, rfl⟩
            rw [shown_end ez ht ht2]
            exact ⟨_, _, rfl, rfl⟩
    · rintro σ H2 ⟨v2, v3, rfl, rfl⟩
      rw [pre_all h0]
      exact ⟨_, rfl, q⟩
/-! ### like -/
def spLike : Sp := fun vs H Q _ => ∃ (a b : Addr) (as bs : List Addr) (zss : List (List Int)), vs = [.ref a, .ref b] ∧ RowsAt H a as zss ∧ RowsAt H b bs zss ∧ (∀ p ∈ as, p ∉ bs) ∧ Q (.bl true) H
theorem scLike : FnScope ["_law_found", "_law_due", "_law_row", "_law_number"] ["_law_found", "_law_due"] (defScope sLike) := ⟨rfl, rfl, rfl, by decide +kernel, rfl, by decide +kernel, by decide +kernel⟩
theorem ok_like {f fW : Addr} {fd fdW : FuncData} (F : Def K mg "_law_like" sLike ["_law_found", "_law_due"] f fd) (FW : Def K mg "_law_whole" sLWhole ["_law_found"] fW fdW) (B : Bi K mg) : FnOk P w K mg base CX0 2 f fd ["_law_found", "_law_due"] spLike := by
  have GW : FnOk P w K mg base CX0 1 fW fdW ["_law_found"] spWhole := ok_lwhole FW B
  refine F.fn.ok scLike (fun vs H Q E h => ?_) (fun cdv A outer s H vs Q E hr h => ?_)
  · obtain ⟨a, b, as, bs, zss, rfl, _⟩ := h
    rfl
  · obtain ⟨a, b, as, bs, zss, rfl, hA, hB, dis, q⟩ := h
    have nd := scLike.nd
    have hu := hu_of hr
    refine ⟨_, (pss_cons (ps_if (PW.pt (pw_or (pt_not (pt_val (pe_callB (isinstK K) (by rfl) B.isinstance PyProof.Rows.boot_isinstance (pa_cons (pv 0) (pa_cons (pe_bltn (v := .ty "list") rfl B.list PyProof.Rows.boot_list rfl) pa_nil))))) (pw_or1 (pt_cmpR op_ne (pe_callB (lenK K) (by rfl) B.len PySem.boot_len (pa_cons (pv 0) pa_nil)) (pe_callB (lenK K) (by rfl) B.len PySem.boot_len (pa_cons (pv 1) pa_nil)) (nomark _))))) (pss_one (ps_ret pe_bl)) pss_nil)
      (pss_cons (ps_for PassesOwn.never rfl (pi_listK K (pv 0)) (pg_name (i := 2) nd rfl (Or.inl rfl)) (pss_cons (ps_if (pt_not (pt_val (pe_callB (isinstK K) (by rfl) B.isinstance PyProof.Rows.boot_isinstance (pa_cons (pv 2) (pa_cons (pe_bltn (v := .ty "list") rfl B.list PyProof.Rows.boot_list rfl) pa_nil))))) (pss_one (ps_ret pe_bl)) pss_nil)
      (pss_one (ps_for PassesOwn.never rfl (pi_listK K (pv 2)) (pg_name (i := 3) nd rfl (Or.inl rfl)) (pss_one (ps_if (pt_not (pt_val (pe_call GW (hr.mono (by decide)) rfl FW.mg FW.fn.kp FW.bn .nil pass0 (pa_cons (pv 3) pa_nil)))) (pss_one (ps_ret pe_bl)) pss_nil))))))
      (pss_one (ps_ret (pe_cmpR (op_eqR hu) (pv 0) (pv 1) (nomark _)))))), ?_⟩
    refine ⟨_, rfl, _, _, _, _, rfl, .lst hA.top, B.ll, _, rfl, iteF ?_⟩
    refine ⟨_, rfl, a, _, rfl, .inl (SqL.of hA.top), _, rfl, b, _, rfl, .inl (SqL.of hB.top), rfl, _, rfl, ?_⟩
    rw [List.length_map, List.length_map, hA.len, hB.len, decide_eq_true rfl]
    refine iteF ?_
    refine ⟨_, rfl, a, rfl, ⟨_, SqL.of hA.top⟩, for_list (K := K) (a := a) (xs := as.map V.ref) (fun i σ H2 => ∃ v2 v3 : Option V, σ = [some (.ref a), some (.ref b), v2, v3] ∧ H2 = H) ⟨none, none, rfl, rfl⟩ (fun i σ H2 _ ⟨_, _, _, e⟩ => e ▸ SqL.of hA.top) ?_ ?_⟩
    · rintro i y σ H2 hi ⟨v2, v3, rfl, rfl⟩
      obtain ⟨p, hp, rfl⟩ := get_ref hi
      have hil : i < zss.length := by rw [← hA.len]; exact (List.getElem?_eq_some_iff.mp hp).1
      have hrow := hA.row i p zss[i] hp (List.getElem?_eq_getElem hil)
      refine ⟨_, rfl, _, _, _, _, rfl, .lst hrow, B.ll, _, rfl, iteF ?_⟩
      refine ⟨_, rfl, p, rfl, ⟨_, SqL.of hrow⟩, for_list (K := K) (a := p) (xs := zV zss[i]) (fun j σ H3 => ∃ v3 : Option V, σ = [some (.ref a), some (.ref b), some (.ref p), v3] ∧ H3 = H2) ⟨v3, rfl, rfl⟩ (fun i σ H2 _ ⟨_, _, e⟩ => e ▸ SqL.of hrow) ?_ ?_⟩
      · rintro j y σ H3 hj ⟨w3, rfl, rfl⟩
        obtain ⟨x, _, rfl⟩ := zV_item hj
        exact ⟨_, rfl, x, rfl, _, rfl, iteF ⟨_, rfl, rfl⟩⟩
      · rintro σ H3 ⟨w3, rfl, rfl⟩
        exact ⟨_, _, rfl, rfl⟩
    · rintro σ H2 ⟨v2, v3, rfl, rfl⟩
      refine ⟨_, rfl, _, rfl, a, b, as, bs, _, _, rfl, rfl, rows2_of hA, rows2_of hB, dis, rfl, ?_⟩
      rw [rows_same]
      exact q
end
end Tw

namespace Tw
open PySem L2 PySem.StrLaws
open PySem.Builtin.Int (intBits)
section
variable {P : Program} {w : World} {K : PySem.W.Frag} {mg : Str → Option Value} {base : Heap}
theorem scLaw : FnScope ["_law_script", "_law_cell", "_law_rows_here", "_law_text", "_law_handed", "_law_found"] ["_law_script"] (defScope sLaw) := ⟨rfl, rfl, rfl, by decide +kernel, rfl, by decide +kernel, by decide +kernel⟩
theorem ok_law {f fLR fLS fSS fRS fLK : Addr} {fd fdLR fdLS fdSS fdRS fdLK : FuncData} (F : Def K mg "law" sLaw ["_law_script"] f fd) (FLR : Def K mg "_law_rows" sRows ["_law_cell"] fLR fdLR) (FLS : Def K mg "_law_shown" sShown ["_law_rows_here"] fLS fdLS)
    (FSS : Def K mg "shown_rows" sShownRows ["rows"] fSS fdSS) (FRS : Def K mg "read_rows" sReadRows ["text"] fRS fdRS) (FLK : Def K mg "_law_like" sLike ["_law_found", "_law_due"] fLK fdLK)
    (GLR : FnOk P w K mg base CX0 2 fLR fdLR ["_law_cell"] spRows) (GLS : FnOk P w K mg base CX0 1 fLS fdLS ["_law_rows_here"] spShown) (GSS : FnOk P w K mg base CX0 2 fSS fdSS ["rows"] spShowRows) (GRS : FnOk P w K mg base CX0 5 fRS fdRS ["text"] spReadRows) (GLK : FnOk P w K mg base CX0 2 fLK fdLK ["_law_found", "_law_due"] spLike)
    (hS : mg "str" = none) (hSS : PySem.W.kitOne K (.type "str") (.type "str") = some true) (B : Bi K mg) : FnOk P w K mg base CX0 6 f fd ["_law_script"] (spLaw K) := by
  refine F.fn.ok scLaw (fun vs H Q E h => ?_) (fun cdv A outer s H vs Q E hr h => ?_)
  · obtain ⟨a, ns, rfl, _⟩ := h
    rfl
  · obtain ⟨a, ns, rfl, hSc, hb, hl, k⟩ := h
    have nd := scLaw.nd
    have hu := hu_of hr
    refine ⟨_, (pss_cons (ps_for PassesOwn.never rfl (pi_listK K (pe_op op_cat (pe_lst (pa_consC pe_int pa_nil)) (pe_slice (slK K) (pv 0) po_none (po_some pe_int)))) (pg_name (i := 1) nd rfl (Or.inl rfl)) (pss_cons (ps_set (i := 2) nd rfl (Or.inl rfl) (pe_call GLR (hr.mono (by decide)) rfl FLR.mg FLR.fn.kp FLR.bn .nil pass0 (pa_cons (pv 1) pa_nil)))
      (pss_cons (ps_set (i := 3) nd rfl (Or.inl rfl) (pe_call GLS (hr.mono (by decide)) rfl FLS.mg FLS.fn.kp FLS.bn .nil pass0 (pa_cons (pv 2) pa_nil)))
      (pss_cons (ps_setC (defScope sLaw).names ["_law_script", "_law_cell", "_law_rows_here", "_law_text", "_law_handed", "_law_found"] ["_law_script", "_law_cell", "_law_rows_here", "_law_text", "_law_handed", "_law_found", "_law_row"] 4 nd rfl (Or.inl rfl) (pi_listK K (pv 2)) (fun _ _ _ _ => pf_nil) (fun _ _ _ _ => (pe_callTy (listK K) (by rfl) B.list PyProof.Rows.boot_list (pa_cons (pv 6) pa_nil))))
      (pss_cons (ps_set (i := 5) nd rfl (Or.inl rfl) (pe_call GSS (hr.mono (by decide)) rfl FSS.mg FSS.fn.kp FSS.bn .nil pass0 (pa_cons (pv 4) pa_nil)))
      (pss_cons (ps_if (PW.pt (pw_or (pt_not (pt_val (pe_callB (isinstK K) (by rfl) B.isinstance PyProof.Rows.boot_isinstance (pa_cons (pv 5) (pa_cons (pe_bltn (v := .ty "str") rfl hS PyProof.Rows.boot_str rfl) pa_nil))))) (pw_or (pt_cmpR op_ne (pv 5) (pv 3) (nomark _)) (pw_or1 (pt_cmpR (op_neR hu) (pv 4) (pv 2) (nomark _)))))) (pss_one (ps_ret pe_bl)) pss_nil)
      (pss_one (ps_if (pt_not (pt_val (pe_call GLK (hr.mono (by decide)) rfl FLK.mg FLK.fn.kp FLK.bn .nil pass0 (pa_cons (pe_call GRS (hr.mono (by decide)) rfl FRS.mg FRS.fn.kp FRS.bn .nil pass0 (pa_cons (pv 3) pa_nil)) (pa_cons (pv 2) pa_nil))))) (pss_one (ps_ret pe_bl)) pss_nil))))))))
      (pss_one (ps_ret pe_bl))), ?_⟩
    refine ⟨by show 1 ≤ sizeLine; exact len12 (by decide), fun N hN => ?_⟩
    refine ⟨_, rfl, _, rfl, a, _, rfl, (same_upd hN).seq hSc, fun Z hZ => ?_⟩
    obtain ⟨ls, els, hls⟩ := zV_of (xs := cutV (zV ns) none (some 40)) (p := fun n => intBits n ≤ 2 ^ 20) fun v hv => by
      obtain ⟨z, hz, e⟩ := List.mem_map.mp (show v ∈ ns.map V.int from mem_cutV hv)
      exact ⟨z, e.symm, hb z hz⟩
    have hll : ls.length ≤ 63 := by
      have h1 : (zV ls).length ≤ (zV ns).length := by rw [← els]; exact cutV_length _ _ _
      rw [zV_length, zV_length] at h1; omega
    rw [els]
    have nNZ : N ≠ Z := fun e => by rw [← e, upd_same] at hZ; cases hZ
    refine ⟨N, Z, _, _, rfl, rfl, by rw [upd_ne nNZ]; exact upd_same, upd_same, by rw [zV_length]; exact len2000 (show 1 + ls.length ≤ 4000 by omega), fun R hR => ?_⟩
    have hR1 : (upd (upd (upd H N (.lst [V.int 9])) Z (.lst (zV ls))) R (.lst ([V.int 9] ++ zV ls))) R = some (.lst (zV (9 :: ls))) := upd_same
    refine ⟨R, rfl, ⟨_, SqL.of hR1⟩, ?_⟩
    generalize upd (upd (upd H N (.lst [V.int 9])) Z (.lst (zV ls))) R (.lst ([V.int 9] ++ zV ls)) = H1 at hR1
    have hbs : ∀ c ∈ 9 :: ls, intBits c ≤ 2 ^ 20 := fun c hc => by
      rcases List.mem_cons.mp hc with e | e
      · subst e; decide
      · exact hls c e
    refine for_list (K := K) (a := R) (xs := zV (9 :: ls)) (fun i σ H2 => ∃ v1 v2 v3 v4 v5 : Option V, σ = [some (.ref a), v1, v2, v3, v4, v5] ∧ Same H1 H2) ⟨none, none, none, none, none, rfl, Same.refl _⟩ (fun i σ H2 _ ⟨_, _, _, _, _, _, s2⟩ => SqL.of (s2 _ _ hR1)) ?_ ?_
    · rintro i y σ H2 hi ⟨v1, v2, v3, v4, v5, rfl, s2⟩
      obtain ⟨c, hc, rfl⟩ := zV_item hi
      refine ⟨_, rfl, c, rfl, hbs c (List.mem_of_getElem? hc), fun M ms zss H3 s3 fM hM fz fr => ?_⟩
      refine ⟨_, rfl, M, ms, zss, rfl, hM, fz, ?_⟩
      refine ⟨_, rfl, M, rfl, ⟨_, SqL.of hM.top⟩, fun D hD => ?_⟩
      refine copy_rows hM (by have := fz.2; omega) hD (fun p H4 Qv zs hp kk => ⟨_, rfl, p, _, rfl, .inl (SqL.of hp), kk⟩) fun bs H4 hHd s4 fr4 => ?_
      refine ⟨_, rfl, D, bs, zss, rfl, hHd, fz, fun H5 s5 => ?_⟩
      have dis : ∀ p ∈ bs, p ∉ ms := fun p hp => hM.freshR (fr4 p hp)
      have hM5 := hM.mono (s4.trans s5)
      refine ⟨_, rfl, _, _, _, _, rfl, .str _, hSS, _, rfl, iteF ?_⟩
      refine ⟨_, rfl, _, rfl, rfl, _, rfl, ?_⟩
      rw [decide_eq_true rfl]
      refine iteF ?_
      refine ⟨_, rfl, _, rfl, D, M, bs, ms, _, _, rfl, rfl, rows2_of (hHd.mono s5), rows2_of hM5, dis, rfl, _, rfl, ?_⟩
      rw [rows_same]
      refine iteF ?_
      refine ⟨_, rfl, zss, rfl, fz, fun D2 bs2 H6 hD2 s6 fr6 fD2 => ?_⟩
      refine ⟨_, rfl, D2, M, bs2, ms, zss, rfl, hD2, hM5.mono s6, fun p hp => hM5.freshR (fr6 p hp), _, rfl, iteF ?_⟩
      exact ⟨_, _, _, _, _, rfl, (((s2.trans s3).trans s4).trans s5).trans s6⟩
    · rintro σ H2 ⟨v1, v2, v3, v4, v5, rfl, s2⟩
      exact k H2
end
end Tw

namespace Tw
open PySem L2
theorem def_mk {K : PySem.W.Frag} {h : Heap} {mg : Str → Option Value} {x : Str} {st : Stmt} {ps : List Str} {f : Addr} {oc : Value} {od an : Option Addr} {osl : Array (Option Value)} {kV doc pm cdv ct : Value} (X : K.In h) (G : h.Ns mainGlobals mg)
    (a : PySem.W.nsIn K mainGlobals x = some (some (.ref f))) (l : K.lookup f = some ⟨oc, od, .func (PySem.W.fnOf x x (defArgs st) (defBody st) (defScope st) .none kV doc pm an cdv ct), osl⟩) (c : PySem.W.codeIn K cdv x = true) (k : PySem.W.keepIn K (.ref f) = true)
    (b : ∀ (kV doc pm : Value) (an : Option Addr) (cdv ct : Value) (us : List Value), us.length = ps.length → bindArgs (PySem.W.fnOf x x (defArgs st) (defBody st) (defScope st) .none kV doc pm an cdv ct) ⟨us, []⟩ = pure (ps.zip us)) :
    Def K mg x st ps f (PySem.W.fnOf x x (defArgs st) (defBody st) (defScope st) .none kV doc pm an cdv ct) := ⟨fun_mk l c k, (fun_mk l c k).binds b, PySem.W.mg_of X G a⟩
theorem all_mk {l : PySem.W.OpenLaw} {w : World} {K : PySem.W.Frag} {h : Heap} {mg : Str → Option Value} {fa fAF fIN fRN fRR fRS fSR fSS fM fY fLR fLS fLK fX : Addr} (X : K.In h) (G : h.Ns mainGlobals mg) (hfa : mg "law" = some (.ref fa))
    {odAF anAF odIN anIN odRN anRN odRR anRR odRS anRS odSR anSR odSS anSS odM anM odY anY odLR anLR odLS anLS odLK anLK odX anX : Option Addr} {slAF slIN slRN slRR slRS slSR slSS slM slY slLR slLS slLK slX : Array (Option Value)}
    {ocAF kVAF dcAF pmAF cdAF ctAF ocIN kVIN dcIN pmIN cdIN ctIN ocRN kVRN dcRN pmRN cdRN ctRN ocRR kVRR dcRR pmRR cdRR ctRR ocRS kVRS dcRS pmRS cdRS ctRS ocSR kVSR dcSR pmSR cdSR ctSR ocSS kVSS dcSS pmSS cdSS ctSS ocM kVM dcM pmM cdM ctM ocY kVY dcY pmY cdY ctY ocLR kVLR dcLR pmLR cdLR ctLR ocLS kVLS dcLS pmLS cdLS ctLS ocLK kVLK dcLK pmLK cdLK ctLK ocX kVX dcX pmX cdX ctX : Value}
    (aAF : PySem.W.nsIn K mainGlobals "are_figures" = some (some (.ref fAF))) (lAF : K.lookup fAF = some ⟨ocAF, odAF, .func (PySem.W.fnOf "are_figures" "are_figures" (defArgs sAreFigures) (defBody sAreFigures) (defScope sAreFigures) .none kVAF dcAF pmAF anAF cdAF ctAF), slAF⟩) (cAF : PySem.W.codeIn K cdAF "are_figures" = true) (kAF : PySem.W.keepIn K (.ref fAF) = true)
    (aIN : PySem.W.nsIn K mainGlobals "is_number" = some (some (.ref fIN))) (lIN : K.lookup fIN = some ⟨ocIN, odIN, .func (PySem.W.fnOf "is_number" "is_number" (defArgs sIsNumber) (defBody sIsNumber) (defScope sIsNumber) .none kVIN dcIN pmIN anIN cdIN ctIN), slIN⟩) (cIN : PySem.W.codeIn K cdIN "is_number" = true) (kIN : PySem.W.keepIn K (.ref fIN) = true)
    (aRN : PySem.W.nsIn K mainGlobals "read_number" = some (some (.ref fRN))) (lRN : K.lookup fRN = some ⟨ocRN, odRN, .func (PySem.W.fnOf "read_number" "read_number" (defArgs sReadNumber) (defBody sReadNumber) (defScope sReadNumber) .none kVRN dcRN pmRN anRN cdRN ctRN), slRN⟩) (cRN : PySem.W.codeIn K cdRN "read_number" = true) (kRN : PySem.W.keepIn K (.ref fRN) = true)
    (aRR : PySem.W.nsIn K mainGlobals "read_row" = some (some (.ref fRR))) (lRR : K.lookup fRR = some ⟨ocRR, odRR, .func (PySem.W.fnOf "read_row" "read_row" (defArgs sReadRow) (defBody sReadRow) (defScope sReadRow) .none kVRR dcRR pmRR anRR cdRR ctRR), slRR⟩) (cRR : PySem.W.codeIn K cdRR "read_row" = true) (kRR : PySem.W.keepIn K (.ref fRR) = true)
    (aRS : PySem.W.nsIn K mainGlobals "read_rows" = some (some (.ref fRS))) (lRS : K.lookup fRS = some ⟨ocRS, odRS, .func (PySem.W.fnOf "read_rows" "read_rows" (defArgs sReadRows) (defBody sReadRows) (defScope sReadRows) .none kVRS dcRS pmRS anRS cdRS ctRS), slRS⟩) (cRS : PySem.W.codeIn K cdRS "read_rows" = true) (kRS : PySem.W.keepIn K (.ref fRS) = true)
    (aSR : PySem.W.nsIn K mainGlobals "shown_row" = some (some (.ref fSR))) (lSR : K.lookup fSR = some ⟨ocSR, odSR, .func (PySem.W.fnOf "shown_row" "shown_row" (defArgs sShownRow) (defBody sShownRow) (defScope sShownRow) .none kVSR dcSR pmSR anSR cdSR ctSR), slSR⟩) (cSR : PySem.W.codeIn K cdSR "shown_row" = true) (kSR : PySem.W.keepIn K (.ref fSR) = true)
    (aSS : PySem.W.nsIn K mainGlobals "shown_rows" = some (some (.ref fSS))) (lSS : K.lookup fSS = some ⟨ocSS, odSS, .func (PySem.W.fnOf "shown_rows" "shown_rows" (defArgs sShownRows) (defBody sShownRows) (defScope sShownRows) .none kVSS dcSS pmSS anSS cdSS ctSS), slSS⟩) (cSS : PySem.W.codeIn K cdSS "shown_rows" = true) (kSS : PySem.W.keepIn K (.ref fSS) = true)
    (aM : PySem.W.nsIn K mainGlobals "_law_mix" = some (some (.ref fM))) (lM : K.lookup fM = some ⟨ocM, odM, .func (PySem.W.fnOf "_law_mix" "_law_mix" (defArgs sMix) (defBody sMix) (defScope sMix) .none kVM dcM pmM anM cdM ctM), slM⟩) (cM : PySem.W.codeIn K cdM "_law_mix" = true) (kM : PySem.W.keepIn K (.ref fM) = true)
    (aY : PySem.W.nsIn K mainGlobals "_law_whole" = some (some (.ref fY))) (lY : K.lookup fY = some ⟨ocY, odY, .func (PySem.W.fnOf "_law_whole" "_law_whole" (defArgs sLWhole) (defBody sLWhole) (defScope sLWhole) .none kVY dcY pmY anY cdY ctY), slY⟩) (cY : PySem.W.codeIn K cdY "_law_whole" = true) (kY : PySem.W.keepIn K (.ref fY) = true)
    (aLR : PySem.W.nsIn K mainGlobals "_law_rows" = some (some (.ref fLR))) (lLR : K.lookup fLR = some ⟨ocLR, odLR, .func (PySem.W.fnOf "_law_rows" "_law_rows" (defArgs sRows) (defBody sRows) (defScope sRows) .none kVLR dcLR pmLR anLR cdLR ctLR), slLR⟩) (cLR : PySem.W.codeIn K cdLR "_law_rows" = true) (kLR : PySem.W.keepIn K (.ref fLR) = true)
    (aLS : PySem.W.nsIn K mainGlobals "_law_shown" = some (some (.ref fLS))) (lLS : K.lookup fLS = some ⟨ocLS, odLS, .func (PySem.W.fnOf "_law_shown" "_law_shown" (defArgs sShown) (defBody sShown) (defScope sShown) .none kVLS dcLS pmLS anLS cdLS ctLS), slLS⟩) (cLS : PySem.W.codeIn K cdLS "_law_shown" = true) (kLS : PySem.W.keepIn K (.ref fLS) = true)
    (aLK : PySem.W.nsIn K mainGlobals "_law_like" = some (some (.ref fLK))) (lLK : K.lookup fLK = some ⟨ocLK, odLK, .func (PySem.W.fnOf "_law_like" "_law_like" (defArgs sLike) (defBody sLike) (defScope sLike) .none kVLK dcLK pmLK anLK cdLK ctLK), slLK⟩) (cLK : PySem.W.codeIn K cdLK "_law_like" = true) (kLK : PySem.W.keepIn K (.ref fLK) = true)
    (aX : PySem.W.nsIn K mainGlobals "law" = some (some (.ref fX))) (lX : K.lookup fX = some ⟨ocX, odX, .func (PySem.W.fnOf "law" "law" (defArgs sLaw) (defBody sLaw) (defScope sLaw) .none kVX dcX pmX anX cdX ctX), slX⟩) (cX : PySem.W.codeIn K cdX "law" = true) (kX : PySem.W.keepIn K (.ref fX) = true)
    (zstr : PySem.W.nsIn K mainGlobals "str" = some none)
    (kss : PySem.W.kitOne K (.type "str") (.type "str") = some true)
    (zisinstance : PySem.W.nsIn K mainGlobals "isinstance" = some none)
    (zint : PySem.W.nsIn K mainGlobals "int" = some none)
    (zbool : PySem.W.nsIn K mainGlobals "bool" = some none)
    (zlist : PySem.W.nsIn K mainGlobals "list" = some none)
    (zlen : PySem.W.nsIn K mainGlobals "len" = some none)
    (zall : PySem.W.nsIn K mainGlobals "all" = some none)
    (zsum : PySem.W.nsIn K mainGlobals "sum" = some none)
    (zrange : PySem.W.nsIn K mainGlobals "range" = some none)
    (zmax : PySem.W.nsIn K mainGlobals "max" = some none)
    (zmin : PySem.W.nsIn K mainGlobals "min" = some none)
    (zset : PySem.W.nsIn K mainGlobals "set" = some none)
    (zsorted : PySem.W.nsIn K mainGlobals "sorted" = some none)
    (zzip : PySem.W.nsIn K mainGlobals "zip" = some none)
    (zany : PySem.W.nsIn K mainGlobals "any" = some none)
    (zdict : PySem.W.nsIn K mainGlobals "dict" = some none)
    (zreversed : PySem.W.nsIn K mainGlobals "reversed" = some none)
    (ztuple : PySem.W.nsIn K mainGlobals "tuple" = some none)
    {tzF : Tok} (zF : PySem.W.nsIn K mainGlobals "FIGURES" = some (some (.str "0123456789" tzF)))
    {tzN : Tok} (zN : PySem.W.nsIn K mainGlobals "MOST_FIGURES" = some (some (.int 60 tzN)))
    (zM : True)
    (ii : PySem.W.kitOne K (.type "int") (.type "int") = some true) (ib : PySem.W.kitOne K (.type "int") (.type "bool") = some false) (ll : PySem.W.kitOne K (.type "list") (.type "list") = some true) (bb : PySem.W.kitOne K (.type "bool") (.type "bool") = some true) (tt : PySem.W.kitOne K (.type "tuple") (.type "tuple") = some true) :
    ∃ fd : FuncData, (∀ (s : Shared) (v : Value), BindsTo s fd ⟨[v], []⟩ [("_law_script", v)]) ∧ ∀ base : Heap, K.In base → base.Ns mainGlobals mg → FnOk l.prog w K mg base CX0 6 fa fd ["_law_script"] (spLaw K) := by
  have e := hfa.symm.trans (PySem.W.mg_of X G aX)
  cases e
  have B : Bi K mg := ⟨PySem.W.mg_none_of X G zisinstance, PySem.W.mg_none_of X G zint, PySem.W.mg_none_of X G zbool, PySem.W.mg_none_of X G zlist, PySem.W.mg_none_of X G zlen, PySem.W.mg_none_of X G zall, PySem.W.mg_none_of X G zsum, PySem.W.mg_none_of X G zrange, PySem.W.mg_none_of X G zmax, PySem.W.mg_none_of X G zmin, PySem.W.mg_none_of X G zset, PySem.W.mg_none_of X G zsorted, PySem.W.mg_none_of X G zzip, PySem.W.mg_none_of X G zany, PySem.W.mg_none_of X G zdict, PySem.W.mg_none_of X G zreversed, PySem.W.mg_none_of X G ztuple, ii, ib, ll, bb, tt⟩
  have FAF := def_mk (st := sAreFigures) (ps := ["text"]) X G aAF lAF cAF kAF fun _ _ _ _ _ _ us hl => match us, hl with | [_], _ => rfl
  have FIN := def_mk (st := sIsNumber) (ps := ["text"]) X G aIN lIN cIN kIN fun _ _ _ _ _ _ us hl => match us, hl with | [_], _ => rfl
  have FRN := def_mk (st := sReadNumber) (ps := ["text"]) X G aRN lRN cRN kRN fun _ _ _ _ _ _ us hl => match us, hl with | [_], _ => rfl
  have FRR := def_mk (st := sReadRow) (ps := ["text"]) X G aRR lRR cRR kRR fun _ _ _ _ _ _ us hl => match us, hl with | [_], _ => rfl
  have FRS := def_mk (st := sReadRows) (ps := ["text"]) X G aRS lRS cRS kRS fun _ _ _ _ _ _ us hl => match us, hl with | [_], _ => rfl
  have FSR := def_mk (st := sShownRow) (ps := ["row"]) X G aSR lSR cSR kSR fun _ _ _ _ _ _ us hl => match us, hl with | [_], _ => rfl
  have FSS := def_mk (st := sShownRows) (ps := ["rows"]) X G aSS lSS cSS kSS fun _ _ _ _ _ _ us hl => match us, hl with | [_], _ => rfl
  have FM := def_mk (st := sMix) (ps := ["_law_number", "_law_k"]) X G aM lM cM kM fun _ _ _ _ _ _ us hl => match us, hl with | [_, _], _ => rfl
  have FY := def_mk (st := sLWhole) (ps := ["_law_found"]) X G aY lY cY kY fun _ _ _ _ _ _ us hl => match us, hl with | [_], _ => rfl
  have FLR := def_mk (st := sRows) (ps := ["_law_cell"]) X G aLR lLR cLR kLR fun _ _ _ _ _ _ us hl => match us, hl with | [_], _ => rfl
  have FLS := def_mk (st := sShown) (ps := ["_law_rows_here"]) X G aLS lLS cLS kLS fun _ _ _ _ _ _ us hl => match us, hl with | [_], _ => rfl
  have FLK := def_mk (st := sLike) (ps := ["_law_found", "_law_due"]) X G aLK lLK cLK kLK fun _ _ _ _ _ _ us hl => match us, hl with | [_, _], _ => rfl
  have FX := def_mk (st := sLaw) (ps := ["_law_script"]) X G aX lX cX kX fun _ _ _ _ _ _ us hl => match us, hl with | [_], _ => rfl
  refine ⟨PySem.W.fnOf "law" "law" (defArgs sLaw) (defBody sLaw) (defScope sLaw) .none kVX dcX pmX anX cdX ctX, fun s v => .of_eq rfl, fun base _ _ => ?_⟩
  have hS : mg "str" = none := PySem.W.mg_none_of X G zstr
  have hF := PySem.W.mg_of X G zF
  have hN := PySem.W.mg_of X G zN
  have GAF : FnOk l.prog w K mg base CX0 1 fAF _ ["text"] spFigs := ok_figs FAF hF hN B
  have GIN : FnOk l.prog w K mg base CX0 2 fIN _ ["text"] spIsNum := ok_isnum FIN FAF GAF
  have GRN : FnOk l.prog w K mg base CX0 3 fRN _ ["text"] spReadNum := ok_readnum FRN FIN GIN B
  have GRR : FnOk l.prog w K mg base CX0 4 fRR _ ["text"] spReadRow := ok_readrow FRR FRN GRN
  have GRS : FnOk l.prog w K mg base CX0 5 fRS _ ["text"] spReadRows := ok_readrows FRS FRR GRR
  have GSR : FnOk l.prog w K mg base CX0 1 fSR _ ["row"] spShowRow := ok_showrow FSR hS B
  have GSS : FnOk l.prog w K mg base CX0 2 fSS _ ["rows"] spShowRows := ok_showrows FSS FSR GSR B
  exact ok_law FX FLR FLS FSS FRS FLK (ok_rows FLR FM B) (ok_shown FLS hS B) GSS GRS (ok_like FLK FY B) hS kss B
end Tw
open PySem PySem.W PyProof.Rows
set_option maxRecDepth 100000 in
set_option maxHeartbeats 0 in
theorem PySem.Challenge.cw_treewells_k83_rows_as_texts_holds : PySem.Challenge.rw_treewells_k83_rows_as_texts.Holds := by
  w_on; o_law; k_head; (case hw => w_witness2)
  k_fill
  refine L2.walk_bits (l := PySem.Challenge.rw_treewells_k83_rows_as_texts) (n := 63) (k := 6) (x := "_law_script") (CX := L2.CX0) (sp := Tw.spLaw) rfl (by decide) rfl ⟨rfl, by decide, by decide⟩ (fun w h Y => PySem.W.kIn_of Y) ?F ?S ?C
  case S => exact fun K H a ns hl hb _ hS => ⟨a, ns, rfl, hS, hb, hl, fun _ => rfl⟩
  case C => exact fun _ _ _ _ z => z
  case F =>
    intro w mg fa h KX G hmg
    refine' Tw.all_mk KX G hmg ?aAF ?lAF ?cAF ?kAF ?aIN ?lIN ?cIN ?kIN ?aRN ?lRN ?cRN ?kRN ?aRR ?lRR ?cRR ?kRR ?aRS ?lRS ?cRS ?kRS ?aSR ?lSR ?cSR ?kSR ?aSS ?lSS ?cSS ?kSS ?aM ?lM ?cM ?kM ?aY ?lY ?cY ?kY ?aLR ?lLR ?cLR ?kLR ?aLS ?lLS ?cLS ?kLS ?aLK ?lLK ?cLK ?kLK ?aX ?lX ?cX ?kX ?zstr ?kss ?zisinstance ?zint ?zbool ?zlist ?zlen ?zall ?zsum ?zrange ?zmax ?zmin ?zset ?zsorted ?zzip ?zany ?zdict ?zreversed ?ztuple ?zF ?zN ?zM ?ii ?ib ?ll ?bb ?tt
    (case aAF => k_is)
    (case lAF => k_is)
    (case cAF => k_is)
    (case kAF => k_is)
    (case aIN => k_is)
    (case lIN => k_is)
    (case cIN => k_is)
    (case kIN => k_is)
    (case aRN => k_is)
    (case lRN => k_is)
    (case cRN => k_is)
    (case kRN => k_is)
    (case aRR => k_is)
    (case lRR => k_is)
    (case cRR => k_is)
    (case kRR => k_is)
    (case aRS => k_is)
    (case lRS => k_is)
    (case cRS => k_is)
    (case kRS => k_is)
    (case aSR => k_is)
    (case lSR => k_is)
    (case cSR => k_is)
    (case kSR => k_is)
    (case aSS => k_is)
    (case lSS => k_is)
    (case cSS => k_is)
    (case kSS => k_is)
    (case aM => k_is)
    (case lM => k_is)
    (case cM => k_is)
    (case kM => k_is)
    (case aY => k_is)
    (case lY => k_is)
    (case cY => k_is)
    (case kY => k_is)
    (case aLR => k_is)
    (case lLR => k_is)
    (case cLR => k_is)
    (case kLR => k_is)
    (case aLS => k_is)
    (case lLS => k_is)
    (case cLS => k_is)
    (case kLS => k_is)
    (case aLK => k_is)
    (case lLK => k_is)
    (case cLK => k_is)
    (case kLK => k_is)
    (case aX => k_is)
    (case lX => k_is)
    (case cX => k_is)
    (case kX => k_is)
    (case zstr => first | k_is | kernel_rfl | rfl | decide +kernel)
    (case kss => first | k_is | kernel_rfl | rfl | decide +kernel)
    (case zisinstance => k_is)
    (case zint => k_is)
    (case zbool => k_is)
    (case zlist => k_is)
    (case zlen => k_is)
    (case zall => k_is)
    (case zsum => k_is)
    (case zrange => k_is)
    (case zmax => k_is)
    (case zmin => k_is)
    (case zset => k_is)
    (case zsorted => k_is)
    (case zzip => k_is)
    (case zany => k_is)
    (case zdict => k_is)
    (case zreversed => k_is)
    (case ztuple => k_is)
    (case zF => k_is)
    (case zN => k_is)
    (case zM => trivial)
    (case ii => first | k_is | kernel_rfl | rfl | decide +kernel)
    (case ib => first | k_is | kernel_rfl | rfl | decide +kernel)
    (case ll => first | k_is | kernel_rfl | rfl | decide +kernel)
    (case bb => first | k_is | kernel_rfl | rfl | decide +kernel)
    (case tt => first | k_is | kernel_rfl | rfl | decide +kernel)
