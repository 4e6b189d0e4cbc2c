import PyProof.Rows.All
import Wide.All
import OpenK.AllK
import Wide.FinOn
import Lean
import PyProof.EqAt
import PyProof.EqKinds
import PyProof.TupleCall
import PySem.Challenge.RW_truthgrades_k07_whole_texts_of_tables
set_option Elab.async false
set_option linter.all false
set_option maxRecDepth 100000
/-! THE HAND LAYER, for ints, bools, texts, own classes, LISTS and tuples (index, slices, in, append, pop ..), calls, loops. Paste it whole ahead of your own text; what your proof does not reach may be deleted. -/
namespace L2
open PySem PySem.Spec PyProof.Rows

/-- a key: an int or a str -/
abbrev Key := Sum Int Str
def keyIs : Key → Value → Bool
  | .inl k, v => Value.isInt k v
  | .inr x, v => Value.isStrOf x v
def keyH (w : World) : Key → Int
  | .inl k => hashInt k
  | .inr x => hashStr w x
theorem keyIs_shape : ∀ {k : Key} {v : Value}, keyIs k v = true → (∃ i t, k = Sum.inl i ∧ v = Value.int i t) ∨ (∃ x t, k = Sum.inr x ∧ v = Value.str x t)
  | .inl i, v, h => by
    obtain ⟨t, e⟩ := Value.isInt_shape (k := i) (v := v) h
    exact .inl ⟨i, t, rfl, e⟩
  | .inr x, v, h => by
    obtain ⟨t, e⟩ := Value.isStrOf_shape (x := x) (v := v) h
    exact .inr ⟨x, t, rfl, e⟩
theorem key_ll (a b : Int) : decide ((Sum.inl a : Key) = Sum.inl b) = (a == b) := by
  by_cases e : a = b
  · subst e; simp
  · have h : ¬ (Sum.inl a : Key) = Sum.inl b := fun q => e (Sum.inl.inj q)
    rw [decide_eq_false h]
    exact (beq_eq_false_iff_ne.mpr e).symm
theorem key_rr (a b : Str) : decide ((Sum.inr a : Key) = Sum.inr b) = decide (a = b) := by
  by_cases e : a = b
  · subst e; simp
  · have h : ¬ (Sum.inr a : Key) = Sum.inr b := fun q => e (Sum.inr.inj q)
    rw [decide_eq_false h, decide_eq_false e]
theorem key_lr (a : Int) (b : Str) : decide ((Sum.inl a : Key) = Sum.inr b) = false := decide_eq_false (fun q => nomatch q)
theorem key_rl (a : Str) (b : Int) : decide ((Sum.inr a : Key) = Sum.inl b) = false := decide_eq_false (fun q => nomatch q)

def mixKind (prog : Program) (w : World) : PySem.KeyKind prog w Key where
  is := keyIs
  hash := keyH w
  inj := fun v a b ha hb => by
    rcases keyIs_shape ha with ⟨i, t, rfl, rfl⟩ | ⟨x, t, rfl, rfl⟩
    · rcases keyIs_shape hb with ⟨j, u, rfl, e⟩ | ⟨y, u, rfl, e⟩
      · injection e with e1 _; rw [e1]
      · exact nomatch e
    · rcases keyIs_shape hb with ⟨j, u, rfl, e⟩ | ⟨y, u, rfl, e⟩
      · exact nomatch e
      · injection e with e1 _; rw [e1]
  byValue := fun k v h => by
    rcases keyIs_shape h with ⟨i, t, rfl, rfl⟩ | ⟨x, t, rfl, rfl⟩ <;> rfl
  pyHash := fun hv h => by
    rcases keyIs_shape hv with ⟨i, t, rfl, rfl⟩ | ⟨x, t, rfl, rfl⟩
    · exact wpAny_pyHash_int h
    · exact wpAny_pyHash_str h
  eqBool := fun hu hv h => by
    rcases keyIs_shape hu with ⟨i, t, rfl, rfl⟩ | ⟨x, t, rfl, rfl⟩
    · rcases keyIs_shape hv with ⟨j, u, rfl, rfl⟩ | ⟨y, u, rfl, rfl⟩
      · rw [key_ll] at h; exact wpAny_eqBool_int h
      · rw [key_lr] at h; exact SeqAt.EqAt.int_str i t y u _ _ _ _ h
    · rcases keyIs_shape hv with ⟨j, u, rfl, rfl⟩ | ⟨y, u, rfl, rfl⟩
      · rw [key_rl] at h; exact SeqAt.EqAt.str_int x t j u _ _ _ _ h
      · rw [key_rr] at h; exact wpAny_eqBool_str h
  «strs» := fun k x t v h => by
    rcases keyIs_shape h with ⟨i, u, rfl, e⟩ | ⟨y, u, rfl, e⟩
    · exact nomatch e
    · injection e with e1 _
      subst e1
      cases v <;> rfl

end L2

namespace L2
open PySem PySem.Spec PyProof.Rows

/-- a value, without the heap -/
inductive V where
  | non | bl (b : Bool) | int (i : Int) | str (x : Str) | byt (b : Array UInt8) | flt (b : UInt64) | ref (a : Addr) | ty (n : String)
  deriving DecidableEq

def RelV : V → Value → Prop
  | .non, u => u = Value.none
  | .bl b, u => u = Value.bool b
  | .int i, u => ∃ t, u = Value.int i t
  | .str x, u => ∃ t, u = Value.str x t
  | .byt b, u => ∃ t, u = Value.bytes b t
  | .flt b, u => ∃ t, u = Value.float b t
  | .ref a, u => u = Value.ref a
  | .ty n, u => u = Value.type n

abbrev Vals : List V → List Value → Prop := Paired RelV
theorem Vals.length {xs : List V} {us : List Value} (r : Vals xs us) : xs.length = us.length := Paired.length r
theorem Vals.get : ∀ {xs : List V} {us : List Value} {i : Nat} {x : V}, Vals xs us → xs[i]? = some x → ∃ u, us[i]? = some u ∧ RelV x u
  | _, _, _, _, .nil, e => by simp at e
  | _, _, 0, _, .cons r _, e => by simp at e; subst e; exact ⟨_, rfl, r⟩
  | _, _, i + 1, x, .cons _ t, e => by
    obtain ⟨u, h1, h2⟩ := Vals.get (i := i) (x := x) t (by simpa using e)
    exact ⟨u, by simpa using h1, h2⟩
theorem Vals.set {x : V} {u : Value} (r : RelV x u) : ∀ {xs : List V} {us : List Value} (i : Nat), Vals xs us → Vals (xs.set i x) (us.set i u)
  | _, _, _, .nil => .nil
  | _, _, 0, .cons _ t => .cons r t
  | _, _, i + 1, .cons q t => .cons q (Vals.set r i t)
theorem Vals.append : ∀ {xs ys : List V} {us ws : List Value}, Vals xs us → Vals ys ws → Vals (xs ++ ys) (us ++ ws)
  | _, _, _, _, .nil, s => s
  | _, _, _, _, .cons r t, s => .cons r (Vals.append t s)
theorem Vals.take : ∀ {xs : List V} {us : List Value} (n : Nat), Vals xs us → Vals (xs.take n) (us.take n)
  | _, _, 0, _ => .nil
  | _, _, _ + 1, .nil => .nil
  | _, _, n + 1, .cons r t => .cons r (Vals.take n t)
theorem Vals.drop : ∀ {xs : List V} {us : List Value} (n : Nat), Vals xs us → Vals (xs.drop n) (us.drop n)
  | _, _, 0, r => r
  | _, _, _ + 1, .nil => .nil
  | _, _, n + 1, .cons _ t => Vals.drop n t
def RelO : Option V → Option Value → Prop
  | some v, some u => RelV v u
  | none, none => True
  | _, _ => False
def KV {κ : Type} : List (κ × V) → List (κ × Value) → Prop := Paired fun (p : κ × V) (q : κ × Value) => p.1 = q.1 ∧ RelV p.2 q.2

/-- a key of a dict (00_mix): an int or a text -/
def kV : Key → V
  | .inl i => .int i
  | .inr x => .str x

/-- a plain tuple: no dict of its own -/
def PTup (h : Heap) (a : Addr) (items : Array Value) : Prop := ∃ o, h.get? a = some o ∧ o.cls = .type "tuple" ∧ (∃ n, o.data = .seq items n) ∧ o.dict = none
theorem PTup.lt {h : Heap} {a : Addr} {items : Array Value} (x : PTup h a items) : a < h.objs.size := let ⟨_, e, _⟩ := x; Heap.lt_size e
theorem PTup.isTup {h : Heap} {a : Addr} {items : Array Value} (x : PTup h a items) : IsTup h a items := let ⟨o, e, c, n, _⟩ := x; ⟨o, e, c, n⟩
theorem PTup.new (h : Heap) (items : Array Value) : PTup (h.push { cls := .type "tuple", data := .seq items }) h.objs.size items := ⟨_, Heap.get?_push_size _ rfl, rfl, ⟨_, rfl⟩, rfl⟩
/-- what stands at a tracked address -/
inductive HO where
  /-- a list -/
  | lst (xs : List V)
  /-- a tuple (never changes) -/
  | tup (xs : List V)
  /-- a dict whose keys are ints and texts; one whose keys are tuples of ints and texts (the empty one is both) -/
  | dK (kvs : List (Key × V)) | dT (kvs : List (List Key × V))
  /-- a set of ints: its members, its size -/
  | set (S : Int → Bool) (n : Nat)
  /-- an instance of the class at C, its dict at dx, its attributes -/
  | ins (C dx : Addr) (fs : List (Str × V))
  /-- the dict of the instance at x -/
  | own (x : Addr)
  /-- the dict of an exception -/
  | xd (fs : List (Str × V))
  /-- a bound method, f of x -/
  | met (f x : Addr)
  /-- a range object lo, lo + 1, .. below hi -/
  | rng (lo hi : Int)
  /-- a thing that is known to the object (the script; a dict while a loop walks it): read, never written while it is so -/
  | frz (o : Obj) (u : HO)
  /-- a code object's table -/
  | tbl (ps : Array Value)
  /-- any other thing, by what is true of its one object (a def of one's own: SetO a S n := HO.ext fun h => ..) -/
  | ext (φ : Heap → Prop)

abbrev Hp := Addr → Option HO
def upd (H : Hp) (a : Addr) (o : HO) : Hp := fun b => if b = a then some o else H b
theorem upd_same {H : Hp} {a : Addr} {o : HO} : upd H a o a = some o := by unfold upd; rw [if_pos rfl]
theorem upd_ne {H : Hp} {a b : Addr} {o : HO} (h : b ≠ a) : upd H a o b = H b := by unfold upd; rw [if_neg h]
/-- two objects of different content stand apart -/
theorem ne_of {H : Hp} {a b : Addr} {o u : HO} (h : H a = some o) (h' : H b = some u) (d : o ≠ u) : a ≠ b := by
  intro e; subst e; rw [h] at h'; exact d (Option.some.inj h')
theorem ne_of_none {H : Hp} {a b : Addr} {o : HO} (h : H a = some o) (h' : H b = none) : a ≠ b := by
  intro e; subst e; rw [h] at h'; cases h'

section
variable (P : Program) (w : World)
def ObjOk (H : Hp) (h : Heap) (a : Addr) : HO → Prop
  | .lst xs => xs.length ≤ sizeLine ∧ ∃ (its : List Value) (n : Nat), Vals xs its ∧ h.get? a = some { cls := .type "list", data := .seq its.toArray n }
  | .tup xs => xs.length ≤ sizeLine ∧ ∃ its : List Value, Vals xs its ∧ PTup h a its.toArray
  | .dK kvs => kvs.length ≤ sizeLine ∧ (a == sysModules) = false ∧ ∃ vs, KV kvs vs ∧ h.DictOf (mixKind P w) a vs
  | .dT kvs => kvs.length ≤ sizeLine ∧ (a == sysModules) = false ∧ ∃ xs : List (List Key × Addr × Value),
      Paired (fun (p : List Key × V) (q : List Key × Addr × Value) => p.1 = q.1 ∧ H q.2.1 = some (.tup (p.1.map kV)) ∧ RelV p.2 q.2.2) kvs xs ∧
      ∃ o es ep, h.get? a = some o ∧ o.ExactDict ∧ o.data = .dict es ep ∧ es.toList = xs.map (entryOfKey (tupleKind (mixKind P w))) ∧ (xs.map (·.1)).Nodup
  | .set S n => h.SetOf (intKind P w) a S n
  | .ins C dx fs => H dx = some (.own a) ∧ fs.length ≤ 1000 ∧ dx ≠ a ∧ h.get? a = some (PySem.W.instObj C dx) ∧
      ∃ mA, h.Ns1 dx mA ∧ (∀ f, RelO (fs.lookup f) (mA f)) ∧ PySem.Within mA (fs.map (·.1))
  | .own _ => ∃ o, h.get? a = some o
  | .xd fs => ∃ mA, h.Ns1 a mA ∧ ∀ f, RelO (fs.lookup f) (mA f)
  | .rng lo hi => ∃ t u v, h.get? a = some { cls := .type "range", data := .fields #[.int lo t, .int hi u, .int 1 v] }
  | .frz o u => h.get? a = some o ∧ ObjOk H h a u
  | .tbl ps => h.get? a = some { cls := .none, data := .fields ps }
  | .met f x => h.get? a = some (PySem.W.methodObj (.ref f) (.ref x))
  | .ext φ => φ h ∧ (∃ o, h.get? a = some o) ∧ ∀ h1 h2 : Heap, φ h1 → (∀ o, h1.get? a = some o → h2.get? a = some o) → φ h2
/-- the abstract heap is held -/
def HOk (H : Hp) (h : Heap) : Prop := ∀ a o, H a = some o → ObjOk P w H h a o
end

section
variable {P : Program} {w : World} {H H' : Hp} {h h' : Heap} {a : Addr} {o : HO}
theorem ObjOk.lt (x : ObjOk P w H h a o) : a < h.objs.size := by
  cases o with
  | lst xs => obtain ⟨_, _, _, _, e⟩ := x; exact Heap.lt_size e
  | tup xs => obtain ⟨_, _, _, p⟩ := x; exact p.lt
  | dK kvs => obtain ⟨_, _, _, _, o, _, _, e, _⟩ := x; exact Heap.lt_size e
  | dT kvs => obtain ⟨_, _, _, _, o, _, _, e, _⟩ := x; exact Heap.lt_size e
  | set S n => obtain ⟨o, _, _, _, e, _⟩ := x; exact Heap.lt_size e
  | ins C dx fs => obtain ⟨_, _, _, e, _⟩ := x; exact Heap.lt_size e
  | own y => obtain ⟨_, e⟩ := x; exact Heap.lt_size e
  | xd fs => obtain ⟨_, ⟨_, _, _, e, _⟩, _⟩ := x; exact Heap.lt_size e
  | rng lo hi => obtain ⟨_, _, _, e⟩ := x; exact Heap.lt_size e
  | frz ob u => obtain ⟨e, _⟩ := x; exact Heap.lt_size e
  | tbl ps => exact Heap.lt_size (show h.get? a = some _ from x)
  | met f y => exact Heap.lt_size (show h.get? a = some _ from x)
  | ext φ => obtain ⟨_, ⟨_, e⟩, _⟩ := x; exact Heap.lt_size e
theorem Paired.mapP {α β : Type} {F G : α → β → Prop} : ∀ {l₁ : List α} {l₂ : List β}, Paired F l₁ l₂ → (∀ a b, F a b → G a b) → Paired G l₁ l₂
  | _, _, .nil, _ => .nil
  | _, _, .cons r t, f => .cons (f _ _ r) (Paired.mapP t f)
/-- what an object's description leans on: its own object, its own dict, the tuples -/
theorem ObjOk.stay (x : ObjOk P w H h a o) (k : ∀ b u, (b = a ∨ H b = some (.own a)) → h.get? b = some u → h'.get? b = some u)
    (ho : ∀ b, H b = some (.own a) → H' b = some (.own a)) (ht : ∀ b xs, H b = some (.tup xs) → H' b = some (.tup xs)) : ObjOk P w H' h' a o := by
  induction o with
  | lst xs => obtain ⟨z, its, n, r, e⟩ := x; exact ⟨z, its, n, r, k _ _ (.inl rfl) e⟩
  | tup xs => obtain ⟨z, its, r, ob, e, c⟩ := x; exact ⟨z, its, r, ob, k _ _ (.inl rfl) e, c⟩
  | dK kvs => obtain ⟨z, y, vs, r, ob, es, ep, e, c⟩ := x; exact ⟨z, y, vs, r, ob, es, ep, k _ _ (.inl rfl) e, c⟩
  | dT kvs =>
    obtain ⟨z, y, xs, r, ob, es, ep, e, c⟩ := x
    exact ⟨z, y, xs, Paired.mapP r fun p q z => ⟨z.1, ht _ _ z.2.1, z.2.2⟩, ob, es, ep, k _ _ (.inl rfl) e, c⟩
  | set S n => obtain ⟨ob, es, ep, t, e, c⟩ := x; exact ⟨ob, es, ep, t, k _ _ (.inl rfl) e, c⟩
  | ins C dx fs =>
    obtain ⟨d, z, ne, e, mA, ⟨od, es, ep, e2, c⟩, r⟩ := x
    exact ⟨ho _ d, z, ne, k _ _ (.inl rfl) e, mA, ⟨od, es, ep, k _ _ (.inr d) e2, c⟩, r⟩
  | own y => obtain ⟨ob, e⟩ := x; exact ⟨ob, k _ _ (.inl rfl) e⟩
  | xd fs => obtain ⟨mA, ⟨od, es, ep, e, c⟩, r⟩ := x; exact ⟨mA, ⟨od, es, ep, k _ _ (.inl rfl) e, c⟩, r⟩
  | rng lo hi => obtain ⟨t, u, v, e⟩ := x; exact ⟨t, u, v, k _ _ (.inl rfl) e⟩
  | frz ob u ih => obtain ⟨e, q⟩ := x; exact ⟨k _ _ (.inl rfl) e, ih q⟩
  | tbl ps =>
    have e : h.get? a = some { cls := .none, data := .fields ps } := x
    show h'.get? a = some { cls := .none, data := .fields ps }
    exact k a _ (.inl rfl) e
  | met f y =>
    have e : h.get? a = some (PySem.W.methodObj (.ref f) (.ref y)) := x
    show h'.get? a = some (PySem.W.methodObj (.ref f) (.ref y))
    exact k a _ (.inl rfl) e
  | ext φ => obtain ⟨p, ⟨o, e⟩, st⟩ := x; exact ⟨st _ _ p fun o q => k _ _ (.inl rfl) q, ⟨o, k _ _ (.inl rfl) e⟩, st⟩
theorem HOk.lt (x : HOk P w H h) (e : H a = some o) : a < h.objs.size := (x a o e).lt
theorem HOk.fresh (x : HOk P w H h) (e : h.objs.size ≤ a) : H a = none := by
  cases q : H a with
  | none => rfl
  | some u => exact absurd (Nat.lt_of_lt_of_le (x.lt q) e) (Nat.lt_irrefl _)
/-- every object of the heap is kept -/
theorem HOk.kept (x : HOk P w H h) (k : ∀ b u, h.get? b = some u → h'.get? b = some u) : HOk P w H h' := fun a o e =>
  (x a o e).stay (fun b u _ q => k b u q) (fun _ q => q) fun _ _ q => q
/-- a new object is laid and tracked -/
theorem HOk.laid (x : HOk P w H h) (k : ∀ b u, h.get? b = some u → h'.get? b = some u) (hp : h.objs.size ≤ a) (new : ObjOk P w (upd H a o) h' a o) : HOk P w (upd H a o) h' := fun b u e => by
  have hn := x.fresh hp
  by_cases hb : b = a
  · subst hb; rw [upd_same] at e; cases e; exact new
  · rw [upd_ne hb] at e
    exact (x b u e).stay (fun c v _ q => k c v q) (fun c q => by rw [upd_ne (ne_of_none q hn)]; exact q) fun c xs q => by rw [upd_ne (ne_of_none q hn)]; exact q
end

/-- what may be read as u: it is u, or a known u -/
def Rd (H : Hp) (a : Addr) (u : HO) : Prop := H a = some u ∨ ∃ o, H a = some (.frz o u)
theorem Rd.ok {P : Program} {w : World} {H : Hp} {h : Heap} {a : Addr} {u : HO} (r : Rd H a u) (x : HOk P w H h) : ObjOk P w H h a u := by
  rcases r with r | ⟨o, r⟩
  · exact x a u r
  · obtain ⟨_, q⟩ := x a _ r
    exact q
/-- what may be written -/
def Mut : Option HO → Prop
  | some (.lst _) => True
  | some (.dK _) => True
  | some (.dT _) => True
  | some (.set _ _) => True
  | some (.ins _ _ _) => True
  | some (.ext _) => True
  | _ => False
section
variable {P : Program} {w : World} {H : Hp} {h h' : Heap} {x e : Addr} {o' : HO}
/-- the object at e is changed: x itself, or the dict of the instance x -/
theorem HOk.write (ok : HOk P w H h) (mu : Mut (H x)) (he : e = x ∨ H e = some (.own x)) (k : ∀ b u, b ≠ e → h.get? b = some u → h'.get? b = some u) (heo : ∃ u, h'.get? e = some u)
    (new : ObjOk P w (upd H x o') h' x o') : HOk P w (upd H x o') h' := fun b u q => by
  have nown : ∀ c y, H c = some (.own y) → c ≠ x := fun c y r z => by subst z; rw [r] at mu; exact mu
  have ntup : ∀ c xs, H c = some (.tup xs) → c ≠ x := fun c xs r z => by subst z; rw [r] at mu; exact mu
  by_cases hb : b = x
  · subst hb; rw [upd_same] at q; cases q; exact new
  · rw [upd_ne hb] at q
    by_cases hbe : b = e
    · have q' : H b = some (.own x) := by
        rcases he with z | z
        · exact absurd (hbe.trans z) hb
        · rw [hbe]; exact z
      rw [q] at q'; cases q'
      obtain ⟨v, hv⟩ := heo
      exact ⟨v, by rw [hbe]; exact hv⟩
    · refine (ok b u q).stay (fun c v hc r => k c v ?_ r) (fun c r => by rw [upd_ne (nown c b r)]; exact r) fun c xs r => by rw [upd_ne (ntup c xs r)]; exact r
      rcases hc with rfl | hc
      · exact hbe
      · rintro rfl
        rcases he with z | z
        · exact nown c b hc z
        · rw [hc] at z; cases z; exact hb rfl
end

/-! ### kept unless tracked; of the frames at fs (the callers') the slots may change (an exception that passes writes there); of the records at ex (iterators) nothing is said -/
structure Un (fs ex : List Addr) (H H' : Hp) (h h' : Heap) : Prop where
  keep : ∀ b o, h.get? b = some o → H b = none → b ∉ fs → b ∉ ex → h'.get? b = some o
  slot : ∀ b o, h.get? b = some o → H b = none → b ∈ fs → b ∉ ex → ∃ sl, h'.get? b = some { o with slots := sl }
  free : ∀ b o, h.get? b = some o → H b = none → b ∉ ex → H' b = none
  there : ∀ b o, h.get? b = some o → b ∉ ex → ∃ o', h'.get? b = some o'
  tups : ∀ b xs, H b = some (.tup xs) → H' b = some (.tup xs)
  frzs : ∀ b o u, H b = some (.frz o u) → H' b = some (.frz o u)
  tbls : ∀ b ps, H b = some (.tbl ps) → ∃ more, H' b = some (.tbl (ps ++ more))
section
variable {fs fs' ex ex' : List Addr} {H H1 H2 : Hp} {h h1 h2 h' : Heap} {a x e : Addr} {o : HO}
theorem Un.any (u : Un fs ex H H1 h h1) {b : Addr} {ob : Obj} (q : h.get? b = some ob) (n : H b = none) (hx : b ∉ ex) : ∃ sl, h1.get? b = some { ob with slots := sl } := by
  by_cases hb : b ∈ fs
  · exact u.slot b ob q n hb hx
  · exact ⟨ob.slots, u.keep b ob q n hb hx⟩
theorem Un.kept (k : ∀ b u, h.get? b = some u → h'.get? b = some u) : Un fs ex H H h h' :=
  ⟨fun b ob q _ _ _ => k b ob q, fun b ob q _ _ _ => ⟨ob.slots, k b ob q⟩, fun _ _ _ n _ => n, fun b ob q _ => ⟨ob, k b ob q⟩, fun _ _ q => q, fun _ _ _ q => q, fun _ ps q => ⟨#[], by rw [q]; simp⟩⟩
theorem Un.refl : Un fs ex H H h h := Un.kept fun _ _ q => q
theorem Un.laid (k : ∀ b u, h.get? b = some u → h'.get? b = some u) (hp : h.objs.size ≤ a) (hn : H a = none) : Un fs ex H (upd H a o) h h' where
  keep := fun b u q _ _ _ => k b u q
  slot := fun b u q _ _ _ => ⟨u.slots, k b u q⟩
  free := fun b u q n _ => by rw [upd_ne (Nat.ne_of_lt (Nat.lt_of_lt_of_le (Heap.lt_size q) hp))]; exact n
  there := fun b u q _ => ⟨u, k b u q⟩
  tups := fun b xs q => by rw [upd_ne (ne_of_none q hn)]; exact q
  frzs := fun b u xs q => by rw [upd_ne (ne_of_none q hn)]; exact q
  tbls := fun b ps q => ⟨#[], by rw [upd_ne (ne_of_none q hn), q]; simp⟩
theorem Un.write (mu : Mut (H x)) (he : e = x ∨ H e = some (.own x)) (k : ∀ b u, b ≠ e → h.get? b = some u → h'.get? b = some u) (heo : ∃ u, h'.get? e = some u) : Un fs ex H (upd H x o) h h' := by
  have hx : ∀ b, H b = none → b ≠ x := fun b n z => by subst z; rw [n] at mu; exact mu
  have hb : ∀ b, H b = none → b ≠ e := fun b n z => by
    subst z
    rcases he with r | r
    · exact hx b n r
    · rw [n] at r; cases r
  have hm : ∀ b u, H b = some u → ¬ Mut (some u) → b ≠ x := fun b u q nm z => by subst z; rw [q] at mu; exact nm mu
  refine ⟨fun b u q n _ _ => k b u (hb b n) q, fun b u q n _ _ => ⟨u.slots, k b u (hb b n) q⟩, fun b u q n _ => by rw [upd_ne (hx b n)]; exact n, fun b u q _ => ?_,
    fun b xs q => by rw [upd_ne (hm b _ q fun z => z)]; exact q, fun b u xs q => by rw [upd_ne (hm b _ q fun z => z)]; exact q, fun b ps q => ⟨#[], by rw [upd_ne (hm b _ q fun z => z), q]; simp⟩⟩
  by_cases hbe : b = e
  · subst hbe; exact heo
  · exact ⟨u, k b u hbe q⟩
end

/-! ### the heap without what is tracked -/
def trk (h : Heap) (H : Hp) : List Addr := (List.range h.objs.size).filter fun a => (H a).isSome
def hidT (h : Heap) (H : Hp) : Heap := PySem.W.hideAll h (trk h H)
theorem hidT_size (h : Heap) (H : Hp) : (hidT h H).objs.size = h.objs.size := PySem.W.hideAll_size _ _
theorem hidT_get {h : Heap} {H : Hp} {b : Addr} {o : Obj} (e : h.get? b = some o) (n : H b = none) : (hidT h H).get? b = some o :=
  PySem.W.hideAll_get _ e fun hm => by
    have q : (H b).isSome = true := (List.mem_filter.mp hm).2
    rw [n] at q; simp at q
theorem of_hidT {h : Heap} {H : Hp} {b : Addr} {o : Obj} (e : (hidT h H).get? b = some o) : h.get? b = some o ∧ H b = none := by
  have e' : h.get? b = some o := PySem.W.of_hideAll (trk h H) e
  refine ⟨e', ?_⟩
  cases q : H b with
  | none => rfl
  | some x =>
    have hm : b ∈ trk h H := List.mem_filter.mpr ⟨List.mem_range.mpr (Heap.lt_size e'), by simp [q]⟩
    have z : (hidT h H).get? b = none := PySem.W.hideAll_none (trk h H) hm
    rw [z] at e; cases e

/-! ### OpenK's ledger, filled with every new object but one -/
end L2

namespace L2
open PySem PySem.Spec PyProof.Rows

/-- the module's facts, over the base: the heap at the law's entry without what is tracked there -/
structure Mod (K : PySem.W.Frag) (mg : Str → Option Value) (base : Heap) : Prop where
  kin : K.In base
  glob : base.Ns mainGlobals mg
  blt : ∃ mb, base.Ns builtinsNs mb ∧ ∀ x : Str, x ≠ "__name__" → mb x = bootBuiltins x
  nolimit : base.NoLimit

/-- the context: a def's body (or a comprehension's block) running. base: fixed through the whole law; s₀, H₀: the entry; outer: the frames whose slots others may change (a def's callers); stack: all frames that run;
   ex: iterators that were made ahead of the entry and are walked here (a comprehension's); fn: the names whose cells were made at the entry (a def: all; a comprehension's block: its own); calm: not within an except suite; pn: pins that every state bears; xe: what is wanted of an exception that leaves the code -/
structure Cx where
  prog : Program
  w : World
  K : PySem.W.Frag
  mg : Str → Option Value
  base : Heap
  A : Around
  N : List Str
  s₀ : Shared
  H₀ : Hp
  env : Env
  outer : List Env
  stack : List Env
  ex : List Addr
  fn : Str → Bool
  calm : Bool
  pn : List (Addr × Obj)
  xe : Value → Shared → Prop
/-- the callers' frames -/
def frs (l : List Env) : List Addr := l.filterMap (·.frame)
abbrev Cx.fs (X : Cx) : List Addr := frs X.outer

def Vis (sc : Scope) (x : Str) : Prop := sc.names.lookup x = some .local ∨ sc.names.lookup x = some .cell ∨ sc.names.lookup x = some .free
def Loc (sc : Scope) (x : Str) : Prop := sc.names.lookup x = some .local ∨ sc.names.lookup x = some .cell
def Look (env : Env) (h : Heap) (m : Str → Option Value) (x : Str) (u : Value) : Prop :=
  (env.kindOf x = some .local ∧ m x = some u) ∨ ((env.kindOf x = some .cell ∨ env.kindOf x = some .free) ∧ ∃ c, env.cells.lookup x = some c ∧ h.IsCell c (some u))

structure Cx.Ok (X : Cx) : Prop where
  mod : Mod X.K X.mg X.base
  kind : X.env.scope.kind = .function
  glob : X.env.globals = mainGlobals
  blt : X.env.builtins = builtinsNs
  above : X.s₀.heap.objs.size ≤ X.env.locals
  inj : ∀ x y c, X.env.cells.lookup x = some c → X.env.cells.lookup y = some c → x = y
  has : ∀ x, (X.env.kindOf x = some .cell ∨ X.env.kindOf x = some .free) → ∃ c, X.env.cells.lookup x = some c
  cab : ∀ x c, X.fn x = true → X.env.cells.lookup x = some c → X.s₀.heap.objs.size ≤ c
  hd : X.calm = true → X.A.handled = none
  frames : X.A.frames = some X.stack
  stk : X.stack = X.outer ∨ (X.stack = X.env :: X.outer ∧ X.env.frame = some X.env.locals)
  exf : ∀ b ∈ X.ex, b ≠ X.env.locals ∧ ∀ x c, X.env.cells.lookup x = some c → c ≠ b
  bs : ∀ b o, X.base.get? b = some o → X.s₀.heap.get? b = some o ∧ X.H₀ b = none
  bsz : X.base.objs.size ≤ X.s₀.heap.objs.size
  noex : ∀ b o, X.base.get? b = some o → b ∉ X.ex
  exfs : ∀ b ∈ X.ex, b ∉ X.fs
  funs : X.s₀.heap.FunFrames X.base X.outer
  frf : ∀ b ∈ X.fs, X.H₀ b = none

structure Inv (X : Cx) (pins : List (Addr × Obj)) (σ : List (Option V)) (H : Hp) (s : Shared) : Prop where
  ok : X.Ok
  os : s.os = X.s₀.os
  bare : AllBare s.gens
  base : Un X.fs X.ex X.H₀ H X.s₀.heap s.heap
  loc : ∃ m, s.heap.Ns X.env.locals m ∧ ∀ (i : Nat) (x : Str) (v : V), X.N[i]? = some x → σ[i]? = some (some v) → Vis X.env.scope x → ∃ u, RelV v u ∧ Look X.env s.heap m x u
  cell : ∀ x c, X.env.cells.lookup x = some c → ∃ v, s.heap.IsCell c v
  free : H X.env.locals = none
  freeC : ∀ x c, X.env.cells.lookup x = some c → H c = none
  pin : ∀ p ∈ X.pn ++ pins, s.heap.get? p.1 = some p.2 ∧ H p.1 = none ∧ p.1 ≠ X.env.locals ∧ p.1 ∉ X.fs ∧ ∀ v, p.2.data ≠ .cell v
  hok : HOk X.prog X.w H s.heap
  len : σ.length = X.N.length

section
variable {X : Cx} {pins : List (Addr × Obj)} {σ : List (Option V)} {H H' : Hp} {s : Shared} {h' : Heap}

theorem Cx.Ok.nofr (ok : X.Ok) {b : Addr} {o : Obj} (e : X.base.get? b = some o) : b ∉ X.fs := fun hb => by
  have := (ok.funs.mem hb).1
  rw [e] at this; cases this
theorem Inv.bs (I : Inv X pins σ H s) : ∀ b o, X.base.get? b = some o → s.heap.get? b = some o ∧ H b = none := fun b o e =>
  ⟨I.base.keep b o (I.ok.bs b o e).1 (I.ok.bs b o e).2 (I.ok.nofr e) (I.ok.noex b o e), I.base.free b o (I.ok.bs b o e).1 (I.ok.bs b o e).2 (I.ok.noex b o e)⟩
theorem Inv.bk (I : Inv X pins σ H s) : ∀ b o, X.base.get? b = some o → s.heap.get? b = some o := fun b o e => (I.bs b o e).1
theorem Inv.mod (I : Inv X pins σ H s) : Mod X.K X.mg X.base := I.ok.mod
theorem Inv.kIn (I : Inv X pins σ H s) : X.K.In s.heap := I.ok.mod.kin.keeps I.bk
theorem Inv.lt (I : Inv X pins σ H s) : X.env.locals < s.heap.objs.size := let ⟨_, hn, _⟩ := I.loc; hn.lt
theorem Inv.sz (I : Inv X pins σ H s) : X.s₀.heap.objs.size ≤ s.heap.objs.size := Nat.le_trans I.ok.above (Nat.le_of_lt I.lt)
theorem Inv.nofs (I : Inv X pins σ H s) {a : Addr} (h : s.heap.objs.size ≤ a) : a ∉ X.fs := fun hb => by
  obtain ⟨_, o, ho, _⟩ := I.ok.funs.mem hb
  exact absurd (Nat.lt_of_lt_of_le (Heap.lt_size ho) (Nat.le_trans I.sz h)) (Nat.lt_irrefl _)
theorem Inv.cne (I : Inv X pins σ H s) : ∀ x c, X.env.cells.lookup x = some c → c ≠ X.env.locals := fun x c e z => by
  obtain ⟨v, o, ho, hd⟩ := I.cell x c e
  obtain ⟨m, ⟨o', es, ep, ho', hd', _⟩, _⟩ := I.loc
  rw [z, ho'] at ho; cases ho; rw [hd'] at hd; cases hd
theorem Inv.funs (I : Inv X pins σ H s) : s.heap.FunFrames X.base X.outer := by
  have all : ∀ (l : List Env), (∀ b ∈ frs l, b ∈ X.fs) → X.s₀.heap.FunFrames X.base l → s.heap.FunFrames X.base l := by
    intro l
    induction l with
    | nil => intro _ _; trivial
    | cons env r ih =>
      intro hs hl
      obtain ⟨hk, ⟨L, o, hf, hn, ho, hd⟩, hr⟩ := hl
      have hL : L ∈ X.fs := hs L (by unfold frs; rw [List.filterMap_cons, hf]; exact List.mem_cons_self)
      obtain ⟨sl, e⟩ := I.base.slot L o ho (I.ok.frf L hL) hL fun z => I.ok.exfs L z hL
      exact ⟨hk, ⟨L, _, hf, hn, e, hd⟩, ih (fun b hb => hs b (by unfold frs; rw [List.filterMap_cons, hf]; exact List.mem_cons_of_mem _ hb)) hr⟩
  exact all X.outer (fun _ hb => hb) I.ok.funs

/-- the frames that run, for a call -/
theorem Inv.stack (I : Inv X pins σ H s) : s.heap.FunFrames X.base X.stack := by
  rcases I.ok.stk with e | ⟨e, hf⟩
  · rw [e]; exact I.funs
  · rw [e]
    obtain ⟨m, hn, _⟩ := I.loc
    refine .cons (by rw [I.ok.kind]; decide) hf hn ?_ I.funs
    exact Heap.get?_none_of_le (Nat.le_trans I.ok.bsz I.ok.above)
theorem Inv.stkSub (I : Inv X pins σ H s) : ∀ b ∈ frs X.stack, b ∈ X.env.locals :: X.fs := fun b hb => by
  rcases I.ok.stk with e | ⟨e, hf⟩
  · rw [e] at hb; exact List.mem_cons_of_mem _ hb
  · rw [e] at hb
    unfold frs at hb
    rw [List.filterMap_cons, hf] at hb
    exact hb
theorem Inv.stkFree (I : Inv X pins σ H s) : ∀ b ∈ frs X.stack, H b = none := fun b hb => by
  rcases List.mem_cons.mp (I.stkSub b hb) with e | hb
  · rw [e]; exact I.free
  · obtain ⟨_, o, ho, _⟩ := I.ok.funs.mem hb
    exact I.base.free b o ho (I.ok.frf b hb) fun z => I.ok.exfs b z hb

/-- THE STEP: the untracked objects but the frame and the records at ch are kept (the callers' frames up to slots), the frame's map is kept, the new abstract heap is held -/
theorem Inv.step {g' : Array GenState} {t' : Nat} {d' : Drawn} {ch : List Addr} (I : Inv X pins σ H s)
    (hch : ∀ b ∈ ch, (b ∈ X.ex ∨ X.s₀.heap.objs.size ≤ b) ∧ b ≠ X.env.locals ∧ (∀ x c, X.env.cells.lookup x = some c → c ≠ b) ∧ ∀ p ∈ X.pn ++ pins, p.1 ≠ b)
    (keep : ∀ b o, b ≠ X.env.locals → b ∉ X.fs → b ∉ ch → s.heap.get? b = some o → H b = none → h'.get? b = some o)
    (slot : ∀ b o, b ≠ X.env.locals → b ∈ X.fs → b ∉ ch → s.heap.get? b = some o → H b = none → ∃ sl, h'.get? b = some { o with slots := sl }) (free : ∀ b o, b ∉ ch → s.heap.get? b = some o → H b = none → H' b = none)
    (there : ∀ b o, b ∉ ch → s.heap.get? b = some o → ∃ o', h'.get? b = some o')
    (tups : ∀ b xs, H b = some (.tup xs) → H' b = some (.tup xs)) (frzs : ∀ b o u, H b = some (.frz o u) → H' b = some (.frz o u)) (tbls : ∀ b ps, H b = some (.tbl ps) → ∃ more, H' b = some (.tbl (ps ++ more)))
    (ns : ∀ m, s.heap.Ns X.env.locals m → h'.Ns X.env.locals m) (hok : HOk X.prog X.w H' h') (hg : AllBare g') :
    Inv X pins σ H' { s with heap := h', gens := g', drawn := d', toks := t' } := by
  have neL : ∀ b o, X.s₀.heap.get? b = some o → b ≠ X.env.locals := fun b o e => Nat.ne_of_lt (Nat.lt_of_lt_of_le (Heap.lt_size e) I.ok.above)
  have neC : ∀ b o, X.s₀.heap.get? b = some o → b ∉ X.ex → b ∉ ch := fun b o e hx hb => by
    rcases (hch b hb).1 with z | z
    · exact hx z
    · exact absurd (Nat.lt_of_lt_of_le (Heap.lt_size e) z) (Nat.lt_irrefl _)
  have cellK : ∀ x c, X.env.cells.lookup x = some c → ∀ v, s.heap.IsCell c v → h'.IsCell c v := fun x c e v ⟨o, ho, hd⟩ => by
    have nch : c ∉ ch := fun z => (hch c z).2.2.1 x c e rfl
    by_cases hc : c ∈ X.fs
    · obtain ⟨sl, q⟩ := slot c o (I.cne x c e) hc nch ho (I.freeC x c e)
      exact ⟨_, q, hd⟩
    · exact ⟨o, keep c o (I.cne x c e) hc nch ho (I.freeC x c e), hd⟩
  refine ⟨I.ok, I.os, hg, ⟨fun b o e n hb hx => ?_, fun b o e n hb hx => ?_, fun b o e n hx => ?_, fun b o e hx => ?_, fun b xs e => tups b xs (I.base.tups b xs e), fun b o xs e => frzs b o xs (I.base.frzs b o xs e), fun b ps e => ?_⟩, ?_, fun x c e => ?_, ?_, fun x c e => ?_, fun p hp => ?_, hok, I.len⟩
  · exact keep b o (neL b o e) hb (neC b o e hx) (I.base.keep b o e n hb hx) (I.base.free b o e n hx)
  · obtain ⟨sl, e1⟩ := I.base.slot b o e n hb hx
    obtain ⟨sl', e2⟩ := slot b _ (neL b o e) hb (neC b o e hx) e1 (I.base.free b o e n hx)
    exact ⟨sl', e2⟩
  · obtain ⟨o', e1⟩ := I.base.there b o e hx
    exact free b o' (neC b o e hx) e1 (I.base.free b o e n hx)
  · obtain ⟨o', e1⟩ := I.base.there b o e hx
    exact there b o' (neC b o e hx) e1
  · obtain ⟨m1, e1⟩ := I.base.tbls b ps e
    obtain ⟨m2, e2⟩ := tbls b _ e1
    exact ⟨m1 ++ m2, by rw [e2, Array.append_assoc]⟩
  · obtain ⟨m, hn, hl⟩ := I.loc
    refine ⟨m, ns m hn, fun i x v e1 e2 e3 => ?_⟩
    obtain ⟨u, r, l⟩ := hl i x v e1 e2 e3
    refine ⟨u, r, ?_⟩
    rcases l with l | ⟨k, c, e, z⟩
    · exact .inl l
    · exact .inr ⟨k, c, e, cellK x c e _ z⟩
  · obtain ⟨v, z⟩ := I.cell x c e
    exact ⟨v, cellK x c e v z⟩
  · obtain ⟨m, ⟨o, _, _, ho, _⟩, _⟩ := I.loc
    exact free _ o (fun z => (hch _ z).2.1 rfl) ho I.free
  · obtain ⟨v, o, ho, hd⟩ := I.cell x c e
    exact free c o (fun z => (hch c z).2.2.1 x c e rfl) ho (I.freeC x c e)
  · obtain ⟨e, n, ne, nf, d⟩ := I.pin p hp
    have nch : p.1 ∉ ch := fun z => (hch p.1 z).2.2.2 p hp rfl
    exact ⟨keep p.1 p.2 ne nf nch e n, free p.1 p.2 nch e n, ne, nf, d⟩
/-- .. where the frame's own object is kept too -/
theorem Inv.un {t' : Nat} (I : Inv X pins σ H s) (u : Un X.fs [] H H' s.heap h') (hok : HOk X.prog X.w H' h') : Inv X pins σ H' { s with heap := h', toks := t' } := by
  obtain ⟨m, ⟨o, es, ep, ho, r⟩, _⟩ := id I.loc
  obtain ⟨sl, hL⟩ := u.any ho I.free (by simp)
  exact I.step (g' := s.gens) (d' := s.drawn) (ch := []) (fun _ z => nomatch z) (fun b o _ hb _ e n => u.keep b o e n hb (by simp)) (fun b o _ hb _ e n => u.slot b o e n hb (by simp)) (fun b o _ e n => u.free b o e n (by simp)) (fun b o _ e => u.there b o e (by simp)) u.tups u.frzs u.tbls (fun m' hm => by
    obtain ⟨o', es', ep', ho', r'⟩ := hm
    rw [ho] at ho'; cases ho'
    exact ⟨_, es', ep', hL, r'⟩) hok I.bare
/-- behind a call (or a comprehension's block): the slots of this frame may have changed too, the records at ch may have turned -/
theorem Inv.call {g' : Array GenState} {t' : Nat} {d' : Drawn} {ch : List Addr} (I : Inv X pins σ H s) (u : Un (frs X.stack) ch H H' s.heap h') (hok : HOk X.prog X.w H' h') (hg : AllBare g')
    (hch : ∀ b ∈ ch, (b ∈ X.ex ∨ X.s₀.heap.objs.size ≤ b) ∧ b ≠ X.env.locals ∧ (∀ x c, X.env.cells.lookup x = some c → c ≠ b) ∧ ∀ p ∈ X.pn ++ pins, p.1 ≠ b) :
    Inv X pins σ H' { s with heap := h', gens := g', drawn := d', toks := t' } := by
  obtain ⟨m, ⟨o, es, ep, ho, r⟩, _⟩ := id I.loc
  obtain ⟨sl, hL⟩ := u.any ho I.free fun z => (hch _ z).2.1 rfl
  exact I.step (ch := ch) hch (fun b o hL hb hc e n => u.keep b o e n (fun z => (List.mem_cons.mp (I.stkSub b z)).elim hL hb) hc) (fun b o _ _ hc e n => u.any e n hc) (fun b o hc e n => u.free b o e n hc) (fun b o hc e => u.there b o e hc) u.tups u.frzs u.tbls (fun m' hm => by
    obtain ⟨o', es', ep', ho', r'⟩ := hm
    rw [ho] at ho'; cases ho'
    exact ⟨_, es', ep', hL, r'⟩) hok hg
/-- an untracked record of ours (an iterator) has turned -/
theorem Inv.turned {t' : Nat} {it : Addr} (I : Inv X pins σ H s) (k : ∀ b o, b ≠ it → s.heap.get? b = some o → h'.get? b = some o) (hn : H it = none) (hL : it ≠ X.env.locals)
    (h1 : it ∈ X.ex ∨ X.s₀.heap.objs.size ≤ it) (h2 : ∀ x c, X.env.cells.lookup x = some c → c ≠ it) (h3 : ∀ p ∈ X.pn ++ pins, p.1 ≠ it) : Inv X pins σ H { s with heap := h', toks := t' } := by
  have nit : ∀ b u, H b = some u → b ≠ it := fun b u e z => by rw [z, hn] at e; cases e
  refine I.step (g' := s.gens) (d' := s.drawn) (ch := [it]) (fun b hb => ?_) (fun b o _ _ hc e _ => k b o (fun z => hc (by simp [z])) e) (fun b o _ _ hc e _ => ⟨o.slots, k b o (fun z => hc (by simp [z])) e⟩) (fun _ _ _ _ n => n)
    (fun b o hc e => ⟨o, k b o (fun z => hc (by simp [z])) e⟩) (fun _ _ e => e) (fun _ _ _ e => e) (fun b ps e => ⟨#[], by rw [e]; simp⟩) (fun m hm => ?_) (fun b u e => ?_) I.bare
  · have e : b = it := by simpa using hb
    subst e
    exact ⟨h1, hL, h2, h3⟩
  · obtain ⟨o, es, ep, ho, r⟩ := hm
    exact ⟨o, es, ep, k _ o (Ne.symm hL) ho, r⟩
  · refine (I.hok b u e).stay (fun c v hc q => k c v ?_ q) (fun _ q => q) fun _ _ q => q
    rcases hc with z | z
    · rw [z]; exact nit b u e
    · exact nit c _ z
theorem Inv.tok (I : Inv X pins σ H s) (t : Nat) : Inv X pins σ H { s with toks := t } := I.un (h' := s.heap) (t' := t) Un.refl I.hok
/-- all objects kept -/
theorem Inv.kept {t' : Nat} (I : Inv X pins σ H s) (k : ∀ b u, s.heap.get? b = some u → h'.get? b = some u) : Inv X pins σ H { s with heap := h', toks := t' } := I.un (Un.kept k) (I.hok.kept k)
/-- a new object laid and tracked -/
theorem Inv.laid {a : Addr} {o : HO} {t' : Nat} (I : Inv X pins σ H s) (k : ∀ b u, s.heap.get? b = some u → h'.get? b = some u) (hp : s.heap.objs.size ≤ a) (new : ObjOk X.prog X.w (upd H a o) h' a o) :
    Inv X pins σ (upd H a o) { s with heap := h', toks := t' } := I.un (Un.laid k hp (I.hok.fresh hp)) (I.hok.laid k hp new)
/-- an object written -/
theorem Inv.write {x e : Addr} {o : HO} {t' : Nat} (I : Inv X pins σ H s) (mu : Mut (H x)) (he : e = x ∨ H e = some (.own x)) (k : ∀ b u, b ≠ e → s.heap.get? b = some u → h'.get? b = some u) (heo : ∃ u, h'.get? e = some u)
    (new : ObjOk X.prog X.w (upd H x o) h' x o) : Inv X pins σ (upd H x o) { s with heap := h', toks := t' } := I.un (Un.write mu he k heo) (I.hok.write mu he k heo new)
theorem Inv.pins_of {pins' : List (Addr × Obj)} (I : Inv X pins σ H s) (h : ∀ p ∈ pins', s.heap.get? p.1 = some p.2 ∧ H p.1 = none ∧ p.1 ≠ X.env.locals ∧ p.1 ∉ X.fs ∧ ∀ v, p.2.data ≠ .cell v) : Inv X pins' σ H s :=
  ⟨I.ok, I.os, I.bare, I.base, I.loc, I.cell, I.free, I.freeC, fun p hp => (List.mem_append.mp hp).elim (fun z => I.pin p (List.mem_append_left _ z)) (h p), I.hok, I.len⟩

theorem nodup_ix {N : List Str} (hN : N.Nodup) {i j : Nat} {x : Str} (a : N[i]? = some x) (b : N[j]? = some x) : i = j := by
  obtain ⟨h1, e1⟩ := List.getElem?_eq_some_iff.mp a
  obtain ⟨h2, e2⟩ := List.getElem?_eq_some_iff.mp b
  exact (List.getElem_inj hN).mp (e1.trans e2.symm)

/-- a name is stored; what changed -/
theorem store_ok2 {M : Model} {A : Around} {E : Value → Shared → Prop} {i : Nat} {x : Str} {v : V} {u : Value} {Q : Unit → Shared → Prop} (I : Inv X pins σ H s) (hN : X.N.Nodup) (hi : X.N[i]? = some x) (hx : Loc X.env.scope x) (r : RelV v u)
    (h : ∀ s', Inv X pins (σ.set i (some v)) H s' → (∃ a, Heap.SameBut a s.heap s'.heap ∧ (a = X.env.locals ∨ X.env.cells.lookup x = some a)) → Q () s') (hf : X.fn x = true ∨ X.env.scope.names.lookup x = some .local := by first | exact .inl rfl | exact .inr rfl | assumption) : wpAny M A (storeName X.env x u) Q E s := by
  obtain ⟨m, hn, hl⟩ := id I.loc
  have hcls : (X.env.scope.kind == .class || (X.env.scope.kind == .module && X.env.locals != X.env.globals)) = false := by rw [I.ok.kind]; rfl
  have hiσ : i < σ.length := by rw [I.len]; exact (List.getElem?_eq_some_iff.mp hi).1
  have cne := I.cne
  have tracked : ∀ {a : Addr} {h' : Heap}, (∃ o, s.heap.get? a = some o ∧ H a = none) → Heap.SameBut a s.heap h' → HOk X.prog X.w H h' := fun {a h'} ha hs b ob e => by
    obtain ⟨_, _, hfree⟩ := ha
    refine (I.hok b ob e).stay (fun c w' hc q => (hs.2 c ?_).trans q) (fun _ q => q) fun _ _ q => q
    rintro rfl
    rcases hc with rfl | hc
    · rw [hfree] at e; cases e
    · rw [hfree] at hc; cases hc
  rcases hx with hk | hk
  · refine wpAny_storeName_local hk hn (fun h' hn' hs => ?_) hcls
    obtain ⟨oL, _, _, hoL, _⟩ := id hn
    refine h _ ⟨I.ok, I.os, I.bare, ⟨fun b o e n hb hx => ?_, fun b o e n hb hx => ?_, I.base.free, fun b o e hx => ?_, I.base.tups, I.base.frzs, I.base.tbls⟩, ⟨_, hn', fun j y v' e1 e2 e3 => ?_⟩, fun y c e => ?_, I.free, I.freeC, fun p hp => ?_, tracked ⟨oL, hoL, I.free⟩ hs, by simpa using I.len⟩ ⟨_, hs, .inl rfl⟩
    · exact (hs.2 b (Nat.ne_of_lt (Nat.lt_of_lt_of_le (Heap.lt_size e) I.ok.above))).trans (I.base.keep b o e n hb hx)
    · obtain ⟨sl, e1⟩ := I.base.slot b o e n hb hx
      exact ⟨sl, (hs.2 b (Nat.ne_of_lt (Nat.lt_of_lt_of_le (Heap.lt_size e) I.ok.above))).trans e1⟩
    · obtain ⟨o', e1⟩ := I.base.there b o e hx
      exact ⟨o', (hs.2 b (Nat.ne_of_lt (Nat.lt_of_lt_of_le (Heap.lt_size e) I.ok.above))).trans e1⟩
    · by_cases hj : j = i
      · subst hj
        rw [hi] at e1; cases e1
        rw [List.getElem?_set_self hiσ] at e2
        cases e2
        exact ⟨u, r, .inl ⟨hk, by simp⟩⟩
      · rw [List.getElem?_set_ne (Ne.symm hj)] at e2
        obtain ⟨u', r', q⟩ := hl j y v' e1 e2 e3
        refine ⟨u', r', ?_⟩
        rcases q with ⟨k, e⟩ | ⟨k, c, e, z⟩
        · refine .inl ⟨k, ?_⟩
          have : y ≠ x := fun e => hj (nodup_ix hN e1 (e ▸ hi))
          simp [this, e]
        · exact .inr ⟨k, c, e, z.sameBut hs (cne y c e)⟩
    · obtain ⟨w', z⟩ := I.cell y c e
      exact ⟨w', z.sameBut hs (cne y c e)⟩
    · obtain ⟨e, n, ne, nf, d⟩ := I.pin p hp
      exact ⟨(hs.2 p.1 ne).trans e, n, ne, nf, d⟩
  · have hfn : X.fn x = true := by
      rcases hf with z | z
      · exact z
      · rw [z] at hk; cases hk
    obtain ⟨c, hc⟩ := I.ok.has x (.inl hk)
    obtain ⟨w', z⟩ := I.cell x c hc
    refine wpAny_storeName_cell I.ok.kind hk hc z (fun h' hc' hs => ?_)
    obtain ⟨oc, hoc, hocd⟩ := id z
    refine h { s with heap := h' } ⟨I.ok, I.os, I.bare, ⟨fun b o e n hb hx => ?_, fun b o e n hb hx => ?_, I.base.free, fun b o e hx => ?_, I.base.tups, I.base.frzs, I.base.tbls⟩, ⟨m, hn.sameBut hs (Ne.symm (cne x c hc)), fun j y v' e1 e2 e3 => ?_⟩, fun y c' e => ?_, I.free, I.freeC, fun p hp => ?_, tracked ⟨oc, hoc, I.freeC x c hc⟩ hs, by simpa using I.len⟩ ⟨c, hs, .inr hc⟩
    · exact (hs.2 b (Nat.ne_of_lt (Nat.lt_of_lt_of_le (Heap.lt_size e) (I.ok.cab x c hfn hc)))).trans (I.base.keep b o e n hb hx)
    · obtain ⟨sl, e1⟩ := I.base.slot b o e n hb hx
      exact ⟨sl, (hs.2 b (Nat.ne_of_lt (Nat.lt_of_lt_of_le (Heap.lt_size e) (I.ok.cab x c hfn hc)))).trans e1⟩
    · obtain ⟨o', e1⟩ := I.base.there b o e hx
      exact ⟨o', (hs.2 b (Nat.ne_of_lt (Nat.lt_of_lt_of_le (Heap.lt_size e) (I.ok.cab x c hfn hc)))).trans e1⟩
    · by_cases hj : j = i
      · subst hj
        rw [hi] at e1; cases e1
        rw [List.getElem?_set_self hiσ] at e2
        cases e2
        exact ⟨u, r, .inr ⟨.inl hk, c, hc, hc'⟩⟩
      · rw [List.getElem?_set_ne (Ne.symm hj)] at e2
        obtain ⟨u', r', q⟩ := hl j y v' e1 e2 e3
        refine ⟨u', r', ?_⟩
        rcases q with q | ⟨k, c', e, z'⟩
        · exact .inl q
        · refine .inr ⟨k, c', e, z'.sameBut hs ?_⟩
          rintro rfl
          exact hj (nodup_ix hN e1 (I.ok.inj _ _ _ e hc ▸ hi))
    · by_cases hcc : c' = c
      · subst hcc; exact ⟨_, hc'⟩
      · obtain ⟨w2, z2⟩ := I.cell y c' e
        exact ⟨w2, z2.sameBut hs hcc⟩
    · obtain ⟨e, n, ne, nf, d⟩ := I.pin p hp
      refine ⟨(hs.2 p.1 ?_).trans e, n, ne, nf, d⟩
      intro q
      rw [q, hoc] at e
      have q' : oc = p.2 := Option.some.inj e
      exact d w' (by rw [← q']; exact hocd)
theorem store_ok {M : Model} {A : Around} {E : Value → Shared → Prop} {i : Nat} {x : Str} {v : V} {u : Value} {Q : Unit → Shared → Prop} (I : Inv X pins σ H s) (hN : X.N.Nodup) (hi : X.N[i]? = some x) (hx : Loc X.env.scope x) (r : RelV v u)
    (h : ∀ s', Inv X pins (σ.set i (some v)) H s' → Q () s') (hf : X.fn x = true ∨ X.env.scope.names.lookup x = some .local := by first | exact .inl rfl | exact .inr rfl | assumption) : wpAny M A (storeName X.env x u) Q E s :=
  store_ok2 I hN hi hx r (fun s' I' _ => h s' I') hf
/-- behind a call or a block, the state as it is -/
theorem Inv.call' {s' : Shared} {ch : List Addr} (I : Inv X pins σ H s) (ho : s'.os = s.os) (u : Un (frs X.stack) ch H H' s.heap s'.heap) (hok : HOk X.prog X.w H' s'.heap) (hg : AllBare s'.gens)
    (hch : ∀ b ∈ ch, (b ∈ X.ex ∨ X.s₀.heap.objs.size ≤ b) ∧ b ≠ X.env.locals ∧ (∀ x c, X.env.cells.lookup x = some c → c ≠ b) ∧ ∀ p ∈ X.pn ++ pins, p.1 ≠ b) : Inv X pins σ H' s' := by
  obtain ⟨h', g', d', t', o'⟩ := s'
  have e : o' = s.os := ho
  subst e
  exact I.call (g' := g') (t' := t') (d' := d') u hok hg hch
end

/-! ### the judgements -/
/-- an exception: its class, its own dict's address (where it has one), the abstract heap behind it -/
abbrev XK := Value → Option Addr → Hp → Prop
abbrev St := List (Option V)
abbrev VK := V → Hp → Prop
/-- an expression's reading; a test's; an argument list's -/
abbrev TE := St → Hp → VK → Prop
abbrev TT := St → Hp → (Bool → Hp → Prop) → Prop
abbrev TA := St → Hp → (List V → Hp → Prop) → Prop
/-- what is wanted behind a statement -/
structure Ends where
  nx : St → Hp → Prop
  rt : VK
  bk : St → Hp → Prop := fun _ _ => False
  ct : St → Hp → Prop := fun _ _ => False
abbrev TS := Ends → St → Hp → Prop

def EP (X : Cx) (pins : List (Addr × Obj)) (σ : St) (Q : VK) (u : Value) (s' : Shared) : Prop := ∃ v H', Inv X pins σ H' s' ∧ RelV v u ∧ Q v H'
def TP (X : Cx) (pins : List (Addr × Obj)) (σ : St) (Q : Bool → Hp → Prop) (b : Bool) (s' : Shared) : Prop := ∃ H', Inv X pins σ H' s' ∧ Q b H'
def AP (X : Cx) (pins : List (Addr × Obj)) (σ : St) (Q : List V → Hp → Prop) (us : List Value) (s' : Shared) : Prop := ∃ vs H', Inv X pins σ H' s' ∧ Vals vs us ∧ Q vs H'
def SP (X : Cx) (pins : List (Addr × Obj)) (D : Ends) (f : Flow) (s' : Shared) : Prop :=
  match f with
  | .next => ∃ σ' H', Inv X pins σ' H' s' ∧ D.nx σ' H'
  | .brk => ∃ σ' H', Inv X pins σ' H' s' ∧ D.bk σ' H'
  | .cont => ∃ σ' H', Inv X pins σ' H' s' ∧ D.ct σ' H'
  | .ret u => ∃ v σ' H', Inv X pins σ' H' s' ∧ RelV v u ∧ D.rt v H'

def PE (X : Cx) (e : Expr) (t : TE) : Prop :=
  ∀ (pins : List (Addr × Obj)) (s : Shared) (σ : St) (H : Hp) (Q : VK), Inv X pins σ H s → t σ H Q → wpAny (model X.prog X.w) X.A (eval e X.env) (EP X pins σ Q) X.xe s
def PT (X : Cx) (e : Expr) (t : TT) : Prop :=
  ∀ (pins : List (Addr × Obj)) (s : Shared) (σ : St) (H : Hp) (Q : Bool → Hp → Prop), Inv X pins σ H s → t σ H Q → wpAny (model X.prog X.w) X.A (isTrue e X.env (eval e X.env)) (TP X pins σ Q) X.xe s
/-- a test whatever its 'whole' is (and, or) -/
def PW (X : Cx) (e : Expr) (t : TT) : Prop :=
  ∀ (whole : Sem Value) (pins : List (Addr × Obj)) (s : Shared) (σ : St) (H : Hp) (Q : Bool → Hp → Prop), Inv X pins σ H s → t σ H Q → wpAny (model X.prog X.w) X.A (isTrue e X.env whole) (TP X pins σ Q) X.xe s
theorem PW.pt {X : Cx} {e : Expr} {t : TT} (h : PW X e t) : PT X e t := h _
/-- an argument list (no star), from the left -/
def PA (X : Cx) (es : List Expr) (t : TA) : Prop :=
  ∀ (pos : Pos) (pins : List (Addr × Obj)) (s : Shared) (σ : St) (H : Hp) (Q : List V → Hp → Prop), Inv X pins σ H s → t σ H Q → wpAny (model X.prog X.w) X.A (spliced (backTo pos (starEach es X.env))) (AP X pins σ Q) X.xe s
def PS (X : Cx) (st : Stmt) (t : TS) : Prop :=
  ∀ (pins : List (Addr × Obj)) (s : Shared) (σ : St) (H : Hp) (D : Ends), Inv X pins σ H s → t D σ H → wpAny (model X.prog X.w) X.A (exec st X.env) (SP X pins D) X.xe s
def PSs (X : Cx) (st : List Stmt) (t : TS) : Prop :=
  ∀ (pins : List (Addr × Obj)) (s : Shared) (σ : St) (H : Hp) (D : Ends), Inv X pins σ H s → t D σ H → wpAny (model X.prog X.w) X.A (execs st X.env) (SP X pins D) X.xe s
/-- weaken the end -/
theorem thn {α : Type} {t : Sem α} {Q Q' : α → Shared → Prop} {M : Model} {A : Around} {E : Value → Shared → Prop} {s : Shared} (h : wpAny M A t Q E s) (hQ : ∀ a s, Q a s → Q' a s) : wpAny M A t Q' E s := wpAny_mono h hQ fun _ _ x => x
end L2

namespace L2
open PySem PySem.Spec PyProof.Rows
section
variable {X : Cx}

/-! ### names and constants -/
def tVar (i : Nat) : TE := fun σ H Q => ∃ v, σ[i]? = some (some v) ∧ Q v H
def tC (v : V) : TE := fun _ H Q => Q v H
theorem pe_var {i : Nat} {x : Str} {pos : Pos} (hN : X.N[i]? = some x) (hv : Vis X.env.scope x) (hd : (x == ("__debug__" : Str)) = false := by decide) (hcd : (x == ("__classdict__" : Str)) = false := by decide) : PE X (.Name x pos) (tVar i) := by
  intro pins s σ H Q I h
  obtain ⟨v, e, h⟩ := h
  obtain ⟨m, hn, hl⟩ := I.loc
  obtain ⟨u, r, l⟩ := hl i x v hN e hv
  have fin : EP X pins σ Q u s := ⟨v, H, I, r, h⟩
  rcases l with ⟨hk, hm⟩ | ⟨hk, c, hc, hcell⟩
  · exact wpAny_Name (wpAny_loadName_local I.ok.kind hk hn hm fin) hd
  · rcases hk with hk | hk
    · exact wpAny_Name (wpAny_loadName_cell I.ok.kind hk hc hcell fin) hd
    · exact wpAny_Name (wpAny_loadName_free I.ok.kind hk hc hcell fin hcd) hd
theorem pe_int {i j pos} : PE X (.Constant (.int i) j pos) (tC (.int i)) := fun _ _ _ H _ I h => wpAny_Constant_int ⟨.int i, H, I.tok _, ⟨_, rfl⟩, h⟩
theorem pe_bl {b j pos} : PE X (.Constant (.bool b) j pos) (tC (.bl b)) := fun _ _ _ H _ I h => Constant_bool ⟨.bl b, H, I, rfl, h⟩
theorem pe_non {j pos} : PE X (.Constant .none j pos) (tC .non) := fun _ _ _ H _ I h => Constant_none ⟨.non, H, I, rfl, h⟩
theorem pe_str {x j pos} : PE X (.Constant (.str x) j pos) (tC (.str x)) := fun _ _ _ H _ I h => Calls.Constant_str ⟨.str x, H, I.tok _, ⟨_, rfl⟩, h⟩

/-- a global name of the def -/
def Gl (X : Cx) (x : Str) : Prop := X.env.kindOf x = some .globalImplicit
theorem ld_glob {E : Value → Shared → Prop} {pins : List (Addr × Obj)} {s : Shared} {σ : St} {H : Hp} {x : Str} {u : Value} {pos : Pos} {Q : Value → Shared → Prop} (I : Inv X pins σ H s) (hg : Gl X x) (hm : X.mg x = some u) (h : Q u s)
    (hd : (x == ("__debug__" : Str)) = false := by decide) : wpAny (model X.prog X.w) X.A (eval (.Name x pos) X.env) Q E s :=
  Calls.Name_function_global I.ok.kind hg (Calls.loadGlobal_global (by rw [I.ok.glob]; exact I.mod.glob.keeps I.bk) hm h) hd
theorem ld_blt {E : Value → Shared → Prop} {pins : List (Addr × Obj)} {s : Shared} {σ : St} {H : Hp} {x : Str} {u : Value} {pos : Pos} {Q : Value → Shared → Prop} (I : Inv X pins σ H s) (hg : Gl X x) (hm : X.mg x = none) (hv : bootBuiltins x = some u) (h : Q u s)
    (hn : x ≠ "__name__" := by decide) (hd : (x == ("__debug__" : Str)) = false := by decide) : wpAny (model X.prog X.w) X.A (eval (.Name x pos) X.env) Q E s := by
  obtain ⟨mb, h1, h2⟩ := I.mod.blt
  exact Calls.Name_function_global I.ok.kind hg (Calls.loadGlobal_builtin (by rw [I.ok.glob]; exact I.mod.glob.keeps I.bk) hm (by rw [I.ok.blt]; exact h1.keeps I.bk) ((h2 x hn).trans hv) h) hd
/-- a module's constant, a class, a function, as a value -/
theorem pe_glob {x : Str} {v : V} {u : Value} {pos : Pos} (hg : Gl X x) (hm : X.mg x = some u) (r : RelV v u) (hd : (x == ("__debug__" : Str)) = false := by decide) : PE X (.Name x pos) (tC v) :=
  fun _ _ _ H _ I h => ld_glob I hg hm ⟨v, H, I, r, h⟩ hd
theorem pe_bltn {x : Str} {v : V} {u : Value} {pos : Pos} (hg : Gl X x) (hm : X.mg x = none) (hv : bootBuiltins x = some u) (r : RelV v u) (hn : x ≠ "__name__" := by decide) (hd : (x == ("__debug__" : Str)) = false := by decide) : PE X (.Name x pos) (tC v) :=
  fun _ _ _ H _ I h => ld_blt I hg hm hv ⟨v, H, I, r, h⟩ hn hd

/-! ### arithmetic -/
variable {a b : Expr} {ta tb : TE} {pos : Pos}
/-! ### comparisons -/
/-- a comparison as a value, as a test -/
def tB (t : TE) : TT := fun σ H Q => t σ H fun x H1 => ∃ c, x = .bl c ∧ Q c H1
/-- an expression whose value is a bool, as a test -/
theorem pt_val {e : Expr} {t : TE} (h : PE X e t) (he : ∀ whole, isTrue e X.env whole = (do let v ← whole; standAt e.pos; holding [v] (truthy v)) := by intro _; rfl) : PT X e (tB t) := by
  intro pins s σ H Q I hw
  refine isTrue_plain (thn (h pins s σ H _ I hw) fun v s1 ⟨x, H1, I1, r1, q1⟩ => ?_) (he _)
  obtain ⟨d, rfl, q⟩ := q1
  cases r1
  exact wpAny_truthy_bool ⟨H1, I1, q⟩

/-! ### and, or, not -/
variable {tA tB' : TT} {rest : List Expr}
def tAnd (t u : TT) : TT := fun σ H Q => t σ H fun c H1 => if c = true then u σ H1 Q else Q false H1
def tOr (t u : TT) : TT := fun σ H Q => t σ H fun c H1 => if c = true then Q true H1 else u σ H1 Q
def tNot (t : TT) : TT := fun σ H Q => t σ H fun c H1 => Q (!c) H1
theorem pw_and1 (ha : PT X a tA) : PW X (.BoolOp .And [a] pos) tA := by
  intro wh pins s σ H Q I h
  refine isTrue_and (thn (ha pins s σ H Q I h) fun c s1 e => ?_)
  cases c with
  | true => exact isTrue_and_nil e
  | false => exact e
theorem pw_or1 (ha : PT X a tA) : PW X (.BoolOp .Or [a] pos) tA := by
  intro wh pins s σ H Q I h
  refine isTrue_or (thn (ha pins s σ H Q I h) fun c s1 e => ?_)
  cases c with
  | false => exact isTrue_or_nil e
  | true => exact e
theorem pw_and (ha : PT X a tA) (hb : PW X (.BoolOp .And (b :: rest) pos) tB') : PW X (.BoolOp .And (a :: b :: rest) pos) (tAnd tA tB') := by
  intro wh pins s σ H Q I h
  refine isTrue_and (thn (ha pins s σ H _ I h) fun c s1 ⟨H1, I1, q1⟩ => ?_)
  cases c with
  | true => exact hb wh pins s1 σ H1 Q I1 q1
  | false => exact ⟨H1, I1, q1⟩
theorem pw_or (ha : PT X a tA) (hb : PW X (.BoolOp .Or (b :: rest) pos) tB') : PW X (.BoolOp .Or (a :: b :: rest) pos) (tOr tA tB') := by
  intro wh pins s σ H Q I h
  refine isTrue_or (thn (ha pins s σ H _ I h) fun c s1 ⟨H1, I1, q1⟩ => ?_)
  cases c with
  | true => exact ⟨H1, I1, q1⟩
  | false => exact hb wh pins s1 σ H1 Q I1 q1
theorem pt_not (ha : PT X a tA) : PT X (.UnaryOp .Not a pos) (tNot tA) := by
  intro pins s σ H Q I h
  exact isTrue_not (ha pins s σ H (fun c H1 => Q (!c) H1) I h)
/-- .. as values (bools) -/
def tAndV (ta tb : TE) : TE := fun σ H Q => ta σ H fun x H1 => ∃ c, x = .bl c ∧ if c = true then tb σ H1 Q else Q (.bl false) H1
def tOrV (ta tb : TE) : TE := fun σ H Q => ta σ H fun x H1 => ∃ c, x = .bl c ∧ if c = true then Q (.bl true) H1 else tb σ H1 Q
def tNotV (ta : TE) : TE := fun σ H Q => ta σ H fun x H1 => ∃ c, x = .bl c ∧ Q (.bl (!c)) H1
theorem pe_one {op} {t : TE} (h : PE X a t) : PE X (.BoolOp op [a] pos) t := fun pins s σ H Q I hw => BoolOp_one (h pins s σ H Q I hw)
theorem pe_and (ha : PE X a ta) (hb : PE X (.BoolOp .And (b :: rest) pos) tb) : PE X (.BoolOp .And (a :: b :: rest) pos) (tAndV ta tb) := by
  intro pins s σ H Q I h
  refine BoolOp_and (thn (ha pins s σ H _ I h) fun v s1 ⟨x, H1, I1, r1, q1⟩ => ?_)
  obtain ⟨c, rfl, q1⟩ := q1
  cases r1
  refine wpAny_truthy_bool ?_
  cases c with
  | true => exact hb pins s1 σ H1 Q I1 q1
  | false => exact ⟨.bl false, H1, I1, rfl, q1⟩
theorem pe_or (ha : PE X a ta) (hb : PE X (.BoolOp .Or (b :: rest) pos) tb) : PE X (.BoolOp .Or (a :: b :: rest) pos) (tOrV ta tb) := by
  intro pins s σ H Q I h
  refine BoolOp_or (thn (ha pins s σ H _ I h) fun v s1 ⟨x, H1, I1, r1, q1⟩ => ?_)
  obtain ⟨c, rfl, q1⟩ := q1
  cases r1
  refine wpAny_truthy_bool ?_
  cases c with
  | false => exact hb pins s1 σ H1 Q I1 q1
  | true => exact ⟨.bl true, H1, I1, rfl, q1⟩
theorem pe_not (ha : PE X a ta) : PE X (.UnaryOp .Not a pos) (tNotV ta) := by
  intro pins s σ H Q I h
  refine UnaryOp_ (thn (ha pins s σ H _ I h) fun v s1 ⟨x, H1, I1, r1, q1⟩ => ?_)
  obtain ⟨c, rfl, q1⟩ := q1
  cases r1
  exact not_of (wpAny_truthy_bool ⟨.bl (!c), H1, I1, rfl, q1⟩)
/-- a if t else b -/
def tIf (t : TT) (ta tb : TE) : TE := fun σ H Q => t σ H fun c H1 => if c = true then ta σ H1 Q else tb σ H1 Q
theorem pe_ifExp {c : Expr} (hc : PT X c tA) (ha : PE X a ta) (hb : PE X b tb) : PE X (.IfExp c a b pos) (tIf tA ta tb) := by
  intro pins s σ H Q I h
  refine wpAny_IfExp (thn (hc pins s σ H _ I h) fun d s1 ⟨H1, I1, q1⟩ => ?_)
  cases d with
  | true => exact ha pins s1 σ H1 Q I1 q1
  | false => exact hb pins s1 σ H1 Q I1 q1
end
end L2

namespace L2
open PySem PySem.Spec PyProof.Rows

/-! ### a list, a tuple that is read: tracked, frozen, or an object of the module -/
def SqL (K : PySem.W.Frag) (H : Hp) (a : Addr) (xs : List V) : Prop :=
  Rd H a (.lst xs) ∨
    ∃ (o : Obj) (its : Array Value) (n : Nat), K.lookup a = some o ∧ o.cls = .type "list" ∧ o.dict = none ∧ o.data = .seq its n ∧ its.size ≤ sizeLine ∧ Vals xs its.toList
def SqT (K : PySem.W.Frag) (H : Hp) (a : Addr) (xs : List V) : Prop :=
  Rd H a (.tup xs) ∨
    ∃ (o : Obj) (its : Array Value) (n : Nat), K.lookup a = some o ∧ o.cls = .type "tuple" ∧ o.data = .seq its n ∧ its.size ≤ sizeLine ∧ Vals xs its.toList
def absV : Value → Option V
  | .none => some .non
  | .bool b => some (.bl b)
  | .int i _ => some (.int i)
  | .str x _ => some (.str x)
  | .bytes b _ => some (.byt b)
  | .float b _ => some (.flt b)
  | .ref a => some (.ref a)
  | .type n => some (.ty n)
  | _ => none
theorem RelV.abs {x : V} {u : Value} (r : RelV x u) : absV u = some x := by
  cases x with
  | non => cases r; rfl
  | bl _ => cases r; rfl
  | int _ => obtain ⟨t, rfl⟩ := r; rfl
  | str _ => obtain ⟨t, rfl⟩ := r; rfl
  | byt _ => obtain ⟨t, rfl⟩ := r; rfl
  | flt _ => obtain ⟨t, rfl⟩ := r; rfl
  | ref _ => cases r; rfl
  | ty _ => cases r; rfl
theorem RelV.inj {x y : V} {u : Value} (r : RelV x u) (q : RelV y u) : x = y := Option.some.inj (r.abs.symm.trans q.abs)
theorem Vals.inj : ∀ {xs ys : List V} {us : List Value}, Vals xs us → Vals ys us → xs = ys
  | _, _, _, .nil, .nil => rfl
  | _, _, _, .cons r t, .cons r' t' => by rw [r.inj r', Vals.inj t t']
section
variable {X : Cx} {pins : List (Addr × Obj)} {σ : St} {H : Hp} {s : Shared} {a : Addr} {xs ys : List V}
theorem SqL.of {K : PySem.W.Frag} (h : H a = some (.lst xs)) : SqL K H a xs := .inl (.inl h)
theorem SqT.of {K : PySem.W.Frag} (h : H a = some (.tup xs)) : SqT K H a xs := .inl (.inl h)
theorem Inv.list (I : Inv X pins σ H s) (h : SqL X.K H a xs) : ∃ its : List Value, Vals xs its ∧ PlainL s.heap a its.toArray ∧ xs.length ≤ sizeLine := by
  rcases h with h | ⟨o, its, n, hk, hc, hd, hs, hz, r⟩
  · obtain ⟨z, its, n, r, e⟩ := h.ok I.hok
    exact ⟨its, r, ⟨_, n, e, rfl, rfl, rfl⟩, z⟩
  · refine ⟨its.toList, r, ⟨o, n, I.kIn a o hk, hc, hd, by simpa using hs⟩, ?_⟩
    have e := r.length
    simp only [Array.length_toList] at e
    omega
theorem Inv.tuple (I : Inv X pins σ H s) (h : SqT X.K H a xs) : ∃ its : List Value, Vals xs its ∧ IsTup s.heap a its.toArray ∧ xs.length ≤ sizeLine := by
  rcases h with h | ⟨o, its, n, hk, hc, hs, hz, r⟩
  · obtain ⟨z, its, r, p⟩ := h.ok I.hok
    exact ⟨its, r, p.isTup, z⟩
  · refine ⟨its.toList, r, ⟨o, I.kIn a o hk, hc, n, by simpa using hs⟩, ?_⟩
    have e := r.length
    simp only [Array.length_toList] at e
    omega
theorem Inv.list_inj (I : Inv X pins σ H s) (h : SqL X.K H a xs) (h' : SqL X.K H a ys) : xs = ys := by
  obtain ⟨its, r, ⟨o, n, e, _, _, d⟩, _⟩ := I.list h
  obtain ⟨its', r', ⟨o', n', e', _, _, d'⟩, _⟩ := I.list h'
  rw [e] at e'; cases e'
  rw [d] at d'
  injection d' with d1 _
  have : its = its' := by simpa using congrArg Array.toList d1
  subst this
  exact r.inj r'
theorem Inv.tuple_inj (I : Inv X pins σ H s) (h : SqT X.K H a xs) (h' : SqT X.K H a ys) : xs = ys := by
  obtain ⟨its, r, ⟨o, e, _, n, d⟩, _⟩ := I.tuple h
  obtain ⟨its', r', ⟨o', e', _, n', d'⟩, _⟩ := I.tuple h'
  rw [e] at e'; cases e'
  rw [d] at d'
  injection d' with d1 _
  have : its = its' := by simpa using congrArg Array.toList d1
  subst this
  exact r.inj r'
end

/-! ### another wish about exceptions -/
abbrev Cx.wish (X : Cx) (E : Value → Shared → Prop) : Cx := { X with xe := E }
/-- no exception leaves -/
abbrev Cx.nox (X : Cx) : Cx := X.wish fun _ _ => False
theorem Cx.Ok.wish {X : Cx} (ok : X.Ok) (E : Value → Shared → Prop) : (X.wish E).Ok :=
  ⟨ok.mod, ok.kind, ok.glob, ok.blt, ok.above, ok.inj, ok.has, ok.cab, ok.hd, ok.frames, ok.stk, ok.exf, ok.bs, ok.bsz, ok.noex, ok.exfs, ok.funs, ok.frf⟩
theorem Cx.Ok.unwish {X : Cx} {E : Value → Shared → Prop} (ok : (X.wish E).Ok) : X.Ok :=
  ⟨ok.mod, ok.kind, ok.glob, ok.blt, ok.above, ok.inj, ok.has, ok.cab, ok.hd, ok.frames, ok.stk, ok.exf, ok.bs, ok.bsz, ok.noex, ok.exfs, ok.funs, ok.frf⟩
section
variable {X : Cx} {pins : List (Addr × Obj)} {σ : St} {H : Hp} {s : Shared} {E : Value → Shared → Prop}
theorem Inv.wish (I : Inv X pins σ H s) (E : Value → Shared → Prop) : Inv (X.wish E) pins σ H s := ⟨I.ok.wish E, I.os, I.bare, I.base, I.loc, I.cell, I.free, I.freeC, I.pin, I.hok, I.len⟩
theorem Inv.unwish (I : Inv (X.wish E) pins σ H s) : Inv X pins σ H s := ⟨I.ok.unwish, I.os, I.bare, I.base, I.loc, I.cell, I.free, I.freeC, I.pin, I.hok, I.len⟩
theorem SP.unwish {D : Ends} {f : Flow} {s' : Shared} (h : SP (X.wish E) pins D f s') : SP X pins D f s' := by
  cases f with
  | next => obtain ⟨σ', H', I, q⟩ := h; exact ⟨σ', H', I.unwish, q⟩
  | brk => obtain ⟨σ', H', I, q⟩ := h; exact ⟨σ', H', I.unwish, q⟩
  | cont => obtain ⟨σ', H', I, q⟩ := h; exact ⟨σ', H', I.unwish, q⟩
  | ret u => obtain ⟨v, σ', H', I, r, q⟩ := h; exact ⟨v, σ', H', I.unwish, r, q⟩
theorem PSs.nox {st : List Stmt} {t : TS} (h : PSs X.nox st t) : PSs X st t := fun pins s σ H D I hw =>
  wpAny_mono (h pins s σ H D (I.wish _) hw) (fun _ _ q => q.unwish) fun _ _ z => False.elim z
end

/-! ### blocks and small statements -/
section
variable {X : Cx} {st : Stmt} {rest : List Stmt} {t u : TS} {e : Expr} {te : TE} {pos : Pos}
def tNext : TS := fun D σ H => D.nx σ H
def tSeq (t u : TS) : TS := fun D σ H => t { D with nx := u D } σ H
theorem pss_nil : PSs X [] tNext := fun _ _ σ H _ I h => wpAny_execs_nil ⟨σ, H, I, h⟩
theorem pss_cons (h1 : PS X st t) (h2 : PSs X rest u) : PSs X (st :: rest) (tSeq t u) := by
  intro pins s σ H D I h
  refine wpAny_execs_cons (thn (h1 pins s σ H { D with nx := u D } I h) fun f s1 q => ?_)
  cases f with
  | next =>
    obtain ⟨σ', H', I', q⟩ := q
    exact h2 pins s1 σ' H' D I' q
  | ret v => exact q
  | brk => exact q
  | cont => exact q
theorem pss_one (h1 : PS X st t) : PSs X [st] t := by
  intro pins s σ H D I h
  refine wpAny_execs_cons (thn (h1 pins s σ H D I h) fun f s1 q => ?_)
  cases f with
  | next => exact wpAny_execs_nil q
  | ret v => exact q
  | brk => exact q
  | cont => exact q
/-- in a def's body nothing is shown -/
theorem Inv.quiet {pins : List (Addr × Obj)} {σ : St} {H : Hp} {s : Shared} (I : Inv X pins σ H s) : interactive X.env = false := by simp [interactive, I.ok.kind]
/-- an expression whose value is dropped -/
def tDrop (te : TE) : TS := fun D σ H => te σ H fun _ H1 => D.nx σ H1
theorem ps_expr (he : PE X e te) (hs : swapsWith e none pos.line X.env = pure false := by rfl) : PS X (.Expr e pos) (tDrop te) := by
  intro pins s σ H D I h
  exact wpAny_Expr_any (thn (he pins s σ H _ I h) fun v s1 ⟨x, H1, I1, r1, q1⟩ => ⟨σ, H1, I1, q1⟩) I.quiet hs
def tRet (te : TE) : TS := fun D σ H => te σ H D.rt
theorem ps_ret (he : PE X e te) : PS X (.Return (some e) pos) (tRet te) := by
  intro pins s σ H D I h
  exact wpAny_Return_some (thn (he pins s σ H _ I h) fun v s1 ⟨x, H1, I1, r1, q1⟩ => ⟨x, σ, H1, I1, r1, q1⟩)
def tIfS (c : TT) (t u : TS) : TS := fun D σ H => c σ H fun b H1 => if b = true then t D σ H1 else u D σ H1
theorem ps_if {c : Expr} {a b : List Stmt} {tc : TT} (hc : PT X c tc) (ha : PSs X a t) (hb : PSs X b u) : PS X (.If c a b pos) (tIfS tc t u) := by
  intro pins s σ H D I h
  refine wpAny_If (thn (hc pins s σ H _ I h) fun d s1 ⟨H1, I1, q1⟩ => ?_)
  cases d with
  | true => exact ha pins s1 σ H1 D I1 q1
  | false => exact hb pins s1 σ H1 D I1 q1
end

/-! ### targets -/
abbrev TG := V → St → Hp → (St → Hp → Prop) → Prop
abbrev TGs := List V → St → Hp → (St → Hp → Prop) → Prop
def PG (X : Cx) (target : Expr) (t : TG) : Prop :=
  ∀ (pins : List (Addr × Obj)) (s : Shared) (σ : St) (H : Hp) (v : V) (u : Value) (Q : St → Hp → Prop), Inv X pins σ H s → RelV v u → t v σ H Q →
    wpAny (model X.prog X.w) X.A (assign target X.env u) (fun _ s' => ∃ σ' H', Inv X pins σ' H' s' ∧ Q σ' H') X.xe s
/-- several targets, one after another -/
def PGs (X : Cx) (ts : List Expr) (t : TGs) : Prop :=
  ∀ (pins : List (Addr × Obj)) (s : Shared) (σ : St) (H : Hp) (vs : List V) (us : List Value) (Q : St → Hp → Prop), Inv X pins σ H s → Vals vs us → t vs σ H Q →
    wpAny (model X.prog X.w) X.A (assignInOrder ((assignEach ts X.env).map (·.2)) us) (fun _ s' => ∃ σ' H', Inv X pins σ' H' s' ∧ Q σ' H') X.xe s
/-- o[i] = v, by values -/
abbrev TSet := V → V → V → Hp → (Hp → Prop) → Prop
def PSet (X : Cx) (t : TSet) : Prop :=
  ∀ (pins : List (Addr × Obj)) (s : Shared) (σ : St) (H : Hp) (o i v : V) (ov iv u : Value) (Q : Hp → Prop), Inv X pins σ H s → RelV o ov → RelV i iv → RelV v u → t o i v H Q →
    wpAny (model X.prog X.w) X.A (setItem ov iv u) (fun _ s' => ∃ H', Inv X pins σ H' s' ∧ Q H') X.xe s
section
variable {X : Cx} {pos : Pos}
def gName (i : Nat) : TG := fun v σ H Q => Q (σ.set i (some v)) H
theorem pg_name {i : Nat} {x : Str} (hN : X.N.Nodup) (hi : X.N[i]? = some x) (hx : Loc X.env.scope x) (hf : X.fn x = true ∨ X.env.scope.names.lookup x = some .local := by first | exact .inl rfl | exact .inr rfl | assumption) : PG X (.Name x pos) (gName i) := by
  intro pins s σ H v u Q I r h
  exact wpAny_assign_Name (store_ok I hN hi hx r (fun s' I' => ⟨_, H, I', h⟩) hf)
def gNil : TGs := fun vs σ H Q => vs = [] ∧ Q σ H
def gCons (t : TG) (u : TGs) : TGs := fun vs σ H Q => ∃ v r, vs = v :: r ∧ t v σ H fun σ' H' => u r σ' H' Q
theorem pgs_nil : PGs X [] gNil := by
  intro pins s σ H vs us Q I r h
  obtain ⟨e, h⟩ := h
  subst e
  cases r
  exact assignInOrder_nil ⟨σ, H, I, h⟩
theorem pgs_cons {e : Expr} {es : List Expr} {t : TG} {u : TGs} (h1 : PG X e t) (h2 : PGs X es u)
    (hs : (assignEach (e :: es) X.env).map (·.2) = assign e X.env :: (assignEach es X.env).map (·.2) := by rfl) : PGs X (e :: es) (gCons t u) := by
  intro pins s σ H vs us Q I r h
  obtain ⟨v, vr, e1, h⟩ := h
  subst e1
  cases r with
  | cons r rr =>
    rw [hs]
    refine assignInOrder_cons (thn (h1 pins s σ H _ _ _ I r h) fun _ s1 ⟨σ1, H1, I1, q1⟩ => ?_)
    exact h2 pins s1 σ1 H1 _ _ Q I1 rr q1
/-- (a, b, ..) = a tuple of that length -/
def gTup (K : PySem.W.Frag) (n : Nat) (t : TGs) : TG := fun v σ H Q => ∃ a xs, v = .ref a ∧ SqT K H a xs ∧ xs.length = n ∧ t xs σ H Q
theorem pg_tup {es : List Expr} {k : Nat} {t : TGs} {n : Nat} (hc : X.calm = true) (h : PGs X es t)
    (hn : (assignEach es X.env).length = n := by rfl) (hst : (assignEach es X.env).findIdx? (·.1) = none := by rfl) : PG X (.Tuple es k pos) (gTup X.K n t) := by
  intro pins s σ H v u Q I r hw
  obtain ⟨a, xs, e1, hq, hl, hw⟩ := hw
  subst e1
  cases r
  obtain ⟨its, rv, ht, hz⟩ := I.tuple hq
  refine assign_Tuple_tuple (I.ok.hd hc) ht (by simp [hn, ← hl, rv.length]) hst fun h' hx => ?_
  have I1 : Inv X pins σ H { s with heap := h' } := I.kept (t' := s.toks) fun b o e => hx b o (Nat.ne_of_lt (Heap.lt_size e)) e
  exact h pins _ σ H xs _ Q I1 (by simpa using rv) hw
/-- o[i] = .. -/
def gSub (to ti : TE) (t : TSet) : TG := fun v σ H Q => to σ H fun o H1 => ti σ H1 fun i H2 => t o i v H2 fun H3 => Q σ H3
theorem pg_sub {o i : Expr} {to ti : TE} {t : TSet} (ho : PE X o to) (hi : PE X i ti) (hs : PSet X t)
    (ha : ∀ v, assign (.Subscript o i pos) X.env v = (do
      let ov ← holding [v] (eval o X.env)
      let iv ← holding [v, ov] (eval i X.env)
      standAt pos
      holding [v, ov, iv] (setItem ov iv v)
      release [v, ov, iv] []) := by intro _; rfl) : PG X (.Subscript o i pos) (gSub to ti t) := by
  intro pins s σ H v u Q I r h
  rw [ha]
  refine wpAny_bind (wpAny_holding (thn (ho pins s σ H _ I h) fun ov s1 ⟨x, H1, I1, r1, q1⟩ => ?_))
  refine wpAny_bind (wpAny_holding (thn (hi pins s1 σ H1 _ I1 q1) fun iv s2 ⟨y, H2, I2, r2, q2⟩ => ?_))
  refine wpAny_bind (wpAny_standAt (wpAny_bind (wpAny_holding (thn (hs pins s2 σ H2 x y v ov iv u _ I2 r1 r2 r q2) fun _ s3 ⟨H3, I3, q3⟩ => ?_))))
  exact wpAny_release ⟨σ, H3, I3, q3⟩
/-- target = value -/
def tAsg (te : TE) (g : TG) : TS := fun D σ H => te σ H fun x H1 => g x σ H1 D.nx
theorem ps_asg {tg e : Expr} {te : TE} {g : TG} (he : PE X e te) (hg : PG X tg g) (hs : swapsWithSole [tg] e pos.line X.env = pure false := by rfl) (hw : swappedStores [tg] e X.env = pure none := by rfl)
    (h1 : (assignEach [tg] X.env).map (·.2) = [assign tg X.env] := by rfl) : PS X (.Assign [tg] e pos) (tAsg te g) := by
  intro pins s σ H D I h
  refine wpAny_Assign_stores (thn (he pins s σ H _ I h) fun v s1 ⟨x, H1, I1, r1, q1⟩ => ?_) hs hw
  rw [h1]
  exact thn (hg pins s1 σ H1 x v _ I1 r1 q1) fun _ s2 q => q
/-- name = value -/
theorem ps_set {i : Nat} {x : Str} {e : Expr} {te : TE} {pos' : Pos} (hN : X.N.Nodup) (hi : X.N[i]? = some x) (hx : Loc X.env.scope x) (he : PE X e te) (hs : swapsWith e (some (.Name x pos')) pos.line X.env = pure false := by rfl) (hf : X.fn x = true ∨ X.env.scope.names.lookup x = some .local := by first | exact .inl rfl | exact .inr rfl | assumption) :
    PS X (.Assign [.Name x pos'] e pos) (tAsg te (gName i)) := by
  intro pins s σ H D I h
  refine wpAny_Assign_Name (thn (he pins s σ H _ I h) fun v s1 ⟨y, H1, I1, r1, q1⟩ => ?_) hs
  exact store_ok I1 hN hi hx r1 (fun s2 I2 => ⟨_, H1, I2, q1⟩) hf
end

/-! ### while -/
section
variable {X : Cx} {pos : Pos}
end

/-! ### what a loop or a comprehension walks -/
/-- at turn i: it yields x (the heap may grow), or it stops -/
structure It where
  go : Nat → Hp → Prop
  yld : Nat → Hp → V → Hp → Prop
  stop : Nat → Hp → Prop
/-- the iterator's own objects may turn: they are not the frame's, not pinned, younger than the entry (or a comprehension's own) -/
def FpOk (X : Cx) (pins : List (Addr × Obj)) (H : Hp) (b : Addr) : Prop :=
  H b = none ∧ b ≠ X.env.locals ∧ b ∉ X.fs ∧ (b ∈ X.ex ∨ X.s₀.heap.objs.size ≤ b) ∧ (∀ x c, X.env.cells.lookup x = some c → c ≠ b) ∧ ∀ p ∈ X.pn ++ pins, p.1 ≠ b
theorem Inv.fpOk {X : Cx} {pins : List (Addr × Obj)} {σ : St} {H H' : Hp} {s : Shared} {b : Addr} (I : Inv X pins σ H s) (hb : s.heap.objs.size ≤ b) (hn : H' b = none) : FpOk X pins H' b := by
  refine ⟨hn, Nat.ne_of_gt (Nat.lt_of_lt_of_le I.lt hb), I.nofs hb, .inr (Nat.le_trans I.sz hb), fun x c e z => ?_, fun p hp z => ?_⟩
  · obtain ⟨v, q⟩ := I.cell x c e
    exact absurd (Nat.lt_of_lt_of_le q.lt (by rw [z]; exact hb)) (Nat.lt_irrefl _)
  · exact absurd (Nat.lt_of_lt_of_le (Heap.lt_size (I.pin p hp).1) (by rw [z]; exact hb)) (Nat.lt_irrefl _)
structure Turn (P : Program) (w : World) (K : PySem.W.Frag) (tg : Expr) (J : It) (fp : List Addr) (it : Addr) (tn : Nat → Heap → Prop) : Prop where
  mem : it ∈ fp
  obj : ∀ i h, tn i h → ∀ b ∈ fp, ∃ o, h.get? b = some o ∧ ∀ v, o.data ≠ .cell v
  keep : ∀ i h h', tn i h → (∀ b ∈ fp, ∀ o, h.get? b = some o → h'.get? b = some o) → tn i h'
  item : ∀ (X : Cx), X.prog = P → X.w = w → X.K = K → X.calm = true → ∀ (i : Nat) (pins : List (Addr × Obj)) (s : Shared) (σ : St) (H : Hp) (E : Value → Shared → Prop), Inv X pins σ H s → (∀ b ∈ fp, FpOk X pins H b) → tn i s.heap → J.go i H →
    wpAny (model P w) X.A (pyNext (.ref it)) (fun r s1 => ∃ u, r = some u ∧
      wpAny (model P w) X.A (letOwnedTupleGo tg (.ref it) u) (fun _ s2 => ∃ x H', Inv X pins σ H' s2 ∧ RelV x u ∧ J.yld i H x H' ∧ tn (i + 1) s2.heap ∧ ∀ b ∈ fp, H' b = none) E s1) E s
  done : ∀ (X : Cx), X.prog = P → X.w = w → X.K = K → X.calm = true → ∀ (i : Nat) (pins : List (Addr × Obj)) (s : Shared) (σ : St) (H : Hp) (E : Value → Shared → Prop), Inv X pins σ H s → (∀ b ∈ fp, FpOk X pins H b) → tn i s.heap → J.stop i H →
    wpAny (model P w) X.A (pyNext (.ref it)) (fun r s1 => r = none ∧ Inv X pins σ H s1) E s
  self : ∀ (A : Around) (i : Nat) (s : Shared) (Q : Value → Shared → Prop) (E : Value → Shared → Prop), tn i s.heap → Q (.ref it) s → wpAny (model P w) A (pyIter (.ref it)) Q E s
abbrev TI := St → Hp → (It → Hp → Prop) → Prop
/-- an iterator has come -/
def PIE (X : Cx) (pins : List (Addr × Obj)) (σ : St) (tg : Expr) (R : It → Hp → Prop) (itv : Value) (s2 : Shared) : Prop :=
  ∃ (it : Addr) (fp : List Addr) (tn : Nat → Heap → Prop) (J : It) (H' : Hp), itv = .ref it ∧ Inv X pins σ H' s2 ∧ Turn X.prog X.w X.K tg J fp it tn ∧ tn 0 s2.heap ∧ (∀ b ∈ fp, FpOk X pins H' b) ∧ R J H'
def PI (X : Cx) (tg iter : Expr) (wi : TI) : Prop :=
  ∀ (pins : List (Addr × Obj)) (s : Shared) (σ : St) (H : Hp) (R : It → Hp → Prop), Inv X pins σ H s → wi σ H R →
    wpAny (model X.prog X.w) X.A (eval iter X.env) (fun v s1 => wpAny (model X.prog X.w) X.A (pyIter v) (PIE X pins σ tg R) X.xe s1) X.xe s

/-- the step ahead of the store is nothing for an iterator that keeps no tuple -/
theorem go_of {M : Model} {A : Around} {E : Value → Shared → Prop} {s : Shared} {tg : Expr} {it : Addr} {u : Value} {o : Obj} {n : String} {vs : Array Value} {Q : Unit → Shared → Prop} (ho : s.heap.get? it = some o) (hc : o.cls = .type n) (hd : o.data = .fields vs)
    (hn : ["enumerate", "zip", "dict_itemiterator", "dict_reverseitemiterator", "odict_iterator", "itertools.zip_longest", "itertools.pairwise"].contains n = false) (hQ : Q () s) : wpAny M A (letOwnedTupleGo tg (.ref it) u) Q E s := by
  unfold letOwnedTupleGo
  cases tg <;> first
    | exact wpAny_pure hQ
    | (cases u <;> first
        | exact wpAny_pure hQ
        | (refine wpAny_bind (wpAny_load ho ?_)
           rw [hc, hd]
           show wpAny M A (if (["enumerate", "zip", "dict_itemiterator", "dict_reverseitemiterator", "odict_iterator", "itertools.zip_longest", "itertools.pairwise"].contains n && vs[0]? == some (rawInt _)) = true then _ else _) Q E s
           rw [if_neg (by intro h; rw [hn, Bool.false_and] at h; cases h)]
           exact wpAny_pure hQ))

/-- the list at a, as it stands at each turn (a loop may append to it) -/
def Itl (K : PySem.W.Frag) (a : Addr) : It :=
  ⟨fun i H => ∃ xs x, SqL K H a xs ∧ xs[i]? = some x, fun i H x H' => H' = H ∧ ∀ xs, SqL K H a xs → xs[i]? = some x, fun i H => ∃ xs, SqL K H a xs ∧ xs.length ≤ i⟩
def Itt (K : PySem.W.Frag) (a : Addr) : It :=
  ⟨fun i H => ∃ xs x, SqT K H a xs ∧ xs[i]? = some x, fun i H x H' => H' = H ∧ ∀ xs, SqT K H a xs → xs[i]? = some x, fun i H => ∃ xs, SqT K H a xs ∧ xs.length ≤ i⟩
/-- lo, lo + 1, .. (n of them) -/
def Itr (lo : Int) (n : Nat) : It := ⟨fun i _ => i < n, fun i H x H' => H' = H ∧ x = .int (lo + i), fun i _ => n ≤ i⟩
theorem turn_list {P : Program} {w : World} {K : PySem.W.Frag} {tg : Expr} (a it : Addr) : Turn P w K tg (Itl K a) [it] it (fun i h => h.IsListIter it a i) where
  mem := by simp
  obj := fun i h st b hb => by
    have e : b = it := by simpa using hb
    subst e
    obtain ⟨o, e, c, d⟩ := st
    exact ⟨o, e, fun v z => by rw [d] at z; cases z⟩
  keep := fun i h h' st k => st.at fun o e => k it (by simp) o e
  item := by
    intro X hP hw hK hc i pins s σ H E I hf st hg
    subst hP hw hK
    obtain ⟨xs, x, hq, hx⟩ := hg
    obtain ⟨its, rv, p, hz⟩ := I.list hq
    obtain ⟨u, hu, ru⟩ := rv.get hx
    obtain ⟨f0, f1, f2, f3, f4, f5⟩ := hf it (by simp)
    refine wpAny_pyNext_list_item st p.isList (x := u) (by simpa using hu) fun h' st' sb => ?_
    have I1 : Inv X pins σ H { s with heap := h' } := I.turned (t' := s.toks) (fun b o hb e => (sb.2 b hb).trans e) f0 f1 f3 f4 f5
    obtain ⟨o, e, c, d⟩ := id st'
    exact ⟨u, rfl, go_of (s := { s with heap := h' }) e c d (by decide) ⟨x, H, I1, ru, ⟨rfl, fun ys hy => by rw [I.list_inj hy hq]; exact hx⟩, st', fun b hb => (hf b hb).1⟩⟩
  done := by
    intro X hP hw hK hc i pins s σ H E I hf st hg
    subst hP hw hK
    obtain ⟨xs, hq, hx⟩ := hg
    obtain ⟨its, rv, p, hz⟩ := I.list hq
    obtain ⟨f0, f1, f2, f3, f4, f5⟩ := hf it (by simp)
    have hl := rv.length
    exact wpAny_pyNext_list_end (I.ok.hd hc) st p.isList (by simp; omega) fun h' eb => ⟨rfl, I.turned (t' := s.toks) (fun b o hb e => eb b o hb e) f0 f1 f3 f4 f5⟩
  self := fun _ _ _ _ _ st h => wpAny_pyIter_listiter st h
theorem turn_tuple {P : Program} {w : World} {K : PySem.W.Frag} {tg : Expr} (a it : Addr) : Turn P w K tg (Itt K a) [it] it (fun i h => h.IsTupleIter it a i) where
  mem := by simp
  obj := fun i h st b hb => by
    have e : b = it := by simpa using hb
    subst e
    obtain ⟨o, e, c, d⟩ := st
    exact ⟨o, e, fun v z => by rw [d] at z; cases z⟩
  keep := fun i h h' st k => st.at fun o e => k it (by simp) o e
  item := by
    intro X hP hw hK hc i pins s σ H E I hf st hg
    subst hP hw hK
    obtain ⟨xs, x, hq, hx⟩ := hg
    obtain ⟨its, rv, p, hz⟩ := I.tuple hq
    obtain ⟨u, hu, ru⟩ := rv.get hx
    obtain ⟨f0, f1, f2, f3, f4, f5⟩ := hf it (by simp)
    refine wpAny_pyNext_tuple_item st (show s.heap.IsTuple a its.toArray from p) (x := u) (by simpa using hu) fun h' st' sb => ?_
    have I1 : Inv X pins σ H { s with heap := h' } := I.turned (t' := s.toks) (fun b o hb e => (sb.2 b hb).trans e) f0 f1 f3 f4 f5
    obtain ⟨o, e, c, d⟩ := id st'
    exact ⟨u, rfl, go_of (s := { s with heap := h' }) e c d (by decide) ⟨x, H, I1, ru, ⟨rfl, fun ys hy => by rw [I.tuple_inj hy hq]; exact hx⟩, st', fun b hb => (hf b hb).1⟩⟩
  done := by
    intro X hP hw hK hc i pins s σ H E I hf st hg
    subst hP hw hK
    obtain ⟨xs, hq, hx⟩ := hg
    obtain ⟨its, rv, p, hz⟩ := I.tuple hq
    obtain ⟨f0, f1, f2, f3, f4, f5⟩ := hf it (by simp)
    have hl := rv.length
    exact wpAny_pyNext_tuple_end (I.ok.hd hc) st (show s.heap.IsTuple a its.toArray from p) (by simp; omega) fun h' eb => ⟨rfl, I.turned (t' := s.toks) (fun b o hb e => eb b o hb e) f0 f1 f3 f4 f5⟩
  self := fun _ _ _ _ _ st h => wpAny_pyIter_tupleiter st h
theorem turn_range {P : Program} {w : World} {K : PySem.W.Frag} {tg : Expr} (it : Addr) (lo : Int) (n : Nat) : Turn P w K tg (Itr lo n) [it] it (fun i h => IsRangeIter h it (lo + (i : Nat) * 1) ((n : Int) - (i : Nat)) 1) where
  mem := by simp
  obj := fun i h st b hb => by
    have e : b = it := by simpa using hb
    subst e
    exact ⟨_, st, fun v z => by
      have z' : Data.fields _ = Data.cell v := z
      cases z'⟩
  keep := fun i h h' st k => k it (by simp) _ st
  item := by
    intro X hP hw hK hc i pins s σ H E I hf st hg
    subst hP hw hK
    obtain ⟨f0, f1, f2, f3, f4, f5⟩ := hf it (by simp)
    have W := Walks.range (prog := X.prog) (w := X.w) (I.ok.hd hc) it lo 1 n
    refine W.item i s _ _ hg st fun v h' tk hv st' kk => ?_
    obtain ⟨t, rfl⟩ := hv
    have I1 : Inv X pins σ H { s with heap := h', toks := tk } := I.turned (fun b o hb e => kk b o (by simpa using hb) e) f0 f1 f3 f4 f5
    refine ⟨_, rfl, go_of (s := { s with heap := h', toks := tk }) (n := "range_iterator") st' rfl rfl (by decide) ⟨.int (lo + i), H, I1, ⟨t, ?_⟩, ⟨rfl, rfl⟩, st', fun b hb => (hf b hb).1⟩⟩
    rw [Int.mul_one]
  done := by
    intro X hP hw hK hc i pins s σ H E I hf st hg
    subst hP hw hK
    obtain ⟨f0, f1, f2, f3, f4, f5⟩ := hf it (by simp)
    exact wpAny_pyNext_range_end (I.ok.hd hc) st (by have : n ≤ i := hg; omega) fun h' eb => ⟨rfl, I.turned (t' := s.toks) (fun b o hb e => eb b o hb e) f0 f1 f3 f4 f5⟩
  self := fun _ _ _ _ _ st h => wpAny_pyIter_rangeiter st h
end L2

namespace L2
open PySem PySem.Spec PyProof.Rows
section
variable {X : Cx} {tg : Expr}
def iList (K : PySem.W.Frag) (tl : TE) : TI := fun σ H R => tl σ H fun x H1 => ∃ a, x = .ref a ∧ (∃ xs, SqL K H1 a xs) ∧ R (Itl K a) H1
def iTup (K : PySem.W.Frag) (tl : TE) : TI := fun σ H R => tl σ H fun x H1 => ∃ a, x = .ref a ∧ (∃ xs, SqT K H1 a xs) ∧ R (Itt K a) H1
theorem pi_list {l : Expr} {tl : TE} (hl : PE X l tl) : PI X tg l (iList X.K tl) := by
  intro pins s σ H R I h
  refine thn (hl pins s σ H _ I h) fun v s1 ⟨x, H1, I1, r1, q1⟩ => ?_
  obtain ⟨a, e, ⟨xs, hq⟩, q⟩ := q1
  subst e
  cases r1
  obtain ⟨its, rv, p, hz⟩ := I1.list hq
  refine wpAny_pyIter_list p.isList ?_
  refine ⟨s1.heap.objs.size, [s1.heap.objs.size], _, _, H1, rfl, I1.kept (t' := s1.toks) fun b o e => Heap.get?_push_of_some _ e, turn_list a _, ⟨_, Heap.get?_push_size _ rfl, rfl, rfl⟩, fun b hb => ?_, q⟩
  have e : b = s1.heap.objs.size := by simpa using hb
  subst e
  exact I1.fpOk (Nat.le_refl _) (I1.hok.fresh (Nat.le_refl _))
theorem pi_tup {l : Expr} {tl : TE} (hl : PE X l tl) : PI X tg l (iTup X.K tl) := by
  intro pins s σ H R I h
  refine thn (hl pins s σ H _ I h) fun v s1 ⟨x, H1, I1, r1, q1⟩ => ?_
  obtain ⟨a, e, ⟨xs, hq⟩, q⟩ := q1
  subst e
  cases r1
  obtain ⟨its, rv, p, hz⟩ := I1.tuple hq
  refine wpAny_pyIter_tuple (show s1.heap.IsTuple a its.toArray from p) ?_
  refine ⟨s1.heap.objs.size, [s1.heap.objs.size], _, _, H1, rfl, I1.kept (t' := s1.toks) fun b o e => Heap.get?_push_of_some _ e, turn_tuple a _, ⟨_, Heap.get?_push_size _ rfl, rfl, rfl⟩, fun b hb => ?_, q⟩
  have e : b = s1.heap.objs.size := by simpa using hb
  subst e
  exact I1.fpOk (Nat.le_refl _) (I1.hok.fresh (Nat.le_refl _))
/-- a range object just made, walked -/
theorem range_it {pins : List (Addr × Obj)} {σ : St} {H : Hp} {s : Shared} {R : It → Hp → Prop} {E : Value → Shared → Prop} {lo hi : Int} {t u v : Tok} {tk : Nat} (I : Inv X pins σ H s) (h1 : -(2 ^ 62) ≤ lo) (h2 : lo < 2 ^ 62) (h3 : -(2 ^ 62) ≤ hi) (h4 : hi < 2 ^ 62)
    (q : R (Itr lo (hi - lo).toNat) H) : wpAny (model X.prog X.w) X.A (pyIter (.ref s.heap.objs.size)) (PIE X pins σ tg R) E { s with heap := s.heap.push { cls := .type "range", data := .fields #[.int lo t, .int hi u, .int 1 v] }, toks := tk } := by
  refine wpAny_pyIter_range (IsRange.new ..) (small_one h1 h2 h3 h4) ?_
  have I1 : Inv X pins σ H { s with heap := s.heap.push { cls := .type "range", data := .fields #[.int lo t, .int hi u, .int 1 v] }, toks := tk } := I.kept fun b o e => Heap.get?_push_of_some _ e
  refine ⟨(s.heap.push { cls := .type "range", data := .fields #[.int lo t, .int hi u, .int 1 v] }).objs.size, [(s.heap.push { cls := .type "range", data := .fields #[.int lo t, .int hi u, .int 1 v] }).objs.size], _, _, H, rfl,
    I1.kept (t' := tk) fun b o e => Heap.get?_push_of_some _ e, turn_range _ lo (hi - lo).toNat, ?_, fun b hb => ?_, q⟩
  · have e1 : lo + ((0 : Nat) : Int) * 1 = lo := by simp
    have e2 : (((hi - lo).toNat : Nat) : Int) - ((0 : Nat) : Int) = Builtin.Range.rangeSize lo hi 1 := by rw [rangeSize_one]; split <;> omega
    show IsRangeIter _ _ (lo + ((0 : Nat) : Int) * 1) ((((hi - lo).toNat : Nat) : Int) - ((0 : Nat) : Int)) 1
    rw [e1, e2]
    exact Heap.get?_push_size _ rfl
  · have e : b = (s.heap.push { cls := .type "range", data := .fields #[.int lo t, .int hi u, .int 1 v] }).objs.size := by simpa using hb
    subst e
    exact I1.fpOk (Nat.le_refl _) (I1.hok.fresh (Nat.le_refl _))
def iRng1 (ta : TA) : TI := fun σ H R => ta σ H fun vs H1 => ∃ j : Int, vs = [.int j] ∧ -(2 ^ 62) ≤ j ∧ j < 2 ^ 62 ∧ R (Itr 0 j.toNat) H1
theorem pi_range1 {a : Expr} {ta : TA} {p pos : Pos} (hg : Gl X "range") (hm : X.mg "range" = none) (ha : PA X [a] ta) (hs : starEach [a] X.env = [(false, eval a X.env)] := by rfl) : PI X tg (.Call (.Name "range" p) [a] [] pos) (iRng1 ta) := by
  intro pins s σ H R I h
  refine Call_ (ld_blt I hg hm boot_range (PyProof.Rows.callWith_type1 (thn (ha pos pins s σ H _ I h) fun us s1 ⟨vs, H1, I1, r1, q1⟩ => ?_) hs rfl))
  obtain ⟨j, e, q1, q2, q⟩ := q1
  subst e
  cases r1 with
  | cons r rr =>
    cases rr
    obtain ⟨t, rfl⟩ := r
    exact call_range_1 (range_it I1 (by omega) (by omega) q1 q2 (by simpa using q))
/-! ### for -/
/-- W: the invariant by the turn and a measure; N: what the body is to reach -/
def tFor (wi : TI) (g : TG) (tb : TS) : TS := fun D σ H => wi σ H fun J H1 => ∃ W : Nat → Nat → St → Hp → Prop, (∃ m, W 0 m σ H1) ∧ ∀ i m σ H, W i m σ H →
  (J.stop i H ∧ D.nx σ H) ∨ (J.go i H ∧ ∃ N : St → Hp → Prop, (∀ σ' H', N σ' H' → ∃ m', m' < m ∧ W (i + 1) m' σ' H') ∧ ∀ x H', J.yld i H x H' → g x σ H' fun σ2 H2 => tb { D with nx := N, ct := N, bk := D.nx } σ2 H2)
/-- the records at fp as they stand -/
def pinsAt (fp : List Addr) (h : Heap) : List (Addr × Obj) := fp.filterMap fun b => (h.get? b).map fun o => (b, o)
theorem mem_pinsAt {fp : List Addr} {h : Heap} {b : Addr} {o : Obj} (hb : b ∈ fp) (e : h.get? b = some o) : (b, o) ∈ pinsAt fp h := List.mem_filterMap.mpr ⟨b, hb, by rw [e]; rfl⟩
theorem of_pinsAt {fp : List Addr} {h : Heap} {p : Addr × Obj} (hp : p ∈ pinsAt fp h) : p.1 ∈ fp ∧ h.get? p.1 = some p.2 := by
  obtain ⟨b, hb, e⟩ := List.mem_filterMap.mp hp
  cases q : h.get? b with
  | none => rw [q] at e; cases e
  | some o =>
    rw [q] at e
    have e' : (b, o) = p := Option.some.inj e
    subst e'
    exact ⟨hb, q⟩
theorem Inv.pinned {pins : List (Addr × Obj)} {σ : St} {H : Hp} {s : Shared} {fp : List Addr} (I : Inv X pins σ H s) (hf : ∀ b ∈ fp, FpOk X pins H b) (ho : ∀ b ∈ fp, ∃ o, s.heap.get? b = some o ∧ ∀ v, o.data ≠ .cell v) : Inv X (pins ++ pinsAt fp s.heap) σ H s :=
  I.pins_of fun p hp => (List.mem_append.mp hp).elim (fun z => I.pin p (List.mem_append_right _ z)) fun z => by
    obtain ⟨hb, e⟩ := of_pinsAt z
    obtain ⟨f0, f1, f2, _⟩ := hf p.1 hb
    obtain ⟨o, e', d⟩ := ho p.1 hb
    rw [e] at e'; cases e'
    exact ⟨e, f0, f1, f2, d⟩
theorem Inv.unpinned {pins pl : List (Addr × Obj)} {σ : St} {H : Hp} {s : Shared} (I : Inv X (pins ++ pl) σ H s) : Inv X pins σ H s := I.pins_of fun p hp => I.pin p (List.mem_append_right _ (List.mem_append_left _ hp))
theorem ps_for {iter : Expr} {body : List Stmt} {wi : TI} {g : TG} {tb : TS} {pos : Pos} (hp : PassesOwn (model X.prog X.w) X.A X.env X.xe) (hc : X.calm = true) (hi : PI X tg iter wi) (hg : PG X tg g) (hb : PSs X body tb)
    (hs : ∀ x, foldedSetIterable iter X.env x = pure x := by intro _; rfl) : PS X (.For tg iter body [] pos) (tFor wi g tb) := by
  intro pins s σ H D I h
  refine wpAny_For (thn (hi pins s σ H _ I h) fun v s1 h1 => thn h1 fun itv s2 h2 => ?_) hs
  obtain ⟨it, fp, tn, J, H2, e, I2, T, st2, f2, W, ⟨m0, w0⟩, turn⟩ := h2
  subst e
  -- what stays true of the iterator's objects through the loop
  have stat : ∀ {H' : Hp}, (∀ b ∈ fp, H' b = none) → ∀ b ∈ fp, FpOk X pins H' b := fun hn b hb => ⟨hn b hb, (f2 b hb).2⟩
  refine codeAny_forLoop_any (fun n s' => ∃ i σ' H', Inv X pins σ' H' s' ∧ tn i s'.heap ∧ (∀ b ∈ fp, H' b = none) ∧ W i n σ' H') ?_ m0 ⟨0, σ, H2, I2, st2, fun b hb => (f2 b hb).1, w0⟩
  rintro n s3 ⟨i, σ3, H3, I3, st3, fr3, w3⟩
  rcases turn i n σ3 H3 w3 with ⟨stop, qn⟩ | ⟨go, N, hN, step⟩
  · refine wpAny_passesOwn hp (thn (T.done X rfl rfl rfl hc i pins s3 σ3 H3 X.xe I3 (stat fr3) st3 stop) fun r s4 ⟨hr, I4⟩ => ?_)
    subst hr
    exact wpAny_execs_nil ⟨σ3, H3, I4, qn⟩
  · refine wpAny_passesOwn hp (thn (T.item X rfl rfl rfl hc i pins s3 σ3 H3 X.xe I3 (stat fr3) st3 go) fun r s4 ⟨u, hr, h4⟩ => ?_)
    subst hr
    refine wpAny_passesOwn hp (thn h4 fun _ s5 ⟨x, H5, I5, r5, y5, st5, fr5⟩ => ?_)
    have I5' := I5.pinned (stat fr5) (T.obj _ _ st5)
    refine wpAny_passesOwn hp (thn (hg _ s5 σ3 H5 x u _ I5' r5 (step x H5 y5)) fun _ s6 ⟨σ6, H6, I6, q6⟩ => ?_)
    refine wpAny_passesOwn hp (thn (hb _ s6 σ6 H6 _ I6 q6) fun f s7 q7 => ?_)
    have again : ∀ {σ7 : St} {H7 : Hp}, Inv X (pins ++ pinsAt fp s5.heap) σ7 H7 s7 → N σ7 H7 → ∃ m, m < n ∧ ∃ i σ' H', Inv X pins σ' H' s7 ∧ tn i s7.heap ∧ (∀ b ∈ fp, H' b = none) ∧ W i m σ' H' := fun {σ7 H7} I7 n7 => by
      obtain ⟨m', hm, w7⟩ := hN σ7 H7 n7
      refine ⟨m', hm, i + 1, σ7, H7, I7.unpinned, T.keep _ _ _ st5 fun b hb o e => (I7.pin (b, o) (List.mem_append_right _ (List.mem_append_right _ (mem_pinsAt hb e)))).1, fun b hb => ?_, w7⟩
      obtain ⟨o, e, d⟩ := T.obj _ _ st5 b hb
      exact (I7.pin (b, o) (List.mem_append_right _ (List.mem_append_right _ (mem_pinsAt hb e)))).2.1
    cases f with
    | next => obtain ⟨σ7, H7, I7, n7⟩ := q7; exact again I7 n7
    | cont => obtain ⟨σ7, H7, I7, n7⟩ := q7; exact again I7 n7
    | brk => obtain ⟨σ7, H7, I7, q7⟩ := q7; exact ⟨σ7, H7, I7.unpinned, q7⟩
    | ret v => obtain ⟨x7, σ7, H7, I7, r7, q7⟩ := q7; exact ⟨x7, σ7, H7, I7.unpinned, r7, q7⟩
end

/-! ### the forms one uses -/
theorem for_tup {K : PySem.W.Frag} {a : Addr} {xs : List V} {g : TG} {tb : TS} {D : Ends} {σ : St} {H : Hp} (Pv : Nat → St → Hp → Prop) (h0 : Pv 0 σ H) (hl : ∀ i σ H, i ≤ xs.length → Pv i σ H → SqT K H a xs)
    (hs : ∀ i x σ H, xs[i]? = some x → Pv i σ H → g x σ H fun σ2 H2 => tb { D with nx := Pv (i + 1), ct := Pv (i + 1), bk := D.nx } σ2 H2) (hd : ∀ σ H, Pv xs.length σ H → D.nx σ H) :
    ∃ W : Nat → Nat → St → Hp → Prop, (∃ m, W 0 m σ H) ∧ ∀ i m σ H, W i m σ H →
      ((Itt K a).stop i H ∧ D.nx σ H) ∨ ((Itt K a).go i H ∧ ∃ N : St → Hp → Prop, (∀ σ' H', N σ' H' → ∃ m', m' < m ∧ W (i + 1) m' σ' H') ∧ ∀ x H', (Itt K a).yld i H x H' → g x σ H' fun σ2 H2 => tb { D with nx := N, ct := N, bk := D.nx } σ2 H2) := by
  refine ⟨fun i m σ H => m = xs.length - i ∧ i ≤ xs.length ∧ Pv i σ H, ⟨xs.length, by simp, Nat.zero_le _, h0⟩, ?_⟩
  rintro i m σ H ⟨rfl, hi, p⟩
  have q := hl i σ H hi p
  by_cases hlt : i < xs.length
  · refine .inr ⟨⟨xs, xs[i], q, by simp [hlt]⟩, Pv (i + 1), fun σ' H' p' => ⟨xs.length - (i + 1), by omega, rfl, hlt, p'⟩, fun x H' y => ?_⟩
    obtain ⟨e, y⟩ := y
    subst e
    exact hs i x σ _ (y xs q) p
  · have e : i = xs.length := by omega
    subst e
    exact .inl ⟨⟨xs, q, Nat.le_refl _⟩, hd σ H p⟩
theorem for_range {lo : Int} {n : Nat} {g : TG} {tb : TS} {D : Ends} {σ : St} {H : Hp} (Pv : Nat → St → Hp → Prop) (h0 : Pv 0 σ H)
    (hs : ∀ i σ H, i < n → Pv i σ H → g (.int (lo + i)) σ H fun σ2 H2 => tb { D with nx := Pv (i + 1), ct := Pv (i + 1), bk := D.nx } σ2 H2) (hd : ∀ σ H, Pv n σ H → D.nx σ H) :
    ∃ W : Nat → Nat → St → Hp → Prop, (∃ m, W 0 m σ H) ∧ ∀ i m σ H, W i m σ H →
      ((Itr lo n).stop i H ∧ D.nx σ H) ∨ ((Itr lo n).go i H ∧ ∃ N : St → Hp → Prop, (∀ σ' H', N σ' H' → ∃ m', m' < m ∧ W (i + 1) m' σ' H') ∧ ∀ x H', (Itr lo n).yld i H x H' → g x σ H' fun σ2 H2 => tb { D with nx := N, ct := N, bk := D.nx } σ2 H2) := by
  refine ⟨fun i m σ H => m = n - i ∧ i ≤ n ∧ Pv i σ H, ⟨n, by simp, Nat.zero_le _, h0⟩, ?_⟩
  rintro i m σ H ⟨rfl, hi, p⟩
  by_cases hlt : i < n
  · refine .inr ⟨hlt, Pv (i + 1), fun σ' H' p' => ⟨n - (i + 1), by omega, rfl, hlt, p'⟩, fun x H' y => ?_⟩
    obtain ⟨e, y⟩ := y
    subst e y
    exact hs i σ _ hlt p
  · have e : i = n := by omega
    subst e
    exact .inl ⟨Nat.le_refl _, hd σ H p⟩
end L2

namespace L2
open PySem PySem.Spec PyProof.Rows

abbrev R2 := V → V → Hp → VK → Prop
/-- a two-place operation on values: f is binaryOp op, inplaceOp op or compareOp op -/
def OpR (X : Cx) (f : Value → Value → Sem Value) (r : R2) : Prop :=
  ∀ (pins : List (Addr × Obj)) (s : Shared) (σ : St) (H : Hp) (x y : V) (v u : Value) (Q : VK), Inv X pins σ H s → RelV x v → RelV y u → r x y H Q →
    wpAny (model X.prog X.w) X.A (f v u) (EP X pins σ Q) X.xe s
/-- a one-place operation -/
def UnR (X : Cx) (f : Value → Sem Value) (r : V → Hp → VK → Prop) : Prop :=
  ∀ (pins : List (Addr × Obj)) (s : Shared) (σ : St) (H : Hp) (x : V) (v : Value) (Q : VK), Inv X pins σ H s → RelV x v → r x H Q →
    wpAny (model X.prog X.w) X.A (f v) (EP X pins σ Q) X.xe s
/-- a call of a value that is known (a builtin, a type) with values -/
def CallR (X : Cx) (f : Value) (r : List V → Hp → VK → Prop) : Prop :=
  ∀ (pins : List (Addr × Obj)) (s : Shared) (σ : St) (H : Hp) (xs : List V) (us : List Value) (Q : VK), Inv X pins σ H s → Vals xs us → r xs H Q →
    wpAny (model X.prog X.w) X.A (call f us) (EP X pins σ Q) X.xe s
def tOp (r : R2) (ta tb : TE) : TE := fun σ H Q => ta σ H fun x H1 => tb σ H1 fun y H2 => r x y H2 Q
def tUn (r : V → Hp → VK → Prop) (ta : TE) : TE := fun σ H Q => ta σ H fun x H1 => r x H1 Q
/-- ints in, under C, and a value out -/
def rI (C : Int → Int → Prop) (g : Int → Int → V) : R2 := fun x y H Q => ∃ i j, x = .int i ∧ y = .int j ∧ C i j ∧ Q (g i j) H
def rI0 (g : Int → Int → V) : R2 := fun x y H Q => ∃ i j, x = .int i ∧ y = .int j ∧ Q (g i j) H
def rU (g : Int → V) : V → Hp → VK → Prop := fun x H Q => ∃ i, x = .int i ∧ Q (g i) H

section
variable {X : Cx} {a b c : Expr} {ta tb tc : TE} {pos : Pos}

theorem binT (ha : PE X a ta) (hb : PE X b tb) {pins : List (Addr × Obj)} {s : Shared} {σ : St} {H : Hp} {R : V → V → Hp → Prop} (I : Inv X pins σ H s)
    (h : ta σ H fun x H1 => tb σ H1 fun y H2 => R x y H2) {Q : Value → Shared → Prop} {f : Value → Value → Sem Value}
    (hf : ∀ v u s2 x y H2, Inv X pins σ H2 s2 → RelV x v → RelV y u → R x y H2 → wpAny (model X.prog X.w) X.A (f v u) Q X.xe s2) :
    wpAny (model X.prog X.w) X.A (eval a X.env) (fun v s₁ => wpAny (model X.prog X.w) X.A (eval b X.env) (fun u s₂ => wpAny (model X.prog X.w) X.A (f v u) Q X.xe s₂) X.xe s₁) X.xe s := by
  refine thn (ha pins s σ H _ I h) fun v s1 ⟨x, H1, I1, r1, q1⟩ => ?_
  refine thn (hb pins s1 σ H1 _ I1 q1) fun u s2 ⟨y, H2, I2, r2, q2⟩ => ?_
  exact hf v u s2 x y H2 I2 r1 r2 q2

theorem pe_op {op : Operator} {r : R2} (ho : OpR X (binaryOp op) r) (ha : PE X a ta) (hb : PE X b tb) : PE X (.BinOp a op b pos) (tOp r ta tb) := by
  intro pins s σ H Q I h
  exact wpAny_BinOp (binT ha hb I h fun v u s2 x y H2 I2 rx ry q => ho pins s2 σ H2 x y v u Q I2 rx ry q)
theorem pe_un {op : UnaryOp} {r : V → Hp → VK → Prop} (ho : UnR X (unaryOp op) r) (ha : PE X a ta) : PE X (.UnaryOp op a pos) (tUn r ta) := by
  intro pins s σ H Q I h
  exact UnaryOp_ (thn (ha pins s σ H _ I h) fun v s1 ⟨x, H1, I1, r1, q1⟩ => ho pins s1 σ H1 x v Q I1 r1 q1)
/-! ### ints -/
theorem opI {f : Value → Value → Sem Value} {C : Int → Int → Prop} {g : Int → Int → Int}
    (rule : ∀ (i j : Int) (t u : Tok) (s : Shared) (Q : Value → Shared → Prop) (E : Value → Shared → Prop), C i j → Q (.int (g i j) s.toks) { s with toks := s.toks + 1 } → wpAny (model X.prog X.w) X.A (f (.int i t) (.int j u)) Q E s) :
    OpR X f (rI C fun i j => .int (g i j)) := by
  intro pins s σ H x y v u Q I rx ry h
  obtain ⟨i, j, rfl, rfl, hc, q⟩ := h
  obtain ⟨t, rfl⟩ := rx
  obtain ⟨t', rfl⟩ := ry
  exact rule i j t t' s _ _ hc ⟨.int (g i j), H, I.tok _, ⟨_, rfl⟩, q⟩
theorem opI0 {f : Value → Value → Sem Value} {g : Int → Int → Int}
    (rule : ∀ (i j : Int) (t u : Tok) (s : Shared) (Q : Value → Shared → Prop) (E : Value → Shared → Prop), Q (.int (g i j) s.toks) { s with toks := s.toks + 1 } → wpAny (model X.prog X.w) X.A (f (.int i t) (.int j u)) Q E s) :
    OpR X f (rI0 fun i j => .int (g i j)) := by
  intro pins s σ H x y v u Q I rx ry h
  obtain ⟨i, j, rfl, rfl, q⟩ := h
  obtain ⟨t, rfl⟩ := rx
  obtain ⟨t', rfl⟩ := ry
  exact rule i j t t' s _ _ ⟨.int (g i j), H, I.tok _, ⟨_, rfl⟩, q⟩
theorem opB0 {f : Value → Value → Sem Value} {g : Int → Int → Bool}
    (rule : ∀ (i j : Int) (t u : Tok) (s : Shared) (Q : Value → Shared → Prop) (E : Value → Shared → Prop), Q (.bool (g i j)) s → wpAny (model X.prog X.w) X.A (f (.int i t) (.int j u)) Q E s) :
    OpR X f (rI0 fun i j => .bl (g i j)) := by
  intro pins s σ H x y v u Q I rx ry h
  obtain ⟨i, j, rfl, rfl, q⟩ := h
  obtain ⟨t, rfl⟩ := rx
  obtain ⟨t', rfl⟩ := ry
  exact rule i j t t' s _ _ ⟨.bl (g i j), H, I, rfl, q⟩

def CDiv (i j : Int) : Prop := 0 < j ∧ j < 1073741824
def CPow (i j : Int) : Prop := 0 ≤ j ∧ j ≤ 1000000 ∧ i.natAbs < 2 ^ 64
def CMul (i j : Int) : Prop := (-(2 ^ 64) < i ∧ i < 2 ^ 64) ∨ (-(2 ^ 64) < j ∧ j < 2 ^ 64)
theorem CMul.ok {i j : Int} (h : CMul i j) : IntMulOk i j := by
  rcases h with ⟨h1, h2⟩ | ⟨h1, h2⟩
  · exact .of_left (intBits_le_64 h1 h2)
  · exact .of_right (intBits_le_64 h1 h2)
theorem op_add : OpR X (binaryOp .Add) (rI0 fun i j => .int (i + j)) := opI0 fun _ _ _ _ _ _ _ q => add_int q
theorem op_mul : OpR X (binaryOp .Mult) (rI CMul fun i j => .int (i * j)) := opI fun _ _ _ _ _ _ _ hc q => mul_int q hc.ok
/-- // by a positive divisor -/
theorem op_fdiv : OpR X (binaryOp .FloorDiv) (rI CDiv fun i j => .int (i / j)) := opI fun i j _ _ _ _ _ hc q => by
  have h1 : (0 : Int) < j := hc.1
  have h2 : j < 1073741824 := hc.2
  exact floordiv_int (by omega) (by rw [Int.fdiv_eq_ediv_of_nonneg i (by omega)]; exact q) (.inl (PyProof.noPylong_small (by omega)))
/-- % by a positive divisor of any size -/
theorem op_mod : OpR X (binaryOp .Mod) (rI (fun _ j => 0 < j) fun i j => .int (i % j)) := opI fun i j _ _ _ _ _ hc q => by
  have h1 : (0 : Int) < j := hc
  exact mod_int' (by omega) (by rw [Int.fmod_eq_emod_of_nonneg i (by omega)]; exact q)
theorem op_pow : OpR X (binaryOp .Pow) (rI CPow fun i j => .int (i ^ j.toNat)) := opI fun _ _ _ _ _ _ _ hc q => pow_int_small hc.1 hc.2.1 hc.2.2 q
theorem unI {f : Value → Sem Value} {g : Int → Int}
    (rule : ∀ (i : Int) (t : Tok) (s : Shared) (Q : Value → Shared → Prop) (E : Value → Shared → Prop), Q (.int (g i) s.toks) { s with toks := s.toks + 1 } → wpAny (model X.prog X.w) X.A (f (.int i t)) Q E s) :
    UnR X f (rU fun i => .int (g i)) := by
  intro pins s σ H x v Q I rx h
  obtain ⟨i, rfl, q⟩ := h
  obtain ⟨t, rfl⟩ := rx
  exact rule i t s _ _ ⟨.int (g i), H, I.tok _, ⟨_, rfl⟩, q⟩
theorem un_neg : UnR X (unaryOp .USub) (rU fun i => .int (-i)) := unI fun _ _ _ _ _ q => neg_int q
/-! ### bools among ints: n += (a < b) -/
end

/-! ### comparisons -/
/-- the scalars that == tells apart as data does -/
def scal : V → V → Bool
  | .non, .non => true | .non, .int _ => true | .int _, .non => true | .non, .bl _ => true | .bl _, .non => true | .non, .str _ => true | .str _, .non => true
  | .int _, .int _ => true | .bl _, .bl _ => true | .str _, .str _ => true | .byt _, .byt _ => true
  | .int _, .str _ => true | .str _, .int _ => true | .bl _, .str _ => true | .str _, .bl _ => true
  | _, _ => false
def rEq : R2 := fun x y H Q => scal x y = true ∧ Q (.bl (decide (x = y))) H
def rNe : R2 := fun x y H Q => scal x y = true ∧ Q (.bl (!decide (x = y))) H

theorem dec_int {i j : Int} : decide (V.int i = V.int j) = (i == j) := by
  rw [Bool.eq_iff_iff]
  simp
theorem dec_bl {i j : Bool} : decide (V.bl i = V.bl j) = (i == j) := by
  rw [Bool.eq_iff_iff]
  simp
theorem dec_str {i j : Str} : decide (V.str i = V.str j) = (i == j) := by
  rw [Bool.eq_iff_iff]
  simp
theorem dec_byt {i j : Array UInt8} : decide (V.byt i = V.byt j) = (i.toList == j.toList) := by
  rw [Bool.eq_iff_iff]
  cases i
  cases j
  simp

section
variable {X : Cx} {a b c : Expr} {ta tb tc : TE} {pos : Pos}
theorem fin_bl {pins : List (Addr × Obj)} {σ : St} {H : Hp} {s : Shared} {Q : VK} {k k' : Bool} (I : Inv X pins σ H s) (q : Q (.bl k) H) (e : k = k') : EP X pins σ Q (.bool k') s := by
  subst e
  exact ⟨.bl k, H, I, rfl, q⟩
theorem op_eq : OpR X (compareOp .Eq) rEq := by
  intro pins s σ H x y v u Q I rx ry h
  obtain ⟨hs, q⟩ := h
  cases x with
  | non =>
    cases rx
    cases y with
    | non => cases ry; exact PySem.EqNone.eq_none_none (fin_bl I q (by simp))
    | bl j => cases ry; exact PySem.EqNone.eq_none_bool (fin_bl I q (by simp))
    | int j => obtain ⟨t', rfl⟩ := ry; exact PySem.EqNone.eq_none_int (fin_bl I q (by simp))
    | str j => obtain ⟨t', rfl⟩ := ry; exact PySem.EqNone.eq_none_str (fin_bl I q (by simp))
    | _ => exact absurd (show false = true from hs) Bool.false_ne_true
  | bl i =>
    cases rx
    cases y with
    | non => cases ry; exact PySem.EqNone.eq_bool_none (fin_bl I q (by simp))
    | bl j => cases ry; exact eq_bool (fin_bl I q dec_bl)
    | str j => obtain ⟨t', rfl⟩ := ry; exact PySem.EqMixed.eq_bool_str (fin_bl I q (by simp))
    | _ => exact absurd (show false = true from hs) Bool.false_ne_true
  | int i =>
    obtain ⟨t, rfl⟩ := rx
    cases y with
    | non => cases ry; exact PySem.EqNone.eq_int_none (fin_bl I q (by simp))
    | int j => obtain ⟨t', rfl⟩ := ry; exact eq_int (fin_bl I q dec_int)
    | str j => obtain ⟨t', rfl⟩ := ry; exact PySem.EqMixed.eq_int_str (fin_bl I q (by simp))
    | _ => exact absurd (show false = true from hs) Bool.false_ne_true
  | str i =>
    obtain ⟨t, rfl⟩ := rx
    cases y with
    | non => cases ry; exact PySem.EqNone.eq_str_none (fin_bl I q (by simp))
    | bl j => cases ry; exact PySem.EqMixed.eq_str_bool (fin_bl I q (by simp))
    | int j => obtain ⟨t', rfl⟩ := ry; exact PySem.EqMixed.eq_str_int (fin_bl I q (by simp))
    | str j => obtain ⟨t', rfl⟩ := ry; exact eq_str (fin_bl I q dec_str)
    | _ => exact absurd (show false = true from hs) Bool.false_ne_true
  | byt i =>
    obtain ⟨t, rfl⟩ := rx
    cases y with
    | byt j => obtain ⟨t', rfl⟩ := ry; exact PySem.W.eq_bytes (fin_bl I q dec_byt)
    | _ => exact absurd (show false = true from hs) Bool.false_ne_true
  | _ => cases y <;> exact absurd (show false = true from hs) Bool.false_ne_true
theorem op_ne : OpR X (compareOp .NotEq) rNe := by
  intro pins s σ H x y v u Q I rx ry h
  obtain ⟨hs, q⟩ := h
  cases x with
  | non =>
    cases rx
    cases y with
    | non => cases ry; exact PySem.EqNone.ne_none_none (fin_bl I q (by simp))
    | bl j => cases ry; exact PySem.EqNone.ne_none_bool (fin_bl I q (by simp))
    | int j => obtain ⟨t', rfl⟩ := ry; exact PySem.EqNone.ne_none_int (fin_bl I q (by simp))
    | str j => obtain ⟨t', rfl⟩ := ry; exact PySem.EqNone.ne_none_str (fin_bl I q (by simp))
    | _ => exact absurd (show false = true from hs) Bool.false_ne_true
  | bl i =>
    cases rx
    cases y with
    | non => cases ry; exact PySem.EqNone.ne_bool_none (fin_bl I q (by simp))
    | bl j => cases ry; exact ne_bool (fin_bl I q (congrArg not dec_bl))
    | str j => obtain ⟨t', rfl⟩ := ry; exact PySem.EqMixed.ne_bool_str (fin_bl I q (by simp))
    | _ => exact absurd (show false = true from hs) Bool.false_ne_true
  | int i =>
    obtain ⟨t, rfl⟩ := rx
    cases y with
    | non => cases ry; exact PySem.EqNone.ne_int_none (fin_bl I q (by simp))
    | int j => obtain ⟨t', rfl⟩ := ry; exact ne_int (fin_bl I q (congrArg not dec_int))
    | str j => obtain ⟨t', rfl⟩ := ry; exact PySem.EqMixed.ne_int_str (fin_bl I q (by simp))
    | _ => exact absurd (show false = true from hs) Bool.false_ne_true
  | str i =>
    obtain ⟨t, rfl⟩ := rx
    cases y with
    | non => cases ry; exact PySem.EqNone.ne_str_none (fin_bl I q (by simp))
    | bl j => cases ry; exact PySem.EqMixed.ne_str_bool (fin_bl I q (by simp))
    | int j => obtain ⟨t', rfl⟩ := ry; exact PySem.EqMixed.ne_str_int (fin_bl I q (by simp))
    | str j => obtain ⟨t', rfl⟩ := ry; exact ne_str (fin_bl I q (congrArg not dec_str))
    | _ => exact absurd (show false = true from hs) Bool.false_ne_true
  | byt i =>
    obtain ⟨t, rfl⟩ := rx
    cases y with
    | byt j => obtain ⟨t', rfl⟩ := ry; exact PySem.W.ne_bytes (fin_bl I q (congrArg not dec_byt))
    | _ => exact absurd (show false = true from hs) Bool.false_ne_true
  | _ => cases y <;> exact absurd (show false = true from hs) Bool.false_ne_true

theorem op_lt : OpR X (compareOp .Lt) (rI0 fun i j => .bl (decide (i < j))) := opB0 fun _ _ _ _ _ _ _ q => lt_int q
theorem op_le : OpR X (compareOp .LtE) (rI0 fun i j => .bl (decide (i ≤ j))) := opB0 fun _ _ _ _ _ _ _ q => le_int q
theorem op_gt : OpR X (compareOp .Gt) (rI0 fun i j => .bl (decide (j < i))) := opB0 fun _ _ _ _ _ _ _ q => gt_int q
theorem op_ge : OpR X (compareOp .GtE) (rI0 fun i j => .bl (decide (j ≤ i))) := opB0 fun _ _ _ _ _ _ _ q => ge_int q
/-- the one string within the other -/
theorem op_in_str : OpR X (compareOp .In) (fun x y H Q => ∃ i j, x = .str i ∧ y = .str j ∧ Q (.bl (!(Builtin.Str.occurrences j i 0 j.length 1).isEmpty)) H) := by
  intro pins s σ H x y v u Q I rx ry h
  obtain ⟨i, j, rfl, rfl, q⟩ := h
  obtain ⟨t, rfl⟩ := rx
  obtain ⟨t', rfl⟩ := ry
  exact in_str (fin_bl I q rfl)

/-- is None, is not None: the right side a value none -/
theorem op_isN : OpR X (compareOp .Is) (fun x y H Q => y = .non ∧ Q (.bl (decide (x = .non))) H) := by
  intro pins s σ H x y v u Q I rx ry h
  obtain ⟨rfl, q⟩ := h
  cases ry
  refine is_none_gen (fin_bl I q ?_)
  cases x <;> first
    | (cases rx; rfl)
    | (obtain ⟨t, rfl⟩ := rx; rfl)
theorem op_notN : OpR X (compareOp .IsNot) (fun x y H Q => y = .non ∧ Q (.bl (!decide (x = .non))) H) := by
  intro pins s σ H x y v u Q I rx ry h
  obtain ⟨rfl, q⟩ := h
  cases ry
  refine isnot_none_gen (fin_bl I q ?_)
  cases x <;> first
    | (cases rx; rfl)
    | (obtain ⟨t, rfl⟩ := rx; rfl)

theorem nomark (b : Expr) {op : CmpOp} (h : op ≠ .In := by decide) (h2 : op ≠ .NotIn := by decide) : behindInMarks op b = false := by
  have e1 : (op == CmpOp.In) = false := by cases op <;> first | rfl | exact absurd rfl h
  have e2 : (op == CmpOp.NotIn) = false := by cases op <;> first | rfl | exact absurd rfl h2
  cases b <;> simp [behindInMarks, e1, e2]
/-- a comparison as a value; hm: nomark b, or (for in, not in) by with_unfolding_all rfl -/
theorem pe_cmpR {op : CmpOp} {r : R2} (ho : OpR X (compareOp op) r) (ha : PE X a ta) (hb : PE X b tb) (hm : behindInMarks op b = false) : PE X (.Compare a [op] [b] pos) (tOp r ta tb) := by
  intro pins s σ H Q I h
  exact wpAny_Compare1 (binT ha hb I h fun v u s2 x y H2 I2 rx ry q => ho pins s2 σ H2 x y v u Q I2 rx ry q) hm
/-- a reading of a value as a test -/
def tTest (t : TE) : TT := fun σ H Q => t σ H fun x H' => ∃ k, x = .bl k ∧ Q k H'
theorem pt_cmpR {op : CmpOp} {r : R2} (ho : OpR X (compareOp op) r) (ha : PE X a ta) (hb : PE X b tb) (hm : behindInMarks op b = false) : PT X (.Compare a [op] [b] pos) (tTest (tOp r ta tb)) := by
  intro pins s σ H Q I h
  refine wpAny_isTrue_Compare1 (thn (ha pins s σ H _ I h) fun v s1 ⟨x, H1, I1, r1, q1⟩ => thn (hb pins s1 σ H1 _ I1 q1) fun u s2 ⟨y, H2, I2, r2, q2⟩ =>
    thn (ho pins s2 σ H2 x y v u _ I2 r1 r2 q2) fun c s3 ⟨z, H3, I3, r3, k, e, q3⟩ => ?_) hm
  subst e
  cases r3
  exact wpAny_truthy_bool ⟨H3, I3, q3⟩
/-- a op1 b op2 c -/
def tChain (r r' : R2) (ta tb tc : TE) : TE := fun σ H Q => ta σ H fun x H1 => tb σ H1 fun y H2 => r x y H2 fun z H3 => ∃ k, z = .bl k ∧
  (if k = true then tc σ H3 fun w' H4 => r' y w' H4 Q else Q (.bl false) H3)
theorem pe_chain {op op' : CmpOp} {r r' : R2} (ho : OpR X (compareOp op) r) (ho' : OpR X (compareOp op') r') (ha : PE X a ta) (hb : PE X b tb) (hc : PE X c tc)
    (hm : lastMarks [op, op'] [b, c] = false := by with_unfolding_all rfl) : PE X (.Compare a [op, op'] [b, c] pos) (tChain r r' ta tb tc) := by
  intro pins s σ H Q I h
  refine Compare_chain (thn (ha pins s σ H _ I h) fun v s1 ⟨x, H1, I1, r1, q1⟩ => chain_link (thn (hb pins s1 σ H1 _ I1 q1) fun u s2 ⟨y, H2, I2, r2, q2⟩ =>
    thn (ho pins s2 σ H2 x y v u _ I2 r1 r2 q2) fun d s3 ⟨z, H3, I3, r3, k, e, q3⟩ => ?_)) hm
  subst e
  cases r3
  refine wpAny_truthy_bool ?_
  cases k with
  | false => exact ite_ff ⟨.bl false, H3, I3, rfl, q3⟩
  | true => exact ite_tt (chain_last (thn (hc pins s3 σ H3 _ I3 q3) fun w' s4 ⟨z', H4, I4, r4, q4⟩ => ho' pins s4 σ H4 y z' u w' Q I4 r2 r4 q4))
theorem pt_chain {op op' : CmpOp} {r r' : R2} (ho : OpR X (compareOp op) r) (ho' : OpR X (compareOp op') r') (ha : PE X a ta) (hb : PE X b tb) (hc : PE X c tc)
    (hm : lastMarks [op, op'] [b, c] = false := by with_unfolding_all rfl) : PT X (.Compare a [op, op'] [b, c] pos) (tTest (tChain r r' ta tb tc)) := by
  intro pins s σ H Q I h
  refine isTrue_chain (thn (ha pins s σ H _ I h) fun v s1 ⟨x, H1, I1, r1, q1⟩ => test_link (thn (hb pins s1 σ H1 _ I1 q1) fun u s2 ⟨y, H2, I2, r2, q2⟩ =>
    thn (ho pins s2 σ H2 x y v u _ I2 r1 r2 q2) fun d s3 ⟨z, H3, I3, r3, k, e, q3⟩ => ?_)) hm
  subst e
  cases r3
  refine wpAny_truthy_bool ?_
  cases k with
  | false =>
    obtain ⟨k', e', q'⟩ := q3
    cases e'
    exact ite_ff ⟨H3, I3, q'⟩
  | true =>
    refine ite_tt (test_last (thn (hc pins s3 σ H3 _ I3 q3) fun w' s4 ⟨z', H4, I4, r4, q4⟩ => thn (ho' pins s4 σ H4 y z' u w' _ I4 r2 r4 q4) fun d' s5 ⟨z2, H5, I5, r5, k2, e2, q5⟩ => ?_))
    subst e2
    cases r5
    exact wpAny_truthy_bool ⟨H5, I5, q5⟩

/-! ### truth -/
theorem line63 : (sizeLine : Nat) < 2 ^ 63 := by rw [sizeLine_eq]; decide
/-! ### strs and bytes -/
/-! ### scalar builtins, by CallR -/
theorem vals1 {x : V} {us : List Value} (r : Vals [x] us) : ∃ u, us = [u] ∧ RelV x u := by
  cases r with
  | cons r1 r2 => cases r2; exact ⟨_, rfl, r1⟩
theorem vals2 {x y : V} {us : List Value} (r : Vals [x, y] us) : ∃ u w', us = [u, w'] ∧ RelV x u ∧ RelV y w' := by
  cases r with
  | cons r1 r2 =>
    cases r2 with
    | cons r3 r4 => cases r4; exact ⟨_, _, rfl, r1, r3⟩
theorem call_abs : CallR X (.builtin "abs") (fun xs H Q => ∃ i, xs = [.int i] ∧ Q (.int (if i < 0 then -i else i)) H) := by
  intro pins s σ H xs us Q I r h
  obtain ⟨i, rfl, q⟩ := h
  obtain ⟨u, rfl, t, rfl⟩ := vals1 r
  exact call_abs_int fun u tk => ⟨.int (if i < 0 then -i else i), H, I.tok _, ⟨_, rfl⟩, q⟩
theorem call_str_int : CallR X (.type "str") (fun xs H Q => ∃ i, xs = [.int i] ∧ i.natAbs.log2 < 1920 ∧ Q (.str (toString i)) H) := by
  intro pins s σ H xs us Q I r h
  obtain ⟨i, rfl, hz, q⟩ := h
  obtain ⟨u, rfl, t, rfl⟩ := vals1 r
  exact PySem.P.str_of_int hz ⟨.str _, H, I.tok _, ⟨_, rfl⟩, q⟩
/-- len of a str, a bytes, a list, a tuple -/
def LenV (K : PySem.W.Frag) (x : V) (H : Hp) (n : Nat) : Prop :=
  match x with
  | .str y => y.length ≤ sizeLine ∧ n = y.length
  | .byt y => y.size ≤ sizeLine ∧ n = y.size
  | .ref p => (∃ xs, SqL K H p xs ∧ n = xs.length) ∨ ∃ xs, SqT K H p xs ∧ n = xs.length
  | _ => False
theorem call_len : CallR X (.builtin "len") (fun xs H Q => ∃ x n, xs = [x] ∧ LenV X.K x H n ∧ Q (.int n) H) := by
  intro pins s σ H xs us Q I r h
  obtain ⟨x, n, rfl, e, q⟩ := h
  obtain ⟨u, rfl, rx⟩ := vals1 r
  have hl := line63
  have hs : sizeLine = 16777216 := sizeLine_eq
  cases x with
  | str y =>
    obtain ⟨t, rfl⟩ := rx
    obtain ⟨hy, e'⟩ : y.length ≤ sizeLine ∧ n = y.length := e
    subst e'
    exact len_str (by omega) ⟨.int _, H, I.tok _, ⟨_, rfl⟩, q⟩
  | byt y =>
    obtain ⟨t, rfl⟩ := rx
    obtain ⟨hy, e'⟩ : y.size ≤ sizeLine ∧ n = y.size := e
    subst e'
    exact PySem.W.len_bytes (by omega) ⟨.int _, H, I.tok _, ⟨_, rfl⟩, q⟩
  | ref p =>
    cases rx
    have e' : (∃ xs, SqL X.K H p xs ∧ n = xs.length) ∨ ∃ xs, SqT X.K H p xs ∧ n = xs.length := e
    rcases e' with ⟨xs, hx, e'⟩ | ⟨xs, hx, e'⟩
    · subst e'
      obtain ⟨its, r', pl, hz⟩ := I.list hx
      have hlen := r'.length
      exact Calls.call_len_list pl.isList (by simp only [List.size_toArray]; omega) ⟨.int xs.length, H, I.tok _, ⟨_, by simp only [List.size_toArray]; rw [hlen]⟩, q⟩
    · subst e'
      obtain ⟨its, r', pl, hz⟩ := I.tuple hx
      have hlen := r'.length
      exact len_tuple pl (by simp only [List.size_toArray]; omega) ⟨.int xs.length, H, I.tok _, ⟨_, by simp only [List.size_toArray]; rw [hlen]⟩, q⟩
  | _ => exact (show False from e).elim
end
end L2

namespace L2
open PySem PySem.Spec PyProof.Rows

/-! ### an instance, its attributes a map -/
structure ObjM (h : Heap) (x dx C : Addr) (mA : Str → Option Value) : Prop where
  obj : h.get? x = some (PySem.W.instObj C dx)
  ns : h.Ns1 dx mA
  ne : dx ≠ x

theorem lookIn_ns {h : Heap} {dx : Addr} {mA : Str → Option Value} (n : h.Ns1 dx mA) : ∃ od, h.get? dx = some od ∧ ∀ name, PySem.W.lookIn name od = some (mA name) := by
  obtain ⟨o, es, ep, ho, hd, hk, _, hm⟩ := n
  refine ⟨o, ho, fun name => ?_⟩
  have e := hm name
  unfold nsFind findBy at e
  rw [← Array.find?_toList] at e
  unfold PySem.W.lookIn
  rw [hd]
  dsimp only
  split
  · rename_i y q
    rw [q] at e
    exact congrArg some e
  · rename_i q
    rw [q] at e
    have a : es.toList.any (·.refKey) = false := by
      rw [List.any_eq_false]
      intro y hy
      obtain ⟨z, t, hkey⟩ := hk y (Array.mem_toList_iff.mp hy)
      simp [DictEntry.refKey, hkey]
    have a' : ¬ es.toList.any (·.refKey) = true := by rw [a]; exact Bool.false_ne_true
    rw [if_neg a']
    exact congrArg some e

theorem ObjM.look {h : Heap} {x dx C : Addr} {mA : Str → Option Value} (I : ObjM h x dx C mA) : ∃ od, PySem.W.InstAt h x (PySem.W.instObj C dx) C (some od) ∧ ∀ name, PySem.W.lookIn name od = some (mA name) :=
  let ⟨od, ho, hl⟩ := lookIn_ns I.ns
  ⟨od, ⟨I.obj, rfl, rfl, ho⟩, hl⟩

section
variable {prog : Program} {w : World} {A : Around} {E : Value → Shared → Prop} {s : Shared} {K : PySem.W.Frag} {x dx C f : Addr} {mA : Str → Option Value} {name : Str} {v : Value}

end

/-! ### the attributes as a list of pairs -/
section
variable {P : Program} {w : World} {H H' : Hp} {h h' : Heap} {a C dx : Addr} {fs fs' : List (Str × V)}
theorem ins_get (hok : HOk P w H h) (e : H a = some (.ins C dx fs)) : ∃ mA, ObjM h a dx C mA ∧ (∀ f, RelO (fs.lookup f) (mA f)) ∧ PySem.Within mA (fs.map (·.1)) ∧ fs.length ≤ 1000 ∧ H dx = some (.own a) := by
  obtain ⟨d, z, ne, ob, mA, n, r, q⟩ := (show ObjOk P w H h a (.ins C dx fs) from hok a _ e)
  exact ⟨mA, ⟨ob, n, ne⟩, r, q, z, d⟩
end

/-! ### what of the text a class must have -/
structure Cls (K : PySem.W.Frag) (C : Addr) : Prop where
  pg : PySem.W.plainGet K C Str.empty = true
  hd : PySem.W.hasDictIn K C = true
  po : PySem.W.plainOver K C = true
  sa : PySem.W.findIn K (.ref C) "__setattr__" = some (some (.builtin "object.__setattr__"))
theorem Cls.get {K : PySem.W.Frag} {C : Addr} (c : Cls K C) (f : Str) : PySem.W.plainGet K C f = true := c.pg
section
variable {X : Cx} {pins : List (Addr × Obj)} {σ : St} {H : Hp} {s : Shared} {a C dx : Addr} {fs : List (Str × V)} {f : Str} {v : V} {A : Around} {E : Value → Shared → Prop}

end

/-! ### readings and rules -/
section
variable {X : Cx} {o e value : Expr} {f : Str} {pos pos' tpos : Pos} {ta tv : TE}
end

/-! ### isinstance -/
section
variable {X : Cx} {pins : List (Addr × Obj)} {σ : St} {H : Hp} {s : Shared} {A : Around} {E : Value → Shared → Prop} {Q : Value → Shared → Prop} {c : Value} {b : Bool}
/-- the type of a value, as the fragment's deciders take it; for an instance its class -/
inductive TyOf (K : PySem.W.Frag) (H : Hp) : V → Value → Prop where
  | non : TyOf K H .non (.type "NoneType")
  | bl (x : Bool) : TyOf K H (.bl x) (.type "bool")
  | int (i : Int) : TyOf K H (.int i) (.type "int")
  | str (x : Str) : TyOf K H (.str x) (.type "str")
  | flt (x : UInt64) : TyOf K H (.flt x) (.type "float")
  | lst {a : Addr} {xs : List V} (e : H a = some (.lst xs)) : TyOf K H (.ref a) (.type "list")
  | frz {a : Addr} {o : Obj} {xs : List V} (e : H a = some (.frz o (.lst xs))) : TyOf K H (.ref a) (.type "list")
  | tup {a : Addr} {xs : List V} (e : H a = some (.tup xs)) : TyOf K H (.ref a) (.type "tuple")
  | dK {a : Addr} {kvs : List (Key × V)} (e : H a = some (.dK kvs)) : TyOf K H (.ref a) (.type "dict")
  | dT {a : Addr} {kvs : List (List Key × V)} (e : H a = some (.dT kvs)) : TyOf K H (.ref a) (.type "dict")
  | ins {a C dx : Addr} {fs : List (Str × V)} (e : H a = some (.ins C dx fs)) (cl : Cls K C) (ha : PySem.W.findIn K (.ref C) "__class__" = some (some (.builtin "object.__class__")))
      (hn : PySem.W.specialIn K (.builtin "object.__class__") "__get__" = some (some (.builtin "getset_descriptor.__get__"))) (htk : PySem.W.takesIn K (.builtin "object.__class__") = some true)
      (hm : PySem.W.mroIn K C (.type "object") = some true) : TyOf K H (.ref a) (.ref C)
/-- isinstance(x, c) for one class c, a built-in or an own one: kitOne's answer -/
theorem isinst_ok {x : V} {u t : Value} (I : Inv X pins σ H s) (rx : RelV x u) (ty : TyOf X.K H x t) (e : PySem.W.kitOne X.K t c = some b) (h : ∀ tk, Q (.bool b) { s with toks := tk }) :
    wpAny (model X.prog X.w) A (call (.builtin "isinstance") [u, c]) Q E s := by
  cases ty with
  | non => cases (show u = Value.none from rx); exact PySem.W.kia_one PySem.W.kitx_none I.kIn True.intro e (fun z => nomatch z) h
  | bl y => cases (show u = Value.bool y from rx); exact PySem.W.kia_one PySem.W.kitx_bool I.kIn True.intro e (fun z => nomatch z) h
  | int i => obtain ⟨t, q⟩ := (show ∃ t, u = Value.int i t from rx); cases q; exact PySem.W.kia_one PySem.W.kitx_int I.kIn True.intro e (fun z => nomatch z) h
  | str y => obtain ⟨t, q⟩ := (show ∃ t, u = Value.str y t from rx); cases q; exact PySem.W.kia_one PySem.W.kitx_str I.kIn True.intro e (fun z => nomatch z) h
  | flt y => obtain ⟨t, q⟩ := (show ∃ t, u = Value.float y t from rx); cases q; exact PySem.W.kia_one PySem.W.kitx_float I.kIn True.intro e (fun z => nomatch z) h
  | @lst a xs ea =>
    cases (show u = Value.ref a from rx)
    obtain ⟨_, _, n, _, h1⟩ := (show ObjOk X.prog X.w H s.heap a (.lst xs) from I.hok a _ ea)
    exact PySem.W.kia_one PySem.W.kitx_list I.kIn ⟨_, h1, rfl⟩ e (fun z => nomatch z) h
  | @frz a ob xs ea =>
    cases (show u = Value.ref a from rx)
    obtain ⟨_, _, _, n, _, h1⟩ := (show ObjOk X.prog X.w H s.heap a (.frz ob (.lst xs)) from I.hok a _ ea)
    exact PySem.W.kia_one PySem.W.kitx_list I.kIn ⟨_, h1, rfl⟩ e (fun z => nomatch z) h
  | @tup a xs ea =>
    cases (show u = Value.ref a from rx)
    obtain ⟨_, _, _, p⟩ := (show ObjOk X.prog X.w H s.heap a (.tup xs) from I.hok a _ ea)
    obtain ⟨o, h1, h2, _⟩ := p
    exact PySem.W.kia_one PySem.W.kitx_tuple I.kIn ⟨o, h1, h2⟩ e (fun z => nomatch z) h
  | @dK a kvs ea =>
    cases (show u = Value.ref a from rx)
    obtain ⟨_, _, vs, _, p⟩ := (show ObjOk X.prog X.w H s.heap a (.dK kvs) from I.hok a _ ea)
    obtain ⟨o, es, ep, h1, h2, _⟩ := p
    exact PySem.W.kia_one PySem.W.kitx_dict I.kIn ⟨o, h1, h2.1⟩ e (fun z => nomatch z) h
  | @dT a kvs ea =>
    cases (show u = Value.ref a from rx)
    obtain ⟨_, _, xs, _, o, es, ep, h1, h2, _⟩ := (show ObjOk X.prog X.w H s.heap a (.dT kvs) from I.hok a _ ea)
    exact PySem.W.kia_one PySem.W.kitx_dict I.kIn ⟨o, h1, h2.1⟩ e (fun z => nomatch z) h
  | @ins a C dx fs ea cl ha hn htk hm =>
    cases (show u = Value.ref a from rx)
    obtain ⟨mA, O, _⟩ := ins_get I.hok ea
    obtain ⟨od, J, _⟩ := O.look
    exact PySem.W.kia_one (PySem.W.kitx_own (cl.get _) cl.hd ha hn htk hm) I.kIn J e (fun z => nomatch z) h
end
end L2

namespace L2
open PySem PySem.Spec PyProof.Rows

/-! ### room -/
structure Room (k : Nat) (A : Around) : Prop where
  hd : A.handled = none
  dp : A.depth + 3 * k + 5 < recursionLimit
  un : A.units + 16 * k + 200 < cLine
theorem Room.mono {j k : Nat} {A : Around} (r : Room k A) (h : j ≤ k) : Room j A := ⟨r.hd, by have := r.dp; omega, by have := r.un; omega⟩
theorem Room.deeper {k : Nat} {A : Around} (r : Room (k + 1) A) (env : Env) : Room k (A.deeper env) :=
  ⟨r.hd, by have := r.dp; show A.depth + 1 + 3 * k + 5 < _; omega, by have := r.un; show A.units + 3 + 16 * k + 200 < _; omega⟩
theorem Room.depth {k : Nat} {A : Around} (r : Room k A) : A.depth < recursionLimit := by have := r.dp; omega
theorem Room.units {k : Nat} {A : Around} (r : Room k A) : A.units + 64 < cLine := by have := r.un; omega
/-! ### argument lists and displays -/
def tNil : TA := fun _ H Q => Q [] H
def tCons (ta : TE) (tr : TA) : TA := fun σ H Q => ta σ H fun x H1 => tr σ H1 fun xs H2 => Q (x :: xs) H2
section
variable {X : Cx} {e : Expr} {es : List Expr} {te : TE} {t : TA} {pos : Pos}
theorem pa_nil : PA X [] tNil := fun _ _ _ _ H Q I h => Calls.spliced_nil ⟨[], H, I, .nil, h⟩
theorem pa_cons (ha : PE X e te) (hr : PA X es t) (hs : starEach (e :: es) X.env = (false, eval e X.env) :: starEach es X.env := by rfl) : PA X (e :: es) (tCons te t) := by
  intro pos pins s σ H Q I h
  rw [hs]
  show wpAny _ _ (spliced ((false, eval e X.env) :: backTo pos (starEach es X.env))) _ _ s
  refine Calls.spliced_cons (thn (ha pins s σ H _ I h) fun u s1 ⟨x, H1, I1, r1, q1⟩ => ?_)
  exact thn (hr pos pins s1 σ H1 _ I1 q1) fun us s2 ⟨xs, H2, I2, r2, q2⟩ => ⟨x :: xs, H2, I2, .cons r1 r2, q2⟩

/-- a tuple, a list of written items -/
def tTup (t : TA) : TE := fun σ H Q => t σ H fun xs H1 => xs.length ≤ sizeLine ∧ ∀ p, H1 p = none → Q (.ref p) (upd H1 p (.tup xs))
def tLst (t : TA) : TE := fun σ H Q => t σ H fun xs H1 => xs.length ≤ sizeLine ∧ ∀ p, H1 p = none → Q (.ref p) (upd H1 p (.lst xs))
theorem pe_tup {x1} (h : PA X es t) : PE X (.Tuple es x1 pos) (tTup t) := by
  intro pins s σ H Q I hq
  refine wpAny_Tuple_spliced (thn (h pos pins s σ H _ I hq) fun us s1 ⟨xs, H1, I1, r, z, q⟩ => ⟨by rw [← r.length]; exact z, ?_⟩)
  have hf : H1 s1.heap.objs.size = none := I1.hok.fresh (Nat.le_refl _)
  refine ⟨.ref s1.heap.objs.size, upd H1 s1.heap.objs.size (.tup xs), I1.laid (t' := s1.toks) (fun b u e => Heap.get?_push_of_some _ e) (Nat.le_refl _) ?_, rfl, q _ hf⟩
  exact ⟨z, us, r, ⟨_, Heap.get?_push_size _ rfl, rfl, ⟨_, rfl⟩, rfl⟩⟩
theorem pe_lst (h : PA X es t) : PE X (.List es pos) (tLst t) := by
  intro pins s σ H Q I hq
  refine wpAny_List_spliced (thn (h pos pins s σ H _ I hq) fun us s1 ⟨xs, H1, I1, r, z, q⟩ => ⟨by rw [← r.length]; exact z, ?_⟩)
  have hf : H1 s1.heap.objs.size = none := I1.hok.fresh (Nat.le_refl _)
  refine ⟨.ref s1.heap.objs.size, upd H1 s1.heap.objs.size (.lst xs), I1.laid (t' := s1.toks) (fun b u e => Heap.get?_push_of_some _ e) (Nat.le_refl _) ?_, rfl, q _ hf⟩
  exact ⟨z, us, 0, r, Heap.get?_push_size _ rfl⟩
end

/-! ### what a def promises -/
/-- a def's promise: the bound arguments in the parameters' order, the heap, the wanted end, the wanted exception -/
abbrev Sp := List V → Hp → VK → XK → Prop
/-- how an exception lies behind a call (file 08 gives it): the callers' frames, abstract heap and state ahead of the call, the wish, the exception, the state -/
abbrev CXT := List Env → Hp → Shared → XK → Value → Shared → Prop

/-- the state at a call -/
structure Env0 (P : Program) (w : World) (K : PySem.W.Frag) (mg : Str → Option Value) (base : Heap) (A : Around) (outer : List Env) (s : Shared) (H : Hp) : Prop where
  frames : A.frames = some outer
  mod : Mod K mg base
  bs : ∀ b o, base.get? b = some o → s.heap.get? b = some o ∧ H b = none
  bsz : base.objs.size ≤ s.heap.objs.size
  funs : s.heap.FunFrames base outer
  frf : ∀ b ∈ frs outer, H b = none
  hok : HOk P w H s.heap
  bare : AllBare s.gens
/-- a call's end -/
def CE (outer : List Env) (P : Program) (w : World) (H : Hp) (s : Shared) (Q : VK) (u : Value) (s' : Shared) : Prop :=
  ∃ v H', s'.os = s.os ∧ AllBare s'.gens ∧ Un (frs outer) [] H H' s.heap s'.heap ∧ HOk P w H' s'.heap ∧ RelV v u ∧ Q v H'
def CR (CX : CXT) (outer : List Env) (P : Program) (w : World) (H : Hp) (s : Shared) (Q : VK) (E : XK) (r : Result) (s' : Shared) : Prop :=
  match r with
  | .ok (.ret u) => CE outer P w H s Q u s'
  | .ok _ => False
  | .error e => CX outer H s E e s'
structure FnOk (P : Program) (w : World) (K : PySem.W.Frag) (mg : Str → Option Value) (base : Heap) (CX : CXT) (k : Nat) (f : Addr) (fd : FuncData) (ps : List Str) (sp : Sp) : Prop where
  len : ∀ vs H Q E, sp vs H Q E → vs.length = ps.length
  run : ∀ (A : Around) (outer : List Env) (s : Shared) (H : Hp) (args : Args) (us : List Value) (vs : List V) (Q : VK) (E : XK), Room k A → Env0 P w K mg base A outer s H → BindsTo s fd args (ps.zip us) → Vals vs us → sp vs H Q E →
    codeAny (model P w) A (.call (.ref f) args) (CR CX outer P w H s Q E) s
section
variable {X : Cx} {pins : List (Addr × Obj)} {σ : St} {H : Hp} {s s' : Shared}
/-- from a body: what a callee wants -/
theorem Inv.env0 (I : Inv X pins σ H s) : Env0 X.prog X.w X.K X.mg X.base X.A X.stack s H :=
  ⟨I.ok.frames, I.ok.mod, I.bs, Nat.le_trans I.ok.bsz I.sz, I.stack, I.stkFree, I.hok, I.bare⟩
/-- behind a call -/
theorem Inv.after {Q : VK} {u : Value} (I : Inv X pins σ H s) (h : CE X.stack X.prog X.w H s Q u s') : EP X pins σ Q u s' := by
  obtain ⟨v, H', os, bare, un, hok, r, q⟩ := h
  obtain ⟨hh, g, d, t, os'⟩ := s'
  obtain rfl : os' = s.os := os
  exact ⟨v, H', I.call (h' := hh) (g' := g) (d' := d) (t' := t) (ch := []) un hok bare (fun b z => absurd z (by simp)), r, q⟩
end

/-! ### calls -/
/-- f(..): the written arguments, then the defaults dvs; E: what is wanted of an exception -/
def tCall (sp : Sp) (dvs : List V) (E : XK) (t : TA) : TE := fun σ H Q => t σ H fun vs H1 => sp (vs ++ dvs) H1 Q E
/-- how the parameters are bound: us the positional arguments, kw the keywords' values by name, ds the defaults that fill up -/
def Binds (K : PySem.W.Frag) (fd : FuncData) (ps : List Str) (ds : List Value) : Prop :=
  ∀ (s : Shared) (us : List Value), K.In s.heap → (us ++ ds).length = ps.length → BindsTo s fd ⟨us, []⟩ (ps.zip (us ++ ds))
/-- every parameter is given -/
theorem Binds.all {K : PySem.W.Frag} {fd : FuncData} {ps : List Str} (h : ∀ us : List Value, us.length = ps.length → bindArgs fd ⟨us, []⟩ = pure (ps.zip us)) : Binds K fd ps [] := fun s us _ hl => by
  rw [List.append_nil] at hl ⊢
  exact .of_eq (h us hl)

/-- an exception of a callee reaches what this body wants of exceptions -/
def Passes (CX : CXT) (X : Cx) (E : XK) : Prop := ∀ (pins : List (Addr × Obj)) (σ : St) (H : Hp) (s : Shared) (e : Value) (s' : Shared), Inv X pins σ H s → CX X.stack H s E e s' → X.xe e s'

section
variable {X : Cx} {CX : CXT} {k : Nat} {f C : Addr} {fd : FuncData} {ps : List Str} {sp : Sp} {dvs : List V} {ds : List Value} {E : XK} {x m : Str} {p pos apos : Pos} {e o : Expr} {es : List Expr} {ta : TE} {t : TA}

/-- the callee runs -/
theorem run_fn {pins : List (Addr × Obj)} {σ : St} {H : Hp} {s : Shared} {Q : VK} {us : List Value} {vs : List V} (F : FnOk X.prog X.w X.K X.mg X.base CX k f fd ps sp) (hr : Room k X.A) (hb : Binds X.K fd ps ds) (hd : Vals dvs ds) (hx : Passes CX X E)
    (I : Inv X pins σ H s) (r : Vals vs us) (h : sp (vs ++ dvs) H Q E) : wpAny (model X.prog X.w) X.A (call (.ref f) us) (EP X pins σ Q) X.xe s := by
  have r2 : Vals (vs ++ dvs) (us ++ ds) := r.append hd
  have hl : (us ++ ds).length = ps.length := by rw [← r2.length]; exact F.len _ _ _ _ h
  refine wpAny_call (codeAny_mono (F.run X.A X.stack s H ⟨us, []⟩ (us ++ ds) (vs ++ dvs) Q E hr I.env0 (hb s us I.kIn hl) r2 h) fun r s' hq => ?_)
  cases r with
  | error e => exact hx pins σ H s e s' I hq
  | ok fl =>
    cases fl with
    | ret u => exact I.after hq
    | next => exact False.elim hq
    | brk => exact False.elim hq
    | cont => exact False.elim hq

theorem pe_call (F : FnOk X.prog X.w X.K X.mg X.base CX k f fd ps sp) (hr : Room k X.A) (hg : Gl X x) (hm : X.mg x = some (.ref f)) (hk : PySem.W.keepIn X.K (.ref f) = true) (hb : Binds X.K fd ps ds) (hd : Vals dvs ds) (hx : Passes CX X E)
    (ha : PA X (e :: es) t) (hdb : (x == ("__debug__" : Str)) = false := by decide) (he : starEach (e :: es) X.env = (false, eval e X.env) :: starEach es X.env := by rfl) (hpl : (backTo pos (starEach es X.env)).any (·.1) = false := by rfl) :
    PE X (.Call (.Name x p) (e :: es) [] pos) (tCall sp dvs E t) := by
  intro pins s σ H Q I h
  refine wpAny_Call_Name_kw (ld_glob I hg hm ?_ hdb)
  refine PySem.W.callWith_K (h₀ := X.base) I.ok.mod.kin hk (thn (ha pos pins s σ H _ I h) fun us s1 ⟨vs, H1, I1, r, q⟩ => ⟨I1.kIn, ?_⟩) he hpl
  exact run_fn F hr hb hd hx I1 r q
end

/-! ### keywords -/
section
variable {X : Cx} {CX : CXT} {k : Nat} {f C : Addr} {fd : FuncData} {ps ks : List Str} {sp : Sp} {E : XK} {x m : Str} {p pos apos kpos : Pos} {e o : Expr} {es : List Expr} {kws : List Keyword} {te ta : TE} {t tk : TA} {nm : Option Str}
variable {g : List Value → List Value → List Value} {gV : List V → List V → List V}
end

/-! ### a def's body keeps its promise -/
/-- names: the parameters first -/
structure FnScope (N P : List Str) (sc : Scope) : Prop where
  kind : sc.kind = .function
  co : sc.isCoroutine = false
  gen : sc.isGenerator = false
  nd : N.Nodup
  pre : N.take P.length = P
  par : ∀ x ∈ P, sc.names.lookup x = some .local ∨ sc.names.lookup x = some .cell
  nofree : ∀ y ∈ sc.names, y.2 ≠ .free

theorem bindL_out {kindOf : Str → Option NameKind} {x : Str} : ∀ {binds : List (Str × Value)} {m : Str → Option Value}, (∀ v, (x, v) ∉ binds) → bindL kindOf binds m x = m x
  | [], _, _ => rfl
  | (n, v) :: r, m, h => by
    unfold bindL
    rw [bindL_out fun w hw => h w (List.mem_cons_of_mem _ hw)]
    split
    · have : x ≠ n := by rintro rfl; exact h v List.mem_cons_self
      simp [this]
    · rfl
theorem bindC_out {kindOf : Str → Option NameKind} {x : Str} : ∀ {binds : List (Str × Value)} {m : Str → Option Value}, (∀ v, (x, v) ∉ binds) → bindC kindOf binds m x = m x
  | [], _, _ => rfl
  | (n, v) :: r, m, h => by
    unfold bindC
    rw [bindC_out fun w hw => h w (List.mem_cons_of_mem _ hw)]
    split
    · rfl
    · have : x ≠ n := by rintro rfl; exact h v List.mem_cons_self
      simp [this]
theorem bindL_get {kindOf : Str → Option NameKind} {x : Str} {v : Value} : ∀ {P : List Str} {vs : List Value} {i : Nat} {m : Str → Option Value}, P.Nodup → P[i]? = some x → vs[i]? = some v → kindOf x = some .local →
    bindL kindOf (P.zip vs) m x = some v
  | [], _, _, _, _, h, _, _ => by simp at h
  | _ :: _, [], _, _, _, _, h, _ => by simp at h
  | p :: P, w :: vs, 0, m, nd, h1, h2, hk => by
    simp at h1 h2; subst h1; subst h2
    show bindL kindOf ((p, w) :: P.zip vs) m p = _
    unfold bindL
    rw [bindL_out fun v hv => (List.nodup_cons.mp nd).1 (List.of_mem_zip hv).1, if_pos hk]
    simp
  | p :: P, w :: vs, i + 1, m, nd, h1, h2, hk => by
    show bindL kindOf ((p, w) :: P.zip vs) m x = _
    unfold bindL
    exact bindL_get (i := i) (List.nodup_cons.mp nd).2 (by simpa using h1) (by simpa using h2) hk
theorem bindC_get {kindOf : Str → Option NameKind} {x : Str} {v : Value} : ∀ {P : List Str} {vs : List Value} {i : Nat} {m : Str → Option Value}, P.Nodup → P[i]? = some x → vs[i]? = some v → kindOf x ≠ some .local →
    bindC kindOf (P.zip vs) m x = some v
  | [], _, _, _, _, h, _, _ => by simp at h
  | _ :: _, [], _, _, _, _, h, _ => by simp at h
  | p :: P, w :: vs, 0, m, nd, h1, h2, hk => by
    simp at h1 h2; subst h1; subst h2
    show bindC kindOf ((p, w) :: P.zip vs) m p = _
    unfold bindC
    rw [bindC_out fun v hv => (List.nodup_cons.mp nd).1 (List.of_mem_zip hv).1, if_neg hk]
    simp
  | p :: P, w :: vs, i + 1, m, nd, h1, h2, hk => by
    show bindC kindOf ((p, w) :: P.zip vs) m x = _
    unfold bindC
    exact bindC_get (i := i) (List.nodup_cons.mp nd).2 (by simpa using h1) (by simpa using h2) hk

/-- the names' values at the entry -/
def start (N : List Str) (vs : List V) : St := vs.map some ++ List.replicate (N.length - vs.length) none

/-- the context of a def's body, at its entry; an exception leaves the frame, then lies as CX says -/
def cxOf (CX : CXT) (P : Program) (w : World) (K : PySem.W.Frag) (mg : Str → Option Value) (base : Heap) (N : List Str) (qual : Str) (scope : Scope) (f : Addr) (cd : Value) (A : Around) (outer : List Env) (s : Shared) (H : Hp) (E : XK) : Cx where
  prog := P
  w := w
  K := K
  mg := mg
  base := base
  A := A.deeper (envOfC qual scope s.heap.objs.size f cd)
  N := N
  s₀ := s
  H₀ := H
  env := envOfC qual scope s.heap.objs.size f cd
  outer := outer
  stack := envOfC qual scope s.heap.objs.size f cd :: outer
  ex := []
  calm := true
  fn := fun _ => true
  pn := []
  xe := fun e s' => wpAny (model P w) (A.deeper (envOfC qual scope s.heap.objs.size f cd)) (leaving (envOfC qual scope s.heap.objs.size f cd) e) (fun _ s'' => CX outer H s E e s'') (fun e' s'' => CX outer H s E e' s'') s'

theorem cell_has {sc : Scope} {n : Nat} {x : Str} (h : sc.names.lookup x = some .cell) : ∃ c, (cellsFrom n sc.names []).lookup x = some c := by
  have q := PySem.W.cellsFrom_some sc.names n [] (.inl h)
  exact Option.isSome_iff_exists.mp q

theorem inv_start {CX : CXT} {P : Program} {w : World} {K : PySem.W.Frag} {mg : Str → Option Value} {base : Heap} {N ps : List Str} {qual : Str} {scope : Scope} {f : Addr} {cd : Value} {A : Around} {outer : List Env} {s s1 : Shared} {H : Hp} {E : XK} {us : List Value} {vs : List V}
    (S : FnScope N ps scope) (hd : A.handled = none) (e0 : Env0 P w K mg base A outer s H) (hl : vs.length = ps.length) (r : Vals vs us)
    (x : InCallC s s.heap.objs.size (bindL (envOfC qual scope s.heap.objs.size f cd).kindOf (ps.zip us) fun _ => none) (cellsFrom (s.heap.objs.size + 1) scope.names []) (bindC (envOfC qual scope s.heap.objs.size f cd).kindOf (ps.zip us) fun _ => none) s1) :
    Inv (cxOf CX P w K mg base N qual scope f cd A outer s H E) [] (start N vs) H s1 := by
  have hpl : ps.length ≤ N.length := by have := congrArg List.length S.pre; rw [List.length_take] at this; omega
  obtain ⟨h1, tk, rfl, hk⟩ := x.done
  have noA : ∀ b : Addr, b ∉ (cxOf CX P w K mg base N qual scope f cd A outer s H E).ex := fun b z => absurd (show b ∈ ([] : List Addr) from z) (by simp)
  refine ⟨⟨e0.mod, S.kind, rfl, rfl, Nat.le_refl _, fun y z c h1 h2 => ?_, fun y hy => ?_, fun y c _ h => ?_, fun _ => hd, Around.frames_deeper e0.frames, .inr ⟨rfl, rfl⟩, fun b z => absurd z (noA b), e0.bs, e0.bsz, fun b _ _ => noA b, fun b z => absurd z (noA b), e0.funs, e0.frf⟩,
    rfl, e0.bare, Un.kept hk, ⟨_, x.toInCall.ns, fun i y v h1 h2 h3 => ?_⟩, fun y c h => ⟨_, x.cell y c h⟩, e0.hok.fresh (Nat.le_refl _), fun y c h => ?_, fun p hp => absurd (show p ∈ ([] : List (Addr × Obj)) from hp) (by simp), e0.hok.kept hk, ?_⟩
  · exact name_of_addr x.apart (PySem.mem_of_lookup h1) (PySem.mem_of_lookup h2)
  · have hy : scope.names.lookup y = some .cell ∨ scope.names.lookup y = some .free := hy
    rcases hy with hy | hy
    · exact cell_has hy
    · exact absurd rfl (S.nofree _ (PySem.mem_of_lookup hy))
  · exact Nat.le_of_lt (x.above y c (PySem.mem_of_lookup h))
  · have hi : i < vs.length := by
      unfold start at h2
      by_cases hi : i < vs.length
      · exact hi
      · rw [List.getElem?_append_right (by simpa using hi)] at h2
        rw [List.getElem?_replicate] at h2
        split at h2 <;> cases h2
    have ha : vs[i]? = some v := by
      unfold start at h2
      rw [List.getElem?_append_left (by simpa using hi), List.getElem?_map] at h2
      cases e : vs[i]? with
      | none => rw [e] at h2; cases h2
      | some a => rw [e] at h2; cases h2; rfl
    obtain ⟨u, hu, rv⟩ := r.get ha
    have hp : ps[i]? = some y := by
      rw [← S.pre, List.getElem?_take_of_lt (by omega)]; exact h1
    have ndP : ps.Nodup := by rw [← S.pre]; exact S.nd.sublist (List.take_sublist _ _)
    refine ⟨u, rv, ?_⟩
    rcases S.par y (List.mem_of_getElem? hp) with k | k
    · exact .inl ⟨k, bindL_get ndP hp hu k⟩
    · obtain ⟨c, e⟩ := cell_has (n := s.heap.objs.size + 1) k
      refine .inr ⟨.inl k, c, e, ?_⟩
      have q := x.cell y c e
      rw [bindC_get ndP hp hu (by show scope.names.lookup y ≠ _; rw [k]; decide)] at q
      exact q
  · exact e0.hok.fresh (Nat.le_of_lt (x.above y c (PySem.mem_of_lookup h)))
  · unfold start
    show _ = N.length
    rw [List.length_append, List.length_map, List.length_replicate]
    omega

/-- THE RULE: a def (or a method) of the text, by its body. The body's reading t is chosen for each entry; it is run at the parameters' values -/
theorem fn_of {CX : CXT} {P : Program} {w : World} {K : PySem.W.Frag} {mg : Str → Option Value} {base : Heap} {k : Nat} {f : Addr} {name qual : Str} {params : Arguments} {body : List Stmt} {scope : Scope} {dV kV doc pm cdv ct oc : Value} {an od : Option Addr}
    {osl : Array (Option Value)} {N ps : List Str} {sp : Sp} (lk : K.lookup f = some ⟨oc, od, .func (PySem.W.fnOf name qual params body scope dV kV doc pm an cdv ct), osl⟩) (hcd : PySem.W.codeIn K cdv qual = true) (S : FnScope N ps scope)
    (len : ∀ vs H Q E, sp vs H Q E → vs.length = ps.length)
    (hbody : ∀ (A : Around) (outer : List Env) (s : Shared) (H : Hp) (vs : List V) (Q : VK) (E : XK), Room k (A.deeper (envOfC qual scope s.heap.objs.size f cdv)) → sp vs H Q E →
      ∃ t, PSs (cxOf CX P w K mg base N qual scope f cdv A outer s H E) body t ∧ t { nx := fun _ H' => Q .non H', rt := Q } (start N vs) H) :
    FnOk P w K mg base CX (k + 1) f (PySem.W.fnOf name qual params body scope dV kV doc pm an cdv ct) ps sp := by
  refine ⟨len, fun A outer s H args us vs Q E hr e0 hb r hsp => ?_⟩
  have hl := len _ _ _ _ hsp
  have KX : K.In s.heap := e0.mod.kin.keeps fun b o e => (e0.bs b o e).1
  have lim : s.heap.NoLimit := e0.mod.nolimit.keeps fun b o e => (e0.bs b o e).1
  have hkind : ∀ y ∈ ps.zip us, scope.names.lookup y.1 = some .local ∨ (scope.names.lookup y.1 = some .cell ∧ ((cellsFrom (s.heap.objs.size + 1) scope.names []).lookup y.1).isSome = true) := fun ⟨n, v⟩ hy => by
    rcases S.par n (List.of_mem_zip hy).1 with q | q
    · exact .inl q
    · exact .inr ⟨q, PySem.W.cellsFrom_some _ _ _ (.inl q)⟩
  refine codeAny_call_function hr.depth (KX _ _ lk) rfl S.co S.gen rfl (PySem.W.codeRec_of KX hcd) (hb _ _ _ _ ?_)
  refine wpAny_newFunctionEnv_cells S.kind hkind fun env he s1 x => ?_
  subst he
  refine ⟨lim.keeps x.toInCall.keep, codeAny_func ?_⟩
  obtain ⟨t, ht, hq⟩ := hbody A outer s H vs Q E (hr.deeper _) hsp
  have I : Inv (cxOf CX P w K mg base N qual scope f cdv A outer s H E) [] (start N vs) H s1 := inv_start S hr.hd e0 hl r x
  refine wpAny_mono (ht [] s1 (start N vs) H _ I hq) (fun fl s' hs => ?_) fun e s' hs => hs
  have fin : ∀ {σ' : St} {H' : Hp} {v : V} {u : Value}, Inv (cxOf CX P w K mg base N qual scope f cdv A outer s H E) [] σ' H' s' → RelV v u → Q v H' → CE outer P w H s Q u s' :=
    fun {σ' H' v u} J rv q => ⟨v, H', J.os, J.bare, J.base, J.hok, rv, q⟩
  cases fl with
  | ret u =>
    obtain ⟨v, σ', H', J, rv, q⟩ := hs
    exact fin J rv q
  | next =>
    obtain ⟨σ', H', J, q⟩ := hs
    exact fin (v := V.non) (u := Value.none) J rfl q
  | brk =>
    obtain ⟨_, _, _, q⟩ := hs
    exact False.elim q
  | cont =>
    obtain ⟨_, _, _, q⟩ := hs
    exact False.elim q
end L2

namespace L2
open PySem PySem.Spec PyProof.Rows
section
variable {X : Cx} {x : Str} {p pos : Pos} {e : Expr} {es : List Expr} {t : TA} {id T : String} {r : List V → Hp → VK → Prop}

def tCB (r : List V → Hp → VK → Prop) (t : TA) : TE := fun σ H Q => t σ H fun vs H1 => r vs H1 Q
/-- f(e, ..), f a built-in function -/
theorem pe_callB (hc : CallR X (.builtin id) r) (hg : Gl X x) (hm : X.mg x = none) (hv : bootBuiltins x = some (.builtin id)) (ha : PA X (e :: es) t) (hn : x ≠ "__name__" := by decide) (hdb : (x == ("__debug__" : Str)) = false := by decide)
    (he : starEach (e :: es) X.env = (false, eval e X.env) :: starEach es X.env := by rfl) (hpl : (backTo pos (starEach es X.env)).any (·.1) = false := by rfl) : PE X (.Call (.Name x p) (e :: es) [] pos) (tCB r t) := by
  intro pins s σ H Q I h
  refine wpAny_Call_Name_kw (ld_blt I hg hm hv ?_ hn hdb)
  exact PyProof.Rows.callWith_builtin1 (thn (ha pos pins s σ H _ I h) fun us s1 ⟨vs, H1, I1, r1, q1⟩ => hc pins s1 σ H1 vs us Q I1 r1 q1) he hpl
/-- T(e, ..), T a built-in type -/
theorem pe_callTy (hc : CallR X (.type T) r) (hg : Gl X x) (hm : X.mg x = none) (hv : bootBuiltins x = some (.type T)) (ha : PA X (e :: es) t) (hn : x ≠ "__name__" := by decide) (hdb : (x == ("__debug__" : Str)) = false := by decide)
    (he : starEach (e :: es) X.env = (false, eval e X.env) :: starEach es X.env := by rfl) (hpl : (backTo pos (starEach es X.env)).any (·.1) = false := by rfl) : PE X (.Call (.Name x p) (e :: es) [] pos) (tCB r t) := by
  intro pins s σ H Q I h
  refine wpAny_Call_Name_kw (ld_blt I hg hm hv ?_ hn hdb)
  exact PyProof.Rows.callWith_type1 (thn (ha pos pins s σ H _ I h) fun us s1 ⟨vs, H1, I1, r1, q1⟩ => hc pins s1 σ H1 vs us Q I1 r1 q1) he hpl
end
end L2

namespace HT
open PySem PyProof.Rows

section
open PySem.SeqAt
open PySem.AutoSeq1 (wpAny_loadPart')
open PySem.MeetsSeq PySem.MeetsSeq2 PySem.MeetsSeq3

end

section
variable {prog : Program} {w : World} {A : Around} {E : Value → Shared → Prop} {s : Shared}

/-- t + u, t not empty -/
theorem cat_tup {t b : Addr} {vs ws : List Value} {Q : Value → Shared → Prop} (ht : IsTup s.heap t vs.toArray) (hb : IsTup s.heap b ws.toArray) (hv : vs ≠ [])
    (h1 : ws = [] → Q (.ref t) s) (h2 : ws ≠ [] → Q (.ref s.heap.objs.size) { s with heap := s.heap.push { cls := .type "tuple", data := .seq (vs ++ ws).toArray } })
    (hsz : vs.length + ws.length ≤ sizeLine) : wpAny (model prog w) A (binaryOp .Add (.ref t) (.ref b)) Q E s := by
  obtain ⟨⟨cls, dd, data, sl⟩, ho, hc, n, hd⟩ := id ht
  obtain ⟨⟨cls2, dd2, data2, sl2⟩, ho2, hc2, n2, hd2⟩ := id hb
  simp only at hc hd hc2 hd2
  subst hc hd hc2 hd2
  have e : vs.toArray ++ ws.toArray = (vs ++ ws).toArray := by simp
  by_cases hw : ws = []
  · exact concat_meets ⟨_, ho, rfl⟩ ⟨_, ho2, rfl⟩ noFill_tuple_add seq_tuple_add PySem.F.slot_tuple_add PySem.F.entry_tuple_add (PySem.F.args_tuple_add_2 _ _)
      (tuple_addW1 t b vs.toArray ws.toArray n n2 dd dd2 sl sl2 (by simpa using hv) (by simp [hw])) ⟨ho, ho2, h1 hw⟩
  · refine concat_meets ⟨_, ho, rfl⟩ ⟨_, ho2, rfl⟩ noFill_tuple_add seq_tuple_add PySem.F.slot_tuple_add PySem.F.entry_tuple_add (PySem.F.args_tuple_add_2 _ _)
      (tuple_addW2 t b vs.toArray ws.toArray n n2 dd dd2 sl sl2 (by simpa using hv) (by simpa using hw) (by rw [List.size_toArray, List.size_toArray]; exact hsz)) ⟨ho, ho2, ?_⟩
    rw [e]
    exact h2 hw

/-! ### t[a:b], not the whole -/
/-- a slice's bound as a place among n (d where it is left out) -/
def sIx (n d : Nat) : Option Int → Nat
  | none => d
  | some v => if v < 0 then (v + (n : Int)).toNat else min v.toNat n
theorem sIx_none (n d : Nat) : sIx n d none = d := rfl
theorem sIx_nat (n d k : Nat) : sIx n d (some (k : Int)) = min k n := by
  show (if (k : Int) < 0 then ((k : Int) + (n : Int)).toNat else min (k : Int).toNat n) = min k n
  rw [if_neg (by omega), Int.toNat_natCast]
theorem sIx_le (n d : Nat) (hd : d ≤ n) (o : Option Int) : sIx n d o ≤ n := by
  cases o with
  | none => exact hd
  | some v =>
    show (if v < 0 then (v + (n : Int)).toNat else min v.toNat n) ≤ n
    by_cases hv : v < 0
    · rw [if_pos hv]; omega
    · rw [if_neg hv]; exact Nat.min_le_right _ _
theorem clip_eq (v : Int) (n d : Nat) : (if v < 0 then max (v + (n : Int)) 0 else min v (n : Int)) = ((sIx n d (some v) : Nat) : Int) := by
  show (if v < 0 then max (v + (n : Int)) 0 else min v (n : Int)) = (((if v < 0 then (v + (n : Int)).toNat else min v.toNat n) : Nat) : Int)
  by_cases hv : v < 0
  · simp only [if_pos hv]; omega
  · simp only [if_neg hv]; omega
theorem adjust_gen (lo hi : Option Int) (n : Nat) : Builtin.Slice.sliceAdjust lo hi 1 (n : Int) = (((sIx n 0 lo : Nat) : Int), ((sIx n n hi : Nat) : Int)) := by
  have h1 : ¬ ((1 : Int) < 0) := by omega
  unfold Builtin.Slice.sliceAdjust
  simp only [h1, if_false]
  refine Prod.ext ?_ ?_
  · cases lo with
    | none => rfl
    | some v => exact clip_eq v n 0
  · cases hi with
    | none => rfl
    | some v => exact clip_eq v n n
theorem places_gen (i j : Nat) : Builtin.Slice.slicePlaces (i : Int) (j : Int) 1 = j - i := by
  unfold Builtin.Slice.slicePlaces
  have h1 : (1 : Int) > 0 := by omega
  simp only [h1, if_true, Int.ediv_one]
  split <;> omega
theorem slicePart_ {v : Value} {o : Option Int} {Q : Option Int → Shared → Prop} (p : IsPart v o) (h : Q o s) : wpAny (model prog w) A (Builtin.Slice.slicePartIndex v) Q E s := by
  cases p with
  | none => exact slicePart_none h
  | int i t => exact slicePart_int h
theorem sliceApplied_gen {sl : Addr} {vl vu : Value} {lo hi : Option Int} {n : Nat} {Q : Int × Int × Nat → Shared → Prop} (hs : s.heap.IsSliceOf sl vl vu .none) (pl : IsPart vl lo) (pu : IsPart vu hi)
    (h : Q (((sIx n 0 lo : Nat) : Int), 1, sIx n n hi - sIx n 0 lo) s) : wpAny (model prog w) A (Builtin.Slice.sliceApplied (.ref sl) (pure (n : Int))) Q E s := by
  obtain ⟨os, hos, hcs, hds⟩ := id hs
  unfold Builtin.Slice.sliceApplied Builtin.Slice.sliceFields
  refine wpAny_bind (wpAny_bind (wpAny_field hos hds (x := vl) rfl (wpAny_bind (wpAny_field hos hds (x := vu) rfl (wpAny_bind (wpAny_field hos hds (x := .none) rfl (wpAny_pure ?_)))))))
  refine wpAny_bind (slicePart_none ?_)
  show wpAny _ _ (if ((1 : Int) == 0) = true then _ else _) _ _ s
  rw [if_neg (by decide)]
  refine wpAny_bind (slicePart_ pl (wpAny_bind (slicePart_ pu (wpAny_bind (wpAny_pure ?_)))))
  show wpAny _ _ (match Builtin.Slice.sliceAdjust lo hi 1 (n : Int) with | (lo, hi) => pure (lo, (1 : Int), Builtin.Slice.slicePlaces lo hi 1)) _ _ s
  rw [adjust_gen lo hi n]
  show wpAny _ _ (pure (((sIx n 0 lo : Nat) : Int), (1 : Int), Builtin.Slice.slicePlaces ((sIx n 0 lo : Nat) : Int) ((sIx n n hi : Nat) : Int) 1)) _ _ s
  rw [places_gen]
  exact wpAny_pure h
theorem pick_gen (xs : Array Value) (i k : Nat) : ((List.range k).filterMap fun (m : Nat) => xs[((i : Int) + (m : Int) * 1).toNat]?).toArray = ((xs.toList.drop i).take k).toArray := by
  have e : (fun (m : Nat) => xs[((i : Int) + (m : Int) * 1).toNat]?) = fun m => xs[i + m]? := by
    funext m
    have : ((i : Int) + (m : Int) * 1).toNat = i + m := by omega
    rw [this]
  rw [e]
  have := pick_run xs i k
  rw [List.filterMap_map] at this
  have e2 : ((fun x => xs[x]?) ∘ fun x => i + x) = fun m => xs[i + m]? := rfl
  rw [e2] at this
  rw [this]

theorem getItem_tuple_cut {t sl : Addr} {items : Array Value} {vl vu : Value} {lo hi : Option Int} {Q : Value → Shared → Prop} (ht : IsTup s.heap t items) (hs : s.heap.IsSliceOf sl vl vu .none) (pl : IsPart vl lo) (pu : IsPart vu hi)
    (hw : ¬ (sIx items.size 0 lo = 0 ∧ sIx items.size items.size hi = items.size))
    (h : Q (.ref s.heap.objs.size) { s with heap := s.heap.push { cls := .type "tuple", data := .seq ((items.toList.drop (sIx items.size 0 lo)).take (sIx items.size items.size hi - sIx items.size 0 lo)).toArray } })
    (hsz : items.size ≤ sizeLine) : wpAny (model prog w) A (getItem (.ref t) (.ref sl)) Q E s := by
  have htake : sizeOk (.seq ((items.toList.drop (sIx items.size 0 lo)).take (sIx items.size items.size hi - sIx items.size 0 lo)).toArray) := by
    show ((items.toList.drop (sIx items.size 0 lo)).take (sIx items.size items.size hi - sIx items.size 0 lo)).toArray.size ≤ sizeLine
    rw [List.size_toArray, List.length_take, List.length_drop, Array.length_toList]
    omega
  have hj : sIx items.size items.size hi ≤ items.size := sIx_le _ _ (Nat.le_refl _) hi
  obtain ⟨os, hos, hcs, hds⟩ := id hs
  have hTs : s.TypeIs (.ref sl) "slice" := ⟨os, hos, hcs⟩
  unfold getItem
  try with_reducible refine wpAny_holding ?_
  first | refine wpAny_bind (wpAny_pure ?_) | skip
  refine wpAny_bind (wpAny_sequenceKey ht.typeIs (by decide) ?_)
  refine wpAny_bind (wpAny_callSpecial?_slot (name := Str.ofString "__getitem__") ht.typeIs PyProof.Rows.slot_tuple_getitem
    (wpAny_call_entry PyProof.Rows.slot_tuple_getitem ht.typeIs entry_tuple_getitem ?_ (args_tuple_getitem _ _)))
  show wpAny _ _ (Builtin.Tuple.tupleItemsOf (.ref t) >>= _) _ _ s
  refine wpAny_bind (tupleItemsOf_ ht ?_)
  refine wpAny_bind (wpAny_typeOf hTs ?_)
  rw [if_pos (by decide)]
  refine wpAny_bind (sliceApplied_gen hs pl pu ?_)
  have hno : ¬ ((((sIx items.size 0 lo : Nat) : Int) == 0 && (1 : Int) == 1 && (sIx items.size items.size hi - sIx items.size 0 lo) == items.size) = true) := by
    intro q
    rw [Bool.and_eq_true, Bool.and_eq_true] at q
    have q1 : ((sIx items.size 0 lo : Nat) : Int) = 0 := eq_of_beq q.1.1
    have q2 : sIx items.size items.size hi - sIx items.size 0 lo = items.size := eq_of_beq q.2
    exact hw ⟨by omega, by omega⟩
  show wpAny _ _ (if (((sIx items.size 0 lo : Nat) : Int) == 0 && (1 : Int) == 1 && (sIx items.size items.size hi - sIx items.size 0 lo) == items.size) = true then _ else _) _ _ s
  rw [if_neg hno, pick_gen]
  first
    | exact wpAny_bind (m := Builtin.Tuple.tupleExact _) (wpAny_newObj_type (wpAny_pure ⟨_, rfl, wpAny_pure h⟩) htake)
    | exact wpAny_bind (m := Builtin.Tuple.tupleExact _) (wpAny_newObj_type (wpAny_bind (wpAny_pure (wpAny_pure ⟨_, rfl, wpAny_pure h⟩))) htake)
    | exact wpAny_bind (wpAny_bind (m := Builtin.Tuple.tupleExact _) (wpAny_newObj_type (wpAny_pure (wpAny_pure ⟨_, rfl, wpAny_pure h⟩)) htake))
    | exact wpAny_bind (wpAny_bind (m := Builtin.Tuple.tupleExact _) (wpAny_newObj_type (wpAny_pure ⟨_, rfl, wpAny_pure h⟩) htake))
end
end HT

namespace L2
open PySem PySem.Spec PyProof.Rows

/-! ### the parts of a slice -/
abbrev TO := St → Hp → (Option Int → Hp → Prop) → Prop
/-- a slice's part (left out, or an int) -/
def PO (X : Cx) (e : Option Expr) (t : TO) : Prop :=
  ∀ (pins : List (Addr × Obj)) (s : Shared) (σ : St) (H : Hp) (Q : Option Int → Hp → Prop), Inv X pins σ H s → t σ H Q →
    wpAny (model X.prog X.w) X.A (evalPart e X.env) (fun u s' => ∃ o H', Inv X pins σ H' s' ∧ IsPart u o ∧ Q o H') X.xe s
def tNoPart : TO := fun _ H Q => Q none H
def tPart (t : TE) : TO := fun σ H Q => t σ H fun x H1 => ∃ i, x = .int i ∧ Q (some i) H1

theorem intsAre_of {ns : List Int} : ∀ {us : List Value}, Vals (ns.map V.int) us → IntsAre us ns := by
  induction ns with
  | nil => intro us r; rw [List.map_nil] at r; cases r; exact .nil
  | cons n ns ih =>
    intro us r
    rw [List.map_cons] at r
    cases r with
    | cons r1 r2 =>
      obtain ⟨t, e⟩ := r1
      subst e
      exact .cons n t (ih r2)

section
variable {X : Cx} {e : Expr} {te : TE} {lo hi : Option Expr} {tl th : TO} {pos p2 : Pos}

theorem po_none : PO X none tNoPart := by
  intro pins s σ H Q I h
  rw [evalPart_none]
  exact wpAny_pure ⟨none, H, I, .none, h⟩
theorem po_some (h : PE X e te) : PO X (some e) (tPart te) := by
  intro pins s σ H Q I hw
  rw [evalPart_some]
  refine thn (h pins s σ H _ I hw) fun u s1 ⟨x, H1, I1, r1, q1⟩ => ?_
  obtain ⟨i, rfl, q⟩ := q1
  obtain ⟨t, rfl⟩ := r1
  exact ⟨some i, H1, I1, .int i t, q⟩

/-- what a slice of a value is, by values: the slice object stands at sl -/
def SlR (X : Cx) (r : V → Option Int → Option Int → Hp → VK → Prop) : Prop :=
  ∀ (pins : List (Addr × Obj)) (s : Shared) (σ : St) (H : Hp) (x : V) (v vl vu : Value) (lo hi : Option Int) (sl : Addr) (Q : VK), Inv X pins σ H s → RelV x v → s.heap.IsSliceOf sl vl vu .none → IsPart vl lo → IsPart vu hi → r x lo hi H Q →
    ∃ T id, typeLookup (.type T) "__getitem__" = pure (some (.builtin id)) ∧ s.TypeIs v T ∧ wpAny (model X.prog X.w) X.A (getItem v (.ref sl)) (EP X pins σ Q) X.xe s
theorem SlR.or {r r' : V → Option Int → Option Int → Hp → VK → Prop} (h : SlR X r) (h' : SlR X r') : SlR X (fun x lo hi H Q => r x lo hi H Q ∨ r' x lo hi H Q) := by
  intro pins s σ H x v vl vu lo hi sl Q I rx hs pl pu q
  rcases q with q | q
  · exact h pins s σ H x v vl vu lo hi sl Q I rx hs pl pu q
  · exact h' pins s σ H x v vl vu lo hi sl Q I rx hs pl pu q
def tSl (r : V → Option Int → Option Int → Hp → VK → Prop) (te : TE) (tl th : TO) : TE := fun σ H Q => te σ H fun x H1 => tl σ H1 fun l H2 => th σ H2 fun u H3 => r x l u H3 Q
/-- a[lo:hi], any a -/
theorem pe_slice {r : V → Option Int → Option Int → Hp → VK → Prop} (hr : SlR X r) (he : PE X e te) (hl : PO X lo tl) (hu : PO X hi th) : PE X (.Subscript e (.Slice lo hi none p2) pos) (tSl r te tl th) := by
  intro pins s σ H Q I h
  refine Subscript_ (thn (he pins s σ H _ I h) fun v s1 ⟨x, H1, I1, r1, q1⟩ => ?_)
  refine wpAny_Slice (thn (hl pins s1 σ H1 _ I1 q1) fun vl s2 ⟨l, H2, I2, pl, q2⟩ => thn (hu pins s2 σ H2 _ I2 q2) fun vu s3 ⟨u, H3, I3, pu, q3⟩ => ?_)
  rw [evalPart_none]
  refine wpAny_pure ?_
  have I4 : Inv X pins σ H3 { s3 with heap := s3.heap.push { cls := .type "slice", data := .fields #[vl, vu, .none] } } := I3.kept (t' := s3.toks) fun b ob q => Heap.get?_push_of_some _ q
  obtain ⟨T, id, hT, ht, hg⟩ := hr pins { s3 with heap := s3.heap.push { cls := .type "slice", data := .fields #[vl, vu, .none] } } σ H3 x v vl vu l u s3.heap.objs.size Q I4 r1 (Heap.IsSliceOf.new ..) pl pu q3
  show wpAny (model X.prog X.w) X.A (subscriptTail e (.Slice lo hi none p2) v (.ref s3.heap.objs.size)) (EP X pins σ Q) X.xe { s3 with heap := s3.heap.push { cls := .type "slice", data := .fields #[vl, vu, .none] } }
  exact tail_any (ops := [.ref s3.heap.objs.size, v]) ht hT hg (by with_unfolding_all rfl)

/-- the items of xs[lo:hi] -/
def cutV (xs : List V) (lo hi : Option Int) : List V := (xs.drop (HT.sIx xs.length 0 lo)).take (HT.sIx xs.length xs.length hi - HT.sIx xs.length 0 lo)
theorem cutV_length (xs : List V) (lo hi : Option Int) : (cutV xs lo hi).length ≤ xs.length := by
  unfold cutV
  rw [List.length_take, List.length_drop]
  omega
/-- t[lo:hi], not the whole of it (the whole would be t itself) -/
def rSlT (K : PySem.W.Frag) : V → Option Int → Option Int → Hp → VK → Prop := fun x lo hi H Q => ∃ a xs, x = .ref a ∧ SqT K H a xs ∧
  ¬ (HT.sIx xs.length 0 lo = 0 ∧ HT.sIx xs.length xs.length hi = xs.length) ∧ ∀ p, H p = none → Q (.ref p) (upd H p (.tup (cutV xs lo hi)))
theorem sl_tup : SlR X (rSlT X.K) := by
  intro pins s σ H x v vl vu lo hi sl Q I rx hs pl pu h
  obtain ⟨a, xs, rfl, hx, hw, q⟩ := h
  cases rx
  obtain ⟨its, r, ht, hz⟩ := I.tuple hx
  have hlen : its.toArray.size = xs.length := by rw [List.size_toArray]; exact r.length.symm
  refine ⟨"tuple", _, PyProof.Rows.slot_tuple_getitem.lookup, ht.typeIs, ?_⟩
  refine HT.getItem_tuple_cut ht hs pl pu (by rw [hlen]; exact hw) ?_ (by rw [hlen]; exact hz)
  rw [hlen]
  refine ⟨.ref s.heap.objs.size, _, I.laid (t' := s.toks) (o := .tup (cutV xs lo hi)) (fun b ob q => Heap.get?_push_of_some _ q) (Nat.le_refl _) ?_, rfl, q _ (I.hok.fresh (Nat.le_refl _))⟩
  exact ⟨Nat.le_trans (cutV_length xs lo hi) hz, _, (r.drop (HT.sIx xs.length 0 lo)).take (HT.sIx xs.length xs.length hi - HT.sIx xs.length 0 lo), PTup.new _ _⟩

/-! ### t < u, t + u -/
/-- t + u, t not empty: u empty gives t itself -/
def rCatT (K : PySem.W.Frag) : R2 := fun x y H Q => ∃ a b xs ys, x = .ref a ∧ y = .ref b ∧ SqT K H a xs ∧ SqT K H b ys ∧ xs ≠ [] ∧ xs.length + ys.length ≤ sizeLine ∧
  (ys = [] → Q (.ref a) H) ∧ (ys ≠ [] → ∀ p, H p = none → Q (.ref p) (upd H p (.tup (xs ++ ys))))
theorem Vals.nil_iff {xs : List V} {us : List Value} (r : Vals xs us) : us = [] ↔ xs = [] := by
  cases r with
  | nil => simp
  | cons _ _ => simp
theorem op_catT : OpR X (binaryOp .Add) (rCatT X.K) := by
  intro pins s σ H x y v u Q I rx ry h
  obtain ⟨a, b, xs, ys, rfl, rfl, ha, hb, hx, hz, q1, q2⟩ := h
  cases rx
  cases ry
  obtain ⟨its, r1, p1, _⟩ := I.tuple ha
  obtain ⟨its2, r2, p2, _⟩ := I.tuple hb
  refine HT.cat_tup p1 p2 (fun z => hx (r1.nil_iff.mp z)) (fun z => ⟨.ref a, H, I, rfl, q1 (r2.nil_iff.mp z)⟩) (fun z => ?_) (by rw [← r1.length, ← r2.length]; exact hz)
  refine ⟨.ref s.heap.objs.size, _, I.laid (t' := s.toks) (o := .tup (xs ++ ys)) (fun b ob q => Heap.get?_push_of_some _ q) (Nat.le_refl _) ?_, rfl, q2 (fun w => z (r2.nil_iff.mpr w)) _ (I.hok.fresh (Nat.le_refl _))⟩
  exact ⟨by rw [List.length_append]; exact hz, _, r1.append r2, PTup.new _ _⟩
end
end L2

namespace L2
open PySem PySem.Spec PyProof.Rows

/-! ### places -/
/-- the place that an index of any sign means -/
def ixN (n : Nat) (i : Int) : Option Nat := if 0 ≤ i then (if i < n then some i.toNat else none) else if -(n : Int) ≤ i then some (i + n).toNat else none
def atI {α : Type} (xs : List α) (i : Int) : Option α := (ixN xs.length i).bind fun j => xs[j]?
theorem ixN_seq {n : Nat} {i : Int} {j : Nat} (h : ixN n i = some j) : seqIndex? i n = some j ∧ j < n ∧ -(n : Int) ≤ i ∧ i < n := by
  unfold ixN at h
  by_cases h0 : 0 ≤ i
  · rw [if_pos h0] at h
    by_cases h1 : i < n
    · rw [if_pos h1] at h
      have e : i.toNat = j := Option.some.inj h
      exact ⟨by rw [seqIndex_of h0 h1, e], by omega, by omega, h1⟩
    · rw [if_neg h1] at h; cases h
  · rw [if_neg h0] at h
    by_cases h1 : -(n : Int) ≤ i
    · rw [if_pos h1] at h
      have e : (i + n).toNat = j := Option.some.inj h
      exact ⟨by rw [seqIndex_neg (by omega) h1, e], by omega, h1, by omega⟩
    · rw [if_neg h1] at h; cases h
theorem atI_get {α : Type} {xs : List α} {i : Int} {v : α} (h : atI xs i = some v) : ∃ j, seqIndex? i xs.length = some j ∧ xs[j]? = some v ∧ j < xs.length ∧ -(xs.length : Int) ≤ i ∧ i < xs.length := by
  unfold atI at h
  cases e : ixN xs.length i with
  | none => rw [e] at h; cases h
  | some j =>
    rw [e] at h
    obtain ⟨h1, h2, h3, h4⟩ := ixN_seq e
    exact ⟨j, h1, h, h2, h3, h4⟩
theorem atI_nat {α : Type} {xs : List α} {j : Nat} {v : α} (h : xs[j]? = some v) : atI xs (j : Int) = some v := by
  have hj : j < xs.length := (List.getElem?_eq_some_iff.mp h).1
  have e : ixN xs.length (j : Int) = some j := by
    unfold ixN
    rw [if_pos (by omega), if_pos (by omega)]; simp
  unfold atI; rw [e]; exact h
/-! ### what may be subscripted -/
/-- what stands as an index of a plain subscript -/
def PlainIx (b : Expr) : Prop := ∀ o i, subscripted b false o i = operate [o, i] (getItem o i)
/-- a subscript by values -/
def IxR (X : Cx) (r : R2) : Prop :=
  ∀ (value slice : Expr) (pins : List (Addr × Obj)) (s : Shared) (σ : St) (H : Hp) (x y : V) (v u : Value) (Q : VK), Inv X pins σ H s → RelV x v → RelV y u → r x y H Q →
    subscripted slice false v u = operate [v, u] (getItem v u) → wpAny (model X.prog X.w) X.A (subscriptTail value slice v u) (EP X pins σ Q) X.xe s
/-- a call of a builtin's method by values: the receiver, the arguments -/
def MtR (X : Cx) (id : String) (r : V → List V → Hp → VK → Prop) : Prop :=
  ∀ (pins : List (Addr × Obj)) (s : Shared) (σ : St) (H : Hp) (x : V) (xs : List V) (v : Value) (us : List Value) (Q : VK), Inv X pins σ H s → RelV x v → Vals xs us → r x xs H Q →
    wpAny (model X.prog X.w) X.A (call (.builtin id) (v :: us)) (EP X pins σ Q) X.xe s
section
variable {X : Cx} {a b : Expr} {ta tb : TE} {pos : Pos}
theorem IxR.or {r r' : R2} (h : IxR X r) (h' : IxR X r') : IxR X (fun x y H Q => r x y H Q ∨ r' x y H Q) := by
  intro value slice pins s σ H x y v u Q I rx ry q hs
  rcases q with q | q
  · exact h value slice pins s σ H x y v u Q I rx ry q hs
  · exact h' value slice pins s σ H x y v u Q I rx ry q hs
/-- a[b] -/
theorem pe_ix {r : R2} (hr : IxR X r) (ha : PE X a ta) (hb : PE X b tb) (hs : PlainIx b) : PE X (.Subscript a b pos) (tOp r ta tb) := by
  intro pins s σ H Q I h
  exact Subscript_ (binT ha hb I h fun v u s2 x y H2 I2 rx ry q => hr a b pins s2 σ H2 x y v u Q I2 rx ry q (hs _ _))

def rIxL (K : PySem.W.Frag) : R2 := fun x y H Q => ∃ p xs i v, x = .ref p ∧ y = .int i ∧ SqL K H p xs ∧ atI xs i = some v ∧ Q v H
def rIxT (K : PySem.W.Frag) : R2 := fun x y H Q => ∃ p xs i v, x = .ref p ∧ y = .int i ∧ SqT K H p xs ∧ atI xs i = some v ∧ Q v H
def rIxS : R2 := fun x y H Q => ∃ z i c, x = .str z ∧ y = .int i ∧ z.length ≤ sizeLine ∧ atI z.cps.toList i = some c ∧ Q (.str ⟨#[c]⟩) H
theorem ix_list : IxR X (rIxL X.K) := by
  intro value slice pins s σ H x y v u Q I rx ry h hs
  obtain ⟨p, xs, i, z, rfl, rfl, hq, he, q⟩ := h
  cases rx
  obtain ⟨t, rfl⟩ := ry
  obtain ⟨its, r, pl, hz⟩ := I.list hq
  obtain ⟨j, h1, h2, h3, h4, h5⟩ := atI_get he
  obtain ⟨w, ew, rw'⟩ := r.get h2
  have hl := r.length
  have hn := line63
  have fin : EP X pins σ Q w s := ⟨z, H, I, rw', q⟩
  by_cases h0 : 0 ≤ i
  · have hj : i.toNat = j := by
      rw [seqIndex_of h0 h5] at h1
      exact Option.some.inj h1
    exact item_listR pl.isList h0 (by omega) (by rw [hj]; simpa using ew) fin hs
  · have hj : (i + (its.toArray.size : Int)).toNat = j := by
      rw [seqIndex_neg (by omega) h4] at h1
      rw [List.size_toArray, ← hl]
      exact Option.some.inj h1
    exact subscriptTail_builtinR (x := w) pl.isList.typeIs slot_list_getitem.lookup
      (wpAny_getItem_list_neg (Q := fun r s' => r = w ∧ EP X pins σ Q r s') pl.isList (by omega) (by rw [List.size_toArray] <;> omega) (by omega) (by rw [hj]; simpa using ew) ⟨rfl, fin⟩) hs
theorem ix_tup : IxR X (rIxT X.K) := by
  intro value slice pins s σ H x y v u Q I rx ry h hs
  obtain ⟨p, xs, i, z, rfl, rfl, hq, he, q⟩ := h
  cases rx
  obtain ⟨t, rfl⟩ := ry
  obtain ⟨its, r, pl, hz⟩ := I.tuple hq
  obtain ⟨j, h1, h2, h3, h4, h5⟩ := atI_get he
  obtain ⟨w, ew, rw'⟩ := r.get h2
  have hl := r.length
  have hn := line63
  have fin : EP X pins σ Q w s := ⟨z, H, I, rw', q⟩
  exact subscriptTail_builtinR (x := w) pl.typeIs slot_tuple_getitem.lookup
    (getItem_tuple (j := j) (Q := fun r s' => r = w ∧ EP X pins σ Q r s') pl (by omega) (by omega) (by rw [List.size_toArray, ← hl]; exact h1) (by simpa using ew) ⟨rfl, fin⟩) hs
theorem ix_str : IxR X rIxS := by
  intro value slice pins s σ H x y v u Q I rx ry h hs
  obtain ⟨z, i, c, rfl, rfl, hz, he, q⟩ := h
  obtain ⟨t, rfl⟩ := rx
  obtain ⟨t', rfl⟩ := ry
  obtain ⟨j, h1, h2, h3, h4, h5⟩ := atI_get he
  have hl : z.cps.toList.length = z.length := by simp [Str.length]
  rw [hl] at h1 h4 h5
  have hn := line63
  exact tail_any (typeIs_str s z t) slot_str_getitem.lookup (getItem_str (c := c) (by
    have e1 : decide (i < -(2 ^ 63 : Int)) = false := decide_eq_false (by omega)
    have e2 : decide (i ≥ 2 ^ 63) = false := decide_eq_false (by omega)
    rw [e1, e2, Bool.or_false]) (by rw [h1]; simpa using h2) ⟨.str ⟨#[c]⟩, H, I.tok _, ⟨_, rfl⟩, q⟩) hs
/-- list, tuple or str -/
def rIx (K : PySem.W.Frag) : R2 := fun x y H Q => rIxL K x y H Q ∨ rIxT K x y H Q ∨ rIxS x y H Q
theorem ix_seq : IxR X (rIx X.K) := ix_list.or (ix_tup.or ix_str)

/-! ### xs[i] = v, any sign -/
/-- the list's object behind a store -/
theorem mapSeq_set (its : List Value) (n j : Nat) (u : Value) : Obj.mapSeq (·.setIfInBounds j u) { cls := .type "list", data := .seq its.toArray n } = { cls := .type "list", data := .seq (its.set j u).toArray n } := by
  simp [Obj.mapSeq]
theorem Inv.lst {pins : List (Addr × Obj)} {σ : St} {H : Hp} {s : Shared} {p : Addr} {xs : List V} (I : Inv X pins σ H s) (h : H p = some (.lst xs)) :
    ∃ (its : List Value) (n : Nat), Vals xs its ∧ s.heap.get? p = some { cls := .type "list", data := .seq its.toArray n } ∧ xs.length ≤ sizeLine := by
  obtain ⟨z, its, n, r, e⟩ := I.hok p _ h
  exact ⟨its, n, r, e, z⟩
/-- the list at p is written by an update of its object -/
theorem Inv.lstUpd {pins : List (Addr × Obj)} {σ : St} {H : Hp} {s : Shared} {p : Addr} {xs ys : List V} {its its' : List Value} {n n' : Nat} {f : Obj → Obj} (I : Inv X pins σ H s) (h : H p = some (.lst xs))
    (ho : s.heap.get? p = some { cls := .type "list", data := .seq its.toArray n }) (hf : f { cls := .type "list", data := .seq its.toArray n } = { cls := .type "list", data := .seq its'.toArray n' }) (r : Vals ys its') (hz : ys.length ≤ sizeLine) (t : Nat) :
    Inv X pins σ (upd H p (.lst ys)) { s with heap := s.heap.update p f, toks := t } := by
  have e : (s.heap.update p f).get? p = some { cls := .type "list", data := .seq its'.toArray n' } := by
    rw [Heap.get?_update_self f ho (by rw [hf] <;> rfl), hf]
  refine I.write (x := p) (e := p) (by rw [h]; trivial) (.inl rfl) (fun b u hb q => (Heap.get?_update_other _ _ (Ne.symm hb)).trans q) ⟨_, e⟩ ?_
  exact ⟨hz, its', n', r, e⟩
def rSetL : V → V → V → Hp → (Hp → Prop) → Prop := fun o i v H Q => ∃ p xs k j, o = .ref p ∧ i = .int k ∧ H p = some (.lst xs) ∧ ixN xs.length k = some j ∧ Q (upd H p (.lst (xs.set j v)))
theorem set_list : PSet X rSetL := by
  intro pins s σ H o i v ov iv u Q I ro ri rv h
  obtain ⟨p, xs, k, j, rfl, rfl, hp, hj, q⟩ := h
  cases ro
  obtain ⟨t, rfl⟩ := ri
  obtain ⟨its, n, r, ho, hz⟩ := I.lst hp
  obtain ⟨h1, h2, h3, h4⟩ := ixN_seq hj
  have hl := r.length
  have hn := line63
  have I' : Inv X pins σ (upd H p (.lst (xs.set j v))) { s with heap := s.heap.update p (Obj.mapSeq (·.setIfInBounds j u)) } :=
    I.lstUpd hp ho (mapSeq_set its n j u) (r.set rv j) (by rw [List.length_set]; exact hz) s.toks
  by_cases h0 : 0 ≤ k
  · have hk : k.toNat = j := by
      rw [seqIndex_of h0 h4] at h1
      exact Option.some.inj h1
    exact PySem.W.ki_setAt ho h0 (by omega) (by rw [List.size_toArray, ← hl]; exact h4) (by rw [hk]; exact ⟨_, I', q⟩)
  · have hk : (k + (its.toArray.size : Int)).toNat = j := by
      rw [seqIndex_neg (by omega) h3] at h1
      rw [List.size_toArray, ← hl]
      exact Option.some.inj h1
    exact PySem.W.ki_setBack ho (by omega) (by rw [List.size_toArray, ← hl]; exact h3) (by omega) (by rw [hk]; exact ⟨_, I', q⟩)

/-! ### slices -/
theorem slice_bounds (lo hi : Option Int) (n : Nat) : (sliceBounds lo hi none n).1 = ((HT.sIx n 0 lo : Nat) : Int) ∧ (sliceBounds lo hi none n).2.1 = ((HT.sIx n n hi : Nat) : Int) ∧ (sliceBounds lo hi none n).2.2 = 1 := by
  refine ⟨?_, ?_, rfl⟩
  · cases lo with
    | none => simp [sliceBounds, HT.sIx]
    | some i =>
      simp only [sliceBounds, HT.sIx, Option.getD_none, show (1 : Int) > 0 by decide, if_true]
      by_cases h : i < 0
      · simp only [h, if_true] <;> omega
      · simp only [h, if_false] <;> omega
  · cases hi with
    | none => simp [sliceBounds, HT.sIx]
    | some i =>
      simp only [sliceBounds, HT.sIx, Option.getD_none, show (1 : Int) > 0 by decide, if_true]
      by_cases h : i < 0
      · simp only [h, if_true] <;> omega
      · simp only [h, if_false] <;> omega
theorem slicePick_cut (its : List Value) (lo hi : Option Int) : slicePick its.toArray lo hi none = ((its.drop (HT.sIx its.length 0 lo)).take (HT.sIx its.length its.length hi - HT.sIx its.length 0 lo)).toArray := by
  obtain ⟨h1, h2, h3⟩ := slice_bounds lo hi its.toArray.size
  unfold slicePick
  rw [h1, h2, h3]
  simp only [sliceRange_one, pick_run, List.size_toArray] <;> rfl
/-- xs[lo:hi] of a list: a new list -/
def rSlL (K : PySem.W.Frag) : V → Option Int → Option Int → Hp → VK → Prop := fun x lo hi H Q => ∃ a xs, x = .ref a ∧ SqL K H a xs ∧ ∀ p, H p = none → Q (.ref p) (upd H p (.lst (cutV xs lo hi)))
theorem sl_list : SlR X (rSlL X.K) := by
  intro pins s σ H x v vl vu lo hi sl Q I rx hs pl pu h
  obtain ⟨a, xs, rfl, hx, q⟩ := h
  cases rx
  obtain ⟨its, r, ht, hz⟩ := I.list hx
  have hlen := r.length
  refine ⟨"list", _, slot_list_getitem.lookup, ht.isList.typeIs, ?_⟩
  refine wpAny_getItem_list_slice ht.isList hs pl pu .none (by simp) ?_ (by rw [List.size_toArray] <;> omega)
  rw [slicePick_cut, ← hlen]
  refine ⟨.ref s.heap.objs.size, _, I.laid (t' := s.toks) (o := .lst (cutV xs lo hi)) (fun b ob q => Heap.get?_push_of_some _ q) (Nat.le_refl _) ?_, rfl, q _ (I.hok.fresh (Nat.le_refl _))⟩
  exact ⟨Nat.le_trans (cutV_length xs lo hi) hz, _, 0, (r.drop (HT.sIx xs.length 0 lo)).take (HT.sIx xs.length xs.length hi - HT.sIx xs.length 0 lo), Heap.get?_push_size _ rfl⟩

/-! ### in, not in: flat items -/
def flatV : V → Bool
  | .non => true
  | .bl _ => true
  | .int _ => true
  | .str _ => true
  | _ => false
/-- == of flat values -/
def eqV : V → V → Bool
  | .non, .non => true
  | .bl a, .bl b => a == b
  | .bl a, .int b => (if a then 1 else 0) == b
  | .int a, .bl b => a == (if b then 1 else 0)
  | .int a, .int b => a == b
  | .str a, .str b => a == b
  | _, _ => false
theorem eqAt_V {A : Around} {s : Shared} {y x : V} {u v : Value} (ry : RelV y u) (rx : RelV x v) (fy : flatV y = true) (fx : flatV x = true) : SeqAt.EqAt A s u v (eqV y x) := by
  cases y with
  | non =>
    cases ry
    cases x with
    | non => cases rx; exact SeqAt.EqAt.same _
    | bl b => cases rx; exact SeqAt.EqAt.none_bool b
    | int b => obtain ⟨t, rfl⟩ := rx; exact SeqAt.EqAt.none_int b t
    | str b => obtain ⟨t, rfl⟩ := rx; exact SeqAt.EqAt.none_str b t
    | _ => exact absurd (show false = true from fx) Bool.false_ne_true
  | bl a =>
    cases ry
    cases x with
    | non => cases rx; exact SeqAt.EqAt.bool_none a
    | bl b => cases rx; exact SeqAt.EqAt.bool_bool a b
    | int b => obtain ⟨t, rfl⟩ := rx; exact SeqAt.EqAt.bool_int a b t
    | str b => obtain ⟨t, rfl⟩ := rx; exact SeqAt.EqAt.bool_str a b t
    | _ => exact absurd (show false = true from fx) Bool.false_ne_true
  | int a =>
    obtain ⟨t', rfl⟩ := ry
    cases x with
    | non => cases rx; exact SeqAt.EqAt.int_none a t'
    | bl b => cases rx; exact SeqAt.EqAt.int_bool a t' b
    | int b => obtain ⟨t, rfl⟩ := rx; exact SeqAt.EqAt.int_int a t' b t
    | str b => obtain ⟨t, rfl⟩ := rx; exact SeqAt.EqAt.int_str a t' b t
    | _ => exact absurd (show false = true from fx) Bool.false_ne_true
  | str a =>
    obtain ⟨t', rfl⟩ := ry
    cases x with
    | non => cases rx; exact SeqAt.EqAt.str_none a t'
    | bl b => cases rx; exact SeqAt.EqAt.str_bool a t' b
    | int b => obtain ⟨t, rfl⟩ := rx; exact SeqAt.EqAt.str_int a t' b t
    | str b => obtain ⟨t, rfl⟩ := rx; exact SeqAt.EqAt.str_str a t' b t
    | _ => exact absurd (show false = true from fx) Bool.false_ne_true
  | _ => exact absurd (show false = true from fy) Bool.false_ne_true
/-- the items' answers, read off the values (a value's own answer does not lean on its token) -/
def eqU (x : V) (u : Value) : Bool := match u with
  | .none => eqV .non x
  | .bool b => eqV (.bl b) x
  | .int i _ => eqV (.int i) x
  | .str z _ => eqV (.str z) x
  | _ => false
theorem eqU_of {x y : V} {u : Value} (r : RelV y u) (f : flatV y = true) : eqU x u = eqV y x := by
  cases y with
  | non => cases r; rfl
  | bl b => cases r; rfl
  | int i => obtain ⟨t, rfl⟩ := r; rfl
  | str z => obtain ⟨t, rfl⟩ := r; rfl
  | _ => exact absurd (show false = true from f) Bool.false_ne_true
theorem mem_eqAt {A : Around} {s : Shared} {x : V} {v : Value} (rx : RelV x v) (fx : flatV x = true) : ∀ {xs : List V} {us : List Value}, Vals xs us → xs.all flatV = true → ∀ u ∈ us, SeqAt.EqAt A s u v (eqU x u)
  | _, _, .nil, _ => fun u hu => by cases hu
  | y :: xs, u :: us, .cons r t, f => fun u' hu => by
    rw [List.all_cons, Bool.and_eq_true] at f
    rcases List.mem_cons.mp hu with rfl | hu
    · rw [eqU_of r f.1]; exact eqAt_V r rx f.1 fx
    · exact mem_eqAt rx fx t f.2 u' hu
/-! ### len, list(x), tuple(x) of any list or tuple that is read -/
theorem call_tuple_of : CallR X (.type "tuple") (fun xs H Q => ∃ p ys, xs = [.ref p] ∧ ((SqL X.K H p ys ∧ ∀ l, H l = none → Q (.ref l) (upd H l (.tup ys))) ∨ (SqT X.K H p ys ∧ Q (.ref p) H))) := by
  intro pins s σ H xs us Q I r h
  obtain ⟨p, ys, rfl, h⟩ := h
  obtain ⟨u, rfl, rx⟩ := vals1 r
  cases rx
  rcases h with ⟨hq, q⟩ | ⟨hq, q⟩
  · obtain ⟨its, r', pl, hz⟩ := I.list hq
    have hlen := r'.length
    refine call_tuple_list pl.isList (fun h' kp => ?_) (by simp only [List.size_toArray] <;> omega)
    have I1 : Inv X pins σ H { s with heap := h' } := I.kept (t' := s.toks) kp
    have I2 : Inv X pins σ (upd H h'.objs.size (.tup ys)) { s with heap := h'.push { cls := .type "tuple", data := .seq its.toArray } } :=
      I1.laid (t' := s.toks) (fun b o e => Heap.get?_push_of_some _ e) (Nat.le_refl _) (show ObjOk X.prog X.w _ _ _ (.tup ys) from ⟨hz, its, r', PTup.new _ _⟩)
    exact ⟨.ref h'.objs.size, _, I2, rfl, q _ (I1.hok.fresh (Nat.le_refl _))⟩
  · obtain ⟨its, r', pl, hz⟩ := I.tuple hq
    exact call_tuple_same pl ⟨.ref p, H, I, rfl, q⟩

/-! ### the call of a builtin's method: o.m(..) -/
/-- the value is of that builtin type -/
def tyV (K : PySem.W.Frag) (T : String) (x : V) (H : Hp) : Prop := match x with
  | .str _ => T = "str"
  | .int _ => T = "int"
  | .ref p => (T = "list" ∧ ∃ xs, SqL K H p xs) ∨ (T = "tuple" ∧ ∃ o, K.lookup p = some o ∧ o.cls = .type "tuple" ∧ o.dict = none) ∨
      (T = "dict" ∧ ((∃ kvs, H p = some (.dK kvs)) ∨ ∃ kvs, H p = some (.dT kvs))) ∨ (T = "set" ∧ ∃ S n, H p = some (.set S n)) ∨ (T = "tuple" ∧ ∃ xs, H p = some (.tup xs))
  | _ => False
theorem tyV_is {pins : List (Addr × Obj)} {σ : St} {H : Hp} {s : Shared} {T : String} {x : V} {v : Value} (I : Inv X pins σ H s) (r : RelV x v) (ty : tyV X.K T x H) :
    s.TypeIs v T ∧ ∀ a, v = .ref a → ∃ ob, s.heap.get? a = some ob ∧ ob.dict = none := by
  cases x with
  | str z =>
    obtain ⟨t, rfl⟩ := r
    cases (show T = "str" from ty)
    exact ⟨typeIs_str s z t, fun _ e => nomatch e⟩
  | int i =>
    obtain ⟨t, rfl⟩ := r
    cases (show T = "int" from ty)
    exact ⟨typeIs_int s i t, fun _ e => nomatch e⟩
  | ref p =>
    cases r
    rcases ty with ⟨rfl, xs, hq⟩ | ⟨rfl, o, hk, hc, hd⟩ | ⟨rfl, hk⟩ | ⟨rfl, S, n, hk⟩ | ⟨rfl, xs, hk⟩
    rotate_left 4
    · obtain ⟨_, its, _, o, e, c, _, hd⟩ := I.hok p _ hk
      exact ⟨⟨o, e, c⟩, fun a e2 => by cases e2; exact ⟨o, e, hd⟩⟩
    · obtain ⟨its, _, pl, _⟩ := I.list hq
      refine ⟨pl.isList.typeIs, fun a e => ?_⟩
      cases e
      obtain ⟨o, n, e, c, hd, _⟩ := pl
      exact ⟨o, e, hd⟩
    · refine ⟨⟨o, I.kIn p o hk, hc⟩, fun a e => ?_⟩
      cases e
      exact ⟨o, I.kIn _ o hk, hd⟩
    · have z : ∃ o, s.heap.get? p = some o ∧ o.ExactDict := by
        rcases hk with ⟨kvs, hk⟩ | ⟨kvs, hk⟩
        · obtain ⟨_, _, _, _, o, _, _, e, ex, _⟩ := I.hok p _ hk
          exact ⟨o, e, ex⟩
        · obtain ⟨_, _, _, _, o, _, _, e, ex, _⟩ := I.hok p _ hk
          exact ⟨o, e, ex⟩
      obtain ⟨o, e, ex⟩ := z
      refine ⟨⟨o, e, ex.1⟩, fun a e2 => ?_⟩
      cases e2
      exact ⟨o, e, ex.2.1⟩
    · obtain ⟨o, _, _, _, e, ex, _⟩ := I.hok p _ hk
      refine ⟨⟨o, e, ex.1⟩, fun a e2 => ?_⟩
      cases e2
      exact ⟨o, e, ex.2.1⟩
  | _ => exact False.elim ty
def tBM (K : PySem.W.Frag) (T : String) (r : V → List V → Hp → VK → Prop) (to : TE) (t : TA) : TE := fun σ H Q => to σ H fun x H1 => tyV K T x H1 ∧ t σ H1 fun xs H2 => r x xs H2 Q
variable {o e : Expr} {es : List Expr} {to : TE} {t : TA} {name : Str} {apos cpos : Pos} {T id : String} {r : V → List V → Hp → VK → Prop}
theorem pe_bm (pa : PlainAttrs T) (slot : Slot T name id) (hty : typeOf (.builtin id) = pure (.type "method_descriptor")) (hm : MtR X id r) (ho : PE X o to) (ha : PA X (e :: es) t)
    (hbase : attributeBase o name X.env (eval o X.env) = eval o X.env := by rfl)
    (hfew : ((backTo cpos (starEach (e :: es) X.env)).all (fun x => !x.1) && (backToKw cpos (keywordEach [] X.env)).all (fun x => x.1.isSome)
      && decide ((e :: es).length + ([] : List Keyword).length + (if ([] : List Keyword).isEmpty then 0 else 1) < 30)) = true := by rfl)
    (hline : (apos.endLine == cpos.line) = true := by rfl) (hs : starEach (e :: es) X.env = (false, eval e X.env) :: starEach es X.env := by rfl) (hplain : (backTo cpos (starEach es X.env)).any (·.1) = false := by rfl) :
    PE X (.Call (.Attribute o name apos) (e :: es) [] cpos) (tBM X.K T r to t) := by
  intro pins s σ H Q I h
  refine wpAny_Call_method_late hbase hfew hline rfl (thn (ho pins s σ H _ I h) fun v s1 ⟨x, H1, I1, r1, ty, q1⟩ => ?_)
  obtain ⟨h1, h2⟩ := tyV_is I1 r1 ty
  refine ⟨T, id, pa, slot, hty, h1, h2, ?_⟩
  have hA := ha cpos pins s1 σ H1 _ I1 q1
  rw [hs] at hA ⊢
  refine Calls.callWith_builtin (by show (false || (backTo cpos (starEach es X.env)).any (·.1)) = false; rw [hplain] <;> rfl) (Calls.evalArgs_plain ?_)
  exact thn hA fun us s2 ⟨vs, H2, I2, r2, q2⟩ => hm pins s2 σ H2 x vs v us Q I2 r1 r2 q2
/- xs.append(e), list.index on a module's tuple .. are MtR facts of 06m -/
end
end L2

namespace L2
open PySem PySem.Spec PyProof.Rows

def MtM (X : Cx) (id : String) (r : V → List V → Hp → VK → Prop) : Prop :=
  ∀ (pins : List (Addr × Obj)) (s : Shared) (σ : St) (H : Hp) (x : V) (xs : List V) (v : Value) (us : List Value) (Q : VK), Inv X pins σ H s → RelV x v → Vals xs us → r x xs H Q →
    wpAny (model X.prog X.w) X.A (call (.builtin id) (v :: us)) (EP X pins σ Q) X.xe s

/-! ### lists of values -/
theorem Vals.one : ∀ {x : V} {us : List Value}, Vals [x] us → ∃ u, us = [u] ∧ RelV x u
  | _, _, .cons r .nil => ⟨_, rfl, r⟩
section
variable {X : Cx} {pins : List (Addr × Obj)} {σ : St} {H : Hp} {s : Shared} {l b : Addr} {xs ys zs : List V}

/-! ### the two steps: a tracked list is rewritten, a new list is laid -/
theorem Inv.lset {its its' : List Value} {n : Nat} {f : Array Value → Array Value} {t' : Nat} (I : Inv X pins σ H s) (hH : H l = some (.lst xs))
    (e : s.heap.get? l = some { cls := .type "list", data := .seq its.toArray n }) (hf : f its.toArray = its'.toArray) (hv : Vals ys its') (hz : ys.length ≤ sizeLine) :
    Inv X pins σ (upd H l (.lst ys)) { s with heap := s.heap.update l (Obj.mapSeq f), toks := t' } := by
  have q := PySem.IsL.update e f
  rw [hf] at q
  refine I.write (x := l) (e := l) (by rw [hH]; exact trivial) (.inl rfl) (fun b' u hb hu => (Heap.get?_update_other s.heap (Obj.mapSeq f) (Ne.symm hb)).trans hu) ⟨_, q⟩ ?_
  exact ⟨hz, its', _, hv, q⟩
theorem Inv.lnew {its : List Value} {t' : Nat} (I : Inv X pins σ H s) (hv : Vals ys its) (hz : ys.length ≤ sizeLine) :
    Inv X pins σ (upd H s.heap.objs.size (.lst ys)) { s with heap := s.heap.push { cls := .type "list", data := .seq its.toArray }, toks := t' } :=
  I.laid (fun _ _ q => Heap.get?_push_of_some _ q) (Nat.le_refl _) ⟨hz, its, 0, hv, Heap.get?_push_size _ rfl⟩
theorem Inv.fresh (I : Inv X pins σ H s) : H s.heap.objs.size = none := I.hok.fresh (Nat.le_refl _)
theorem Inv.lstM (I : Inv X pins σ H s) (hH : H l = some (.lst xs)) : xs.length ≤ sizeLine ∧ ∃ (its : List Value) (n : Nat), Vals xs its ∧ xs.length = its.length ∧ s.heap.get? l = some { cls := .type "list", data := .seq its.toArray n } := by
  obtain ⟨z, its, n, r, e⟩ := I.hok l _ hH
  exact ⟨z, its, n, r, r.length, e⟩

end

section
variable {X : Cx}

/-! ### methods -/
def rAppend : V → List V → Hp → VK → Prop := fun x vs H Q => ∃ l xs y, x = .ref l ∧ vs = [y] ∧ H l = some (.lst xs) ∧ xs.length < sizeLine ∧ Q .non (upd H l (.lst (xs ++ [y])))
theorem mt_append : MtM X "list.append" rAppend := by
  intro pins s σ H x vs v us Q I rx rv h
  obtain ⟨l, xs, y, rfl, rfl, hH, hz, q⟩ := h
  cases rx
  obtain ⟨u, rfl, ru⟩ := rv.one
  obtain ⟨z, its, n, r, hl, e⟩ := I.lstM hH
  refine call_meets F.slot_list_append ⟨_, e, rfl⟩ F.entry_list_append (F.args_list_append_2 _ _) (PySem.list_append l its.toArray n u (by rw [List.size_toArray]; omega)) ⟨e, ?_⟩
  refine ⟨.non, _, I.lset (its' := its ++ [u]) hH e (by simp) (r.append (.cons ru .nil)) ?_, rfl, q⟩
  rw [List.length_append, List.length_singleton]
  omega

/-! ### list + list, list += list, list * int -/
def rCat : R2 := fun x y H Q => ∃ l b xs zs, x = .ref l ∧ y = .ref b ∧ H l = some (.lst xs) ∧ H b = some (.lst zs) ∧ xs.length + zs.length ≤ sizeLine ∧ ∀ p, H p = none → Q (.ref p) (upd H p (.lst (xs ++ zs)))
theorem op_cat : OpR X (binaryOp .Add) rCat := by
  intro pins s σ H x y v u Q I rx ry h
  obtain ⟨l, b, xs, zs, rfl, rfl, hH, hB, hz, q⟩ := h
  cases rx
  cases ry
  obtain ⟨z, its, n, r, hl, e⟩ := I.lstM hH
  obtain ⟨z2, its2, n2, r2, hl2, e2⟩ := I.lstM hB
  refine PySem.P.add_list e e2 ?_ (by rw [List.size_toArray, List.size_toArray]; omega)
  have ea : its.toArray ++ its2.toArray = (its ++ its2).toArray := by simp
  rw [ea]
  exact ⟨.ref _, _, I.lnew (t' := s.toks) (r.append r2) (by rw [List.length_append]; omega), rfl, q _ I.fresh⟩
/-! ### del xs[i] -/
end

/-! ### xs[a:b] = ys -/
section
variable {prog : Program} {w : World} {A : Around} {E : Value → Shared → Prop} {s : Shared}
set_option maxRecDepth 100000 in
end

section
variable {X : Cx}
end
end L2

namespace Att
open PySem PySem.W PySem.Calls PyProof.Rows

/-! ### the script -/
theorem ints_of_wellAll {P : Params} {h : Heap} : ∀ (ns : List Int) (vs : List Value), WellAll P h vs (ns.map WData.int) → IntsAre vs ns := by
  intro ns
  induction ns with
  | nil =>
    intro vs w
    rw [List.map_nil] at w
    cases w
    exact .nil
  | cons n ns ih =>
    intro vs w
    rw [List.map_cons] at w
    cases w with
    | cons a b =>
      cases a
      exact .cons _ _ (ih _ b)

theorem script_of {l : OpenLaw} {n : Nat} (hn : l.most = some n) {P : Params} {h : Heap} {args : List WData} {vals : List Value}
    (hpre : l.row.toRowW.claim.pre args = true) (hwl : WellAll P h vals args) :
    ∃ a vs ns, vals = [Value.ref a] ∧ args = [WData.list (ns.map WData.int)] ∧ h.get? a = some { cls := .type "list", data := .seq vs.toArray } ∧ IntsAre vs ns ∧ ns.length ≤ n := by
  have hsh : WShape.hasAll [] args [.list .int] = true := (pre_splitW hpre).1
  have hc : l.pre.holds [] { args := args } = true := (pre_splitW hpre).2
  obtain ⟨d, r, rfl, h1, h2⟩ := hasAllW_cons hsh
  obtain rfl := hasAllW_nil h2
  obtain ⟨xs, rfl, h3⟩ := hasW_list h1
  obtain ⟨ns, rfl⟩ := items_int h3
  have hlen : ns.length ≤ n := by
    unfold OpenLaw.pre at hc
    have h4 : (WTm.not (.lt (.lit (.int (n : Int))) (.len (.arg 0)))).holds [] { args := [.list (ns.map .int)] } = true := by
      have h4 := (holds_andW hc).1
      rw [hn] at h4
      exact h4
    have h5 := condW_of h4 (w_not (w_lt w_lit (w_len_list (w_arg rfl))))
    rw [List.length_map] at h5
    refine Nat.le_of_not_lt fun q => ?_
    have q' : (n : Int) < ((ns.length : Nat) : Int) := by omega
    first
      | (rw [decide_eq_true q'] at h5; exact absurd h5 (by decide))
      | (simp at h5; omega)
  cases hwl with
  | cons w1 w2 =>
    cases w2
    cases w1 with
    | list ho hall => exact ⟨_, _, ns, rfl, rfl, ho, ints_of_wellAll ns _ hall, hlen⟩

theorem post_true (l : OpenLaw) (args : List WData) : l.row.toRowW.claim.post args (.bool true) args = true :=
  postW_of (r := l.row.toRowW) (X := (true == true))
    (show WShape.has [] (.bool true) .bool = true by first | rfl | decide | simp [WShape.has, WShape.arms, WShape.armsAll])
    (show (WTm.eq .res (.lit (.bool true))).value [] { args := args, res := some (.bool true), after := args } = some (.bool (true == true)) from w_eq_bool (w_res rfl) w_lit) rfl

/-! ### the attachment: holds_open's last premise (the goal 'hc' behind k_head) from a wpAny of the law's body -/
/-- the same from a codeAny of the CALL (for a layer whose function contracts speak of calls) -/
theorem attach_call {l : OpenLaw} {n : Nat} {q : Program} {loose : List Str} {XP : (Str → Option Value) → Heap → Prop} {YP : World → Heap → Prop} {d : DefRec}
    (hn : l.most = some n) (hdf : d.params.defaults = [])
    (call : ∀ (w : World) (s₀ s₁ : Shared) (mg mb : Str → Option Value) (fa : Addr) (o : Obj) (pm cd doc : Value) (a : Addr) (vs : List Value) (ns : List Int),
      Ground q loose [] XP w s₀ mg mb s₁.heap → YP w s₁.heap →
      s₁.heap.get? fa = some o → o.data = .func (docDef d.name d.params d.body d.scope pm cd doc) → s₁.heap.CodeRec cd d.name → mg d.name = some (.ref fa) →
      s₁.heap.get? a = some { cls := .type "list", data := .seq vs.toArray } → IntsAre vs ns → ns.length ≤ n → s₁.gens = #[] →
      codeAny (model l.prog w) callerA (.call (.ref fa) ⟨[.ref a], []⟩) (fun r s' => r = .ok (.ret (.bool true)) ∧ OldK s₁.heap s'.heap ∧ s'.os = s₁.os ∧ AllBare s'.gens) s₁) :
    WalkO q loose XP YP l.row.toRowW d [] (fun f vs => PySem.call f vs) := by
  intro w s₀ s₁ mg mb G Y fa o pm cd doc dV kV ho hd hcd hD hmg hg args vals as hpre hlay hrd hwl hlo
  obtain rfl : dV = .none := Dflts.none hD hdf
  obtain rfl : kV = .none := Dflts.noKw hD
  obtain ⟨a, vs, ns, rfl, rfl, hobj, hints, hlen⟩ := script_of hn hpre hwl
  refine enter_call (codeAny_mono (call w s₀ s₁ mg mb fa o pm cd doc a vs ns G Y ho (fd_plain hd) hcd hmg hobj hints hlen hg) fun r s' hq => ?_)
  obtain ⟨rfl, h2, h3, h4⟩ := hq
  exact ⟨.inl ⟨.bool true, .bool true, [], rfl, fun _ => rfl, .bool true, post_true l _, fun _ => ⟨List.Pairwise.nil, fun _ hm => (nomatch hm)⟩⟩, h2, h3, h4⟩

/-! ### rules over ANY heap (no ledger) from facts about the written part K: the library's own take a ledger (News) for what they write -/
section
variable {prog : Program} {w : World} {A : Around} {E : Value → Shared → Prop} {s : Shared} {K : Frag}

/-! the whole heap as the ledger: makes every rule that writes through a ledger a rule over any heap -/
end
end Att

namespace L2
open PySem PySem.Spec PyProof.Rows

theorem vals_ints : ∀ {vs : List Value} {ns : List Int}, IntsAre vs ns → Vals (ns.map V.int) vs
  | _, _, .nil => .nil
  | _, _, .cons n t h => .cons ⟨t, rfl⟩ (vals_ints h)

/-- nothing is tracked but the script, known to the object (or it is an object of the module) -/
def Only (H : Hp) : Prop := ∀ b, H b = none ∨ ∃ o xs, H b = some (.frz o (.lst xs))

/-- THE HEAD: the law's promise, at the heap behind the top. F, the promise of the law's def, may use that base is part of the heap (so K.In base, base.Ns mainGlobals mg stand in Mod) -/
theorem law_call {P : Program} {w : World} {K : PySem.W.Frag} {mg mb : Str → Option Value} {CX : CXT} {k : Nat} {fa a : Addr} {fd : FuncData} {x : Str} {sp : Sp} {s₁ : Shared} {vs : List Value} {ns : List Int}
    (KX : K.In s₁.heap) (hns : s₁.heap.Ns mainGlobals mg) (hb : s₁.heap.Ns builtinsNs mb) (hbb : ∀ x : Str, x ≠ "__name__" → mb x = bootBuiltins x) (hlim : s₁.heap.NoLimit) (hg : s₁.gens = #[])
    (ha : s₁.heap.get? a = some { cls := .type "list", data := .seq vs.toArray }) (hi : IntsAre vs ns) (hl : ns.length ≤ sizeLine) (hr : Room k callerA)
    (F : ∀ base : Heap, K.In base → base.Ns mainGlobals mg → FnOk P w K mg base CX k fa fd [x] sp) (hbind : ∀ (s : Shared) (u : Value), BindsTo s fd ⟨[u], []⟩ [(x, u)])
    (hsp : ∀ H : Hp, Only H → SqL K H a (ns.map V.int) → sp [.ref a] H (fun v _ => v = .bl true) fun _ _ _ => False)
    (hCX : ∀ H e s', CX [] H s₁ (fun _ _ _ => False) e s' → False) :
    codeAny (model P w) callerA (.call (.ref fa) ⟨[.ref a], []⟩) (fun r s' => r = .ok (.ret (.bool true)) ∧ OldK s₁.heap s'.heap ∧ s'.os = s₁.os ∧ AllBare s'.gens) s₁ := by
  have rv := vals_ints hi
  have lenV := hi.length
  -- from an abstract heap in which nothing but the script may be tracked
  have core : ∀ H : Hp, Only H → SqL K H a (ns.map V.int) → HOk P w H s₁.heap → (∀ b, H b ≠ none → b = a) → (H a ≠ none → K.lookup a = none) →
      codeAny (model P w) callerA (.call (.ref fa) ⟨[.ref a], []⟩) (fun r s' => r = .ok (.ret (.bool true)) ∧ OldK s₁.heap s'.heap ∧ s'.os = s₁.os ∧ AllBare s'.gens) s₁ := by
    intro H hO hS hok hA hK
    have base_of : ∀ {b : Addr} {o : Obj}, s₁.heap.get? b = some o → H b = none → (hidT s₁.heap H).get? b = some o := fun e n => hidT_get e n
    have noA : ∀ {b : Addr} {o : Obj} {es : Array DictEntry} {ep : Nat}, s₁.heap.get? b = some o → o.data = .dict es ep → H b = none := fun {b o es ep} e d => by
      cases q : H b with
      | none => rfl
      | some u =>
        have e' : b = a := hA b (by rw [q]; simp)
        subst e'
        rw [ha] at e; cases e
        have d' : Data.seq vs.toArray _ = Data.dict es ep := d
        cases d'
    have nsK : ∀ {b : Addr} {m : Str → Option Value}, s₁.heap.Ns b m → (hidT s₁.heap H).Ns b m := fun {b m} ⟨o, es, ep, e, d, r⟩ => ⟨o, es, ep, base_of e (noA e d), d, r⟩
    have hKb : K.In (hidT s₁.heap H) := fun b o e => base_of (KX b o e) (by
      cases q : H b with
      | none => rfl
      | some u =>
        have e' : b = a := hA b (by rw [q]; simp)
        subst e'
        rw [hK (by rw [q]; simp)] at e; cases e)
    have hM : Mod K mg (hidT s₁.heap H) := ⟨hKb, nsK hns, ⟨mb, nsK hb, hbb⟩, let ⟨mc, h1, h2⟩ := hlim; ⟨mc, nsK h1, h2⟩⟩
    have e0 : Env0 P w K mg (hidT s₁.heap H) callerA [] s₁ H := ⟨rfl, hM, fun b o e => of_hidT e, Nat.le_of_eq (hidT_size _ _), trivial, fun b hb => absurd (show b ∈ ([] : List Addr) from hb) (by simp), hok, .of_eq hg⟩
    refine codeAny_mono ((F _ hKb (nsK hns)).run callerA [] s₁ H ⟨[.ref a], []⟩ [.ref a] [.ref a] _ _ hr e0 (hbind s₁ (.ref a)) (.cons rfl .nil) (hsp H hO hS)) fun r s' h => ?_
    cases r with
    | error e => exact (hCX H e s' h).elim
    | ok fl =>
      cases fl with
      | next => exact False.elim h
      | brk => exact False.elim h
      | cont => exact False.elim h
      | ret u =>
        obtain ⟨v, H', os, bare, un, hok', r', q⟩ := h
        have q' : v = .bl true := q
        subst q'
        obtain rfl : u = Value.bool true := r'
        refine ⟨rfl, OldK.of_keep fun b o e => ?_, os, bare⟩
        cases q : H b with
        | none => exact un.keep b o e q (by intro z; exact absurd (show b ∈ ([] : List Addr) from z) (by simp)) (by simp)
        | some u =>
          rcases hO b with z | ⟨ob, xs, z⟩
          · rw [q] at z; cases z
          · have z2 := un.frzs b ob _ z
            obtain ⟨e1, _⟩ := hok b _ z
            obtain ⟨e2, _⟩ := hok' b _ z2
            rw [e] at e1; cases e1
            exact e2
  cases hk : K.lookup a with
  | some o =>
    -- the script is one of the module's own objects
    have e := KX a o hk
    rw [ha] at e
    cases e
    refine core (fun _ => none) (fun _ => .inl rfl) (.inr ⟨_, vs.toArray, _, hk, rfl, rfl, rfl, by rw [List.size_toArray, lenV]; exact hl, by simpa using rv⟩) (fun b u z => by have z' : (none : Option HO) = some u := z; cases z') (fun b z => absurd rfl z) fun z => absurd rfl z
  | none =>
    refine core (fun b => if b = a then some (.frz { cls := .type "list", data := .seq vs.toArray } (.lst (ns.map V.int))) else none) (fun b => ?_) (.inl (.inr ⟨{ cls := .type "list", data := .seq vs.toArray }, if_pos rfl⟩)) (fun b u z => ?_) (fun b z => ?_) fun _ => hk
    · by_cases hb : b = a
      · exact .inr ⟨_, _, if_pos hb⟩
      · exact .inl (if_neg hb)
    · by_cases hb : b = a
      · have z' := (if_pos hb).symm.trans z
        cases z'
        subst hb
        exact ⟨ha, by rw [List.length_map]; exact hl, vs, _, rv, ha⟩
      · have z' := (if_neg hb).symm.trans z
        cases z'
    · by_cases hb : b = a
      · exact hb
      · exact absurd (if_neg hb) z
end L2

namespace L2
open PySem PySem.Spec PyProof.Rows

/-- the goal that k_head leaves (case hc), from the law's promise. F gives the function object fd (K's own) once, then the promise over every base -/
theorem walk_of {l : PySem.W.OpenLaw} {n k : Nat} {q : Program} {loose : List Str} {XP : (Str → Option Value) → Heap → Prop} {YP : World → Heap → Prop} {d : DefRec} {K : Params → PySem.W.Frag} {CX : World → CXT} {sp : World → Sp} {x : Str}
    (hn : l.most = some n) (hn2 : n ≤ sizeLine) (hdf : d.params.defaults = []) (hr : Room k callerA)
    (hY : ∀ (w : World) (h : Heap), YP w h → (K w.params).In h)
    (F : ∀ (w : World) (mg : Str → Option Value) (fa : Addr) (h : Heap), (K w.params).In h → h.Ns mainGlobals mg → mg d.name = some (.ref fa) →
      ∃ fd : FuncData, (∀ (s : Shared) (u : Value), BindsTo s fd ⟨[u], []⟩ [(x, u)]) ∧
        ∀ base : Heap, (K w.params).In base → base.Ns mainGlobals mg → FnOk l.prog w (K w.params) mg base (CX w) k fa fd [x] (sp w))
    (hsp : ∀ (w : World) (H : Hp) (a : Addr) (ns : List Int), ns.length ≤ n → Only H → SqL (K w.params) H a (ns.map V.int) → sp w [.ref a] H (fun v _ => v = .bl true) fun _ _ _ => False)
    (hCX : ∀ (w : World) (H : Hp) (s : Shared) (e : Value) (s' : Shared), CX w [] H s (fun _ _ _ => False) e s' → False) :
    PySem.W.WalkO q loose XP YP l.row.toRowW d [] (fun f vs => PySem.call f vs) := by
  refine Att.attach_call hn hdf fun w s₀ s₁ mg mb fa o pm cd doc a vs ns G Y ho hd hcd hmg hobj hints hlen hg => ?_
  have KX := hY w _ Y
  obtain ⟨fd, hb, hF⟩ := F w mg fa _ KX G.T.g hmg
  exact law_call KX G.T.g G.T.b G.T.builtins G.T.nolimit hg hobj hints (Nat.le_trans hlen hn2) hr hF hb (fun H hO hS => hsp w H a ns hlen hO hS) fun H e s' => hCX w H s₁ e s'
end L2

/- THE LAST THEOREM (shape; LID, My.* are yours):
   My.Adr: a structure of the addresses that your layer names (classes, functions); My.Txt K t: a structure (Prop) of the equations over K;
   My.txt_mk : {K} {implicit addresses ..} (e1 : nsIn K mainGlobals "law" = some (some (.ref f))) (e2 : K.lookup f = some ⟨oc, od, .func (fnOf "law" "law" params body scope dV kV doc pm an cdv ct), sl⟩) (e3 : codeIn K cdv "law" = true) .. : ∃ t, My.Txt K t

set_option maxRecDepth 100000 in
set_option maxHeartbeats 0 in
theorem PySem.Challenge.cw_LID_holds : PySem.Challenge.rw_LID.Holds := by
  w_on; o_law; k_head; (case hw => w_witness2)
  k_fill
  refine L2.walk_of (l := PySem.Challenge.rw_LID) (n := 63) (k := 40) (x := "script") (CX := fun w => ..) (sp := fun _ => My.sp_law) rfl (by decide) rfl ⟨rfl, by decide, by decide⟩ (fun w h Y => PySem.W.kIn_of Y) ?F ?S ?C
  case F =>
    intro w mg fa h KX G hmg
    have T : ∃ t, My.Txt (L2.KOf KX) t := by
      dsimp only [L2.KOf]                          -- K must stand as «<heap const> w.params» for k_is
      refine' My.txt_mk ?e1 ?e2 ?e3 ..
      (case e1 => PySem.W.k_is)                    -- in the order: a name -> its address -> its object -> its parts
      (case e2 => PySem.W.k_is)
      ..
    obtain ⟨t, T⟩ := T
    have e0 := hmg.symm.trans (PySem.W.mg_of KX G T.law)
    cases e0                                       -- fa is the law's own address
    exact ⟨_, fun s u => .of_eq rfl, fun base kb nb => My.law_fn T kb nb⟩     -- if «.of_eq rfl» comes too early: refine' ⟨_, ?b, fun base kb nb => My.law_fn T kb nb⟩; exact fun s u => .of_eq rfl
  case S => exact fun w H a ns hl hO hS => ..
  case C => exact ..
(the tactic k_is has no namespace: write k_is) -/

/-! SHORT WORDS over the layer: a def of the text, its body, what a loop and a test want. -/
namespace L2
open PySem PySem.Spec PyProof.Rows

/-! ### the text by places -/
def defArgs (s : Stmt) : Arguments := match s with
  | .FunctionDef _ a _ _ _ _ _ _ _ _ => a
  | _ => { posonlyargs := [], args := [], vararg := none, kwonlyargs := [], kw_defaults := [], kwarg := none, defaults := [] }
def defBody (s : Stmt) : List Stmt := match s with
  | .FunctionDef _ _ b _ _ _ _ _ _ _ => b
  | _ => []
def defScope (s : Stmt) : Scope := match s with
  | .FunctionDef _ _ _ _ _ _ sc _ _ _ => sc
  | _ => { kind := .function, names := [], isGenerator := false, isCoroutine := false }

/-! ### no exception leaves a def -/
abbrev CX0 : CXT := fun _ _ _ _ _ _ => False
abbrev E0 : XK := fun _ _ _ => False
theorem pass0 {X : Cx} : Passes CX0 X E0 := fun _ _ _ _ _ _ _ h => h.elim

/-! ### a def (or method) of the text as it stands behind the top -/
structure Fun (K : PySem.W.Frag) (x qual : Str) (st : Stmt) (f : Addr) (fd : FuncData) : Prop where
  ex : ∃ (oc : Value) (od : Option Addr) (kV doc pm : Value) (an : Option Addr) (cdv ct : Value) (osl : Array (Option Value)),
    fd = PySem.W.fnOf x qual (defArgs st) (defBody st) (defScope st) .none kV doc pm an cdv ct ∧ K.lookup f = some ⟨oc, od, .func fd, osl⟩ ∧ PySem.W.codeIn K cdv qual = true
  kp : PySem.W.keepIn K (.ref f) = true
section
variable {P : Program} {w : World} {K : PySem.W.Frag} {mg : Str → Option Value} {base : Heap}
/-- THE RULE for a def: its body as a term of rules, and the reading of that term -/
theorem Fun.ok {x qual : Str} {st : Stmt} {f : Addr} {fd : FuncData} {N ps : List Str} {k : Nat} {sp : Sp} (F : Fun K x qual st f fd) (S : FnScope N ps (defScope st)) (len : ∀ vs H Q E, sp vs H Q E → vs.length = ps.length)
    (hbody : ∀ (cdv : Value) (A : Around) (outer : List Env) (s : Shared) (H : Hp) (vs : List V) (Q : VK) (E : XK), Room k (A.deeper (envOfC qual (defScope st) s.heap.objs.size f cdv)) → sp vs H Q E →
      ∃ t, PSs (cxOf CX0 P w K mg base N qual (defScope st) f cdv A outer s H E).nox (defBody st) t ∧ t { nx := fun _ H' => Q .non H', rt := Q } (start N vs) H) : FnOk P w K mg base CX0 (k + 1) f fd ps sp := by
  obtain ⟨oc, od, kV, doc, pm, an, cdv, ct, osl, rfl, lk, hcd⟩ := F.ex
  refine fn_of lk hcd S len fun A outer s H vs Q E hr hsp => ?_
  obtain ⟨t, h, q⟩ := hbody cdv A outer s H vs Q E hr hsp
  exact ⟨t, h.nox, q⟩
/-- how its arguments bind (no defaults): h is «fun _ _ _ _ _ _ us hl => match us, hl with | [_, _], _ => rfl», one _ a parameter -/
theorem Fun.binds {x qual : Str} {st : Stmt} {f : Addr} {fd : FuncData} {ps : List Str} (F : Fun K x qual st f fd)
    (h : ∀ (kV doc pm : Value) (an : Option Addr) (cdv ct : Value) (us : List Value), us.length = ps.length → bindArgs (PySem.W.fnOf x qual (defArgs st) (defBody st) (defScope st) .none kV doc pm an cdv ct) ⟨us, []⟩ = pure (ps.zip us)) : Binds K fd ps [] := by
  obtain ⟨oc, od, kV, doc, pm, an, cdv, ct, osl, rfl, lk, hcd⟩ := F.ex
  exact .all (h kV doc pm an cdv ct)
theorem fun_mk {x qual : Str} {st : Stmt} {f : Addr} {oc : Value} {od an : Option Addr} {osl : Array (Option Value)} {kV doc pm cdv ct : Value} (l : K.lookup f = some ⟨oc, od, .func (PySem.W.fnOf x qual (defArgs st) (defBody st) (defScope st) .none kV doc pm an cdv ct), osl⟩)
    (c : PySem.W.codeIn K cdv qual = true) (k : PySem.W.keepIn K (.ref f) = true) : Fun K x qual st f (PySem.W.fnOf x qual (defArgs st) (defBody st) (defScope st) .none kV doc pm an cdv ct) := ⟨⟨oc, od, kV, doc, pm, an, cdv, ct, osl, rfl, l, c⟩, k⟩
end
theorem hu_of {A : Around} {k : Nat} (hr : Room k A) : A.units + 1 < cLine := Nat.lt_of_le_of_lt (Nat.add_le_add_left (by decide : 1 ≤ 64) _) hr.units
theorem small1000 {n : Nat} (h : n ≤ 1000) : n < sizeLine := Nat.lt_of_le_of_lt h (by decide)

/-! ### expressions in short: the name that stands in the i-th slot -/
section
variable {X : Cx}
theorem pv (i : Nat) {x : Str} {pos : Pos} (hN : X.N[i]? = some x := by rfl) (hv : Vis X.env.scope x := by first | exact Or.inl rfl | exact Or.inr (Or.inl rfl) | exact Or.inr (Or.inr rfl)) (hd : (x == ("__debug__" : Str)) = false := by decide)
    (hcd : (x == ("__classdict__" : Str)) = false := by decide) : PE X (.Name x pos) (tVar i) := pe_var hN hv hd hcd
end

/-! ### tests -/
theorem iteF {A B : Prop} (h : B) : if false = true then A else B := by
  rw [if_neg Bool.false_ne_true]
  exact h
theorem iteT {A B : Prop} (h : A) : if true = true then A else B := by
  rw [if_pos rfl]
  exact h
theorem ite2 {c A B : Prop} [Decidable c] (h1 : c → A) (h2 : ¬ c → B) : if c then A else B := by
  by_cases h : c
  · rw [if_pos h]
    exact h1 h
  · rw [if_neg h]
    exact h2 h
theorem iteNS {c A B : Prop} [Decidable c] (hc : c) (h : B) : if (!decide c) = true then A else B := by
  rw [decide_eq_true hc]
  exact iteF h

/-! ### heaps -/
/-- all that was tracked is as it was -/
def Same (H H' : Hp) : Prop := ∀ b o, H b = some o → H' b = some o
theorem Same.trans {H H1 H2 : Hp} (a : Same H H1) (b : Same H1 H2) : Same H H2 := fun c o h => b c o (a c o h)
theorem Same.seq {K : PySem.W.Frag} {H H' : Hp} {a : Addr} {xs : List V} (e : Same H H') (h : SqL K H a xs) : SqL K H' a xs := by
  rcases h with (h | ⟨o, h⟩) | h
  · exact .inl (.inl (e _ _ h))
  · exact .inl (.inr ⟨o, e _ _ h⟩)
  · exact .inr h

end L2

set_option Elab.async false
set_option linter.all false
set_option maxRecDepth 100000
set_option maxHeartbeats 4000000
namespace L2
open PySem PySem.Spec PyProof.Rows

abbrev NoX : Value → Shared → Prop := fun _ _ => False
theorem wpX {α : Type} {M : Model} {A : Around} {t : Sem α} {Q : α → Shared → Prop} {E : Value → Shared → Prop} {s : Shared} (h : wpAny M A t Q NoX s) : wpAny M A t Q E s :=
  wpAny_mono h (fun _ _ q => q) fun _ _ f => f.elim

/-- the tests of a clause -/
def testAll (ifs : List Expr) (env : Env) : Sem Bool :=
  forIn ifs true fun c r => if r = true then do let ok ← isTrue c env (eval c env); pure (ForInStep.yield ok) else pure (ForInStep.yield r)

/-- the loop of a comprehension of one clause, any target; no exception leaves -/
theorem comp_loop_any {prog : Program} {w : World} {A : Around} {R : Result → Shared → Prop} {s : Shared} {elt tg iter : Expr} {ifs : List Expr} {scope : Scope} {pos : Pos} {it acc : Value} {env : Env} (Iv : Nat → Shared → Prop)
    (turn : ∀ n s, Iv n s → wpAny (model prog w) A (pyNext it) (fun r s1 => match r with
      | none => R (.ok .next) s1
      | some v => wpAny (model prog w) A (letOwnedTupleGo tg it v) (fun _ s2 => wpAny (model prog w) A (assign tg env v) (fun _ s3 => wpAny (model prog w) A (testAll ifs env) (fun ok s4 =>
            if ok = true then wpAny (model prog w) A (eval elt env) (fun x s5 => wpAny (model prog w) A (call (.builtin "list.append") [acc, x]) (fun _ s6 => ∃ m, m < n ∧ Iv m s6) NoX s5) NoX s4
            else ∃ m, m < n ∧ Iv m s4) NoX s3) NoX s2) NoX s1) NoX s)
    (n : Nat) (h : Iv n s) : codeAny (model prog w) A (.compLoop (.ListComp elt [⟨tg, iter, ifs, 0⟩] scope pos) 0 it acc env) R s := by
  refine codeAny_loop rfl Iv (fun n s hI => ?_) n h
  show wpAny (model prog w) A ((compTurn (.ListComp elt [⟨tg, iter, ifs, 0⟩] scope pos) 0 it acc env).onRaise (fun x => do noteFrame x env; theTreesLotGoes x)) _ _ s
  refine wpAny_noted (wpX ?_)
  rw [compTurn_list]
  refine wpAny_bind (wpAny_standAt (wpAny_bind (thn (turn n s hI) fun r s1 h1 => ?_)))
  cases r with
  | none => exact wpAny_pure h1
  | some v =>
    refine wpAny_bind (thn h1 fun _ s2 h2 => wpAny_bind (thn h2 fun _ s3 h3 => wpAny_bind (thn h3 fun ok s4 h4 => ?_)))
    cases ok with
    | false => exact wpAny_pure ⟨rfl, h4⟩
    | true => exact wpAny_bind (wpAny_bind (thn h4 fun x s5 h5 => wpAny_bind (thn h5 fun _ s6 h6 => wpAny_pure (wpAny_pure ⟨rfl, h6⟩))))

/-! what a block closes over -/
def stepCap (env : Env) (y : Str × NameKind) (cs : List (Str × Addr)) : List (Str × Addr) := if (y.2 == NameKind.free) = true then (y.1, (env.cells.lookup y.1).getD 0) :: cs else cs
def capOf (env : Env) (scope : Scope) : List (Str × Addr) := scope.names.foldl (fun c y => stepCap env y c) []
theorem forIn_steps {α β : Type} {f : α → β → Sem (ForInStep β)} {g : β → α → β} : ∀ (l : List α) (c : β), (∀ x ∈ l, ∀ c, f x c = pure (.yield (g c x))) → forIn l c f = pure (l.foldl g c)
  | [], c, _ => rfl
  | x :: l, c, h => by
    rw [List.forIn_cons, h x List.mem_cons_self, pure_bind]
    exact forIn_steps l (g c x) fun y hy => h y (List.mem_cons_of_mem _ hy)
theorem closure_is {env : Env} {scope : Scope} (h : ∀ y ∈ scope.names, y.2 = .free → ∃ c, env.cells.lookup y.1 = some c) : closureFor scope env = pure (capOf env scope) := by
  simp only [closureFor]
  rw [forIn_steps (g := fun c y => stepCap env y c) scope.names [] (fun y hy c => ?_)]
  · rfl
  · obtain ⟨n, k⟩ := y
    by_cases hk : k = .free
    · subst hk
      obtain ⟨a, ha⟩ := h _ hy rfl
      have ha' : env.cells.lookup n = some a := ha
      simp [stepCap, cellOf, ha']
    · have hb : (k == NameKind.free) = false := by simpa using hk
      simp only [stepCap, hb, Bool.false_eq_true, if_false]
theorem fold_cap_sub {env : Env} : ∀ (ns : List (Str × NameKind)) (cs : List (Str × Addr)), (∀ y ∈ ns, y.2 = .free → ∃ c, env.cells.lookup y.1 = some c) → (∀ x c, cs.lookup x = some c → env.cells.lookup x = some c) →
    ∀ x c, (ns.foldl (fun c y => stepCap env y c) cs).lookup x = some c → env.cells.lookup x = some c
  | [], _, _, h => h
  | y :: ns, cs, hf, h => by
    refine fold_cap_sub ns (stepCap env y cs) (fun z hz => hf z (List.mem_cons_of_mem _ hz)) fun x c e => ?_
    unfold stepCap at e
    split at e
    · rename_i hk
      have hk' : y.2 = .free := by simpa using hk
      obtain ⟨a, ha⟩ := hf y List.mem_cons_self hk'
      rw [List.lookup_cons] at e
      split at e
      · rename_i hx
        have hx' : x = y.1 := by simpa using hx
        rw [ha] at e
        rw [hx', ha]
        exact e
      · exact h x c e
    · exact h x c e
theorem fold_cap_has {env : Env} (x : Str) : ∀ (ns : List (Str × NameKind)) (cs : List (Str × Addr)), ((x, NameKind.free) ∈ ns ∨ ∃ c, cs.lookup x = some c) → ∃ c, (ns.foldl (fun c y => stepCap env y c) cs).lookup x = some c
  | [], _, h => by
    rcases h with h | h
    · exact absurd h (by simp)
    · exact h
  | y :: ns, cs, h => by
    refine fold_cap_has x ns (stepCap env y cs) ?_
    rcases h with h | ⟨c, h⟩
    · rcases List.mem_cons.mp h with e | h
      · subst e
        exact .inr ⟨(List.lookup x env.cells).getD 0, by simp [stepCap]⟩
      · exact .inl h
    · refine .inr ?_
      unfold stepCap
      split
      · rw [List.lookup_cons]
        split
        · exact ⟨_, rfl⟩
        · exact ⟨c, h⟩
      · exact ⟨c, h⟩
def relK (env : Env) (n : Str) (k : NameKind) : NameKind := if (k == NameKind.free && env.scope.kind == .function && env.kindOf n == some .cell) = true then .cell else k
def relP (env : Env) (y : Str × NameKind) : Str × NameKind := if (y.2 == NameKind.free && env.scope.kind == .function && env.kindOf y.1 == some .cell) = true then (y.1, NameKind.cell) else (y.1, y.2)
theorem relP_eq (env : Env) (y : Str × NameKind) : relP env y = (y.1, relK env y.1 y.2) := by
  unfold relP relK
  split <;> rfl
theorem lookup_rel {env : Env} (x : Str) : ∀ ns : List (Str × NameKind), (ns.map (relP env)).lookup x = (ns.lookup x).map (relK env x)
  | [] => rfl
  | (n, k) :: r => by
    have ih := lookup_rel (env := env) x r
    rw [List.map_cons, relP_eq, List.lookup_cons, List.lookup_cons]
    cases hx : x == n with
    | true =>
      have e : x = n := by simpa using hx
      subst e
      rfl
    | false => exact ih
theorem relabel_lookup {env : Env} {scope : Scope} (x : Str) : (relabel scope env).names.lookup x = (scope.names.lookup x).map (relK env x) := lookup_rel x scope.names

def capOne (N : List Str) (scope : Scope) (p : Option Nat × Str) : Bool := match p.1 with
  | none => true
  | some j => decide (N[j]? = some p.2) && decide (scope.names.lookup p.2 = some .free)
/-- a block's names: its own, and the captured ones with their slots outside -/
structure CompOk (N : List Str) (sc : Scope) (N' : List Str) (ix : List (Option Nat)) (scope : Scope) : Prop where
  kind : scope.kind = .function
  nocell : ∀ y ∈ scope.names, y.2 ≠ .cell
  locs : ∀ y ∈ scope.names, y.2 = .local → scope.names.lookup y.1 = some .local
  frees : ∀ y ∈ scope.names, y.2 = .free → (sc.names.lookup y.1 = some .cell ∨ sc.names.lookup y.1 = some .free)
  nd : N'.Nodup
  len : ix.length = N'.length
  cap : (ix.zip N').all (capOne N scope) = true
def ixSt (ix : List (Option Nat)) (σ : St) : St := ix.map fun o => o.bind fun i => (σ[i]?).join
/-- the context of a comprehension's block -/
def cxComp (X : Cx) (N' : List Str) (scope : Scope) (C : Addr) (fp : List Addr) (s₀ : Shared) (H₀ : Hp) : Cx where
  prog := X.prog
  w := X.w
  K := X.K
  mg := X.mg
  base := X.base
  A := X.A
  N := N'
  s₀ := s₀
  H₀ := H₀
  env := compEnvC scope (capOf X.env scope) C X.env
  outer := X.stack
  stack := X.stack
  ex := fp
  fn := fun _ => false
  calm := X.calm
  pn := []
  xe := NoX

section
variable {X : Cx} {N' : List Str} {ix : List (Option Nat)} {scope : Scope} {pins : List (Addr × Obj)} {σ : St} {H : Hp} {s : Shared} {fp : List Addr}
theorem CompOk.has (S : CompOk X.N X.env.scope N' ix scope) (ok : X.Ok) : ∀ y ∈ scope.names, y.2 = .free → ∃ c, X.env.cells.lookup y.1 = some c := fun y hy hk => ok.has y.1 (S.frees y hy hk)
theorem CompOk.sub (S : CompOk X.N X.env.scope N' ix scope) (ok : X.Ok) : ∀ x c, (capOf X.env scope).lookup x = some c → X.env.cells.lookup x = some c :=
  fold_cap_sub scope.names [] (S.has ok) fun x c e => by simp at e
theorem CompOk.frK (S : CompOk X.N X.env.scope N' ix scope) {x : Str} (h : (relabel scope X.env).names.lookup x = some .cell ∨ (relabel scope X.env).names.lookup x = some .free) : scope.names.lookup x = some .free := by
  rw [relabel_lookup] at h
  cases e : scope.names.lookup x with
  | none => rw [e] at h; simp at h
  | some k =>
    rw [e] at h
    cases k with
    | free => rfl
    | cell => exact absurd rfl (S.nocell _ (PySem.mem_of_lookup e))
    | «local» => simp [relK] at h
    | globalExplicit => simp [relK] at h
    | globalImplicit => simp [relK] at h
/-- into the block -/
theorem comp_enter {h1 : Heap} {m : Str → Option Value} {tk : Nat} (S : CompOk X.N X.env.scope N' ix scope) (I : Inv X pins σ H s) (hf : ∀ b ∈ fp, FpOk X pins H b) (hlt : ∀ b ∈ fp, b < s.heap.objs.size)
    (ns : h1.Ns s.heap.objs.size m) (kp : ∀ b o, s.heap.get? b = some o → h1.get? b = some o) :
    Inv (cxComp X N' scope s.heap.objs.size fp s H) [] (ixSt ix σ) H { s with heap := h1, toks := tk } := by
  have sub := S.sub I.ok
  have cellS : ∀ x c, (capOf X.env scope).lookup x = some c → c < s.heap.objs.size := fun x c e => by
    obtain ⟨v, q⟩ := I.cell x c (sub x c e)
    exact q.lt
  refine ⟨⟨I.ok.mod, S.kind, I.ok.glob, I.ok.blt, Nat.le_refl _, fun x y c h1 h2 => I.ok.inj x y c (sub x c h1) (sub y c h2), fun x hx => ?_, fun x c z _ => ?_, I.ok.hd, I.ok.frames, .inl rfl, fun b hb => ⟨?_, fun x c e => ?_⟩, I.bs, Nat.le_trans I.ok.bsz I.sz, fun b o e hb => ?_, fun b hb z => ?_, I.stack, I.stkFree⟩,
    rfl, I.bare, Un.kept kp, ⟨m, ns, fun i x v h1 h2 h3 => ?_⟩, fun x c e => ?_, I.hok.fresh (Nat.le_refl _), fun x c e => I.freeC x c (sub x c e), fun p hp => absurd (show p ∈ ([] : List (Addr × Obj)) from hp) (by simp), I.hok.kept kp, ?_⟩
  · exact fold_cap_has x scope.names [] (.inl (PySem.mem_of_lookup (S.frK hx)))
  · exact absurd (show false = true from z) (by simp)
  · exact Nat.ne_of_lt (hlt b hb)
  · exact (hf b hb).2.2.2.2.1 x c (sub x c e)
  · rcases (hf b hb).2.2.2.1 with z | z
    · exact I.ok.noex b o e z
    · exact absurd (Nat.lt_of_lt_of_le (Heap.lt_size e) (Nat.le_trans I.ok.bsz z)) (Nat.lt_irrefl _)
  · rcases List.mem_cons.mp (I.stkSub b z) with e | e
    · exact (hf b hb).2.1 e
    · exact (hf b hb).2.2.1 e
  · have hi : i < ix.length := by
      have := (List.getElem?_eq_some_iff.mp h1).1
      rw [S.len]; exact this
    have e1 : ix[i]? = some ix[i] := List.getElem?_eq_getElem hi
    have h2' : (ixSt ix σ)[i]? = some (some v) := h2
    rw [ixSt, List.getElem?_map, e1] at h2'
    have h2'' : (ix[i].bind fun j => (σ[j]?).join) = some v := Option.some.inj h2'
    cases ej : ix[i] with
    | none => rw [ej] at h2''; cases h2''
    | some j =>
      rw [ej] at h2''
      have h2j : (σ[j]?).join = some v := h2''
      have hz : (ix[i], x) ∈ ix.zip N' := by
        have ez : (ix.zip N')[i]? = some (ix[i], x) := by rw [List.getElem?_zip_eq_some]; exact ⟨e1, h1⟩
        exact List.mem_of_getElem? ez
      have cq := List.all_eq_true.mp S.cap _ hz
      have cq' : (decide (X.N[j]? = some x) && decide (scope.names.lookup x = some .free)) = true := by
        unfold capOne at cq
        simp only [ej] at cq
        exact cq
      rw [Bool.and_eq_true] at cq'
      have c1 := of_decide_eq_true cq'.1
      have c2 := of_decide_eq_true cq'.2
      have kx : X.env.scope.names.lookup x = some .cell ∨ X.env.scope.names.lookup x = some .free := S.frees (x, .free) (PySem.mem_of_lookup c2) rfl
      have hs : σ[j]? = some (some v) := by
        cases q : σ[j]? with
        | none => rw [q] at h2j; cases h2j
        | some o => rw [q] at h2j; have : o = some v := h2j; rw [this]
      obtain ⟨m0, hn0, hl0⟩ := I.loc
      obtain ⟨u, ru, lk⟩ := hl0 j x v c1 hs (kx.elim (fun z => .inr (.inl z)) fun z => .inr (.inr z))
      refine ⟨u, ru, .inr ⟨?_, ?_⟩⟩
      · show (relabel scope X.env).names.lookup x = some .cell ∨ (relabel scope X.env).names.lookup x = some .free
        rw [relabel_lookup, c2]
        simp only [Option.map_some, relK]
        split
        · exact .inl rfl
        · exact .inr rfl
      · rcases lk with ⟨k, _⟩ | ⟨_, c, ec, hc⟩
        · have k' : X.env.scope.names.lookup x = some .local := k
          rw [k'] at kx
          rcases kx with z | z <;> cases z
        · obtain ⟨c', ec'⟩ := fold_cap_has (env := X.env) x scope.names [] (.inl (PySem.mem_of_lookup c2))
          have := sub x c' ec'
          rw [ec] at this; cases this
          exact ⟨c, ec', hc.keeps kp⟩
  · obtain ⟨v, q⟩ := I.cell x c (sub x c e)
    exact ⟨v, q.keeps kp⟩
  · show (ixSt ix σ).length = N'.length
    rw [ixSt, List.length_map, S.len]

/-- the tests' readings -/
def PF (X : Cx) (ifs : List Expr) (t : TT) : Prop := ∀ (pins : List (Addr × Obj)) (s : Shared) (σ : St) (H : Hp) (Q : Bool → Hp → Prop), Inv X pins σ H s → t σ H Q → wpAny (model X.prog X.w) X.A (testAll ifs X.env) (TP X pins σ Q) X.xe s
def tYes : TT := fun _ H Q => Q true H
theorem pf_nil : PF X [] tYes := fun _ _ _ H _ I h => wpAny_tests_nil ⟨H, I, h⟩
theorem pf_one {c : Expr} {t : TT} (hc : PT X c t) : PF X [c] t := fun pins s σ H Q I h => wpAny_tests_one (hc pins s σ H Q I h)

/-- [elt for tg in iter if ..]: D is the list that is made -/
def CompGo (J : It) (g : TG) (tt : TT) (te : TE) (σ0 : St) (H1 : Hp) (Q : VK) (D : Addr) : Prop := ∃ W : Nat → Nat → St → Hp → Prop, (∃ m, W 0 m σ0 (upd H1 D (.lst []))) ∧ ∀ i m σ' H', W i m σ' H' →
  (J.stop i H' ∧ Q (.ref D) H') ∨ (J.go i H' ∧ ∀ x H2, J.yld i H' x H2 → g x σ' H2 fun σ2 H3 => tt σ2 H3 fun b H4 =>
    if b = true then te σ2 H4 fun v H5 => ∃ xs, H5 D = some (.lst xs) ∧ xs.length < sizeLine ∧ ∃ m', m' < m ∧ W (i + 1) m' σ2 (upd H5 D (.lst (xs ++ [v]))) else ∃ m', m' < m ∧ W (i + 1) m' σ2 H4)
def tComp (ix : List (Option Nat)) (wi : TI) (g : TG) (tt : TT) (te : TE) : TE := fun σ H Q => wi σ H fun J H1 => ∀ D, H1 D = none → CompGo J g tt te (ixSt ix σ) H1 Q D

/-- the block, from the iterator on; Z: what is wanted behind it, of the new list, the block's names (at C) and the state -/
theorem comp_block {elt tg iter : Expr} {ifs : List Expr} {pos : Pos} {g : TG} {tt : TT} {te : TE} {Q : VK} {Z : Value → Addr → Result → Shared → Prop} {it : Addr} {tn : Nat → Heap → Prop} {J : It}
    (S : CompOk X.N X.env.scope N' ix scope) (hc : X.calm = true)
    (hg : ∀ C fp s₀ H₀, PG (cxComp X N' scope C fp s₀ H₀) tg g) (ht : ∀ C fp s₀ H₀, PF (cxComp X N' scope C fp s₀ H₀) ifs tt) (he : ∀ C fp s₀ H₀, PE (cxComp X N' scope C fp s₀ H₀) elt te)
    (I : Inv X pins σ H s) (T : Turn X.prog X.w X.K tg J fp it tn) (st : tn 0 s.heap) (hf : ∀ b ∈ fp, FpOk X pins H b)
    (h : ∀ D, H D = none → ∃ W : Nat → Nat → St → Hp → Prop, (∃ m, W 0 m (ixSt ix σ) (upd H D (.lst []))) ∧ ∀ i m σ' H', W i m σ' H' →
      (J.stop i H' ∧ Q (.ref D) H') ∨ (J.go i H' ∧ ∀ x H2, J.yld i H' x H2 → g x σ' H2 fun σ2 H3 => tt σ2 H3 fun b H4 =>
        if b = true then te σ2 H4 fun v H5 => ∃ xs, H5 D = some (.lst xs) ∧ xs.length < sizeLine ∧ ∃ m', m' < m ∧ W (i + 1) m' σ2 (upd H5 D (.lst (xs ++ [v]))) else ∃ m', m' < m ∧ W (i + 1) m' σ2 H4))
    (hZ : ∀ D C H' s' m, Inv X pins σ H' s' → s'.heap.Ns C m → H' C = none → s.heap.objs.size ≤ C → Q (.ref D) H' → Z (.ref D) C (.ok .next) s') :
    wpAny (model X.prog X.w) X.A (newList []) (fun acc s3 => wpAny (model X.prog X.w) X.A (newFunctionEnv scope X.env.globals (capOf X.env scope) [] X.env.qual none .none (some X.env)) (fun cenv s4 =>
      codeAny (model X.prog X.w) X.A (.compStart (.ListComp elt [⟨tg, iter, ifs, 0⟩] scope pos) 0 (.ref it) acc { cenv with scope := relabel scope X.env }) (Z acc cenv.locals) s4) X.xe s3) X.xe s := by
  refine wpAny_newObj_type (wpAny_newFunctionEnv S.nocell (by intro y hy; simp at hy) (fun h1 ns1 sb1 => ?_) S.kind)
  have I3 : Inv X pins σ (upd H s.heap.objs.size (.lst [])) { s with heap := s.heap.push { cls := .type "list", data := .seq ([] : List Value).toArray }, toks := s.toks } := I.lnew (ys := []) (its := []) .nil (Nat.zero_le _)
  generalize hs3 : ({ s with heap := s.heap.push { cls := .type "list", data := .seq ([] : List Value).toArray } } : Shared) = s3 at ns1 sb1 ⊢
  have I3 : Inv X pins σ (upd H s.heap.objs.size (.lst [])) s3 := by rw [← hs3]; exact I3
  have hsz : s3.heap.objs.size = s.heap.objs.size + 1 := by rw [← hs3]; exact Heap.size_push _ _
  have st3 : tn 0 s3.heap := by
    rw [← hs3]
    exact T.keep _ _ _ st fun b _ o e => Heap.get?_push_of_some _ e
  have blw : ∀ b ∈ fp, b < s.heap.objs.size := fun b hb => by
    obtain ⟨o, e, _⟩ := T.obj _ _ st b hb
    exact Heap.lt_size e
  have hf3 : ∀ b ∈ fp, FpOk X pins (upd H s.heap.objs.size (.lst [])) b := fun b hb => ⟨by rw [upd_ne (Nat.ne_of_lt (blw b hb))]; exact (hf b hb).1, (hf b hb).2⟩
  obtain ⟨W, ⟨m0, w0⟩, turn⟩ := h s.heap.objs.size I.fresh
  have kp : ∀ b o, s3.heap.get? b = some o → h1.get? b = some o := fun b o e => (sb1.2 b (Nat.ne_of_lt (Heap.lt_size e))).trans (Heap.get?_push_of_some _ e)
  have J0 := comp_enter (tk := s3.toks + ([] : List (Str × Value)).length) S I3 hf3 (fun b hb => by rw [hsz]; exact Nat.lt_succ_of_lt (blw b hb)) ns1 kp
  have st4 : tn 0 h1 := T.keep _ _ _ st3 fun b _ o e => kp b o e
  have stat : ∀ {H' : Hp} {pl : List (Addr × Obj)}, (∀ b ∈ fp, H' b = none) → (∀ b ∈ fp, ∀ p ∈ pl, p.1 ≠ b) → ∀ b ∈ fp, FpOk (cxComp X N' scope s3.heap.objs.size fp s3 (upd H s.heap.objs.size (.lst []))) pl H' b := fun hn hp b hb =>
    ⟨hn b hb, (J0.ok.exf b hb).1, J0.ok.exfs b hb, .inl hb, (J0.ok.exf b hb).2, fun p q => hp b hb p q⟩
  have loop : codeAny (model X.prog X.w) X.A (.compLoop (.ListComp elt [⟨tg, iter, ifs, 0⟩] scope pos) 0 (.ref it) (.ref s.heap.objs.size) (cxComp X N' scope s3.heap.objs.size fp s3 (upd H s.heap.objs.size (.lst []))).env) (Z (.ref s.heap.objs.size) s3.heap.objs.size)
      { s3 with heap := h1, toks := s3.toks + ([] : List (Str × Value)).length } := by
    refine comp_loop_any (fun n s' => ∃ i σ' H', Inv (cxComp X N' scope s3.heap.objs.size fp s3 (upd H s.heap.objs.size (.lst []))) [] σ' H' s' ∧ tn i s'.heap ∧ (∀ b ∈ fp, H' b = none) ∧ W i n σ' H') ?_ m0
      ⟨0, _, _, J0, st4, fun b hb => (hf3 b hb).1, w0⟩
    rintro n s5 ⟨i, σ5, H5, I5, st5, fr5, w5⟩
    rcases turn i n σ5 H5 w5 with ⟨stop, q⟩ | ⟨go, step⟩
    · refine thn (T.done (cxComp X N' scope s3.heap.objs.size fp s3 (upd H s.heap.objs.size (.lst []))) rfl rfl rfl hc i [] s5 σ5 H5 NoX I5 (stat (pl := []) fr5 (fun _ _ p hp => absurd hp (by simp))) st5 stop) fun r s6 ⟨hr, I6⟩ => ?_
      subst hr
      have I7 : Inv X pins σ H5 s6 := I3.call' (ch := fp) I6.os I6.base I6.hok I6.bare fun b hb => ⟨(hf3 b hb).2.2.2.1, (hf3 b hb).2.1, (hf3 b hb).2.2.2.2.1, (hf3 b hb).2.2.2.2.2⟩
      obtain ⟨m6, n6, _⟩ := I6.loc
      exact hZ _ _ H5 s6 m6 I7 n6 I6.free (by rw [hsz]; exact Nat.le_succ _) q
    · refine thn (T.item (cxComp X N' scope s3.heap.objs.size fp s3 (upd H s.heap.objs.size (.lst []))) rfl rfl rfl hc i [] s5 σ5 H5 NoX I5 (stat (pl := []) fr5 (fun _ _ p hp => absurd hp (by simp))) st5 go) fun r s6 ⟨u, hr, h6⟩ => ?_
      subst hr
      refine thn h6 fun _ s7 ⟨x, H7, I7, r7, y7, st7, fr7⟩ => ?_
      have I7' := I7.pinned (stat (pl := []) fr7 (fun _ _ p hp => absurd hp (by simp))) (T.obj _ _ st7)
      refine thn (hg _ _ _ _ _ s7 σ5 H7 x u _ I7' r7 (step x H7 y7)) fun _ s8 ⟨σ8, H8, I8, q8⟩ => ?_
      refine thn (ht _ _ _ _ _ s8 σ8 H8 _ I8 q8) fun b s9 ⟨H9, I9, q9⟩ => ?_
      have again : ∀ {σ' : St} {H' : Hp} {s' : Shared} {m' : Nat}, Inv (cxComp X N' scope s3.heap.objs.size fp s3 (upd H s.heap.objs.size (.lst []))) ([] ++ pinsAt fp s7.heap) σ' H' s' → m' < n → W (i + 1) m' σ' H' →
          ∃ m, m < n ∧ ∃ i σ' H', Inv (cxComp X N' scope s3.heap.objs.size fp s3 (upd H s.heap.objs.size (.lst []))) [] σ' H' s' ∧ tn i s'.heap ∧ (∀ b ∈ fp, H' b = none) ∧ W i m σ' H' := fun {σ' H' s' m'} I' hm w' => by
        refine ⟨m', hm, i + 1, σ', H', I'.unpinned, T.keep _ _ _ st7 fun b hb o e => (I'.pin (b, o) (List.mem_append_right _ (List.mem_append_right _ (mem_pinsAt hb e)))).1, fun b hb => ?_, w'⟩
        obtain ⟨o, e, d⟩ := T.obj _ _ st7 b hb
        exact (I'.pin (b, o) (List.mem_append_right _ (List.mem_append_right _ (mem_pinsAt hb e)))).2.1
      cases b with
      | false =>
        obtain ⟨m', hm, w'⟩ := (show ∃ m', m' < n ∧ W (i + 1) m' σ8 H9 from q9)
        exact again I9 hm w'
      | true =>
        refine thn (he _ _ _ _ _ s9 σ8 H9 _ I9 q9) fun v s10 ⟨y, H10, I10, r10, q10⟩ => ?_
        obtain ⟨xs, hx, hl, m', hm, w'⟩ := q10
        refine thn (mt_append _ s10 σ8 H10 (.ref s.heap.objs.size) [y] (.ref s.heap.objs.size) [v] (fun _ H' => W (i + 1) m' σ8 H') I10 rfl (.cons r10 .nil) ⟨_, xs, y, rfl, rfl, hx, hl, w'⟩) fun _ s11 ⟨_, H11, I11, _, q11⟩ => ?_
        exact again I11 hm q11
  exact codeAny_compStart_list loop (T.self _ _ _ _ _ st4 loop)

/-- as a value -/
theorem pe_comp {elt tg iter : Expr} {ifs : List Expr} {pos : Pos} {wi : TI} {g : TG} {tt : TT} {te : TE} (S : CompOk X.N X.env.scope N' ix scope) (hc : X.calm = true) (hi : PI X tg iter wi)
    (hg : ∀ C fp s₀ H₀, PG (cxComp X N' scope C fp s₀ H₀) tg g) (ht : ∀ C fp s₀ H₀, PF (cxComp X N' scope C fp s₀ H₀) ifs tt) (he : ∀ C fp s₀ H₀, PE (cxComp X N' scope C fp s₀ H₀) elt te)
    (hs : ∀ x, foldedSetIterable iter X.env x = pure x := by intro _; rfl) : PE X (.ListComp elt [⟨tg, iter, ifs, 0⟩] scope pos) (tComp ix wi g tt te) := by
  intro pins s σ H Q I h
  rw [eval_ListComp]
  refine wpAny_comprehension_free (use := none) rfl hs (closure_is (S.has I.ok)) S.kind S.locs (thn (hi pins s σ H _ I h) fun v s1 h1 => thn h1 fun itv s2 h2 => ?_)
  obtain ⟨it, fp, tn, J, H2, e, I2, T, st2, f2, q⟩ := h2
  subst e
  refine comp_block (Z := fun acc C => compPost (model X.prog X.w) X.A X.xe none (EP X pins σ Q) acc C) S hc hg ht he I2 T st2 f2 q ?_
  intro D C H' s' m I' hn hC hz qD
  refine ⟨m, hn, fun h' sb => ?_⟩
  have I'' : Inv X pins σ H' { s' with heap := h', toks := s'.toks } := I'.turned (it := C) (fun b o hb e => (sb.2 b hb).trans e) hC (fun z => absurd (Nat.lt_of_lt_of_le I2.lt (by rw [← z]; exact hz)) (Nat.lt_irrefl _))
    (.inr (Nat.le_trans I2.sz hz)) (fun x c e z => by obtain ⟨v, w⟩ := I2.cell x c e; exact absurd (Nat.lt_of_lt_of_le w.lt (by rw [z]; exact hz)) (Nat.lt_irrefl _)) (fun p hp z => absurd (Nat.lt_of_lt_of_le (Heap.lt_size (I2.pin p hp).1) (by rw [z]; exact hz)) (Nat.lt_irrefl _))
  exact ⟨.ref D, H', I'', rfl, qD⟩
/-- name = [..], the name not captured, on one line -/
theorem ps_setComp {i : Nat} {y : Str} {py spos : Pos} {elt tg iter : Expr} {ifs : List Expr} {pos : Pos} {wi : TI} {g : TG} {tt : TT} {te : TE} (S : CompOk X.N X.env.scope N' ix scope) (hc : X.calm = true) (hi : PI X tg iter wi)
    (hg : ∀ C fp s₀ H₀, PG (cxComp X N' scope C fp s₀ H₀) tg g) (ht : ∀ C fp s₀ H₀, PF (cxComp X N' scope C fp s₀ H₀) ifs tt) (he : ∀ C fp s₀ H₀, PE (cxComp X N' scope C fp s₀ H₀) elt te)
    (hN : X.N.Nodup) (hy : X.N[i]? = some y) (hl : X.env.scope.names.lookup y = some .local) (hsw : swapsWith (.ListComp elt [⟨tg, iter, ifs, 0⟩] scope pos) (some (.Name y py)) spos.line X.env = pure true)
    (hs : ∀ x, foldedSetIterable iter X.env x = pure x := by intro _; rfl) : PS X (.Assign [.Name y py] (.ListComp elt [⟨tg, iter, ifs, 0⟩] scope pos) spos) (tAsg (tComp ix wi g tt te) (gName i)) := by
  intro pins s σ H D I h
  rw [exec_Assign_Name_used _ _ _ _ hsw]
  refine wpAny_bind (wpAny_standAt (wpAny_bind ?_))
  rw [arm_evalThenUse_ListComp]
  refine wpAny_bind (thn (wpAny_comprehension_free (use := some (assign (.Name y py) X.env)) (Q := fun _ s' => SP X pins D .next s') rfl hs (closure_is (S.has I.ok)) S.kind S.locs
    (thn (hi pins s σ H _ I h) fun v s1 h1 => thn h1 fun itv s2 h2 => ?_)) fun _ s' q => wpAny_pure (wpAny_pure q))
  obtain ⟨it, fp, tn, J, H2, e, I2, T, st2, f2, q⟩ := h2
  subst e
  refine comp_block (Q := fun x H1 => gName i x σ H1 D.nx) (Z := fun acc C => compPost (model X.prog X.w) X.A X.xe (some (assign (.Name y py) X.env)) (fun _ s' => SP X pins D .next s') acc C) S hc hg ht he I2 T st2 f2 q ?_
  intro Dl C H' s' m I' hn hC hz qD
  have neL : C ≠ X.env.locals := fun z => absurd (Nat.lt_of_lt_of_le I2.lt (by rw [← z]; exact hz)) (Nat.lt_irrefl _)
  have neC : ∀ x c, X.env.cells.lookup x = some c → c ≠ C := fun x c e z => by obtain ⟨v, w⟩ := I2.cell x c e; exact absurd (Nat.lt_of_lt_of_le w.lt (by rw [z]; exact hz)) (Nat.lt_irrefl _)
  show wpAny (model X.prog X.w) X.A (assign (.Name y py) X.env (.ref Dl)) _ X.xe s'
  refine wpAny_assign_Name (store_ok2 I' hN hy (.inl hl) (show RelV (.ref Dl) (.ref Dl) from rfl) (fun s'' J' ⟨a, sb, ha⟩ => ?_) (.inr hl))
  have na : C ≠ a := by
    rcases ha with z | z
    · rw [z]; exact neL
    · exact Ne.symm (neC y a z)
  refine ⟨m, hn.sameBut sb na, fun h' sb' => ?_⟩
  have I'' : Inv X pins (σ.set i (some (.ref Dl))) H' { s'' with heap := h', toks := s''.toks } := J'.turned (it := C) (fun b o hb e => (sb'.2 b hb).trans e) hC neL (.inr (Nat.le_trans I2.sz hz)) neC
    (fun p hp z => absurd (Nat.lt_of_lt_of_le (Heap.lt_size (I2.pin p hp).1) (by rw [z]; exact hz)) (Nat.lt_irrefl _))
  exact ⟨_, H', I'', qD⟩
end
end L2

set_option Elab.async false
set_option linter.all false
set_option maxRecDepth 100000
set_option maxHeartbeats 4000000
namespace L2
open PySem PySem.Spec PyProof.Rows
theorem bt_abs : bootBuiltins "abs" = some (.builtin "abs") := by decide +kernel
theorem bt_len : bootBuiltins "len" = some (.builtin "len") := by decide +kernel
theorem bt_sum : bootBuiltins "sum" = some (.builtin "sum") := by decide +kernel
theorem bt_all : bootBuiltins "all" = some (.builtin "all") := by decide +kernel
theorem bt_isinstance : bootBuiltins "isinstance" = some (.builtin "isinstance") := by decide +kernel
theorem bt_int : bootBuiltins "int" = some (.type "int") := by decide +kernel
theorem bt_bool : bootBuiltins "bool" = some (.type "bool") := by decide +kernel
theorem bt_str : bootBuiltins "str" = some (.type "str") := by decide +kernel
theorem bt_tuple : bootBuiltins "tuple" = some (.type "tuple") := by decide +kernel
/-! a def of the text with its promise, as its callers take it -/
def Def (P : Program) (w : World) (K : PySem.W.Frag) (mg : Str → Option Value) (base : Heap) (k : Nat) (x : Str) (ps : List Str) (sp : Sp) : Prop :=
  ∃ (f : Addr) (fd : FuncData), FnOk P w K mg base CX0 k f fd ps sp ∧ mg x = some (.ref f) ∧ PySem.W.keepIn K (.ref f) = true ∧ Binds K fd ps []
section
variable {X : Cx}
theorem pe_def {k k' : Nat} {x : Str} {ps : List Str} {sp : Sp} {e : Expr} {es : List Expr} {t : TA} {p pos : Pos} (D : Def X.prog X.w X.K X.mg X.base k x ps sp) (hr : Room k' X.A) (hk : k ≤ k') (hg : Gl X x) (ha : PA X (e :: es) t)
    (hdb : (x == ("__debug__" : Str)) = false := by decide) (he : starEach (e :: es) X.env = (false, eval e X.env) :: starEach es X.env := by rfl) (hpl : (backTo pos (starEach es X.env)).any (·.1) = false := by rfl) :
    PE X (.Call (.Name x p) (e :: es) [] pos) (tCall sp [] E0 t) := by
  obtain ⟨f, fd, F, m, kp, b⟩ := D
  exact pe_call F (hr.mono hk) hg m kp b .nil pass0 ha hdb he hpl

theorem strsAre_of {ys : List Str} : ∀ {us : List Value}, Vals (ys.map V.str) us → StrsAre us ys := by
  induction ys with
  | nil => intro us r; rw [List.map_nil] at r; cases r; exact .nil
  | cons y ys ih =>
    intro us r
    rw [List.map_cons] at r
    cases r with
    | cons r1 r2 =>
      obtain ⟨t, e⟩ := r1
      subst e
      exact .cons y t (ih r2)
/-- sep.join(a list of texts) -/
def rJoin (K : PySem.W.Frag) : V → List V → Hp → VK → Prop := fun x vs H Q => ∃ z p ys, x = .str z ∧ vs = [.ref p] ∧ SqL K H p (ys.map V.str) ∧ (ys.map (·.length)).sum + ys.length * z.length ≤ 16777216 ∧ Q (.str (PySem.Txt.join z ys)) H
theorem mt_join : MtR X "str.join" (rJoin X.K) := by
  intro pins s σ H x vs v us Q I rx rv h
  obtain ⟨z, p, ys, rfl, rfl, hq, hz, q⟩ := h
  obtain ⟨t, rfl⟩ := rx
  obtain ⟨u, rfl, ru⟩ := vals1 rv
  cases ru
  obtain ⟨its, r, pl, _⟩ := I.list hq
  exact join_list pl.isList (strsAre_of r) hz fun t' k => ⟨.str _, H, I.tok k, ⟨_, rfl⟩, q⟩
theorem countP_eqU {x : V} : ∀ {xs : List V} {us : List Value}, Vals xs us → xs.all flatV = true → us.countP (eqU x) = xs.countP fun y => eqV y x
  | _, _, .nil, _ => rfl
  | y :: xs, u :: us, .cons r t, f => by
    rw [List.all_cons, Bool.and_eq_true] at f
    rw [List.countP_cons, List.countP_cons, eqU_of r f.1, countP_eqU t f.2]
/-- t.count(x), flat items -/
def rCount : V → List V → Hp → VK → Prop := fun x vs H Q => ∃ p xs y, x = .ref p ∧ vs = [y] ∧ H p = some (.tup xs) ∧ flatV y = true ∧ xs.all flatV = true ∧ Q (.int (xs.countP fun z => eqV z y : Nat)) H
theorem mt_count : MtR X "tuple.count" rCount := by
  intro pins s σ H x vs v us Q I rx rv h
  obtain ⟨p, xs, y, rfl, rfl, hq, fy, fx, q⟩ := h
  cases rx
  obtain ⟨u, rfl, ru⟩ := vals1 rv
  obtain ⟨_, its, r, o, e, hc, ⟨n, hd⟩, _⟩ := I.hok p _ hq
  obtain ⟨c, d, dt, sl⟩ := o
  cases hc
  cases hd
  refine call_meets F.slot_tuple_count ⟨_, e, rfl⟩ F.entry_tuple_count (F.args_tuple_count_2 _ _) (SeqAt.tuple_countAt p its.toArray n d sl u (eqU y)) ⟨e, fun w hw => mem_eqAt ru fy r fx w (by simpa using hw), ?_⟩
  refine ⟨.int _, H, I.tok _, ⟨_, rfl⟩, ?_⟩
  have ec : its.toArray.toList.countP (eqU y) = xs.countP fun z => eqV z y := countP_eqU r fx
  rw [ec]
  exact q
/-- sum(a list of ints) -/
theorem call_sum (hc : X.calm = true) : CallR X (.builtin "sum") (fun xs H Q => ∃ (p : Addr) (ns : List Int), xs = [.ref p] ∧ SqL X.K H p (ns.map V.int) ∧ Q (.int ns.sum) H) := by
  intro pins s σ H xs us Q I r h
  obtain ⟨p, ns, rfl, hq, q⟩ := h
  obtain ⟨u, rfl, ru⟩ := vals1 r
  cases ru
  obtain ⟨its, rv, pl, _⟩ := I.list hq
  have hi : IntsAre its ns := intsAre_of rv
  obtain ⟨ys, hys⟩ := (hi.allInts).items
  refine sum_intListG (xs := ys) (I.ok.hd hc) (by rw [← hys]; exact pl.isList) fun h' tk t' hk => ⟨.int _, H, I.kept hk, ⟨t', rfl⟩, ?_⟩
  have e1 : (numsOf its).sum = preSum (numAt ys) ys.size := by
    have e2 : numsOf its.toArray.toList = numsOf (intItems ys).toList := by rw [hys]
    have e3 : numsOf its = numsOf (intItems ys).toList := e2
    rw [e3, nums_intItems, preSum_eq, List.take_of_length_le (by simp)]
  rw [← e1, hi.numsOf]
  exact q
/-- isinstance(x, c), c a built-in type -/
theorem call_isiT : CallR X (.builtin "isinstance") (fun xs H Q => ∃ x n t b, xs = [x, .ty n] ∧ TyOf X.K H x t ∧ PySem.W.kitOne X.K t (.type n) = some b ∧ Q (.bl b) H) := by
  intro pins s σ H xs us Q I r h
  obtain ⟨x, n, t, b, rfl, ty, e, q⟩ := h
  obtain ⟨u, w', rfl, r1, r2⟩ := vals2 r
  cases r2
  exact isinst_ok I r1 ty e fun tk => ⟨.bl b, H, I.tok tk, rfl, q⟩
/-! a text's signs -/
def Its (z : Str) : It := ⟨fun i _ => i < z.cps.size, fun i H x H' => H' = H ∧ ∃ c, z.cps[i]? = some c ∧ x = .str ⟨#[c]⟩, fun i _ => z.cps.size ≤ i⟩
def iStr (tl : TE) : TI := fun σ H R => tl σ H fun x H1 => ∃ z, x = .str z ∧ R (Its z) H1
theorem turn_str {P : Program} {w : World} {K : PySem.W.Frag} {tg : Expr} {z : Str} {tk : Tok} {it : Addr} {ty : String} (hty : ty = "str_ascii_iterator" ∨ ty = "str_iterator") :
    Turn P w K tg (Its z) [it] it (fun i h => h.IsStrIter it ty z tk i ∧ i ≤ z.cps.size) where
  mem := by simp
  obj := fun i h st b hb => by
    have e : b = it := by simpa using hb
    subst e
    obtain ⟨⟨o, h1, h2, h3⟩, _⟩ := st
    exact ⟨o, h1, fun v q => by rw [h3] at q; cases q⟩
  keep := fun i h h' st k => by
    obtain ⟨⟨o, h1, h2⟩, h3⟩ := st
    exact ⟨⟨o, k it (by simp) o h1, h2⟩, h3⟩
  item := by
    intro X hP hw hK hc i pins s σ H E I hf st hg
    subst hP hw hK
    obtain ⟨f0, f1, f2, f3, f4, f5⟩ := hf it (by simp)
    have fin : ∀ (v : Value) (h' : Heap) (tk' : Nat), SignAt z i v → h'.IsStrIter it ty z tk (i + 1) → (∀ b o, b ∉ [it] → s.heap.get? b = some o → h'.get? b = some o) →
        ∃ u, some v = some u ∧ wpAny (model X.prog X.w) X.A (letOwnedTupleGo tg (.ref it) u) (fun _ s2 => ∃ x H', Inv X pins σ H' s2 ∧ RelV x u ∧ (Its z).yld i H x H' ∧ (s2.heap.IsStrIter it ty z tk (i + 1) ∧ i + 1 ≤ z.cps.size) ∧ ∀ b ∈ [it], H' b = none) E { s with heap := h', toks := tk' } := by
      intro v h' tk' hv st' kk
      obtain ⟨c, t, hcx, rfl⟩ := hv
      have I1 : Inv X pins σ H { s with heap := h', toks := tk' } := I.turned (fun b o hb e => kk b o (by simpa using hb) e) f0 f1 f3 f4 f5
      obtain ⟨o, h1, h2, h3⟩ := id st'
      refine ⟨_, rfl, go_of (s := { s with heap := h', toks := tk' }) (n := ty) h1 h2 h3 ?_ ⟨.str ⟨#[c]⟩, H, I1, ⟨t, rfl⟩, ⟨rfl, c, hcx, rfl⟩, ⟨st', hg⟩, fun b hb => (hf b hb).1⟩⟩
      rcases hty with rfl | rfl <;> decide
    rcases hty with rfl | rfl
    · exact (Walks.strAscii (I.ok.hd hc) it z tk).item i s _ _ hg st.1 fun v h' tk' hv st' kk => fin v h' tk' hv st' kk
    · exact (Walks.strWide (I.ok.hd hc) it z tk).item i s _ _ hg st.1 fun v h' tk' hv st' kk => fin v h' tk' hv st' kk
  done := by
    intro X hP hw hK hc i pins s σ H E I hf st hg
    subst hP hw hK
    obtain ⟨f0, f1, f2, f3, f4, f5⟩ := hf it (by simp)
    have e : i = z.cps.size := Nat.le_antisymm st.2 hg
    subst e
    rcases hty with rfl | rfl
    · exact (Walks.strAscii (I.ok.hd hc) it z tk).done s _ _ st.1 fun h' tk' kk => ⟨rfl, I.turned (fun b o hb e => kk b o (by simpa using hb) e) f0 f1 f3 f4 f5⟩
    · exact (Walks.strWide (I.ok.hd hc) it z tk).done s _ _ st.1 fun h' tk' kk => ⟨rfl, I.turned (fun b o hb e => kk b o (by simpa using hb) e) f0 f1 f3 f4 f5⟩
  self := fun A i s Q E st h => by
    rcases hty with rfl | rfl
    · exact wpAny_pyIter_striter_ascii st.1 h
    · exact wpAny_pyIter_striter_wide st.1 h
theorem pi_str {tg l : Expr} {tl : TE} (hl : PE X l tl) : PI X tg l (iStr tl) := by
  intro pins s σ H R I h
  refine thn (hl pins s σ H _ I h) fun v s1 ⟨x, H1, I1, r1, q1⟩ => ?_
  obtain ⟨z, rfl, q⟩ := q1
  obtain ⟨t, rfl⟩ := r1
  have fin : ∀ ty : String, ty = "str_ascii_iterator" ∨ ty = "str_iterator" → PIE X pins σ tg R (.ref s1.heap.objs.size) { s1 with heap := s1.heap.push { cls := .type ty, data := .fields #[.str z t, .int 0 0] } } := fun ty hty => by
    refine ⟨s1.heap.objs.size, [s1.heap.objs.size], _, _, H1, rfl, I1.kept (t' := s1.toks) fun b o e => Heap.get?_push_of_some _ e, turn_str (z := z) (tk := t) hty, ⟨⟨_, Heap.get?_push_size _ rfl, rfl, rfl⟩, Nat.zero_le _⟩, fun b hb => ?_, q⟩
    have e : b = s1.heap.objs.size := by simpa using hb
    subst e
    exact I1.fpOk (Nat.le_refl _) (I1.hok.fresh (Nat.le_refl _))
  cases ha : z.cps.all (· < 128)
  · exact wpAny_pyIter_wide ha (fin _ (.inr rfl))
  · exact wpAny_pyIter_ascii ha (fin _ (.inl rfl))

/-! z[lo:hi] of a text -/
def rSlS : V → Option Int → Option Int → Hp → VK → Prop := fun x lo hi H Q => ∃ z, x = .str z ∧ z.length ≤ sizeLine ∧ Q (.str (PySem.Txt.slice z lo hi)) H
theorem sl_str : SlR X rSlS := by
  intro pins s σ H x v vl vu lo hi sl Q I rx hs pl pu h
  obtain ⟨z, rfl, hz, q⟩ := h
  obtain ⟨t, rfl⟩ := rx
  refine ⟨"str", _, F.slot_str_getitem.lookup, typeIs_str _ _ _, ?_⟩
  cases pl with
  | none =>
    cases pu with
    | none => exact wpAny_getItem_str_slice (l := none) (u := none) (st := none) hs rfl (post_val_or_str ⟨Nat.le_trans (PySem.Txt.slice_le z _ _) hz, fun t' k => ⟨.str _, H, I.tok k, ⟨t', rfl⟩, q⟩⟩)
    | int j uj => exact wpAny_getItem_str_slice (l := none) (u := some (j, uj)) (st := none) hs rfl (post_val_or_str ⟨Nat.le_trans (PySem.Txt.slice_le z _ _) hz, fun t' k => ⟨.str _, H, I.tok k, ⟨t', rfl⟩, q⟩⟩)
  | int i ui =>
    cases pu with
    | none => exact wpAny_getItem_str_slice (l := some (i, ui)) (u := none) (st := none) hs rfl (post_val_or_str ⟨Nat.le_trans (PySem.Txt.slice_le z _ _) hz, fun t' k => ⟨.str _, H, I.tok k, ⟨t', rfl⟩, q⟩⟩)
    | int j uj => exact wpAny_getItem_str_slice (l := some (i, ui)) (u := some (j, uj)) (st := none) hs rfl (post_val_or_str ⟨Nat.le_trans (PySem.Txt.slice_le z _ _) hz, fun t' k => ⟨.str _, H, I.tok k, ⟨t', rfl⟩, q⟩⟩)
theorem sl_any : SlR X (fun x lo hi H Q => rSlL X.K x lo hi H Q ∨ (rSlT X.K x lo hi H Q ∨ rSlS x lo hi H Q)) := sl_list.or (sl_tup.or sl_str)
end
end L2

set_option Elab.async false
set_option linter.all false
set_option maxRecDepth 100000
set_option maxHeartbeats 4000000
namespace L2
open PySem PySem.Spec PyProof.Rows
/-! comprehensions, by what holds ahead of the i-th turn, of the items so far -/
def cW (R : St → Prop) (P : Nat → List V → Hp → Prop) (n : Nat) (D : Addr) : Nat → Nat → St → Hp → Prop := fun i m σ' H => m = n - i ∧ i ≤ n ∧ R σ' ∧ ∃ ys, P i ys H ∧ H D = some (.lst ys)
def cYes (R : St → Prop) (P : Nat → List V → Hp → Prop) (n : Nat) (D : Addr) (σ : St) (i : Nat) : VK := fun v H5 => ∃ xs, H5 D = some (.lst xs) ∧ xs.length < sizeLine ∧ ∃ m', m' < n - i ∧ cW R P n D (i + 1) m' σ (upd H5 D (.lst (xs ++ [v])))
def cNo (R : St → Prop) (P : Nat → List V → Hp → Prop) (n : Nat) (D : Addr) (σ : St) (i : Nat) : Hp → Prop := fun H4 => ∃ m', m' < n - i ∧ cW R P n D (i + 1) m' σ H4
theorem cyes {R : St → Prop} {P : Nat → List V → Hp → Prop} {n : Nat} {D : Addr} {σ : St} {i : Nat} {ys : List V} {v : V} {H : Hp} (hi : i < n) (r : R σ) (h : H D = some (.lst ys)) (hl : ys.length < sizeLine) (p : P (i + 1) (ys ++ [v]) (upd H D (.lst (ys ++ [v])))) : cYes R P n D σ i v H :=
  ⟨ys, h, hl, n - (i + 1), by omega, rfl, hi, r, _, p, upd_same⟩
theorem cno {R : St → Prop} {P : Nat → List V → Hp → Prop} {n : Nat} {D : Addr} {σ : St} {i : Nat} {ys : List V} {H : Hp} (hi : i < n) (r : R σ) (h : H D = some (.lst ys)) (p : P (i + 1) ys H) : cNo R P n D σ i H :=
  ⟨n - (i + 1), by omega, rfl, hi, r, _, p, h⟩
theorem comp_gen {J : It} {g : TG} {tt : TT} {te : TE} {σ0 : St} {H1 : Hp} {Q : VK} {D : Addr} {n : Nat} {xv : Nat → V} {st : Nat → St} (R : St → Prop) (P : Nat → List V → Hp → Prop) (r0 : R σ0) (h0 : P 0 [] (upd H1 D (.lst [])))
    (hj : ∀ i ys H, i < n → P i ys H → H D = some (.lst ys) → J.go i H ∧ ∀ x H2, J.yld i H x H2 → H2 = H ∧ x = xv i) (he : ∀ ys H, P n ys H → H D = some (.lst ys) → J.stop n H)
    (hg : ∀ i ys σ' H (K : St → Hp → Prop), i < n → R σ' → P i ys H → K (st i) H → g (xv i) σ' H K)
    (hs : ∀ i ys H, i < n → P i ys H → H D = some (.lst ys) → tt (st i) H fun b H4 => if b = true then te (st i) H4 (cYes R P n D (st i) i) else cNo R P n D (st i) i H4)
    (hd : ∀ ys H, P n ys H → H D = some (.lst ys) → Q (.ref D) H) :
    CompGo J g tt te σ0 H1 Q D := by
  refine ⟨cW R P n D, ⟨n, by simp [cW, r0]; exact ⟨_, h0, upd_same⟩⟩, ?_⟩
  rintro i m σ' H' ⟨rfl, hi, r, ys, p, hD⟩
  by_cases hlt : i < n
  · obtain ⟨g1, g2⟩ := hj i ys H' hlt p hD
    refine .inr ⟨g1, fun x H2 y => ?_⟩
    obtain ⟨rfl, rfl⟩ := g2 x H2 y
    exact hg i ys σ' H2 _ hlt r p (hs i ys H2 hlt p hD)
  · have e : i = n := by omega
    subst e
    exact .inl ⟨he ys H' p hD, hd ys H' p hD⟩
/-- the state with the one name set -/
def Rset (t : Nat) (σ0 : St) : St → Prop := fun σ' => ∀ v, σ'.set t v = σ0.set t v
theorem rset0 {t : Nat} {σ0 : St} : Rset t σ0 σ0 := fun _ => rfl
theorem rset1 {t : Nat} {σ0 : St} {x : Option V} : Rset t σ0 (σ0.set t x) := fun v => by rw [List.set_set]
theorem comp_range {t : Nat} {tt : TT} {te : TE} {σ0 : St} {H1 : Hp} {Q : VK} {D : Addr} {lo : Int} {n : Nat} (P : Nat → List V → Hp → Prop) (h0 : P 0 [] (upd H1 D (.lst [])))
    (hs : ∀ i ys H, i < n → P i ys H → H D = some (.lst ys) → tt (σ0.set t (some (.int (lo + i)))) H fun b H4 => if b = true then te (σ0.set t (some (.int (lo + i)))) H4 (cYes (Rset t σ0) P n D (σ0.set t (some (.int (lo + i)))) i) else cNo (Rset t σ0) P n D (σ0.set t (some (.int (lo + i)))) i H4)
    (hd : ∀ ys H, P n ys H → H D = some (.lst ys) → Q (.ref D) H) :
    CompGo (Itr lo n) (gName t) tt te σ0 H1 Q D :=
  comp_gen (xv := fun i => .int (lo + i)) (st := fun i => σ0.set t (some (.int (lo + i)))) (Rset t σ0) P rset0 h0 (fun i _ H hi _ _ => ⟨hi, fun x H2 y => y⟩) (fun _ _ _ _ => Nat.le_refl n)
    (fun i _ σ' H K _ r _ k => by show K (σ'.set t (some (.int (lo + i)))) H; rw [r]; exact k) hs hd
theorem comp_list {K : PySem.W.Frag} {a : Addr} {xs : List V} {t : Nat} {tt : TT} {te : TE} {σ0 : St} {H1 : Hp} {Q : VK} {D : Addr} (P : Nat → List V → Hp → Prop) (h0 : P 0 [] (upd H1 D (.lst []))) (hl : ∀ i ys H, P i ys H → H D = some (.lst ys) → SqL K H a xs)
    (hs : ∀ i ys H x, xs[i]? = some x → P i ys H → H D = some (.lst ys) → tt (σ0.set t (some x)) H fun b H4 => if b = true then te (σ0.set t (some x)) H4 (cYes (Rset t σ0) P xs.length D (σ0.set t (some x)) i) else cNo (Rset t σ0) P xs.length D (σ0.set t (some x)) i H4)
    (hd : ∀ ys H, P xs.length ys H → H D = some (.lst ys) → Q (.ref D) H) :
    CompGo (Itl K a) (gName t) tt te σ0 H1 Q D := by
  have get : ∀ i, i < xs.length → xs[i]? = some (xs.getD i .non) := fun i hi => by simp [List.getD, hi]
  refine comp_gen (xv := fun i => xs.getD i .non) (st := fun i => σ0.set t (some (xs.getD i .non))) (Rset t σ0) P rset0 h0 (fun i ys H hi p hD => ⟨⟨xs, _, hl i ys H p hD, get i hi⟩, fun x H2 y => ⟨y.1, ?_⟩⟩) (fun ys H p hD => ⟨xs, hl _ ys H p hD, Nat.le_refl _⟩)
    (fun i _ σ' H K _ r _ k => by show K (σ'.set t (some (xs.getD i .non))) H; rw [r]; exact k) (fun i ys H hi p hD => hs i ys H _ (get i hi) p hD) hd
  have e := y.2 xs (hl i ys H p hD)
  rw [get i hi] at e
  exact (Option.some.inj e).symm
theorem comp_tup {K : PySem.W.Frag} {a : Addr} {xs : List V} {t : Nat} {tt : TT} {te : TE} {σ0 : St} {H1 : Hp} {Q : VK} {D : Addr} (P : Nat → List V → Hp → Prop) (h0 : P 0 [] (upd H1 D (.lst []))) (hl : ∀ i ys H, P i ys H → H D = some (.lst ys) → SqT K H a xs)
    (hs : ∀ i ys H x, xs[i]? = some x → P i ys H → H D = some (.lst ys) → tt (σ0.set t (some x)) H fun b H4 => if b = true then te (σ0.set t (some x)) H4 (cYes (Rset t σ0) P xs.length D (σ0.set t (some x)) i) else cNo (Rset t σ0) P xs.length D (σ0.set t (some x)) i H4)
    (hd : ∀ ys H, P xs.length ys H → H D = some (.lst ys) → Q (.ref D) H) :
    CompGo (Itt K a) (gName t) tt te σ0 H1 Q D := by
  have get : ∀ i, i < xs.length → xs[i]? = some (xs.getD i .non) := fun i hi => by simp [List.getD, hi]
  refine comp_gen (xv := fun i => xs.getD i .non) (st := fun i => σ0.set t (some (xs.getD i .non))) (Rset t σ0) P rset0 h0 (fun i ys H hi p hD => ⟨⟨xs, _, hl i ys H p hD, get i hi⟩, fun x H2 y => ⟨y.1, ?_⟩⟩) (fun ys H p hD => ⟨xs, hl _ ys H p hD, Nat.le_refl _⟩)
    (fun i _ σ' H K _ r _ k => by show K (σ'.set t (some (xs.getD i .non))) H; rw [r]; exact k) (fun i ys H hi p hD => hs i ys H _ (get i hi) p hD) hd
  have e := y.2 xs (hl i ys H p hD)
  rw [get i hi] at e
  exact (Option.some.inj e).symm
theorem comp_str {z : Str} {t : Nat} {tt : TT} {te : TE} {σ0 : St} {H1 : Hp} {Q : VK} {D : Addr} (P : Nat → List V → Hp → Prop) (h0 : P 0 [] (upd H1 D (.lst [])))
    (hs : ∀ i ys H c, z.cps[i]? = some c → P i ys H → H D = some (.lst ys) → tt (σ0.set t (some (.str ⟨#[c]⟩))) H fun b H4 => if b = true then te (σ0.set t (some (.str ⟨#[c]⟩))) H4 (cYes (Rset t σ0) P z.cps.size D (σ0.set t (some (.str ⟨#[c]⟩))) i) else cNo (Rset t σ0) P z.cps.size D (σ0.set t (some (.str ⟨#[c]⟩))) i H4)
    (hd : ∀ ys H, P z.cps.size ys H → H D = some (.lst ys) → Q (.ref D) H) :
    CompGo (Its z) (gName t) tt te σ0 H1 Q D := by
  have get : ∀ i, i < z.cps.size → z.cps[i]? = some (z.cps.getD i 0) := fun i hi => by simp [Array.getD, hi]
  refine comp_gen (xv := fun i => .str ⟨#[z.cps.getD i 0]⟩) (st := fun i => σ0.set t (some (.str ⟨#[z.cps.getD i 0]⟩))) (Rset t σ0) P rset0 h0 (fun i ys H hi p hD => ⟨hi, fun x H2 y => ⟨y.1, ?_⟩⟩) (fun ys H p hD => Nat.le_refl _)
    (fun i _ σ' H K _ r _ k => by show K (σ'.set t (some (.str ⟨#[z.cps.getD i 0]⟩))) H; rw [r]; exact k) (fun i ys H hi p hD => hs i ys H _ (get i hi) p hD) hd
  obtain ⟨c, e, ex⟩ := y.2
  rw [get i hi] at e
  rw [ex, ← Option.some.inj e]
/-- over a tuple of triples, the block's names being the three -/
theorem comp_tt3 {K : PySem.W.Frag} {a : Addr} {n : Nat} {xs : List V} {ad : Nat → Addr} {v1 v2 v3 : Nat → V} {tt : TT} {te : TE} {H1 : Hp} {Q : VK} {D : Addr} (P : Nat → List V → Hp → Prop) (h0 : P 0 [] (upd H1 D (.lst []))) (hn : xs.length = n) (hx : ∀ i, i < n → xs[i]? = some (.ref (ad i)))
    (hl : ∀ i ys H, P i ys H → H D = some (.lst ys) → SqT K H a xs) (ht : ∀ i ys H, i < n → P i ys H → SqT K H (ad i) [v1 i, v2 i, v3 i])
    (hs : ∀ i ys H, i < n → P i ys H → H D = some (.lst ys) → tt [some (v1 i), some (v2 i), some (v3 i)] H fun b H4 => if b = true then te [some (v1 i), some (v2 i), some (v3 i)] H4 (cYes (fun σ => σ.length = 3) P n D [some (v1 i), some (v2 i), some (v3 i)] i) else cNo (fun σ => σ.length = 3) P n D [some (v1 i), some (v2 i), some (v3 i)] i H4)
    (hd : ∀ ys H, P n ys H → H D = some (.lst ys) → Q (.ref D) H) :
    CompGo (Itt K a) (gTup K 3 (gCons (gName 0) (gCons (gName 1) (gCons (gName 2) gNil)))) tt te [none, none, none] H1 Q D := by
  refine comp_gen (xv := fun i => .ref (ad i)) (st := fun i => [some (v1 i), some (v2 i), some (v3 i)]) (fun σ => σ.length = 3) P rfl h0 (fun i ys H hi p hD => ⟨⟨xs, _, hl i ys H p hD, hx i hi⟩, fun x H2 y => ⟨y.1, ?_⟩⟩) (fun ys H p hD => ⟨xs, hl _ ys H p hD, Nat.le_of_eq hn⟩)
    (fun i ys σ' H K' hi r p k => ?_) hs hd
  · have e := y.2 xs (hl i ys H p hD)
    rw [hx i hi] at e
    exact (Option.some.inj e).symm
  · match σ', r with
    | [s1, s2, s3], _ => exact ⟨ad i, _, rfl, ht i ys H hi p, rfl, _, _, rfl, _, _, rfl, _, _, rfl, rfl, k⟩
end L2
namespace L2
open PySem PySem.Spec PyProof.Rows
theorem yes {σ : St} {H : Hp} {A B : Hp → Prop} (h : A H) : tYes σ H fun b H4 => if b = true then A H4 else B H4 := by
  show if true = true then A H else B H
  rw [if_pos rfl]
  exact h
end L2

set_option Elab.async false
set_option linter.all false
set_option maxRecDepth 100000
set_option maxHeartbeats 4000000
namespace L2
open PySem PySem.Spec PyProof.Rows
/-! the rules that name the written part, with K told: in a block nothing hangs on the block's own context -/
section
variable {X : Cx} (K : PySem.W.Frag)
theorem kix_seq (hK : X.K = K := by rfl) : IxR X (rIx K) := hK ▸ ix_seq
theorem kop_catT (hK : X.K = K := by rfl) : OpR X (binaryOp .Add) (rCatT K) := hK ▸ op_catT
theorem ksl_any (hK : X.K = K := by rfl) : SlR X (fun x lo hi H Q => rSlL K x lo hi H Q ∨ (rSlT K x lo hi H Q ∨ rSlS x lo hi H Q)) := hK ▸ sl_any
theorem kmt_join (hK : X.K = K := by rfl) : MtR X "str.join" (rJoin K) := hK ▸ mt_join
theorem kcall_len (hK : X.K = K := by rfl) : CallR X (.builtin "len") (fun xs H Q => ∃ x n, xs = [x] ∧ LenV K x H n ∧ Q (.int n) H) := hK ▸ call_len
theorem kcall_tuple_of (hK : X.K = K := by rfl) : CallR X (.type "tuple") (fun xs H Q => ∃ p ys, xs = [.ref p] ∧ ((SqL K H p ys ∧ ∀ l, H l = none → Q (.ref l) (upd H l (.tup ys))) ∨ (SqT K H p ys ∧ Q (.ref p) H))) := hK ▸ call_tuple_of
theorem kcall_sum (hc : X.calm = true) (hK : X.K = K := by rfl) : CallR X (.builtin "sum") (fun xs H Q => ∃ (p : Addr) (ns : List Int), xs = [.ref p] ∧ SqL K H p (ns.map V.int) ∧ Q (.int ns.sum) H) := hK ▸ call_sum hc
theorem kcall_isiT (hK : X.K = K := by rfl) : CallR X (.builtin "isinstance") (fun xs H Q => ∃ x n t b, xs = [x, .ty n] ∧ TyOf K H x t ∧ PySem.W.kitOne K t (.type n) = some b ∧ Q (.bl b) H) := hK ▸ call_isiT
theorem kpi_list {tg l : Expr} {tl : TE} (hl : PE X l tl) (hK : X.K = K := by rfl) : PI X tg l (iList K tl) := hK ▸ pi_list hl
theorem kpi_tup {tg l : Expr} {tl : TE} (hl : PE X l tl) (hK : X.K = K := by rfl) : PI X tg l (iTup K tl) := hK ▸ pi_tup hl
theorem kpe_bm {o e : Expr} {es : List Expr} {to : TE} {t : TA} {name : Str} {apos cpos : Pos} {T id : String} {r : V → List V → Hp → VK → Prop} (pa : PlainAttrs T) (slot : Slot T name id) (hty : typeOf (.builtin id) = pure (.type "method_descriptor")) (hm : MtR X id r) (ho : PE X o to) (ha : PA X (e :: es) t)
    (hbase : attributeBase o name X.env (eval o X.env) = eval o X.env := by rfl)
    (hfew : ((backTo cpos (starEach (e :: es) X.env)).all (fun x => !x.1) && (backToKw cpos (keywordEach [] X.env)).all (fun x => x.1.isSome)
      && decide ((e :: es).length + ([] : List Keyword).length + (if ([] : List Keyword).isEmpty then 0 else 1) < 30)) = true := by rfl)
    (hline : (apos.endLine == cpos.line) = true := by rfl) (hs : starEach (e :: es) X.env = (false, eval e X.env) :: starEach es X.env := by rfl) (hplain : (backTo cpos (starEach es X.env)).any (·.1) = false := by rfl) (hK : X.K = K := by rfl) :
    PE X (.Call (.Attribute o name apos) (e :: es) [] cpos) (tBM K T r to t) := hK ▸ pe_bm pa slot hty hm ho ha hbase hfew hline hs hplain
theorem kpg_tup {es : List Expr} {k : Nat} {pos : Pos} {t : TGs} {n : Nat} (hc : X.calm = true) (h : PGs X es t) (hn : (assignEach es X.env).length = n := by rfl) (hst : (assignEach es X.env).findIdx? (·.1) = none := by rfl) (hK : X.K = K := by rfl) : PG X (.Tuple es k pos) (gTup K n t) := hK ▸ pg_tup hc h hn hst
end
end L2

set_option Elab.async false
set_option linter.all false
set_option maxRecDepth 100000
set_option maxHeartbeats 4000000
namespace L2
open PySem PySem.Spec PyProof.Rows

/-! whole numbers of any moderate size -/
section
variable {X : Cx}
end

/-! ### an exception in flight: it is at e, over the frames at l; what was tracked, or stood in the elder heap, is held fast -/
structure Fly (l : List Env) (H' : Hp) (old : Heap) (e : Addr) (cls : Value) (h : Heap) : Prop where
  ex : ∃ B a0, Heap.FlyingW B l e cls a0 h ∧ ∀ b o, h.get? b = some o → b ∉ frs l → ((∃ u, H' b = some u) ∨ ∃ u, old.get? b = some u) → B.get? b = some o
  new : H' e = none
  nold : old.get? e = none
/-- how an exception lies behind a call -/
def CX1 (P : Program) (w : World) : CXT := fun outer H s E e s' => ∃ (ea : Addr) (cls : Value) (H' : Hp), e = .ref ea ∧ s'.os = s.os ∧ AllBare s'.gens ∧ Un (frs outer) [] H H' s.heap s'.heap ∧ HOk P w H' s'.heap ∧ Fly outer H' s.heap ea cls s'.heap ∧ E cls none H'
theorem ObjOk.some {P : Program} {w : World} {H : Hp} {h : Heap} {a : Addr} {o : HO} (x : ObjOk P w H h a o) : ∃ ob, h.get? a = some ob := by
  cases o with
  | lst xs => obtain ⟨_, _, _, _, e⟩ := x; exact ⟨_, e⟩
  | tup xs => obtain ⟨_, _, _, o, e, _⟩ := x; exact ⟨_, e⟩
  | dK kvs => obtain ⟨_, _, _, _, o, _, _, e, _⟩ := x; exact ⟨_, e⟩
  | dT kvs => obtain ⟨_, _, _, _, o, _, _, e, _⟩ := x; exact ⟨_, e⟩
  | set S n => obtain ⟨o, _, _, _, e, _⟩ := x; exact ⟨_, e⟩
  | ins C dx fs => obtain ⟨_, _, _, e, _⟩ := x; exact ⟨_, e⟩
  | own y => exact x
  | xd fs => obtain ⟨_, ⟨_, _, _, e, _⟩, _⟩ := x; exact ⟨_, e⟩
  | rng lo hi => obtain ⟨_, _, _, e⟩ := x; exact ⟨_, e⟩
  | frz ob u => obtain ⟨e, _⟩ := x; exact ⟨_, e⟩
  | tbl ps => exact ⟨_, x⟩
  | met f y => exact ⟨_, x⟩
  | ext φ => obtain ⟨_, z, _⟩ := x; exact z
section
variable {X : Cx} {pins : List (Addr × Obj)} {σ : St} {H H' : Hp} {s s' : Shared} {h2 : Heap}
/-- behind an exception that leaves this frame: the callers' view -/
theorem Inv.left (I : Inv X pins σ H s) (hex : X.ex = []) (k : ∀ b o, s.heap.get? b = some o → b ∉ frs X.stack → ((∃ u, H b = some u) ∨ ∃ u, X.s₀.heap.get? b = some u) → h2.get? b = some o)
    (sl : ∀ b o, s.heap.get? b = some o → b ∈ frs X.outer → ∃ q, h2.get? b = some { o with slots := q }) : Un (frs X.outer) [] X.H₀ H X.s₀.heap h2 ∧ HOk X.prog X.w H h2 := by
  have nx : ∀ b, b ∉ X.ex := fun b z => by rw [hex] at z; exact absurd z (by simp)
  have neL : ∀ b o, X.s₀.heap.get? b = some o → b ≠ X.env.locals := fun b o e => Nat.ne_of_lt (Nat.lt_of_lt_of_le (Heap.lt_size e) I.ok.above)
  have nst : ∀ b, b ≠ X.env.locals → b ∉ frs X.outer → b ∉ frs X.stack := fun b h1 h3 z => (List.mem_cons.mp (I.stkSub b z)).elim h1 h3
  refine ⟨⟨fun b o e n nf _ => ?_, fun b o e n hb _ => ?_, fun b o e n _ => I.base.free b o e n (nx b), fun b o e _ => ?_, I.base.tups, I.base.frzs, I.base.tbls⟩, fun a o e => ?_⟩
  · exact k b o (I.base.keep b o e n nf (nx b)) (nst b (neL b o e) nf) (.inr ⟨o, e⟩)
  · obtain ⟨q, e1⟩ := I.base.slot b o e n hb (nx b)
    obtain ⟨q', e2⟩ := sl b _ e1 hb
    exact ⟨q', e2⟩
  · obtain ⟨o', e1⟩ := I.base.there b o e (nx b)
    by_cases hb : b ∈ frs X.outer
    · obtain ⟨q, e2⟩ := sl b o' e1 hb
      exact ⟨_, e2⟩
    · exact ⟨o', k b o' e1 (nst b (neL b o e) hb) (.inr ⟨o, e⟩)⟩
  · refine (I.hok a o e).stay (fun b u hb q => ?_) (fun _ q => q) fun _ _ q => q
    have ht : ∃ u, H b = some u := by
      rcases hb with z | z
      · exact ⟨o, by rw [z]; exact e⟩
      · exact ⟨_, z⟩
    refine k b u q (fun z => ?_) (.inl ht)
    obtain ⟨v, hv⟩ := ht
    rw [I.stkFree b z] at hv
    cases hv
theorem Inv.cov (I : Inv X pins σ H s) (hex : X.ex = []) {b : Addr} (h : (∃ u, H b = some u) ∨ ∃ u, X.s₀.heap.get? b = some u) : (∃ o, s.heap.get? b = some o) ∧ b ≠ X.env.locals := by
  rcases h with ⟨u, e⟩ | ⟨u, e⟩
  · refine ⟨(I.hok b u e).some, fun z => ?_⟩
    rw [z, I.free] at e
    cases e
  · exact ⟨I.base.there b u e (by rw [hex]; simp), Nat.ne_of_lt (Nat.lt_of_lt_of_le (Heap.lt_size e) I.ok.above)⟩
end
/-- a new exception, raised in a def's own frame, reaches what the def's caller wants -/
def Thrown (X : Cx) (E : XK) : Prop := ∀ (pins : List (Addr × Obj)) (σ : St) (H : Hp) (s : Shared) (h' : Heap) (e : Addr) (cls : Value) (vs : List Value), Inv X pins σ H s → Heap.MadeExcOf s.heap h' e cls vs → E cls none H → X.xe (.ref e) { s with heap := h' }
section
variable {P : Program} {w : World} {K : PySem.W.Frag} {mg : Str → Option Value} {base : Heap} {N : List Str} {qual : Str} {scope : Scope} {f : Addr} {cd : Value} {A : Around} {outer : List Env} {s : Shared} {H : Hp} {E : XK}
theorem frs_mem {l : List Env} : ∀ env ∈ l, ∀ b, env.frame = some b → b ∈ frs l := fun env he b hb => List.mem_filterMap.mpr ⟨env, he, hb⟩
theorem thrown1 : Thrown (cxOf (CX1 P w) P w K mg base N qual scope f cd A outer s H E) E := by
  intro pins σ H1 s1 h' e cls vs I hm q
  have hex : (cxOf (CX1 P w) P w K mg base N qual scope f cd A outer s H E).ex = [] := rfl
  have hst : (cxOf (CX1 P w) P w K mg base N qual scope f cd A outer s H E).stack = envOfC qual scope s.heap.objs.size f cd :: outer := rfl
  have fin : ∀ b o, s1.heap.get? b = some o → b ∉ frs (envOfC qual scope s.heap.objs.size f cd :: outer) → (PySem.W.hideAll s1.heap (frs (envOfC qual scope s.heap.objs.size f cd :: outer))).get? b = some o := fun b o e1 nb => PySem.W.hideAll_get _ e1 nb
  refine wpAny_leaves_madeW (base := PySem.W.hideAll s1.heap (frs (envOfC qual scope s.heap.objs.size f cd :: outer))) (h := s1.heap) (L := s.heap.objs.size) I.ok.frames rfl (fun b o z => PySem.W.of_hideAll _ z)
    (PySem.W.funFrames_hide I.stack frs_mem) hm fun h'' t fl tp bt up => ?_
  have k : ∀ b o, s1.heap.get? b = some o → b ∉ frs (envOfC qual scope s.heap.objs.size f cd :: outer) → ((∃ u, H1 b = some u) ∨ ∃ u, s.heap.get? b = some u) → h''.get? b = some o := fun b o e1 nb _ => fl.1 b o (fin b o e1 nb)
  obtain ⟨un, hok⟩ := I.left (h2 := h'') hex k (fun b o e1 hb => up b o (hm.keeps b o e1) (by
    obtain ⟨_, o2, e2, nf⟩ := I.funs.mem hb
    rw [e1] at e2
    cases e2
    exact nf))
  have hnew : H1 e = none := by
    cases z : H1 e with
    | none => rfl
    | some u =>
      obtain ⟨ob, eo⟩ := (I.hok e u z).some
      rw [hm.new] at eo
      cases eo
  refine ⟨e, cls, H1, rfl, I.os, I.bare, un, hok, ⟨⟨_, _, fl, fun b o e1 nb hc => ?_⟩, hnew, ?_⟩, q⟩
  · obtain ⟨⟨o', eo⟩, neL⟩ := I.cov hex hc
    have nb' : b ∉ frs (envOfC qual scope s.heap.objs.size f cd :: outer) := fun z => (List.mem_cons.mp (I.stkSub b z)).elim neL nb
    have e2 := fl.1 b o' (fin b o' eo nb')
    have e3 : o = o' := Option.some.inj (e1.symm.trans e2)
    rw [e3]
    exact fin b o' eo nb'
  · cases z : s.heap.get? e with
    | none => rfl
    | some u =>
      obtain ⟨ob, eo⟩ := I.base.there e u z (by rw [hex]; simp)
      rw [hm.new] at eo
      cases eo
end

/-! ### raise C(..), C an own class without an __init__ of its own -/
theorem exc_obj {K : PySem.W.Frag} {g : Heap} {C : Addr} {bmB : List Value} {newId : String} (X : K.In g) (q : PySem.W.excIn K C bmB newId = true) :
    ∃ tl N nm qn bs hd sn sub ab col dd k0 k1 k2 k3 k5 mN, g.get? C = some (excClassObj nm qn C N bs tl hd sn sub ab col dd k0 k1 k2 k3 k5 newId) ∧ g.Ns N mN ∧ mN "__init__" = none ∧ OwnTail g bmB tl := by
  unfold PySem.W.excIn at q
  split at q
  · rename_i d1 c1 l1 at1
    split at q
    · rename_i C1 tl j0 j1 j2 j3 n1 j5 hm1 hs1
      simp only [Bool.and_eq_true, beq_iff_eq, Bool.not_eq_true'] at q
      obtain ⟨⟨⟨⟨⟨r1, r2⟩, r3⟩, r4⟩, r5⟩, r6⟩ := q
      subst r1 r2
      obtain ⟨nm, bs, mro, ns, qn, hd, sn, sub, ab, col, del⟩ := c1
      have hm2 : mro = _ := hm1
      have r3' : del = false := r3
      subst hm2 r3'
      have sl2 : l1 = #[j0, j1, j2, j3, some (.builtin n1), j5] := by
        cases l1 with
        | mk ls =>
          have : ls = _ := hs1
          rw [this]
      subst sl2
      exact ⟨tl, ns, nm, qn, bs, hd, sn, sub, ab, col, d1, j0, j1, j2, j3, j5, _, X _ _ at1, .of_isNs (PySem.W.isNs_of_in X r5), PySem.W.nsMap_none_of_in X r5 r6, PySem.W.tail_of_in X r4⟩
    · cases q
  · cases q
section
variable {X : Cx}
def tRaise (C : Addr) (E : XK) (t : TA) : TS := fun _ σ H => t σ H fun vs H1 => vs.length ≤ sizeLine ∧ E (.ref C) none H1
theorem ps_raise {x : Str} {C : Addr} {bmB bmN : List Value} {newId nid initId inN Bn B0 : String} {E : XK} {e0 : Expr} {es : List Expr} {t : TA} {np cpos pos : Pos} (hg : Gl X x) (hm : X.mg x = some (.ref C)) (q : PySem.W.excIn X.K C bmB newId = true)
    (Fn : ExcBaseFacts Bn newId inN bmN) (hBn : bmB.contains (.type Bn) = true) (FB : ExcBaseFacts B0 nid initId bmB) (hc : X.calm = true) (hx : Thrown X E) (ha : PA X (e0 :: es) t) (hdb : (x == ("__debug__" : Str)) = false := by decide)
    (he : starEach (e0 :: es) X.env = (false, eval e0 X.env) :: starEach es X.env := by rfl) (hpl : (backTo cpos (starEach es X.env)).any (·.1) = false := by rfl) :
    PS X (.Raise (some (.Call (.Name x np) (e0 :: es) [] cpos)) none pos) (tRaise C E t) := by
  intro pins s σ H D I h
  obtain ⟨tl, N, nm, qn, bs, hd, sn, sub, ab, col, dd, k0, k1, k2, k3, k5, mN, hC, hN, hni, T⟩ := exc_obj I.mod.kin q
  have ha' := ha cpos pins s σ H _ I h
  rw [he] at ha'
  refine wpAny_Raise_call_subU (C := C) (nm := nm) (q := qn) (N := N) (bs := bs) (bm := tl) (hdct := hd) (sn := sn) (sub := sub) (ab := ab) (col := col) (dd := dd) (k0 := k0) (k1 := k1) (k2 := k2) (k3 := k3) (k5 := k5)
    Fn hBn FB (mN := mN) (T.hasType FB.hasBase) (I.ok.hd hc) (by rw [he]; show (false || (backTo cpos (starEach es X.env)).any (·.1)) = false; rw [hpl]; rfl) hni (ld_glob I hg hm ⟨rfl, ?_⟩ hdb)
  rw [he]
  refine Calls.evalArgs_plain (wpAny_mono ha' (fun us s2 ⟨vs, H2, I2, r, hz, qE⟩ => ⟨rfl, ?_, I2.bk _ _ hC, hN.keeps I2.bk, T.keeps I2.bk, fun h' e hm => ?_⟩) fun _ _ y => y)
  · rw [← r.length]; exact hz
  · exact hx pins σ H2 s2 h' e _ _ I2 hm qE
end
end L2

set_option Elab.async false
set_option linter.all false
set_option maxRecDepth 100000
set_option maxHeartbeats 4000000
namespace L2
open PySem PySem.Spec PyProof.Rows
/-- in this frame an exception has come up out of a call; R: its class, the names, the heap -/
def Caught (X : Cx) (pins : List (Addr × Obj)) (R : Value → St → Hp → Prop) : Value → Shared → Prop := fun e s' => ∃ σ' Hc sc, Inv X pins σ' Hc sc ∧ CX1 X.prog X.w X.stack Hc sc (fun cls _ H' => R cls σ' H') e s'
abbrev TSx := Ends → St → Hp → (Value → St → Hp → Prop) → Prop
abbrev TEx := St → Hp → VK → (Value → Hp → Prop) → Prop
/-- a statement, an expression that may raise -/
def PSx (X : Cx) (st : Stmt) (t : TSx) : Prop := ∀ (E : Value → Shared → Prop) (pins : List (Addr × Obj)) (s : Shared) (σ : St) (H : Hp) (D : Ends) (R : Value → St → Hp → Prop), Inv X pins σ H s → t D σ H R → (∀ e s', Caught X pins R e s' → E e s') →
  wpAny (model X.prog X.w) X.A (exec st X.env) (SP X pins D) E s
def PEx (X : Cx) (e : Expr) (t : TEx) : Prop := ∀ (E : Value → Shared → Prop) (pins : List (Addr × Obj)) (s : Shared) (σ : St) (H : Hp) (Q : VK) (R : Value → Hp → Prop), Inv X pins σ H s → t σ H Q R → (∀ e s', Caught X pins (fun cls σ' H' => σ' = σ ∧ R cls H') e s' → E e s') →
  wpAny (model X.prog X.w) X.A (eval e X.env) (EP X pins σ Q) E s
theorem CX1.imp {P : Program} {w : World} {l : List Env} {H : Hp} {s : Shared} {E E' : XK} {e : Value} {s' : Shared} (h : CX1 P w l H s E e s') (k : ∀ c d H, E c d H → E' c d H) : CX1 P w l H s E' e s' := by
  obtain ⟨ea, cls, H', a, b, c, d, f, g, q⟩ := h
  exact ⟨ea, cls, H', a, b, c, d, f, g, k _ _ _ q⟩
section
variable {X : Cx}
def tCallX (sp : Sp) (t : TA) : TEx := fun σ H Q R => t σ H fun vs H1 => sp vs H1 Q fun cls _ H' => R cls H'
theorem pex_call {k : Nat} {f : Addr} {fd : FuncData} {ps : List Str} {sp : Sp} {x : Str} {p pos : Pos} {e : Expr} {es : List Expr} {t : TA} (F : FnOk X.prog X.w X.K X.mg X.base (CX1 X.prog X.w) k f fd ps sp) (hr : Room k X.A) (hg : Gl X x) (hm : X.mg x = some (.ref f))
    (hk : PySem.W.keepIn X.K (.ref f) = true) (hb : Binds X.K fd ps []) (ha : PA X.nox (e :: es) t) (hdb : (x == ("__debug__" : Str)) = false := by decide)
    (he : starEach (e :: es) X.env = (false, eval e X.env) :: starEach es X.env := by rfl) (hpl : (backTo pos (starEach es X.env)).any (·.1) = false := by rfl) : PEx X (.Call (.Name x p) (e :: es) [] pos) (tCallX sp t) := by
  intro E pins s σ H Q R I h hE
  refine wpAny_Call_Name_kw (ld_glob I hg hm ?_ hdb)
  refine PySem.W.callWith_K (h₀ := X.base) I.ok.mod.kin hk (wpAny_mono (ha pos pins s σ H _ (I.wish _) h) (fun us s1 ⟨vs, H1, I1', r, q⟩ => ⟨I1'.unwish.kIn, ?_⟩) fun _ _ z => False.elim z) he hpl
  have I1 := I1'.unwish
  have hl : us.length = ps.length := by rw [← r.length]; exact F.len _ _ _ _ q
  have hb' : BindsTo s1 fd ⟨us, []⟩ (ps.zip us) := by
    have z := hb s1 us I1.kIn (by rw [List.append_nil]; exact hl)
    rw [List.append_nil] at z
    exact z
  refine wpAny_call (codeAny_mono (F.run X.A X.stack s1 H1 ⟨us, []⟩ us vs Q _ hr I1.env0 hb' r q) fun res s' hq => ?_)
  cases res with
  | error e =>
    have hq' : CX1 X.prog X.w X.stack H1 s1 (fun cls _ H' => R cls H') e s' := hq
    exact hE e s' ⟨σ, H1, s1, I1, CX1.imp hq' fun _ _ _ z => ⟨rfl, z⟩⟩
  | ok fl =>
    cases fl with
    | ret u => exact I1.after hq
    | next => exact False.elim hq
    | brk => exact False.elim hq
    | cont => exact False.elim hq
theorem psx_set {i : Nat} {y : Str} {py spos : Pos} {e : Expr} {t : TEx} (hN : X.N.Nodup) (hy : X.N[i]? = some y) (hl : Loc X.env.scope y) (he : PEx X e t) (hsw : swapsWith e (some (.Name y py)) spos.line X.env = pure false := by rfl)
    (hf : X.fn y = true ∨ X.env.scope.names.lookup y = some .local := by first | exact .inl rfl | exact .inr rfl | assumption) :
    PSx X (.Assign [.Name y py] e spos) (fun D σ H R => t σ H (fun v H1 => D.nx (σ.set i (some v)) H1) fun cls H' => R cls σ H') := by
  intro E pins s σ H D R I h hE
  refine wpAny_Assign_Name (wpAny_mono (he E pins s σ H _ _ I h fun e s' ⟨σ', Hc, sc, I', c⟩ => hE e s' ⟨σ', Hc, sc, I', c.imp fun cls d H2 z => ?_⟩) (fun v s1 ⟨x, H1, I1, r1, q1⟩ => store_ok I1 hN hy hl r1 (fun s2 I2 => ⟨_, _, I2, q1⟩) hf) fun _ _ z => z) hsw
  rw [z.1]
  exact z.2
end
section
variable {X : Cx} {pins : List (Addr × Obj)} {σ : St} {H : Hp} {s : Shared}
/-- a thing that was made since the entry is looked at from now on -/
theorem Inv.adopt {e : Addr} {u : HO} (I : Inv X pins σ H s) (hn : H e = none) (h0 : X.s₀.heap.get? e = none) (nL : e ≠ X.env.locals) (nC : ∀ x c, X.env.cells.lookup x = some c → c ≠ e) (nP : ∀ p ∈ X.pn ++ pins, p.1 ≠ e)
    (ok : ObjOk X.prog X.w (upd H e u) s.heap e u) : Inv X pins σ (upd H e u) s := by
  have ne : ∀ {b : Addr} {v : HO}, H b = some v → b ≠ e := fun q => ne_of_none q hn
  refine ⟨I.ok, I.os, I.bare, ⟨I.base.keep, I.base.slot, fun b o q n hx => ?_, I.base.there, fun b xs q => ?_, fun b o v q => ?_, fun b ps q => ?_⟩, I.loc, I.cell, ?_, fun x c q => ?_, fun p hp => ?_, fun a o q => ?_, I.len⟩
  · have z : b ≠ e := fun z => by rw [z, h0] at q; cases q
    rw [upd_ne z]
    exact I.base.free b o q n hx
  · have q1 := I.base.tups b xs q
    rw [upd_ne (ne q1)]
    exact q1
  · have q1 := I.base.frzs b o v q
    rw [upd_ne (ne q1)]
    exact q1
  · obtain ⟨more, q1⟩ := I.base.tbls b ps q
    exact ⟨more, by rw [upd_ne (ne q1)]; exact q1⟩
  · rw [upd_ne (Ne.symm nL)]
    exact I.free
  · rw [upd_ne (nC x c q)]
    exact I.freeC x c q
  · obtain ⟨p1, p2, p3⟩ := I.pin p hp
    exact ⟨p1, by rw [upd_ne (nP p hp)]; exact p2, p3⟩
  · by_cases z : a = e
    · subst z
      rw [upd_same] at q
      cases q
      exact ok
    · rw [upd_ne z] at q
      exact (I.hok a o q).stay (fun _ _ _ r => r) (fun c r => by rw [upd_ne (ne r)]; exact r) fun c xs r => by rw [upd_ne (ne r)]; exact r
end
section
variable {X : Cx} {pins : List (Addr × Obj)} {R : Value → St → Hp → Prop} {e : Value} {s' : Shared}
/-- what is known of the exception that has come up -/
theorem Caught.see (h : Caught X pins R e s') : ∃ ea cls σ' H', e = .ref ea ∧ Inv X pins σ' H' s' ∧ H' ea = none ∧ R cls σ' H' ∧ (∃ oe vs, s'.heap.get? ea = some oe ∧ oe.cls = cls ∧ oe.data = .fields vs) ∧
    (X.ex = [] → X.s₀.heap.get? ea = none) ∧ ea ≠ X.env.locals ∧ (∀ x c, X.env.cells.lookup x = some c → c ≠ ea) ∧ ∀ p ∈ X.pn ++ pins, p.1 ≠ ea := by
  obtain ⟨σ', Hc, sc, I, ea, cls, H', rfl, os, bare, un, hok, fly, q⟩ := h
  have I' := I.call' os un hok bare (fun b z => absurd z (by simp))
  obtain ⟨B, a0, fl, cv⟩ := fly.ex
  obtain ⟨oe, vs, h1, h2, h3, _⟩ := fl.first
  have no : ∀ o, sc.heap.get? ea = some o → False := fun o z => by rw [fly.nold] at z; cases z
  refine ⟨ea, cls, σ', H', rfl, I', fly.new, q, ⟨oe, vs, h1, h2, h3⟩, fun hex => ?_, fun z => ?_, fun x c e z => ?_, fun p hp z => ?_⟩
  · cases z : X.s₀.heap.get? ea with
    | none => rfl
    | some u =>
      obtain ⟨o, e1⟩ := I.base.there ea u z (by rw [hex]; simp)
      exact (no o e1).elim
  · obtain ⟨m, ⟨o, _, _, ho, _⟩, _⟩ := I.loc
    exact no o (by rw [z]; exact ho)
  · obtain ⟨v, o, ho, _⟩ := I.cell x c e
    exact no o (by rw [← z]; exact ho)
  · exact no p.2 (by rw [← z]; exact (I.pin p hp).1)
theorem caught_move {ea : Addr} {cls a0 : Value} {σ' : St} {Hc H' : Hp} {sc : Shared} {B h5 : Heap} (I : Inv X pins σ' Hc sc) (os : s'.os = sc.os) (bare : AllBare s'.gens) (un : Un (frs X.stack) [] Hc H' sc.heap s'.heap) (hok : HOk X.prog X.w H' s'.heap)
    (new : H' ea = none) (nold : sc.heap.get? ea = none) (fl : Heap.FlyingW B X.stack ea cls a0 s'.heap) (cv : ∀ b o, s'.heap.get? b = some o → b ∉ frs X.stack → ((∃ u, H' b = some u) ∨ ∃ u, sc.heap.get? b = some u) → B.get? b = some o)
    (fl5 : Heap.FlyingW B X.stack ea cls a0 h5) (up : s'.heap.UpToSlots h5) (q : R cls σ' H') : Caught X pins R (.ref ea) { s' with heap := h5 } := by
  have I' := I.call' os un hok bare (fun b z => absurd z (by simp))
  have sl : ∀ b o, s'.heap.get? b = some o → b ∈ frs X.stack → ∃ q, h5.get? b = some { o with slots := q } := fun b o e1 hb => up b o e1 (by
    obtain ⟨_, o2, e2, nf⟩ := fl.2.2.1.mem hb
    rw [e1] at e2
    cases e2
    exact nf)
  refine ⟨σ', Hc, sc, I, ea, cls, H', rfl, os, bare, ⟨fun b o e n nf _ => ?_, fun b o e n hb hx => ?_, un.free, fun b o e hx => ?_, un.tups, un.frzs, un.tbls⟩, fun a o e => ?_, ⟨⟨B, a0, fl5, fun b o e1 nb hc => ?_⟩, new, nold⟩, q⟩
  · exact fl5.1 b o (cv b o (un.keep b o e n nf (by simp)) nf (.inr ⟨o, e⟩))
  · obtain ⟨q1, e1⟩ := un.slot b o e n hb hx
    obtain ⟨q2, e2⟩ := sl b _ e1 hb
    exact ⟨q2, e2⟩
  · obtain ⟨o', e1⟩ := un.there b o e hx
    by_cases hb : b ∈ frs X.stack
    · obtain ⟨q2, e2⟩ := sl b o' e1 hb
      exact ⟨_, e2⟩
    · exact ⟨o', fl5.1 b o' (cv b o' e1 hb (.inr ⟨o, e⟩))⟩
  · refine (hok a o e).stay (fun b u hb q => ?_) (fun _ q => q) fun _ _ q => q
    have ht : ∃ u, H' b = some u := by
      rcases hb with z | z
      · exact ⟨o, by rw [z]; exact e⟩
      · exact ⟨_, z⟩
    refine fl5.1 b u (cv b u q (fun z => ?_) (.inl ht))
    obtain ⟨v, hv⟩ := ht
    rw [I'.stkFree b z] at hv
    cases hv
  · have ho : ∃ o', s'.heap.get? b = some o' := by
      rcases hc with ⟨u, z⟩ | ⟨u, z⟩
      · exact (hok b u z).some
      · exact un.there b u z (by simp)
    obtain ⟨o', eo⟩ := ho
    have eB := cv b o' eo nb hc
    have e3 : o = o' := Option.some.inj (e1.symm.trans (fl5.1 b o' eB))
    rw [e3]
    exact eB
/-- it comes down at a try of this frame -/
theorem land1 {E : Value → Shared → Prop} {A : Around} {M : Model} {rest : Sem Flow} {Q : Flow → Shared → Prop} (hst : X.stack = X.env :: X.outer) (hf : X.env.frame = some X.env.locals) (hfr : A.frames = some X.stack) (h : Caught X pins R e s')
    (k : ∀ h5, Caught X pins R e { s' with heap := h5 } → wpAny M A rest Q E { s' with heap := h5 }) : wpAny M A (noteFrame e X.env) (fun _ s2 => wpAny M A (setFlight e none) (fun _ s3 => wpAny M A rest Q E s3) E s2) E s' := by
  obtain ⟨σ', Hc, sc, I, ea, cls, H', rfl, os, bare, un, hok, fly, q⟩ := h
  obtain ⟨B, a0, fl, cv⟩ := fly.ex
  refine wpAny_looks_onW (base := B) (outer := X.outer) (by rw [hfr, hst]) hf (by rw [← hst]; exact fl) fun h4 held up4 => wpAny_landsW held fun h5 fl5 up5 => k h5 ?_
  exact caught_move I os bare un hok fly.new fly.nold fl cv (by rw [hst]; exact fl5) (up4.trans up5) q
theorem land2 {E : Value → Shared → Prop} {A : Around} {M : Model} {Q : Unit → Shared → Prop} (h : Caught X pins R e s') (k : ∀ h5, Caught X pins R e { s' with heap := h5 } → Q () { s' with heap := h5 }) : wpAny M A (setFlight e none) Q E s' := by
  obtain ⟨σ', Hc, sc, I, ea, cls, H', rfl, os, bare, un, hok, fly, q⟩ := h
  obtain ⟨B, a0, fl, cv⟩ := fly.ex
  exact lands_againW fl fun h5 fl5 up5 => k h5 (caught_move I os bare un hok fly.new fly.nold fl cv fl5 up5 q)
end
/-- within an except suite -/
def Cx.inEx (X : Cx) (ea : Addr) : Cx := { X with A := X.A.mark (some (.ref ea)), calm := false, xe := fun _ _ => False }
section
variable {X : Cx} {pins : List (Addr × Obj)} {σ : St} {H : Hp} {s : Shared} {ea : Addr}
theorem Inv.inEx (I : Inv X pins σ H s) (ea : Addr) : Inv (X.inEx ea) pins σ H s := ⟨⟨I.ok.mod, I.ok.kind, I.ok.glob, I.ok.blt, I.ok.above, I.ok.inj, I.ok.has, I.ok.cab, fun z => absurd (show false = true from z) (by simp), I.ok.frames, I.ok.stk, I.ok.exf, I.ok.bs, I.ok.bsz, I.ok.noex, I.ok.exfs, I.ok.funs, I.ok.frf⟩,
  I.os, I.bare, I.base, I.loc, I.cell, I.free, I.freeC, I.pin, I.hok, I.len⟩
theorem Inv.outEx (ok : X.Ok) (I : Inv (X.inEx ea) pins σ H s) : Inv X pins σ H s := ⟨ok, I.os, I.bare, I.base, I.loc, I.cell, I.free, I.freeC, I.pin, I.hok, I.len⟩
def tTry (K : PySem.W.Frag) (C : Addr) (tb : TSx) (ts : TS) : TS := fun D σ H => tb D σ H fun cls σ' H' => PySem.W.exmOne K cls (.ref C) = some true ∧ ts D σ' H'
theorem ty_looks {M : Model} {h : Heap} {ea : Addr} {cls : Value} (z : ∃ oe vs, h.get? ea = some oe ∧ oe.cls = cls ∧ oe.data = .fields vs) : PySem.W.Looks M h (typeOf (.ref ea)) cls := by
  obtain ⟨oe, vs, a, b, _⟩ := z
  subst b
  exact (PySem.W.Looks.ld a).andThen .now
/-- try: a statement; except C: a suite that raises nothing -/
theorem ps_try {x : Str} {C : Addr} {st b0 : Stmt} {suite : List Stmt} {np hpos pos : Pos} {tb : TSx} {ts : TS} (hst : X.stack = X.env :: X.outer) (hf : X.env.frame = some X.env.locals)
    (hg : Gl X x) (hm : X.mg x = some (.ref C)) (hb : PSx X st tb) (hs : ∀ ea, PSs (X.inEx ea) (b0 :: suite) ts) (hdb : (x == ("__debug__" : Str)) = false := by decide) :
    PS X (.Try [st] [.ExceptHandler (some (.Name x np)) none (b0 :: suite) hpos] [] [] pos) (tTry X.K C tb ts) := by
  intro pins s σ H D I h
  refine wpAny_Try_except (wpAny_execs_cons (wpAny_mono (hb _ pins s σ H D _ I h (fun e s' hc => ?_)) (fun f s1 q => ?_) fun _ _ z => z))
  rotate_left
  · cases f with
    | next => exact wpAny_execs_nil (wpAny_execs_nil q)
    | ret v => exact q
    | brk => exact q
    | cont => exact q
  refine land1 hst hf I.ok.frames hc fun h5 hc5 => ?_
  obtain ⟨ea, cls, σ', H', rfl, I5, hn, ⟨hx, hR⟩, hob, h0, nL, nC, nP⟩ := hc5.see
  refine wpAny_handleBy_cons (codeAny_handlers_test (ld_glob (X := X.inEx ea) (I5.inEx ea) hg hm ((PySem.W.exm_one I5.kIn (ty_looks hob) hx).here ?_) hdb)) (by intro q; cases q)
  refine codeAny_handlers_suite (land2 hc5 fun h6 hc6 => ?_)
  obtain ⟨ea', cls', σ2, H2, e2, I6, hn6, ⟨hx6, hR6⟩, hob6, h06, nL6, nC6, nP6⟩ := hc6.see
  cases e2
  refine wpAny_mono (hs ea pins _ _ _ D (I6.inEx ea) hR6) (fun f s9 q => ?_) fun _ _ z => False.elim z
  cases f with
  | next =>
    obtain ⟨σ9, H9, I9, q9⟩ := q
    exact ⟨_, _, I9.outEx I.ok, q9⟩
  | brk =>
    obtain ⟨σ9, H9, I9, q9⟩ := q
    exact ⟨_, _, I9.outEx I.ok, q9⟩
  | cont =>
    obtain ⟨σ9, H9, I9, q9⟩ := q
    exact ⟨_, _, I9.outEx I.ok, q9⟩
  | ret u =>
    obtain ⟨v, σ9, H9, I9, r9, q9⟩ := q
    exact ⟨_, _, _, I9.outEx I.ok, r9, q9⟩
end
end L2
namespace L2
open PySem PySem.Spec PyProof.Rows
/-! a def of the text that raises on some ways -/
def Def1 (P : Program) (w : World) (K : PySem.W.Frag) (mg : Str → Option Value) (base : Heap) (k : Nat) (x : Str) (ps : List Str) (sp : Sp) : Prop :=
  ∃ (f : Addr) (fd : FuncData), FnOk P w K mg base (CX1 P w) k f fd ps sp ∧ mg x = some (.ref f) ∧ PySem.W.keepIn K (.ref f) = true ∧ Binds K fd ps []
section
variable {X : Cx} {k k' : Nat} {x : Str} {ps : List Str} {sp : Sp} {e : Expr} {es : List Expr} {t : TA} {p pos : Pos}
theorem pex_def (D : Def1 X.prog X.w X.K X.mg X.base k x ps sp) (hr : Room k' X.A) (hk : k ≤ k') (hg : Gl X x) (ha : PA X.nox (e :: es) t)
    (hdb : (x == ("__debug__" : Str)) = false := by decide) (he : starEach (e :: es) X.env = (false, eval e X.env) :: starEach es X.env := by rfl) (hpl : (backTo pos (starEach es X.env)).any (·.1) = false := by rfl) :
    PEx X (.Call (.Name x p) (e :: es) [] pos) (tCallX sp t) := by
  obtain ⟨f, fd, F, m, kp, b⟩ := D
  exact pex_call F (hr.mono hk) hg m kp b ha hdb he hpl
end
section
variable {P : Program} {w : World} {K : PySem.W.Frag} {mg : Str → Option Value} {base : Heap}
theorem Fun.ok1 {x qual : Str} {st : Stmt} {f : Addr} {fd : FuncData} {N ps : List Str} {k : Nat} {sp : Sp} (F : Fun K x qual st f fd) (S : FnScope N ps (defScope st)) (len : ∀ vs H Q E, sp vs H Q E → vs.length = ps.length)
    (hbody : ∀ (cdv : Value) (A : Around) (outer : List Env) (s : Shared) (H : Hp) (vs : List V) (Q : VK) (E : XK), Room k (A.deeper (envOfC qual (defScope st) s.heap.objs.size f cdv)) → sp vs H Q E →
      ∃ t, PSs (cxOf (CX1 P w) P w K mg base N qual (defScope st) f cdv A outer s H E) (defBody st) t ∧ t { nx := fun _ H' => Q .non H', rt := Q } (start N vs) H) : FnOk P w K mg base (CX1 P w) (k + 1) f fd ps sp := by
  obtain ⟨oc, od, kV, doc, pm, an, cdv, ct, osl, rfl, lk, hcd⟩ := F.ex
  exact fn_of lk hcd S len fun A outer s H vs Q E hr hsp => hbody cdv A outer s H vs Q E hr hsp
end
end L2

set_option Elab.async false
set_option linter.all false
set_option maxRecDepth 100000
set_option maxHeartbeats 4000000
namespace L2
open PySem PySem.Spec PyProof.Rows
/-! isinstance of an exception of an own class -/
section
variable {prog : Program} {w : World} {A : Around} {E : Value → Shared → Prop} {s : Shared} {K : PySem.W.Frag} {e C : Addr} {h : Heap}
end
end L2
namespace L2
open PySem PySem.Spec PyProof.Rows
/-! == of two lists of flat values -/
def eqVs (xs ys : List V) : Bool := (xs.zip ys).all (fun p => eqV p.1 p.2) && xs.length == ys.length
theorem eqAt_get {A : Around} {s : Shared} {xs ys : List V} {us vs : List Value} (rx : Vals xs us) (ry : Vals ys vs) (fx : xs.all flatV = true) (fy : ys.all flatV = true) (j : Nat) (h1 : j < us.toArray.size) (h2 : j < vs.toArray.size) :
    SeqAt.EqAt A s us.toArray[j] vs.toArray[j] (eqV (xs.getD j .non) (ys.getD j .non)) := by
  have l1 := rx.length
  have l2 := ry.length
  have g1 : j < us.length := by simpa using h1
  have g2 : j < vs.length := by simpa using h2
  have k1 : xs[j]? = some (xs.getD j .non) := by simp [List.getD, show j < xs.length by omega]
  have k2 : ys[j]? = some (ys.getD j .non) := by simp [List.getD, show j < ys.length by omega]
  obtain ⟨u, e1, r1⟩ := rx.get k1
  obtain ⟨v, e2, r2⟩ := ry.get k2
  have f1 := List.all_eq_true.mp fx _ (List.mem_of_getElem? k1)
  have f2 := List.all_eq_true.mp fy _ (List.mem_of_getElem? k2)
  have w1 : us.toArray[j] = u := by
    rw [List.getElem?_eq_getElem g1] at e1
    simpa using Option.some.inj e1
  have w2 : vs.toArray[j] = v := by
    rw [List.getElem?_eq_getElem g2] at e2
    simpa using Option.some.inj e2
  rw [w1, w2]
  exact eqAt_V r1 r2 f1 f2
theorem range_all : ∀ (xs ys : List V), xs.length = ys.length → ((List.range xs.length).all fun j => eqV (xs.getD j .non) (ys.getD j .non)) = (xs.zip ys).all fun p => eqV p.1 p.2
  | [], [], _ => rfl
  | [], _ :: _, h => by cases h
  | _ :: _, [], h => by cases h
  | x :: xs, y :: ys, h => by
    have ih := range_all xs ys (by simpa using h)
    rw [List.length_cons, List.range_succ_eq_map, List.all_cons, List.all_map, List.zip_cons_cons, List.all_cons, ← ih]
    rfl
section
variable {X : Cx}
/-- all(a list of bools) -/
theorem bools_at {bs : List Bool} : ∀ {us : List Value}, Vals (bs.map V.bl) us → us = bs.map Value.bool := by
  induction bs with
  | nil => intro us r; rw [List.map_nil] at r; cases r; rfl
  | cons b bs ih =>
    intro us r
    rw [List.map_cons] at r
    cases r with
    | cons r1 r2 => rw [List.map_cons, ← ih r2]; cases r1; rfl
theorem range_bools : ∀ bs : List Bool, ((List.range bs.length).all fun i => bs.getD i true) = bs.all id
  | [] => rfl
  | b :: bs => by
    have ih := range_bools bs
    rw [List.length_cons, List.range_succ_eq_map, List.all_cons, List.all_map, List.all_cons, ← ih]
    rfl
theorem call_all (hc : X.calm = true) : CallR X (.builtin "all") (fun xs H Q => ∃ (p : Addr) (bs : List Bool), xs = [.ref p] ∧ SqL X.K H p (bs.map V.bl) ∧ Q (.bl (bs.all id)) H) := by
  intro pins s σ H xs us Q I r h
  obtain ⟨p, bs, rfl, hq, q⟩ := h
  obtain ⟨u, rfl, ru⟩ := vals1 r
  cases ru
  obtain ⟨its, rv, pl, _⟩ := I.list hq
  have hl : s.heap.IsList p its.toArray := pl.isList
  have hlt : p < s.heap.objs.size := by obtain ⟨_, e, _⟩ := hl; exact Heap.lt_size e
  refine call_all_walk (wpAny_pyIter_list hl ⟨_, _, _, _, _, _, fun i => bs.getD i true, rfl, Walks.list (A := X.A.in1) (I.ok.hd hc) _ p (Nat.ne_of_lt hlt) its.toArray, ⟨⟨_, Heap.get?_push_size _ rfl, rfl, rfl⟩, hl.push _⟩, fun i v s' Q' E' hv hQ => ?_, fun h' tk hk => ⟨.bl _, H, I.kept (old_kept hk), rfl, ?_⟩⟩)
  · have hv' : its[i]? = some v := by simpa using hv
    rw [bools_at rv, List.getElem?_map] at hv'
    obtain ⟨b, hb, rfl⟩ := Option.map_eq_some_iff.mp hv'
    have e : bs.getD i true = b := by simp [List.getD, hb]
    have z : Q' (bs.getD i true) s' := hQ
    rw [e] at z
    exact wpAny_truthy_bool z
  · have e1 : its.toArray.size = bs.length := by
      have := rv.length
      rw [List.length_map] at this
      simp; omega
    rw [e1]
    have e2 := range_bools bs
    rw [e2]
    exact q
theorem kcall_all (K : PySem.W.Frag) (hc : X.calm = true) (hK : X.K = K := by rfl) : CallR X (.builtin "all") (fun xs H Q => ∃ (p : Addr) (bs : List Bool), xs = [.ref p] ∧ SqL K H p (bs.map V.bl) ∧ Q (.bl (bs.all id)) H) := hK ▸ call_all hc
end
end L2

set_option Elab.async false
set_option linter.all false
set_option maxRecDepth 100000
set_option maxHeartbeats 4000000
namespace L2
open PySem PySem.Spec PyProof.Rows
/-! a range by steps -/
section
variable {X : Cx} {tg : Expr}
/-! (a, b, ..) = a list of that length -/
/-! != of two tuples of flat values -/
end
end L2

set_option Elab.async false
set_option linter.all false
set_option maxRecDepth 100000
set_option maxHeartbeats 4000000
namespace L2
open PySem PySem.Spec PyProof.Rows
/-! sets of texts, made of a list -/
def addK {α : Type} [DecidableEq α] (l : List α) (v : α) : List α := if v ∈ l then l else l ++ [v]
def dedK {α : Type} [DecidableEq α] (vs : List α) : List α := vs.foldl addK []
theorem mem_addK {α : Type} [DecidableEq α] {l : List α} {v x : α} : x ∈ addK l v ↔ x ∈ l ∨ x = v := by
  unfold addK
  split
  · rename_i h
    constructor
    · exact .inl
    · rintro (z | rfl)
      · exact z
      · exact h
  · simp
theorem len_addK {α : Type} [DecidableEq α] {l : List α} {v : α} : (addK l v).length = if v ∈ l then l.length else l.length + 1 := by
  unfold addK
  split <;> simp
theorem dedK_snoc {α : Type} [DecidableEq α] (vs : List α) (v : α) : dedK (vs ++ [v]) = addK (dedK vs) v := by
  unfold dedK
  rw [List.foldl_append]
  rfl
theorem foldK_len {α : Type} [DecidableEq α] : ∀ (vs l : List α), (vs.foldl addK l).length ≤ l.length + vs.length
  | [], l => Nat.le_refl _
  | v :: vs, l => by
    have h := foldK_len vs (addK l v)
    rw [len_addK] at h
    rw [List.foldl_cons, List.length_cons]
    split at h <;> omega
theorem dedK_len {α : Type} [DecidableEq α] (vs : List α) : (dedK vs).length ≤ vs.length := by
  have := foldK_len vs []
  simpa [dedK] using this
/-- as many as there are: no two alike -/
theorem foldK_nodup {α : Type} [DecidableEq α] : ∀ (vs l : List α), vs.Nodup → (∀ x ∈ vs, x ∉ l) → vs.foldl addK l = l ++ vs
  | [], l, _, _ => by simp
  | v :: vs, l, nd, hd => by
    obtain ⟨n1, n2⟩ := List.nodup_cons.mp nd
    have e : addK l v = l ++ [v] := by
      unfold addK
      rw [if_neg (hd v List.mem_cons_self)]
    rw [List.foldl_cons, e, foldK_nodup vs (l ++ [v]) n2 (fun x hx z => ?_), List.append_assoc]
    · rfl
    · rcases List.mem_append.mp z with z | z
      · exact hd x (List.mem_cons_of_mem _ hx) z
      · exact n1 (List.mem_singleton.mp z ▸ hx)
theorem dedK_nodup {α : Type} [DecidableEq α] {vs : List α} (nd : vs.Nodup) : dedK vs = vs := by
  have := foldK_nodup vs [] nd (fun _ _ z => by cases z)
  simpa [dedK] using this
section
variable {prog : Program} {w : World} {A : Around} {E : Value → Shared → Prop} {s : Shared}
abbrev SetIs (prog : Program) (w : World) (h : Heap) (a : Addr) (l : List Str) : Prop := h.SetOf (PySem.strKind prog w) a (fun x => decide (x ∈ l)) l.length
theorem setIs_keep {h h' : Heap} {a : Addr} {l : List Str} (x : SetIs prog w h a l) (k : ∀ o, h.get? a = some o → h'.get? a = some o) : SetIs prog w h' a l := by
  obtain ⟨o, es, ep, t, ho, r⟩ := x
  exact ⟨o, es, ep, t, k o ho, r⟩
theorem set_loop {R : Result → Shared → Prop} {J l a : Addr} {items : Array Value} {ys : List Str} (hh : A.in1.handled = none) (hJ : l ≠ J) (aJ : a ≠ J) (al : a ≠ l) (hv : ∀ (i : Nat) (v : Value), items[i]? = some v → ∃ t, v = .str (ys.getD i "") t) (hn : items.size = ys.length) (hb : ys.length + 1 < scanBound) :
    ∀ (k i : Nat) (s : Shared), ys.length - i = k → i ≤ ys.length → s.heap.IsListIter J l i → s.heap.IsList l items → SetIs prog w s.heap a (dedK (ys.take i)) →
      (∀ h' tk, (∀ b o, b ≠ a → b ≠ J → s.heap.get? b = some o → h'.get? b = some o) → SetIs prog w h' a (dedK ys) → R (.ok (.ret .none)) { s with heap := h', toks := tk }) →
      codeAny (model prog w) A (.builtin "set.update.loop" ⟨[.ref a, .ref J], []⟩) R s := by
  intro k
  induction k with
  | zero =>
    intro i s hk hi h1 h2 h3 hR
    have e : i = ys.length := by omega
    subst e
    refine codeAny_builtin PyProof.Rows.F.entry_set_update_loop ?_
    rw [Around.under_plainId PyProof.Rows.F.plain_set_update_loop _]
    show wpAny _ A.in1 (pyNext (.ref J) >>= _) _ _ s
    refine wpAny_bind (wpAny_pyNext_list_end hh h1 h2 (by first | omega | (simp; omega)) fun h' eb => ?_)
    show wpAny _ A.in1 (ret Value.none) _ _ _
    rw [List.take_length] at h3
    exact wpAny_pure (hR h' s.toks (fun b o _ nb e => eb b o nb e) (setIs_keep h3 fun o e => eb a o aJ e))
  | succ k ih =>
    intro i s hk hi h1 h2 h3 hR
    have hlt : i < ys.length := by omega
    refine codeAny_builtin PyProof.Rows.F.entry_set_update_loop ?_
    rw [Around.under_plainId PyProof.Rows.F.plain_set_update_loop _]
    show wpAny _ A.in1 (pyNext (.ref J) >>= _) _ _ s
    have hi2 : items[i]? = some (items[i]'(by omega)) := by simp [show i < items.size by omega]
    refine wpAny_bind (wpAny_pyNext_list_item h1 h2 hi2 fun h' h1' sb => ?_)
    obtain ⟨t, et⟩ := hv i _ hi2
    rw [et]
    have h3' : SetIs prog w h' a (dedK (ys.take i)) := setIs_keep h3 fun o e => (sb.2 a aJ).trans e
    show wpAny _ A.in1 (holding [Value.str (ys.getD i "") t] (setAdd a (.str (ys.getD i "") t)) >>= _) _ _ _
    refine wpAny_bind (wpAny_holding ?_)
    unfold setAdd
    have is1 : (PySem.strKind prog w).is (ys.getD i "") (.str (ys.getD i "") t) = true := by
      simp [PySem.strKind, Value.isStrOf]
    refine wpAny_holding (wpAny_bind ((PySem.strKind prog w).pyHash (k := ys.getD i "") is1 ?_))
    have room : (dedK (ys.take i)).length + 1 < scanBound := by
      have := dedK_len (ys.take i)
      rw [List.length_take] at this
      omega
    refine wpAny_setAddHashed_of (knd := PySem.strKind prog w) (s := { s with heap := h', toks := s.toks + 1 }) is1 rfl h3' room fun h'' sb2 h4 => ?_
    have ey : ys[i]? = some (ys.getD i "") := by simp [List.getD, hlt]
    have e1 : ys.take (i + 1) = ys.take i ++ [ys.getD i ""] := by rw [List.take_add_one, ey]; rfl
    have h5 : SetIs prog w h'' a (dedK (ys.take (i + 1))) := by
      refine SetOf_congr h4 (fun x => ?_) ?_
      · rw [e1, dedK_snoc]
        by_cases c1 : x ∈ dedK (ys.take i) <;> by_cases c2 : x = ys.getD i "" <;> simp [mem_addK, c1, c2]
      · rw [e1, dedK_snoc, len_addK]
        by_cases c1 : ys.getD i "" ∈ dedK (ys.take i) <;> simp [c1]
    refine wpAny_pure ⟨plainId_quiet PyProof.Rows.F.plain_set_update_loop _, ih (i + 1) { s with heap := h'', toks := s.toks + 1 } (by omega) hlt ?_ ?_ h5 fun h6 tk k6 s6 => hR h6 tk (fun b o na nJ e => k6 b o na nJ ((sb2.2 b na).trans ((sb.2 b nJ).trans e))) s6⟩
    · obtain ⟨o, q1, q2⟩ := h1'
      exact ⟨o, (sb2.2 J (Ne.symm aJ)).trans q1, q2⟩
    · obtain ⟨o, q1, q2⟩ := h2
      exact ⟨o, (sb2.2 l (Ne.symm al)).trans ((sb.2 l hJ).trans q1), q2⟩
theorem strs_at : ∀ {us : List Value} {ys : List Str}, StrsAre us ys → ∀ (i : Nat) (v : Value), us[i]? = some v → ∃ t, v = .str (ys.getD i "") t
  | _, _, .nil, i, v, h => by simp at h
  | _, _, .cons y t r, 0, v, h => ⟨t, (Option.some.inj h).symm⟩
  | _, _, .cons y t r, i + 1, v, h => by
    obtain ⟨t', e⟩ := strs_at r i v (by simpa using h)
    exact ⟨t', by rw [e]; rfl⟩
def freshSet (b : Bool) : Obj := { cls := .type "set", dict := none, data := .set #[] 0 (.fresh 0 0 b) }
theorem set_made {l : Addr} {items : Array Value} {ys : List Str} {Q : Value → Shared → Prop} (hh : A.handled = none) (hl : s.heap.IsList l items) (hi : StrsAre items.toList ys) (hb : ys.length + 1 < scanBound)
    (h : ∀ h' tk, SetIs prog w h' s.heap.objs.size (dedK ys) → (∀ b o, b < s.heap.objs.size → s.heap.get? b = some o → h'.get? b = some o) → Q (.ref s.heap.objs.size) { s with heap := h', toks := tk }) :
    wpAny (model prog w) A (call (.type "set") [.ref l]) Q E s := by
  obtain ⟨c0, tl0, hmro⟩ := PySem.F.called_set.mro
  have made := PySem.F.called_set.made; have subs := PySem.F.called_set.sub
  have nt := PySem.F.called_set.notType; have cc := PySem.F.called_set.canCreate; have tcall := PySem.F.typeCall_set_1 (.ref l)
  refine wpAny_call (codeAny_of_tree ?_)
  show wpAny _ _ (callAny (.type "set") ⟨[.ref l], []⟩) _ _ _
  refine wpAny_pure ⟨Code.quiet_builtin _ (by decide +kernel), codeAny_builtin PySem.F.entry_type_call ?_⟩
  rw [Around.under_plain (weight_type_call_type "set" [.ref l] []) rfl]
  repeat (any_goals (first | assumption | wp_step))
  refine codeAny_mono (code_set_new_1 (.ref l) (E := E) (Q₁ := fun v s1 => ∃ b : Bool, v = .ref s.heap.objs.size ∧ s1 = { s with heap := s.heap.push (freshSet b) }) fun b => ⟨b, rfl, rfl⟩) fun r s1 hr => ?_
  match r, hr with
  | .error e, hr => exact hr
  | .ok (.ret v), hr =>
    obtain ⟨b, ev, es⟩ := hr
    subst ev es
    have at0 : (s.heap.push (freshSet b)).get? s.heap.objs.size = some (freshSet b) := Heap.get?_push_size _ rfl
    have ty0 : Shared.TypeIs { s with heap := s.heap.push (freshSet b) } (.ref s.heap.objs.size) "set" := ⟨_, at0, rfl⟩
    have il := PySem.F.called_set.init.lookup
    have ib := PySem.F.called_set.init.bind (.ref s.heap.objs.size)
    repeat (any_goals (first | assumption | wp_step))
    refine codeAny_mono (codeAny_call_builtin (R := wants (fun r s2 => r = .none ∧ ∃ h' tk, s2 = { s with heap := h', toks := tk } ∧ SetIs prog w h' s.heap.objs.size (dedK ys) ∧ ∀ b o, b < s.heap.objs.size → s.heap.get? b = some o → h'.get? b = some o) E) PySem.F.called_set.init.plain PySem.F.entry_set_init (check_set_init_1 ty0 ?_)) fun r2 s2 hr2 => ?_
    · obtain ⟨⟨oc, od, odt, osl⟩, hol, hcl, nl, hdl⟩ := id hl
      have hcl' : oc = _ := hcl; have hdl' : odt = _ := hdl
      subst hcl' hdl'
      have hol1 : (s.heap.push (freshSet b)).get? l = some { cls := .type "list", dict := od, data := .seq items nl, slots := osl } := Heap.get?_push_of_some _ hol
      have n1 := PySem.F.sub_list_set; have n2 := PySem.F.sub_list_frozenset
      have n3 : (Value.type "list" == Value.type "dict") = false := by decide
      have hl1 : (s.heap.push (freshSet b)).IsList l items := ⟨_, hol1, rfl, nl, rfl⟩
      have lS : l < s.heap.objs.size := Heap.lt_size hol
      have jS : (s.heap.push (freshSet b)).objs.size = s.heap.objs.size + 1 := Heap.size_push ..
      unfold Builtin.«set.__init__» noKeywords Builtin.Frozenset.updateFrom
      generalize ePI : pyIter = PI
      wp_walk
      subst ePI
      refine wpAny_pyIter_list hl1 (wpAny_bind (wpAny_runValue ?_))
      have hn : items.size = ys.length := by
        have := hi.length
        simpa using this
      refine set_loop (J := (s.heap.push (freshSet b)).objs.size) (l := l) (a := s.heap.objs.size) (items := items) (ys := ys) (by simp [hh]) (Nat.ne_of_lt (by rw [jS]; exact Nat.lt_succ_of_lt lS)) (Nat.ne_of_lt (by rw [jS]; exact Nat.lt_succ_self _)) (Nat.ne_of_gt lS) (fun i v hv => ?_) hn hb (ys.length - 0) 0 _ rfl (Nat.zero_le _) ⟨_, Heap.get?_push_size _ rfl, rfl, rfl⟩ (hl1.push _) ?_ fun h' tk hk hS => ?_
      · exact strs_at hi i v (by rw [Array.getElem?_toList]; exact hv)
      · exact SetOf_congr ((PyProof.Rows.setObjOf_fresh (knd := PySem.strKind prog w) b).setOf (Heap.get?_push_of_some _ at0) (by unfold scanBound; omega)) (fun x => by simp [dedK]) rfl
      · show wpAny _ _ _ _ _ _
        refine wpAny_pure ?_
        show wpAny _ _ (ret Value.none) _ _ _
        refine wpAny_pure ⟨rfl, h', tk, rfl, hS, fun c o hc e => hk c o (Nat.ne_of_lt hc) (Nat.ne_of_lt (by rw [jS]; exact Nat.lt_succ_of_lt hc)) (Heap.get?_push_of_some _ (Heap.get?_push_of_some _ e))⟩
    · match r2, hr2 with
      | .error e, hr2 => exact hr2
      | .ok (.ret v), hr2 =>
        obtain ⟨ev, h', tk, es, hS, hk⟩ := hr2
        subst ev es
        repeat (any_goals (first | assumption | wp_step))
        exact h _ _ hS hk
      | .ok .next, hr2 => exact hr2.elim
      | .ok .brk, hr2 => exact hr2.elim
      | .ok .cont, hr2 => exact hr2.elim
  | .ok .next, hr => exact hr.elim
  | .ok .brk, hr => exact hr.elim
  | .ok .cont, hr => exact hr.elim
end
/-- a set of texts, tracked: its members -/
def StrSet (P : Program) (w : World) (a : Addr) (l : List Str) : HO := .ext fun h => SetIs P w h a l
section
variable {X : Cx}
theorem bt_set : bootBuiltins "set" = some (.type "set") := by decide +kernel
theorem kcall_setS (K : PySem.W.Frag) (hc : X.calm = true) (hK : X.K = K := by rfl) : CallR X (.type "set") (fun xs H Q => ∃ p ys, xs = [.ref p] ∧ SqL K H p (ys.map V.str) ∧ ys.length ≤ 1000 ∧ ∀ a, H a = none → Q (.ref a) (upd H a (StrSet X.prog X.w a (dedK ys)))) := by
  subst hK
  intro pins s σ H xs us Q I r h
  obtain ⟨p, ys, rfl, hq, hz, q⟩ := h
  obtain ⟨u, rfl, ru⟩ := vals1 r
  cases ru
  obtain ⟨its, rv, pl, _⟩ := I.list hq
  have hb : ys.length + 1 < scanBound := by unfold scanBound; omega
  refine set_made (I.ok.hd hc) pl.isList (strsAre_of rv) hb fun h' tk hS hk => ?_
  have fr := I.hok.fresh (Nat.le_refl s.heap.objs.size)
  refine ⟨.ref s.heap.objs.size, _, I.laid (t' := tk) (o := StrSet X.prog X.w s.heap.objs.size (dedK ys)) (fun b o e => hk b o (Heap.lt_size e) e) (Nat.le_refl _) ⟨hS, ?_, fun h1 h2 z k => setIs_keep z k⟩, rfl, q _ fr⟩
  obtain ⟨o, _, _, _, ho, _⟩ := hS
  exact ⟨o, ho⟩
theorem call_lenS : CallR X (.builtin "len") (fun xs H Q => ∃ a l, xs = [.ref a] ∧ H a = some (StrSet X.prog X.w a l) ∧ Q (.int (l.length : Nat)) H) := by
  intro pins s σ H xs us Q I r h
  obtain ⟨a, l, rfl, ha, q⟩ := h
  obtain ⟨u, rfl, ru⟩ := vals1 r
  cases ru
  obtain ⟨o, es, ep, t, ho, hex, hd, _, _, hsz, hf, hn⟩ := (I.hok a _ ha).1
  have hb : (es.size : Int) < 2 ^ 63 := by
    unfold scanBound at hsz
    omega
  refine call_len_set ho hex hd hf hb ⟨.int _, H, I.tok _, ⟨_, rfl⟩, ?_⟩
  rw [hn]
  exact q
end
end L2

set_option Elab.async false
set_option linter.all false
set_option maxRecDepth 100000
set_option maxHeartbeats 4000000
namespace L2
open PySem PySem.Spec PyProof.Rows
/-! zip(t, u) of two tuples -/
section
variable {prog : Program} {w : World} {A : Around} {E : Value → Shared → Prop} {s : Shared}
theorem nextOf_tupI {it t : Addr} {k : Nat} {items : Array Value} {x : Value} {Q : Value → Shared → Prop} (hi : s.heap.IsTupleIter it t k) (ht : s.heap.IsTuple t items) (hx : items[k]? = some x)
    (q : ∀ h', h'.IsTupleIter it t (k + 1) → Heap.SameBut it s.heap h' → Q x { s with heap := h' }) : wpAny (model prog w) A (Builtin.SmallTypes.nextOf (.ref it)) Q E s := by
  obtain ⟨oi, a1, a2, a3⟩ := id hi
  obtain ⟨ot, b1, _, nt, b3⟩ := ht
  unfold Builtin.SmallTypes.nextOf
  refine wpAny_bind (wpAny_callSpecial?_slot (name := Str.ofString "__next__") hi.typeIs PySem.F.slot_tuple_iterator_next (wpAny_call_entry PySem.F.slot_tuple_iterator_next hi.typeIs PySem.F.entry_tuple_iterator_next ?_ (PySem.F.args_tuple_iterator_next_1 _)))
  refine wpAny_bind (m := field (.ref it) 0) (wpAny_field a1 a3 (x := .ref t) rfl ?_)
  show wpAny _ _ (if (Value.ref t == Value.none) = true then _ else field (.ref it) 1 >>= _) _ _ s
  rw [if_neg (show ¬ ((Value.ref t == Value.none) = true) from Bool.false_ne_true)]
  refine wpAny_bind (wpAny_field a1 a3 (x := .int k 0) rfl (wpAny_bind (m := seqItems? (.ref t)) (wpAny_seqItems b1 b3 ?_)))
  simp only [Int.toNat_natCast, hx]
  refine wpAny_bind (wpAny_setField a1 a3 (by simp) (wpAny_pure ⟨x, rfl, wpAny_pure (q _ ⟨_, Heap.get?_update_self _ a1 (Obj.isFreed_of_fields (Obj.data_mapFields a3 _)), (Obj.cls_mapFields ..).trans a2, ?_⟩ (Heap.SameBut.update ..))⟩))
  rw [Obj.data_mapFields a3]; simp [rawInt]
theorem nextOf_tupE {it t : Addr} {k : Nat} {items : Array Value} {Q : Value → Shared → Prop} (hh : A.handled = none) (hi : s.heap.IsTupleIter it t k) (ht : s.heap.IsTuple t items) (hx : items[k]? = none)
    (q : ∀ h' e, Heap.ExtBut it s.heap h' → (∃ o, h'.get? e = some o ∧ o.cls = .type "StopIteration") → E (.ref e) { s with heap := h' }) : wpAny (model prog w) A (Builtin.SmallTypes.nextOf (.ref it)) Q E s := by
  obtain ⟨oi, a1, a2, a3⟩ := id hi
  obtain ⟨ot, b1, _, nt, b3⟩ := ht
  unfold Builtin.SmallTypes.nextOf
  refine wpAny_bind (wpAny_callSpecial?_slot (name := Str.ofString "__next__") hi.typeIs PySem.F.slot_tuple_iterator_next (wpAny_call_entry PySem.F.slot_tuple_iterator_next hi.typeIs PySem.F.entry_tuple_iterator_next ?_ (PySem.F.args_tuple_iterator_next_1 _)))
  refine wpAny_bind (m := field (.ref it) 0) (wpAny_field a1 a3 (x := .ref t) rfl ?_)
  show wpAny _ _ (if (Value.ref t == Value.none) = true then _ else field (.ref it) 1 >>= _) _ _ s
  rw [if_neg (show ¬ ((Value.ref t == Value.none) = true) from Bool.false_ne_true)]
  refine wpAny_bind (wpAny_field a1 a3 (x := .int k 0) rfl (wpAny_bind (m := seqItems? (.ref t)) (wpAny_seqItems b1 b3 ?_)))
  simp only [Int.toNat_natCast, hx]
  refine wpAny_bind (wpAny_rule (wpAny_bind (wpAny_setField a1 a3 (by simp) (wpAny_bind (m := newExc (.type "StopIteration") []) ?_))))
  simp only [newExc, newTuple]; refine wpAny_bind (wpAny_newObj_type (wpAny_bind (m := firstArgMember _ _) (wpAny_of_eq (a := Value.none) (by first | rfl | (simp only [firstArgMember]; rfl)) (wpAny_newObj_type ?_ (by size_fits)))) (by size_fits))
  simp only [raiseNew]; refine wpAny_bind (wpAny_handled ?_)
  first | rw [show A.in1.handled = none from hh] | rw [hh]
  exact wpAny_bind (wpAny_pure (wpAny_throw (q _ _ (((Heap.SameBut.update ..).extBut.push _).push _) ⟨_, Heap.get?_push_size _ rfl, rfl⟩)))
/-- the zip at z stands ahead of the k-th pair -/
structure ZipAt (z TI TO i1 i2 t1 t2 : Addr) (xs ys : Array Value) (f0 : Value) (k1 k2 : Nat) (h : Heap) : Prop where
  zi : IsZip h z TI TO f0
  ti : IsPair h TI (.ref i1) (.ref i2)
  to : ∃ a b, IsPair h TO a b
  a1 : h.IsTupleIter i1 t1 k1
  a2 : h.IsTupleIter i2 t2 k2
  b1 : h.IsTuple t1 xs
  b2 : h.IsTuple t2 ys
structure Far (z TI TO i1 i2 t1 t2 : Addr) : Prop where
  nd : [z, TI, TO, i1, i2].Nodup
  f1 : t1 ∉ [z, TO, i1, i2]
  f2 : t2 ∉ [z, TO, i1, i2]
def Kept4 (z TO i1 i2 : Addr) (h h' : Heap) : Prop := ∀ c o, c ∉ [z, TO, i1, i2] → h.get? c = some o → h'.get? c = some o
variable {z TI TO i1 i2 t1 t2 : Addr} {xs ys : Array Value} {k1 k2 : Nat}
theorem zip_item {x y : Value} {Q : Value → Shared → Prop} (D : Far z TI TO i1 i2 t1 t2) (Z : ZipAt z TI TO i1 i2 t1 t2 xs ys .none k1 k2 s.heap) (hx : xs[k1]? = some x) (hy : ys[k2]? = some y)
    (q : ∀ h', ZipAt z TI TO i1 i2 t1 t2 xs ys (rawInt s.heap.objs.size) (k1 + 1) (k2 + 1) h' → IsPair h' s.heap.objs.size x y → Kept4 z TO i1 i2 s.heap h' → Q (.ref s.heap.objs.size) { s with heap := h' }) :
    wpAny (model prog w) A (Builtin.«zip.__next__» ⟨[.ref z], []⟩) (fun fin s' => ∃ v, fin = .done (.ret v) ∧ Q v s') E s := by
  obtain ⟨nd, f1, f2⟩ := D
  simp only [List.nodup_cons, List.mem_cons, List.not_mem_nil, or_false, not_or, List.nodup_nil, and_true, not_false_eq_true] at nd f1 f2
  obtain ⟨⟨nzI, nzO, nz1, nz2⟩, ⟨nIO, nI1, nI2⟩, ⟨nO1, nO2⟩, n12⟩ := nd
  obtain ⟨p1z, p1O, p11, p12⟩ := f1
  obtain ⟨p2z, p2O, p21, p22⟩ := f2
  obtain ⟨zi, ti, ⟨a, b, to⟩, a1, a2, b1, b2⟩ := Z
  refine wpAny_bind (m := field (.ref z) 2) (wpAny_field zi rfl (x := .bool false) rfl ?_)
  refine wpAny_bind (m := field (.ref z) 3) (wpAny_field zi rfl (x := .ref TI) rfl (wpAny_bind (wpAny_seqItems ti rfl ?_)))
  refine wpAny_bind (m := Builtin.SmallTypes.ownedTupleIsFree (.ref z)) ?_
  unfold Builtin.SmallTypes.ownedTupleIsFree; refine wpAny_bind (wpAny_field zi rfl (x := .none) rfl (wpAny_pure ?_))
  simp only [if_true]; refine wpAny_bind (wpAny_rule (wpAny_bind (wpAny_field zi rfl (x := .ref TO) rfl (wpAny_bind (wpAny_setField_rec zi (by simp) fun g1 zi1' s1 => ?_)))))
  have zi1 : IsZip g1 z TI TO .ellipsis := zi1'
  refine wpAny_bind ?_
  simp only [List.zipIdx_cons, List.zipIdx_nil, List.forIn_cons, List.forIn_nil]
  refine wpAny_bind (wpAny_bind (wpAny_onRaise (wpAny_bind (m := Builtin.SmallTypes.nextOf (.ref i1)) ?_)))
  refine nextOf_tupI (a1.extBut s1.extBut (Ne.symm nz1)) (b1.extBut s1.extBut p1z) hx fun g2 a1' s2 => wpAny_pure ?_
  have to2 : IsPair g2 TO a b := s2.extBut _ _ nO1 (s1.extBut _ _ (Ne.symm nzO) to)
  refine wpAny_bind (wpAny_seqItems to2 rfl (wpAny_bind (wpAny_updateSeq_pair to2 fun g3 to3' s3 => wpAny_bind (wpAny_letGo (wpAny_pure ?_)))))
  have to3 : IsPair g3 TO x b := to3'
  refine wpAny_bind (wpAny_bind (wpAny_onRaise (wpAny_bind (m := Builtin.SmallTypes.nextOf (.ref i2)) ?_)))
  refine nextOf_tupI (((a2.extBut s1.extBut (Ne.symm nz2)).extBut s2.extBut (Ne.symm n12)).extBut s3.extBut (Ne.symm nO2)) (((b2.extBut s1.extBut p2z).extBut s2.extBut p21).extBut s3.extBut p2O) hy fun g4 a2' s4 => wpAny_pure ?_
  have to4 : IsPair g4 TO x b := s4.extBut _ _ nO2 to3
  refine wpAny_bind (wpAny_seqItems to4 rfl (wpAny_bind (wpAny_updateSeq_pair to4 fun g5 to5' s5 => wpAny_bind (wpAny_letGo (wpAny_pure (wpAny_pure ?_))))))
  have to5 : IsPair g5 TO x y := to5'
  refine wpAny_bind (wpAny_seqItems to5 rfl (wpAny_bind (wpAny_newTuple ?_)))
  have sz : g5.objs.size = s.heap.objs.size := by rw [s5.1, s4.1, s3.1, s2.1, s1.1]
  have zi5 : IsZip g5 z TI TO .ellipsis := s5.extBut _ _ nzO (s4.extBut _ _ nz2 (s3.extBut _ _ nzO (s2.extBut _ _ nz1 zi1)))
  have k5 : ∀ c o, c ≠ z → c ≠ TO → c ≠ i1 → c ≠ i2 → s.heap.get? c = some o → g5.get? c = some o := fun c o c1 c2 c3 c4 e => s5.extBut _ _ c2 (s4.extBut _ _ c4 (s3.extBut _ _ c2 (s2.extBut _ _ c3 (s1.extBut _ _ c1 e))))
  have a15 : g5.IsTupleIter i1 t1 (k1 + 1) := ((a1'.extBut s3.extBut (Ne.symm nO1)).extBut s4.extBut n12).extBut s5.extBut (Ne.symm nO1)
  have a25 : g5.IsTupleIter i2 t2 (k2 + 1) := a2'.extBut s5.extBut (Ne.symm nO2)
  refine wpAny_bind (m := Builtin.SmallTypes.ownedTupleHandOut (.ref z) (.ref g5.objs.size)) ?_
  unfold Builtin.SmallTypes.ownedTupleHandOut
  have zi6 : IsZip (g5.push { cls := .type "tuple", data := .seq #[x, y] }) z TI TO .ellipsis := Heap.get?_push_of_some _ zi5
  refine wpAny_bind (wpAny_setField_rec zi6 (by simp) fun g7 zi7' s7 => ?_)
  have zi7 : IsZip g7 z TI TO (rawInt g5.objs.size) := zi7'
  refine wpAny_setField_rec zi7 (by simp) fun g8 zi8' s8 => ?_
  have zi8 : IsZip g8 z TI TO (rawInt g5.objs.size) := zi8'
  have up : ∀ c o, c ≠ z → g5.get? c = some o → g8.get? c = some o := fun c o c1 e => s8.extBut _ _ c1 (s7.extBut _ _ c1 (Heap.get?_push_of_some _ e))
  have new : IsPair g8 g5.objs.size x y := s8.extBut _ _ (Nat.ne_of_gt (Heap.lt_size zi5)) (s7.extBut _ _ (Nat.ne_of_gt (Heap.lt_size zi5)) (Heap.get?_push_size _ rfl))
  have tp : ∀ {c : Addr} {us : Array Value}, c ≠ z → c ≠ TO → c ≠ i1 → c ≠ i2 → s.heap.IsTuple c us → g8.IsTuple c us := fun {c us} c1 c2 c3 c4 ⟨o, e, r⟩ => ⟨o, up c o c1 (k5 c o c1 c2 c3 c4 e), r⟩
  have il : ∀ {c u : Addr} {n : Nat}, c ≠ z → g5.IsTupleIter c u n → g8.IsTupleIter c u n := fun {c u n} c1 ⟨o, e, r⟩ => ⟨o, up c o c1 e, r⟩
  refine wpAny_pure ⟨_, rfl, ?_⟩
  have fin := q g8 ⟨by rw [← sz]; exact zi8, up _ _ (Ne.symm nzI) (k5 _ _ (Ne.symm nzI) nIO nI1 nI2 ti), ⟨x, y, up _ _ (Ne.symm nzO) to5⟩, il (Ne.symm nz1) a15, il (Ne.symm nz2) a25, tp p1z p1O p11 p12 b1, tp p2z p2O p21 p22 b2⟩ (by rw [← sz]; exact new) fun c o hc e => by
    simp only [List.mem_cons, List.not_mem_nil, or_false, not_or] at hc
    obtain ⟨c1, c2, c3, c4⟩ := hc
    exact up c o c1 (k5 c o c1 c2 c3 c4 e)
  rw [← sz] at fin
  exact fin
theorem zip_end {Q : Fin → Shared → Prop} (hh : A.handled = none) (D : Far z TI TO i1 i2 t1 t2) (Z : ZipAt z TI TO i1 i2 t1 t2 xs ys .none k1 k2 s.heap) (hend : xs[k1]? = none ∨ ys[k2]? = none)
    (q : ∀ h' e, Kept4 z TO i1 i2 s.heap h' → (∃ o, h'.get? e = some o ∧ o.cls = .type "StopIteration") → E (.ref e) { s with heap := h' }) : wpAny (model prog w) A (Builtin.«zip.__next__» ⟨[.ref z], []⟩) Q E s := by
  obtain ⟨nd, f1, f2⟩ := D
  simp only [List.nodup_cons, List.mem_cons, List.not_mem_nil, or_false, not_or, List.nodup_nil, and_true, not_false_eq_true] at nd f1 f2
  obtain ⟨⟨nzI, nzO, nz1, nz2⟩, ⟨nIO, nI1, nI2⟩, ⟨nO1, nO2⟩, n12⟩ := nd
  obtain ⟨p1z, p1O, p11, p12⟩ := f1
  obtain ⟨p2z, p2O, p21, p22⟩ := f2
  obtain ⟨zi, ti, ⟨a, b, to⟩, a1, a2, b1, b2⟩ := Z
  refine wpAny_bind (m := field (.ref z) 2) (wpAny_field zi rfl (x := .bool false) rfl ?_)
  refine wpAny_bind (m := field (.ref z) 3) (wpAny_field zi rfl (x := .ref TI) rfl (wpAny_bind (wpAny_seqItems ti rfl ?_)))
  refine wpAny_bind (m := Builtin.SmallTypes.ownedTupleIsFree (.ref z)) ?_
  unfold Builtin.SmallTypes.ownedTupleIsFree; refine wpAny_bind (wpAny_field zi rfl (x := .none) rfl (wpAny_pure ?_))
  simp only [if_true]; refine wpAny_bind (wpAny_rule (wpAny_bind (wpAny_field zi rfl (x := .ref TO) rfl (wpAny_bind (wpAny_setField_rec zi (by simp) fun g1 zi1' s1 => ?_)))))
  have zi1 : IsZip g1 z TI TO .ellipsis := zi1'
  refine wpAny_bind ?_
  simp only [List.zipIdx_cons, List.zipIdx_nil, List.forIn_cons, List.forIn_nil]
  refine wpAny_bind (wpAny_bind (wpAny_onRaise (wpAny_bind (m := Builtin.SmallTypes.nextOf (.ref i1)) ?_)))
  cases hx : xs[k1]? with
  | none =>
    refine nextOf_tupE hh (a1.extBut s1.extBut (Ne.symm nz1)) (b1.extBut s1.extBut p1z) hx fun g2 e s2 ⟨oe, oe1, oe2⟩ => ?_
    have zi2 : IsZip g2 z TI TO .ellipsis := s2 _ _ nz1 zi1
    have ez : e ≠ z := fun c => by rw [c, zi2] at oe1; cases oe1; simp at oe2
    refine wpAny_setField_rec zi2 (by simp) fun g3 _ s3 => q g3 e (fun c o hc e' => ?_) ⟨oe, s3.extBut _ _ ez oe1, oe2⟩
    simp only [List.mem_cons, List.not_mem_nil, or_false, not_or] at hc
    exact s3.extBut _ _ hc.1 (s2 _ _ hc.2.2.1 (s1.extBut _ _ hc.1 e'))
  | some x =>
    have hy : ys[k2]? = none := hend.elim (fun c => by rw [hx] at c; cases c) id
    refine nextOf_tupI (a1.extBut s1.extBut (Ne.symm nz1)) (b1.extBut s1.extBut p1z) hx fun g2 a1' s2 => wpAny_pure ?_
    have to2 : IsPair g2 TO a b := s2.extBut _ _ nO1 (s1.extBut _ _ (Ne.symm nzO) to)
    refine wpAny_bind (wpAny_seqItems to2 rfl (wpAny_bind (wpAny_updateSeq_pair to2 fun g3 to3' s3 => wpAny_bind (wpAny_letGo (wpAny_pure ?_)))))
    refine wpAny_bind (wpAny_bind (wpAny_onRaise (wpAny_bind (m := Builtin.SmallTypes.nextOf (.ref i2)) ?_)))
    refine nextOf_tupE hh (((a2.extBut s1.extBut (Ne.symm nz2)).extBut s2.extBut (Ne.symm n12)).extBut s3.extBut (Ne.symm nO2)) (((b2.extBut s1.extBut p2z).extBut s2.extBut p21).extBut s3.extBut p2O) hy fun g4 e s4 ⟨oe, oe1, oe2⟩ => ?_
    have zi4 : IsZip g4 z TI TO .ellipsis := s4 _ _ nz2 (s3.extBut _ _ nzO (s2.extBut _ _ nz1 zi1))
    have ez : e ≠ z := fun c => by rw [c, zi4] at oe1; cases oe1; simp at oe2
    refine wpAny_setField_rec zi4 (by simp) fun g5 _ s5 => q g5 e (fun c o hc e' => ?_) ⟨oe, s5.extBut _ _ ez oe1, oe2⟩
    simp only [List.mem_cons, List.not_mem_nil, or_false, not_or] at hc
    exact s5.extBut _ _ hc.1 (s4 _ _ hc.2.2.2 (s3.extBut _ _ hc.2.1 (s2.extBut _ _ hc.2.2.1 (s1.extBut _ _ hc.1 e'))))
theorem pyNext_zipI {x y : Value} {Q : Option Value → Shared → Prop} (D : Far z TI TO i1 i2 t1 t2) (Z : ZipAt z TI TO i1 i2 t1 t2 xs ys .none k1 k2 s.heap) (hx : xs[k1]? = some x) (hy : ys[k2]? = some y)
    (q : ∀ h', ZipAt z TI TO i1 i2 t1 t2 xs ys (rawInt s.heap.objs.size) (k1 + 1) (k2 + 1) h' → IsPair h' s.heap.objs.size x y → Kept4 z TO i1 i2 s.heap h' → Q (some (.ref s.heap.objs.size)) { s with heap := h' }) : wpAny (model prog w) A (pyNext (.ref z)) Q E s := by
  have ty : s.TypeIs (.ref z) "zip" := ⟨_, Z.zi, rfl⟩
  unfold pyNext
  exact wpAny_bind (wpAny_attempt (wpAny_callSpecial?_slot (name := Str.ofString "__next__") ty PySem.F.slot_zip_next (wpAny_call_entry PySem.F.slot_zip_next ty PySem.F.entry_zip_next (zip_item D Z hx hy fun h' u1 u2 u3 => wpAny_pure (q h' u1 u2 u3)) (PySem.F.args_zip_next_1 _))))
theorem pyNext_zipE {Q : Option Value → Shared → Prop} (hh : A.handled = none) (D : Far z TI TO i1 i2 t1 t2) (Z : ZipAt z TI TO i1 i2 t1 t2 xs ys .none k1 k2 s.heap) (hend : xs[k1]? = none ∨ ys[k2]? = none)
    (q : ∀ h', Kept4 z TO i1 i2 s.heap h' → Q none { s with heap := h' }) : wpAny (model prog w) A (pyNext (.ref z)) Q E s := by
  have ty : s.TypeIs (.ref z) "zip" := ⟨_, Z.zi, rfl⟩
  unfold pyNext
  refine wpAny_bind (wpAny_attempt (wpAny_callSpecial?_slot (name := Str.ofString "__next__") ty PySem.F.slot_zip_next (wpAny_call_entry PySem.F.slot_zip_next ty PySem.F.entry_zip_next (zip_end hh D Z hend fun h' e hk ⟨o, o1, o2⟩ => ?_) (PySem.F.args_zip_next_1 _))))
  exact wpAny_bind (wpAny_isInstance (T := "StopIteration") (b := true) ⟨o, o1, o2⟩ isSubtype_stop (wpAny_pure (q h' hk)))
/-- the heap behind zip(t1, t2) -/
def zp1 (h : Heap) (t1 : Addr) : Heap := h.push { cls := .type "tuple_iterator", data := .fields #[.ref t1, .int 0 0] }
def zp2 (h : Heap) (t1 t2 : Addr) : Heap := (zp1 h t1).push { cls := .type "tuple_iterator", data := .fields #[.ref t2, .int 0 0] }
def zp3 (h : Heap) (t1 t2 : Addr) : Heap := (zp2 h t1 t2).push { cls := .type "tuple", data := .seq #[.ref h.objs.size, .ref (zp1 h t1).objs.size] }
def zp4 (h : Heap) (t1 t2 : Addr) : Heap := (zp3 h t1 t2).push { cls := .type "tuple", data := .seq #[.none, .none] }
def zp5 (h : Heap) (t1 t2 : Addr) : Heap := (zp4 h t1 t2).push { cls := .type "zip", data := .fields #[.none, .bool false, .bool false, .ref (zp2 h t1 t2).objs.size, .ref (zp3 h t1 t2).objs.size] }
theorem zip_new (t1 t2 : Addr) (xs ys : Array Value) : Meets (Builtin.«zip.__new__» ⟨[.type "zip", .ref t1, .ref t2], []⟩) (fun _ R s => s.heap.IsTuple t1 xs ∧ s.heap.IsTuple t2 ys ∧ R (.ok (.ret (.ref (zp4 s.heap t1 t2).objs.size))) { s with heap := zp5 s.heap t1 t2 }) :=
  .of_wp fun prog w A R s h => by
    obtain ⟨hp, g, d, tk, os⟩ := s
    obtain ⟨u1, u2, h⟩ := h
    have subz := PySem.sub_zip
    have T1 : Heap.IsTuple (Shared.heap ⟨hp, g, d, tk, os⟩) t1 xs := u1
    have T2 : Heap.IsTuple (Shared.heap ⟨hp.push { cls := .type "tuple_iterator", data := .fields #[.ref t1, .int 0 0] }, g, d, tk, os⟩) t2 ys := Heap.IsTuple.push u2 _
    wp_walk using wpAny_pyIter_tuple T1, wpAny_pyIter_tuple T2
    exact ⟨_, rfl, h⟩
theorem call_zipT {Q : Value → Shared → Prop} (h1 : s.heap.IsTuple t1 xs) (h2 : s.heap.IsTuple t2 ys)
    (q : ∀ h' z TI TO i1 i2, Far z TI TO i1 i2 t1 t2 → ZipAt z TI TO i1 i2 t1 t2 xs ys .none 0 0 h' → (∀ b ∈ [z, TI, TO, i1, i2], s.heap.objs.size ≤ b) → (∀ c o, s.heap.get? c = some o → h'.get? c = some o) → Q (.ref z) { s with heap := h' }) :
    wpAny (model prog w) A (call (.type "zip") [.ref t1, .ref t2]) Q E s := by
  refine callType_new PySem.F.called_zip (by decide) (PySem.F.typeCall_zip_2 _ _) (PySem.F.newCall_zip_2 _ _) (fun obj => PySem.F.args_object_init_3 obj _ _) PySem.F.entry_zip_new (zip_new t1 t2 xs ys) ⟨h1, h2, ?_⟩
  have l1 : t1 < s.heap.objs.size := by obtain ⟨_, e, _⟩ := h1; exact Heap.lt_size e
  have l2 : t2 < s.heap.objs.size := by obtain ⟨_, e, _⟩ := h2; exact Heap.lt_size e
  have z1 : (zp1 s.heap t1).objs.size = s.heap.objs.size + 1 := Heap.size_push ..
  have z2 : (zp2 s.heap t1 t2).objs.size = s.heap.objs.size + 2 := by unfold zp2; rw [Heap.size_push, z1]
  have z3 : (zp3 s.heap t1 t2).objs.size = s.heap.objs.size + 3 := by unfold zp3; rw [Heap.size_push, z2]
  have z4 : (zp4 s.heap t1 t2).objs.size = s.heap.objs.size + 4 := by unfold zp4; rw [Heap.size_push, z3]
  have kp : ∀ c o, s.heap.get? c = some o → (zp5 s.heap t1 t2).get? c = some o := fun c o e => Heap.get?_push_of_some _ (Heap.get?_push_of_some _ (Heap.get?_push_of_some _ (Heap.get?_push_of_some _ (Heap.get?_push_of_some _ e))))
  have g5 : (zp5 s.heap t1 t2).get? (zp4 s.heap t1 t2).objs.size = some _ := Heap.get?_push_size _ rfl
  have g4 : (zp5 s.heap t1 t2).get? (zp3 s.heap t1 t2).objs.size = some _ := Heap.get?_push_of_some _ (Heap.get?_push_size _ rfl)
  have g3 : (zp5 s.heap t1 t2).get? (zp2 s.heap t1 t2).objs.size = some _ := Heap.get?_push_of_some _ (Heap.get?_push_of_some _ (Heap.get?_push_size _ rfl))
  have g2 : (zp5 s.heap t1 t2).get? (zp1 s.heap t1).objs.size = some _ := Heap.get?_push_of_some _ (Heap.get?_push_of_some _ (Heap.get?_push_of_some _ (Heap.get?_push_size _ rfl)))
  have g1 : (zp5 s.heap t1 t2).get? s.heap.objs.size = some _ := Heap.get?_push_of_some _ (Heap.get?_push_of_some _ (Heap.get?_push_of_some _ (Heap.get?_push_of_some _ (Heap.get?_push_size _ rfl))))
  refine ⟨⟨_, g5, rfl⟩, q _ _ (zp2 s.heap t1 t2).objs.size (zp3 s.heap t1 t2).objs.size s.heap.objs.size (zp1 s.heap t1).objs.size ⟨?_, ?_, ?_⟩ ⟨g5, g3, ⟨_, _, g4⟩, ⟨_, g1, rfl, rfl⟩, ⟨_, g2, rfl, rfl⟩, ?_, ?_⟩ ?_ kp⟩
  · rw [z1, z2, z3, z4]
    generalize s.heap.objs.size = n
    simp
  · rw [z1, z3, z4]
    generalize s.heap.objs.size = n at *
    have : ∀ a b : Nat, a < b → ¬ (a = b) := fun a b h => Nat.ne_of_lt h
    simp only [List.mem_cons, List.not_mem_nil, or_false, not_or]
    exact ⟨this _ _ (Nat.lt_of_lt_of_le l1 (Nat.le_add_right ..)), this _ _ (Nat.lt_of_lt_of_le l1 (Nat.le_add_right ..)), this _ _ l1, this _ _ (Nat.lt_of_lt_of_le l1 (Nat.le_add_right ..))⟩
  · rw [z1, z3, z4]
    generalize s.heap.objs.size = n at *
    have : ∀ a b : Nat, a < b → ¬ (a = b) := fun a b h => Nat.ne_of_lt h
    simp only [List.mem_cons, List.not_mem_nil, or_false, not_or]
    exact ⟨this _ _ (Nat.lt_of_lt_of_le l2 (Nat.le_add_right ..)), this _ _ (Nat.lt_of_lt_of_le l2 (Nat.le_add_right ..)), this _ _ l2, this _ _ (Nat.lt_of_lt_of_le l2 (Nat.le_add_right ..))⟩
  · obtain ⟨o, e, r⟩ := h1
    exact ⟨o, kp _ _ e, r⟩
  · obtain ⟨o, e, r⟩ := h2
    exact ⟨o, kp _ _ e, r⟩
  · rw [z1, z2, z3, z4]
    generalize s.heap.objs.size = n
    intro b hb
    simp only [List.mem_cons, List.not_mem_nil, or_false] at hb
    rcases hb with rfl | rfl | rfl | rfl | rfl
    · exact Nat.le_add_right ..
    · exact Nat.le_add_right ..
    · exact Nat.le_add_right ..
    · exact Nat.le_refl _
    · exact Nat.le_add_right ..
end
end L2
namespace L2
open PySem PySem.Spec PyProof.Rows
/-- the pairs of the tuples at p and q, each pair a new tuple -/
def Itz (K : PySem.W.Frag) (p q : Addr) : It :=
  ⟨fun i H => ∃ xs ys x y, SqT K H p xs ∧ SqT K H q ys ∧ xs[i]? = some x ∧ ys[i]? = some y,
   fun i H v H' => ∃ T x y, H T = none ∧ v = .ref T ∧ H' = upd H T (.tup [x, y]) ∧ ∀ xs ys, SqT K H p xs → SqT K H q ys → xs[i]? = some x ∧ ys[i]? = some y,
   fun i H => ∃ xs ys, SqT K H p xs ∧ SqT K H q ys ∧ (xs.length ≤ i ∨ ys.length ≤ i)⟩
/-- what the turning zip leaves: all but four records -/
theorem Inv.zipped {X : Cx} {pins : List (Addr × Obj)} {σ : St} {H : Hp} {s : Shared} {z TO i1 i2 : Addr} {h' : Heap} {t' : Nat} (I : Inv X pins σ H s) (hf : ∀ b ∈ [z, TO, i1, i2], FpOk X pins H b) (k : Kept4 z TO i1 i2 s.heap h') : Inv X pins σ H { s with heap := h', toks := t' } := by
  have nt : ∀ b u, H b = some u → b ∉ [z, TO, i1, i2] := fun b u e hb => by
    rw [(hf b hb).1] at e
    cases e
  have nl : X.env.locals ∉ [z, TO, i1, i2] := fun hb => (hf _ hb).2.1 rfl
  refine I.step (g' := s.gens) (d' := s.drawn) (ch := [z, TO, i1, i2]) (fun b hb => ⟨(hf b hb).2.2.2.1, (hf b hb).2.1, (hf b hb).2.2.2.2.1, (hf b hb).2.2.2.2.2⟩) (fun b o _ _ hc e _ => k b o hc e) (fun b o _ _ hc e _ => ⟨o.slots, k b o hc e⟩) (fun _ _ _ _ n => n)
    (fun b o hc e => ⟨o, k b o hc e⟩) (fun _ _ e => e) (fun _ _ _ e => e) (fun b ps e => ⟨#[], by rw [e]; simp⟩) (fun m hm => ?_) (fun b u e => ?_) I.bare
  · obtain ⟨o, es, ep, ho, r⟩ := hm
    exact ⟨o, es, ep, k _ o nl ho, r⟩
  · refine (I.hok b u e).stay (fun c v hc q => k c v ?_ q) (fun _ q => q) fun _ _ q => q
    rcases hc with z | z
    · rw [z]; exact nt b u e
    · exact nt c _ z
structure ZipTn (z TI TO i1 i2 t1 t2 : Addr) (k : Nat) (h : Heap) : Prop where
  zi : IsZip h z TI TO .none
  ti : IsPair h TI (.ref i1) (.ref i2)
  to : ∃ a b, IsPair h TO a b
  a1 : h.IsTupleIter i1 t1 k
  a2 : h.IsTupleIter i2 t2 k
theorem turn_zip {P : Program} {w : World} {K : PySem.W.Frag} {elts : List Expr} {kk : Nat} {pos : Pos} {z TI TO i1 i2 t1 t2 : Addr} (D : Far z TI TO i1 i2 t1 t2) :
    Turn P w K (.Tuple elts kk pos) (Itz K t1 t2) [z, TI, TO, i1, i2] z (fun i h => ZipTn z TI TO i1 i2 t1 t2 i h) where
  mem := by simp
  obj := fun i h st b hb => by
    obtain ⟨u1, u2, ⟨a, c, u3⟩, ⟨o4, u4, _, d4⟩, ⟨o5, u5, _, d5⟩⟩ := st
    simp only [List.mem_cons, List.not_mem_nil, or_false] at hb
    rcases hb with rfl | rfl | rfl | rfl | rfl
    · exact ⟨_, u1, fun v zz => by cases zz⟩
    · exact ⟨_, u2, fun v zz => by cases zz⟩
    · exact ⟨_, u3, fun v zz => by cases zz⟩
    · exact ⟨_, u4, fun v zz => by rw [d4] at zz; cases zz⟩
    · exact ⟨_, u5, fun v zz => by rw [d5] at zz; cases zz⟩
  keep := fun i h h' st k => by
    obtain ⟨u1, u2, ⟨a, c, u3⟩, ⟨o4, u4, r4⟩, ⟨o5, u5, r5⟩⟩ := st
    exact ⟨k _ (by simp) _ u1, k _ (by simp) _ u2, ⟨a, c, k _ (by simp) _ u3⟩, ⟨o4, k _ (by simp) _ u4, r4⟩, ⟨o5, k _ (by simp) _ u5, r5⟩⟩
  item := by
    intro X hP hw hK hc i pins s σ H E I hf st hg
    subst hP hw hK
    obtain ⟨xs, ys, x, y, hq1, hq2, hx, hy⟩ := hg
    obtain ⟨its1, rv1, p1, hz1⟩ := I.tuple hq1
    obtain ⟨its2, rv2, p2, hz2⟩ := I.tuple hq2
    obtain ⟨u, hu, ru⟩ := rv1.get hx
    obtain ⟨v, hv, rv⟩ := rv2.get hy
    refine pyNext_zipI (s := s) D ⟨st.zi, st.ti, st.to, st.a1, st.a2, p1, p2⟩ (x := u) (y := v) (by simpa using hu) (by simpa using hv) fun h' Z hp hk => ⟨_, rfl, wpAny_letOwnedTupleGo_zip Z.zi fun h2 z2 sb => ?_⟩
    have hf4 : ∀ b ∈ [z, TO, i1, i2], FpOk X pins H b := fun b hb => hf b (by simp only [List.mem_cons, List.not_mem_nil, or_false] at hb ⊢; rcases hb with e | e | e | e <;> simp [e])
    have k2 : Kept4 z TO i1 i2 s.heap h2 := fun c o hc e => (sb.2 c (fun zz => hc (by simp [zz]))).trans (hk c o hc e)
    have I1 : Inv X pins σ H { s with heap := h2 } := I.zipped (t' := s.toks) hf4 k2
    have zlt : z < s.heap.objs.size := Heap.lt_size st.zi
    have at2 : IsPair h2 s.heap.objs.size u v := (sb.2 _ (Nat.ne_of_gt zlt)).trans hp
    have Hn : H s.heap.objs.size = none := I.hok.fresh (Nat.le_refl _)
    have I2 : Inv X pins σ (upd H s.heap.objs.size (.tup [x, y])) { s with heap := h2 } := by
      refine I1.adopt Hn (Heap.get?_none_of_le I.sz) (Nat.ne_of_gt I.lt) (fun xx cc e zz => ?_) (fun p hp zz => ?_) ⟨by show 2 ≤ sizeLine; decide, [u, v], .cons ru (.cons rv .nil), ⟨_, at2, rfl, ⟨0, rfl⟩, rfl⟩⟩
      · obtain ⟨_, q⟩ := I.cell xx cc e
        exact absurd q.lt (by rw [zz]; exact Nat.lt_irrefl _)
      · exact absurd (Heap.lt_size (I.pin p hp).1) (by rw [zz]; exact Nat.lt_irrefl _)
    have n5 : ∀ b ∈ [z, TI, TO, i1, i2], b ≠ s.heap.objs.size := fun b hb zz => by
      obtain ⟨u1, u2, ⟨a, c, u3⟩, ⟨o4, u4, _⟩, ⟨o5, u5, _⟩⟩ := st
      simp only [List.mem_cons, List.not_mem_nil, or_false] at hb
      rcases hb with e | e | e | e | e
      · rw [e] at zz; exact absurd (Heap.lt_size u1) (by rw [zz]; exact Nat.lt_irrefl _)
      · rw [e] at zz; exact absurd (Heap.lt_size u2) (by rw [zz]; exact Nat.lt_irrefl _)
      · rw [e] at zz; exact absurd (Heap.lt_size u3) (by rw [zz]; exact Nat.lt_irrefl _)
      · rw [e] at zz; exact absurd (Heap.lt_size u4) (by rw [zz]; exact Nat.lt_irrefl _)
      · rw [e] at zz; exact absurd (Heap.lt_size u5) (by rw [zz]; exact Nat.lt_irrefl _)
    obtain ⟨nd, _, _⟩ := D
    simp only [List.nodup_cons, List.mem_cons, List.not_mem_nil, or_false, not_or, List.nodup_nil, and_true, not_false_eq_true] at nd
    obtain ⟨⟨nzI, nzO, nz1, nz2⟩, _, _, _⟩ := nd
    obtain ⟨a, b, to⟩ := Z.to
    refine ⟨.ref s.heap.objs.size, _, I2, rfl, ⟨_, x, y, Hn, rfl, rfl, fun xs' ys' h1 h2 => ?_⟩, ⟨z2, (sb.2 _ (Ne.symm nzI)).trans Z.ti, ⟨a, b, (sb.2 _ (Ne.symm nzO)).trans to⟩, Z.a1.extBut sb.extBut (Ne.symm nz1), Z.a2.extBut sb.extBut (Ne.symm nz2)⟩, fun b hb => ?_⟩
    · rw [I.tuple_inj h1 hq1, I.tuple_inj h2 hq2]
      exact ⟨hx, hy⟩
    · rw [upd_ne (n5 b hb)]
      exact (hf b hb).1
  done := by
    intro X hP hw hK hc i pins s σ H E I hf st hg
    subst hP hw hK
    obtain ⟨xs, ys, hq1, hq2, hx⟩ := hg
    obtain ⟨its1, rv1, p1, hz1⟩ := I.tuple hq1
    obtain ⟨its2, rv2, p2, hz2⟩ := I.tuple hq2
    have l1 := rv1.length
    have l2 := rv2.length
    have hf4 : ∀ b ∈ [z, TO, i1, i2], FpOk X pins H b := fun b hb => hf b (by simp only [List.mem_cons, List.not_mem_nil, or_false] at hb ⊢; rcases hb with e | e | e | e <;> simp [e])
    exact pyNext_zipE (I.ok.hd hc) D ⟨st.zi, st.ti, st.to, st.a1, st.a2, p1, p2⟩ (by rcases hx with h | h; exact .inl (by simp; omega); exact .inr (by simp; omega)) fun h' hk => ⟨rfl, I.zipped (t' := s.toks) hf4 hk⟩
  self := fun A i s Q E st h => wpAny_pyIter_zip st.zi h
section
variable {X : Cx}
theorem bt_zip : bootBuiltins "zip" = some (.type "zip") := by decide +kernel
def iZip (K : PySem.W.Frag) (ta : TA) : TI := fun σ H R => ta σ H fun vs H1 => ∃ p q xs ys, vs = [.ref p, .ref q] ∧ SqT K H1 p xs ∧ SqT K H1 q ys ∧ R (Itz K p q) H1
theorem kpi_zip (K : PySem.W.Frag) {elts : List Expr} {kk : Nat} {tpos : Pos} {a b : Expr} {ta : TA} {p pos : Pos} (hg : Gl X "zip") (hm : X.mg "zip" = none) (ha : PA X [a, b] ta) (hs : starEach [a, b] X.env = [(false, eval a X.env), (false, eval b X.env)] := by rfl) (hs2 : starEach [b] X.env = [(false, eval b X.env)] := by rfl) (hK : X.K = K := by rfl) :
    PI X (.Tuple elts kk tpos) (.Call (.Name "zip" p) [a, b] [] pos) (iZip K ta) := by
  subst hK
  intro pins s σ H R I h
  refine Call_ (ld_blt I hg hm bt_zip (PyProof.Rows.callWith_type1 (thn (ha pos pins s σ H _ I h) fun us s1 ⟨vs, H1, I1, r1, q1⟩ => ?_) (by rw [hs, hs2]) (by rw [hs2]; rfl)))
  obtain ⟨p1, p2, xs, ys, e, hq1, hq2, q⟩ := q1
  subst e
  obtain ⟨u1, u2, rfl, r1, r2⟩ := vals2 r1
  cases r1
  cases r2
  obtain ⟨its1, rv1, t1, _⟩ := I1.tuple hq1
  obtain ⟨its2, rv2, t2, _⟩ := I1.tuple hq2
  refine call_zipT t1 t2 fun h' z TI TO i1 i2 D Z new kp => wpAny_pyIter_zip Z.zi ?_
  have I2 : Inv X pins σ H1 { s1 with heap := h' } := I1.kept (t' := s1.toks) kp
  exact ⟨z, [z, TI, TO, i1, i2], _, Itz X.K p1 p2, H1, rfl, I2, turn_zip D, ⟨Z.zi, Z.ti, Z.to, Z.a1, Z.a2⟩, fun b hb => I1.fpOk (new b hb) (I1.hok.fresh (new b hb)), q⟩
end
end L2

set_option Elab.async false
set_option linter.all false
set_option maxRecDepth 100000
set_option maxHeartbeats 4000000
namespace L2
open PySem PySem.Spec PyProof.Rows
/-- a comprehension over the pairs of two tuples, its block's names being the two -/
theorem comp_zip {K : PySem.W.Frag} {p q : Addr} {xs ys : List V} {n : Nat} {tt : TT} {te : TE} {H1 : Hp} {Q : VK} {D : Addr} (P : Nat → List V → Hp → Prop) (hn : n = min xs.length ys.length) (h0 : P 0 [] (upd H1 D (.lst [])))
    (hp : ∀ i zs H, P i zs H → H D = some (.lst zs) → SqT K H p xs ∧ SqT K H q ys)
    (hs : ∀ i zs H T x y, xs[i]? = some x → ys[i]? = some y → i < n → P i zs H → H D = some (.lst zs) → H T = none → tt [some x, some y] (upd H T (.tup [x, y])) fun b H4 => if b = true then te [some x, some y] H4 (cYes (fun σ => σ.length = 2) P n D [some x, some y] i) else cNo (fun σ => σ.length = 2) P n D [some x, some y] i H4)
    (hd : ∀ zs H, P n zs H → H D = some (.lst zs) → Q (.ref D) H) :
    CompGo (Itz K p q) (gTup K 2 (gCons (gName 0) (gCons (gName 1) gNil))) tt te [none, none] H1 Q D := by
  refine ⟨cW (fun σ => σ.length = 2) P n D, ⟨n, by simp [cW]; exact ⟨_, h0, upd_same⟩⟩, ?_⟩
  rintro i m σ' H' ⟨rfl, hi, r, zs, pp, hD⟩
  obtain ⟨q1, q2⟩ := hp i zs H' pp hD
  by_cases hlt : i < n
  · have k1 : xs[i]? = some (xs.getD i .non) := by simp [List.getD, show i < xs.length by omega]
    have k2 : ys[i]? = some (ys.getD i .non) := by simp [List.getD, show i < ys.length by omega]
    refine .inr ⟨⟨xs, ys, _, _, q1, q2, k1, k2⟩, ?_⟩
    rintro v H2 ⟨T, x, y, hT, rfl, rfl, hall⟩
    obtain ⟨e1, e2⟩ := hall xs ys q1 q2
    match σ', r with
    | [s1, s2], _ => exact ⟨T, _, rfl, SqT.of upd_same, rfl, _, _, rfl, _, _, rfl, rfl, hs i zs H' T x y e1 e2 hlt pp hD hT⟩
  · have e : i = n := by omega
    subst e
    exact .inl ⟨⟨xs, ys, q1, q2, by omega⟩, hd zs H' pp hD⟩
section
variable {X : Cx}
theorem op_le_str : OpR X (compareOp .LtE) (fun x y H Q => ∃ i j, x = .str i ∧ y = .str j ∧ Q (.bl (!decide (j.cps.toList < i.cps.toList))) H) := by
  intro pins s σ H x y v u Q I rx ry h
  obtain ⟨i, j, rfl, rfl, q⟩ := h
  obtain ⟨t, rfl⟩ := rx
  obtain ⟨t', rfl⟩ := ry
  exact PySem.P.le_str (fin_bl I q rfl)
theorem vals_strs : ∀ (tk : Tok) (ys : List Str), Vals (ys.map V.str) (strsFrom tk ys)
  | _, [] => .nil
  | tk, y :: ys => .cons ⟨_, rfl⟩ (vals_strs (tk + 1) ys)
/-- z.split(y) -/
def rSplit : V → List V → Hp → VK → Prop := fun x vs H Q => ∃ z y, x = .str z ∧ vs = [.str y] ∧ (y.length == 0) = false ∧ z.length + 2 ≤ sizeLine ∧ ∀ l, H l = none → Q (.ref l) (upd H l (.lst ((PySem.Txt.split z y).map V.str)))
theorem mt_split : MtR X "str.split" rSplit := by
  intro pins s σ H x vs v us Q I rx rv h
  obtain ⟨z, y, rfl, rfl, hy, hz, q⟩ := h
  obtain ⟨t, rfl⟩ := rx
  obtain ⟨u, rfl, t', rfl⟩ := vals1 rv
  have fr := I.hok.fresh (Nat.le_refl s.heap.objs.size)
  have hl := PyProof.Rows.split_le z y
  have fin : ∀ (us : List Value) (tk : Nat), Vals ((PySem.Txt.split z y).map V.str) us → EP X pins σ Q (.ref s.heap.objs.size) { s with heap := s.heap.push { cls := .type "list", data := .seq us.toArray }, toks := tk } := fun us tk r =>
    ⟨.ref s.heap.objs.size, _, I.laid (t' := tk) (o := .lst ((PySem.Txt.split z y).map V.str)) (fun b o e => Heap.get?_push_of_some _ e) (Nat.le_refl _) ⟨by rw [List.length_map]; omega, us, 0, r, Heap.get?_push_size _ rfl⟩, rfl, q _ fr⟩
  cases h1 : (decide (z.length < y.length) || decide (Builtin.Str.strKind z < Builtin.Str.strKind y))
  · cases hf : (Builtin.Str.occurrences z y 0 z.length (z.length + 1)).isEmpty
    · have es : PySem.Txt.split z y = Builtin.Str.partsBetween z (Builtin.Str.occurrences z y 0 z.length (z.length + 1)) y.length := by
        unfold PySem.Txt.split
        rw [h1, hf]
        rfl
      refine call_meets F.slot_str_split (typeIs_str _ _ _) F.entry_str_split (F.args_str_split_2 _ _) (meets_str_split_sep z y t t' h1 hy hf (by omega) (by rw [← es]; omega)) ?_
      exact fin _ _ (by rw [es]; exact vals_strs _ _)
    · have es : PySem.Txt.split z y = [z] := by
        unfold PySem.Txt.split
        rw [h1, hf]
        rfl
      exact call_meets F.slot_str_split (typeIs_str _ _ _) F.entry_str_split (F.args_str_split_2 _ _) (meets_str_split_not_found z y t t' h1 hy hf) (fin [.str z t] s.toks (by rw [es]; exact .cons ⟨t, rfl⟩ .nil))
  · have es : PySem.Txt.split z y = [z] := by
      unfold PySem.Txt.split
      rw [h1]
      rfl
    exact call_meets F.slot_str_split (typeIs_str _ _ _) F.entry_str_split (F.args_str_split_2 _ _) (meets_str_split_cannot_occur z y t t' h1) (fin [.str z t] s.toks (by rw [es]; exact .cons ⟨t, rfl⟩ .nil))
/-- z.find(y) -/
def rFind : V → List V → Hp → VK → Prop := fun x vs H Q => ∃ z y, x = .str z ∧ vs = [.str y] ∧ Q (.int (PySem.Txt.find z y)) H
theorem mt_find : MtR X "str.find" rFind := by
  intro pins s σ H x vs v us Q I rx rv h
  obtain ⟨z, y, rfl, rfl, q⟩ := h
  obtain ⟨t, rfl⟩ := rx
  obtain ⟨u, rfl, t', rfl⟩ := vals1 rv
  exact SC.find ⟨.int _, H, I.tok _, ⟨_, rfl⟩, q⟩
end
/-! == and != of things that are alike, tuples within tuples -/
def Alike (H : Hp) : Nat → V → V → Prop
  | 0, v, u => v = u ∧ flatV v = true
  | n + 1, v, u => (v = u ∧ flatV v = true) ∨ ∃ a b xs ys, v = .ref a ∧ u = .ref b ∧ H a = some (.tup xs) ∧ H b = some (.tup ys) ∧ Paired (Alike H n) xs ys
theorem eqV_self {v : V} (h : flatV v = true) : eqV v v = true := by
  cases v with
  | non => rfl
  | bl b => simp [eqV]
  | int i => simp [eqV]
  | str x => simp [eqV]
  | _ => cases h
theorem Paired.at {α β : Type} {F : α → β → Prop} : ∀ {l₁ : List α} {l₂ : List β}, Paired F l₁ l₂ → ∀ (i : Nat) (x : α) (y : β), l₁[i]? = some x → l₂[i]? = some y → F x y
  | _, _, .nil, i, x, y, h, _ => by simp at h
  | _, _, .cons r t, 0, x, y, h, k => by simp at h k; subst h k; exact r
  | _, _, .cons r t, i + 1, x, y, h, k => Paired.at t i x y (by simpa using h) (by simpa using k)
section
variable {X : Cx} {pins : List (Addr × Obj)} {σ : St} {H : Hp} {s : Shared}
theorem alike_parts {A : Around} {n : Nat} {xs ys : List V} {us vs : List Value} (ih : ∀ {v u : V} {v' u' : Value}, RelV v v' → RelV u u' → Alike H n v u → SeqAt.EqAt A s v' u' true) (r1 : Vals xs us) (r2 : Vals ys vs) (pr : Paired (Alike H n) xs ys) (j : Nat) (h1 : j < us.toArray.size) (h2 : j < vs.toArray.size) :
    SeqAt.EqAt A s us.toArray[j] vs.toArray[j] true := by
  have l1 := r1.length
  have l2 := r2.length
  have g1 : j < us.length := by simpa using h1
  have g2 : j < vs.length := by simpa using h2
  have k1 : xs[j]? = some (xs.getD j .non) := by simp [List.getD, show j < xs.length by omega]
  have k2 : ys[j]? = some (ys.getD j .non) := by simp [List.getD, show j < ys.length by omega]
  obtain ⟨u, e1, q1⟩ := r1.get k1
  obtain ⟨v, e2, q2⟩ := r2.get k2
  have w1 : us.toArray[j] = u := by
    rw [List.getElem?_eq_getElem g1] at e1
    simpa using Option.some.inj e1
  have w2 : vs.toArray[j] = v := by
    rw [List.getElem?_eq_getElem g2] at e2
    simpa using Option.some.inj e2
  rw [w1, w2]
  exact ih q1 q2 (Paired.at pr j _ _ k1 k2)
theorem alike_eq (I : Inv X pins σ H s) : ∀ (n : Nat) {A : Around} {v u : V} {v' u' : Value}, A.units + n < cLine → RelV v v' → RelV u u' → Alike H n v u → SeqAt.EqAt A s v' u' true
  | 0, A, v, u, v', u', _, r1, r2, h => by
    obtain ⟨rfl, f⟩ := h
    have := eqAt_V (A := A) (s := s) r1 r2 f f
    rw [eqV_self f] at this
    exact this
  | n + 1, A, v, u, v', u', hu, r1, r2, h => by
    rcases h with ⟨rfl, f⟩ | ⟨a, b, xs, ys, rfl, rfl, ha, hb, pr⟩
    · have := eqAt_V (A := A) (s := s) r1 r2 f f
      rw [eqV_self f] at this
      exact this
    · cases r1
      cases r2
      by_cases ab : a = b
      · subst ab
        exact SeqAt.EqAt.same _
      · obtain ⟨_, us, q1, p1⟩ := I.hok a _ ha
        obtain ⟨_, vs, q2, p2⟩ := I.hok b _ hb
        have ln := Paired.length pr
        have l1 := q1.length
        have l2 := q2.length
        have z := SeqAt.RcAt.tuples (A := A) (s := s) (e := fun _ => true) p1.isTup p2.isTup (by omega) (alike_parts (A := A.in1) (fun {v u v' u'} a1 a2 a3 => alike_eq I n (A := A.in1) (by show A.units + 1 + n < cLine; omega) a1 a2 a3) q1 q2 pr)
        have e : ((List.range (min us.toArray.size vs.toArray.size)).all (fun _ => true) && us.toArray.size == vs.toArray.size) = true := by
          simp; omega
        rw [e] at z
        exact SeqAt.EqAt.of_refs ab z
end
end L2

set_option Elab.async false
set_option linter.all false
set_option maxRecDepth 100000
set_option maxHeartbeats 4000000
namespace L2
open PySem PySem.Spec PyProof.Rows
end L2

set_option Elab.async false
set_option linter.all false
set_option maxRecDepth 100000
set_option maxHeartbeats 4000000
namespace L4
open PySem L2
/-! pools: a list of three ints, of which nothing more is known -/
def Pool (H : Hp) (p : Addr) : Prop := ∃ r a b : Int, H p = some (.lst [.int r, .int a, .int b])
/-- all that was tracked is as it was, but for p -/
def Off (p : Addr) (H H' : Hp) : Prop := ∀ b o, b ≠ p → H b = some o → H' b = some o
/-- tuples stay -/
def Tk (H H' : Hp) : Prop := ∀ b xs, H b = some (.tup xs) → H' b = some (.tup xs)
theorem Off.trans {p : Addr} {H H1 H2 : Hp} (a : Off p H H1) (b : Off p H1 H2) : Off p H H2 := fun c o n h => b c o n (a c o n h)
theorem Off.put {p : Addr} {H : Hp} {o : HO} : Off p H (upd H p o) := fun c u n h => by rw [upd_ne n]; exact h
theorem Off.new {p t : Addr} {H : Hp} {o : HO} (h : H t = none) : Off p H (upd H t o) := fun c u n q => by rw [upd_ne (ne_of_none q h)]; exact q
theorem Tk.put {t : Addr} {H : Hp} {xs : List V} {o : HO} (h : H t = some (.lst xs)) : Tk H (upd H t o) := fun c u q => by rw [upd_ne (ne_of q h (by intro z; cases z))]; exact q
theorem Pool.put {H : Hp} {p : Addr} {r a b : Int} : Pool (upd H p (.lst [.int r, .int a, .int b])) p := ⟨r, a, b, upd_same⟩
theorem Pool.new {H : Hp} {p t : Addr} {o : HO} (h : Pool H p) (n : H t = none) : Pool (upd H t o) p := by
  obtain ⟨r, a, b, e⟩ := h
  exact ⟨r, a, b, by rw [upd_ne (ne_of_none e n)]; exact e⟩
theorem Pool.off {H : Hp} {p t : Addr} {o : HO} (h : Pool H p) (n : p ≠ t) : Pool (upd H t o) p := by
  obtain ⟨r, a, b, e⟩ := h
  exact ⟨r, a, b, by rw [upd_ne n]; exact e⟩
def spPool : Sp := fun vs H Q _ => ∃ c : Int, vs = [.int c] ∧ ∀ p r a b, H p = none → Q (.ref p) (upd H p (.lst [.int r, .int a, .int b]))
def spDraw : Sp := fun vs H Q _ => ∃ (p : Addr) (m : Int), vs = [.ref p, .int m] ∧ Pool H p ∧ 0 < m ∧ m < 1073741824 ∧ ∀ v H', 0 ≤ v → v < m → Off p H H' → Pool H' p → Q (.int v) H'
theorem same_new {H : Hp} {p : Addr} (h : H p = none) (o : HO) : Same H (upd H p o) := fun b u q => by rw [upd_ne (ne_of_none q h)]; exact q
theorem Off.fresh {p f : Addr} {H H' : Hp} {o : HO} (h : Off p H H') (n : H f = none) : Off p H (upd H' f o) := fun b u hb q => by rw [upd_ne (ne_of_none q n)]; exact h b u hb q
theorem Off.of {p : Addr} {H H' : Hp} (s : Same H H') : Off p H H' := fun b o _ q => s b o q
theorem Tk.of {H H' : Hp} (s : Same H H') : Tk H H' := fun b xs q => s b _ q
theorem take_snoc {α : Type} {xs : List α} {i : Nat} {x : α} (h : xs[i]? = some x) : xs.take (i + 1) = xs.take i ++ [x] := by rw [List.take_add_one, h]; rfl
theorem small9 {n : Nat} (h : n ≤ 1000) : n ≤ sizeLine := Nat.le_of_lt (small1000 h)
end L4

set_option Elab.async false
set_option linter.all false
set_option maxRecDepth 100000
set_option maxHeartbeats 4000000
namespace Fr
end Fr
namespace Fr
end Fr
namespace L4
open PySem L2
/-! fractions at the heap: pairs in lowest terms, of at most n bits -/
end L4

set_option Elab.async false
set_option linter.all false
namespace L2
open PySem PySem.Spec PyProof.Rows
variable {X : Cx}
theorem pe_globR {x : Str} {v : V} {pos : Pos} (hg : Gl X x) (hm : ∃ u, X.mg x = some u ∧ RelV v u) (hd : (x == ("__debug__" : Str)) = false := by decide) : PE X (.Name x pos) (tC v) := by
  obtain ⟨u, h, r⟩ := hm
  exact pe_glob hg h r hd
end L2

set_option Elab.async false
set_option linter.all false
set_option maxRecDepth 100000
set_option maxHeartbeats 4000000
namespace HT
open PySem PyProof.Rows
open PySem.SeqAt
open PySem.AutoSeq1 (wpAny_loadPart')
open PySem.MeetsSeq PySem.MeetsSeq2 PySem.MeetsSeq3
variable {prog : Program} {w : World} {A : Around} {E : Value → Shared → Prop} {s : Shared}
theorem getItem_tuple_whole {t sl : Addr} {items : Array Value} {vl vu : Value} {lo hi : Option Int} {Q : Value → Shared → Prop} (ht : IsTup s.heap t items) (hs : s.heap.IsSliceOf sl vl vu .none) (pl : IsPart vl lo) (pu : IsPart vu hi)
    (hw : sIx items.size 0 lo = 0 ∧ sIx items.size items.size hi = items.size)
    (h : Q (.ref t) s) : wpAny (model prog w) A (getItem (.ref t) (.ref sl)) Q E s := by
  obtain ⟨os, hos, hcs, hds⟩ := id hs
  have hTs : s.TypeIs (.ref sl) "slice" := ⟨os, hos, hcs⟩
  unfold getItem
  try with_reducible refine wpAny_holding ?_
  first | refine wpAny_bind (wpAny_pure ?_) | skip
  refine wpAny_bind (wpAny_sequenceKey ht.typeIs (by decide) ?_)
  refine wpAny_bind (wpAny_callSpecial?_slot (name := Str.ofString "__getitem__") ht.typeIs PyProof.Rows.slot_tuple_getitem
    (wpAny_call_entry PyProof.Rows.slot_tuple_getitem ht.typeIs entry_tuple_getitem ?_ (args_tuple_getitem _ _)))
  show wpAny _ _ (Builtin.Tuple.tupleItemsOf (.ref t) >>= _) _ _ s
  refine wpAny_bind (tupleItemsOf_ ht ?_)
  refine wpAny_bind (wpAny_typeOf hTs ?_)
  rw [if_pos (by decide)]
  refine wpAny_bind (sliceApplied_gen hs pl pu ?_)
  have hyes : (((sIx items.size 0 lo : Nat) : Int) == 0 && (1 : Int) == 1 && (sIx items.size items.size hi - sIx items.size 0 lo) == items.size) = true := by
    rw [hw.1, hw.2]
    simp
  show wpAny _ _ (if (((sIx items.size 0 lo : Nat) : Int) == 0 && (1 : Int) == 1 && (sIx items.size items.size hi - sIx items.size 0 lo) == items.size) = true then _ else _) _ _ s
  rw [if_pos hyes]
  refine wpAny_bind (m := Builtin.Tuple.tupleIsExact _) (wpAny_bind (wpAny_typeOf ht.typeIs (wpAny_pure ?_)))
  rw [if_pos (by decide)]
  first
    | exact wpAny_bind (wpAny_rule (wpAny_pure ⟨_, rfl, wpAny_pure h⟩))
    | exact wpAny_rule (wpAny_pure ⟨_, rfl, wpAny_pure h⟩)
    | exact wpAny_bind (wpAny_rule ⟨_, rfl, wpAny_pure h⟩)
    | exact wpAny_pure ⟨_, rfl, wpAny_pure h⟩
end HT
namespace L2
open PySem PySem.Spec PyProof.Rows
variable {X : Cx}
def rSlTW (K : PySem.W.Frag) : V → Option Int → Option Int → Hp → VK → Prop := fun x lo hi H Q => ∃ a xs, x = .ref a ∧ SqT K H a xs ∧
  (HT.sIx xs.length 0 lo = 0 ∧ HT.sIx xs.length xs.length hi = xs.length) ∧ Q (.ref a) H
theorem sl_tupW : SlR X (rSlTW X.K) := by
  intro pins s σ H x v vl vu lo hi sl Q I rx hs pl pu h
  obtain ⟨a, xs, rfl, hx, hw, q⟩ := h
  cases rx
  obtain ⟨its, r, ht, hz⟩ := I.tuple hx
  have hlen : its.toArray.size = xs.length := by rw [List.size_toArray]; exact r.length.symm
  refine ⟨"tuple", _, PyProof.Rows.slot_tuple_getitem.lookup, ht.typeIs, ?_⟩
  exact HT.getItem_tuple_whole ht hs pl pu (by rw [hlen]; exact hw) ⟨.ref a, H, I, rfl, q⟩
theorem ksl_tupA (K : PySem.W.Frag) (hK : X.K = K := by rfl) : SlR X (fun x lo hi H Q => rSlT K x lo hi H Q ∨ rSlTW K x lo hi H Q) := hK ▸ sl_tup.or sl_tupW
end L2

set_option Elab.async false
set_option linter.all false
set_option maxRecDepth 100000
set_option maxHeartbeats 4000000
namespace L2
open PySem PySem.Spec PyProof.Rows
section
variable {X : Cx}
end
end L2

set_option Elab.async false
set_option linter.all false
set_option maxRecDepth 100000
set_option maxHeartbeats 4000000
namespace L4
open PySem L2
/-! names and pigeons -/
/-! half tables as data -/
structure Conn where
  nm : Str
  pl : Int
  cs : List (Option Int)
def cellV : Option Int → V
  | none => .non
  | some i => .int i
def Conns (H : Hp) : List Conn → List V → Prop
  | [], vs => vs = []
  | c :: r, vs => ∃ t u rest, vs = .ref t :: rest ∧ H t = some (.tup [.str c.nm, .int c.pl, .ref u]) ∧ H u = some (.tup (c.cs.map cellV)) ∧ Conns H r rest
theorem Conns.tk {H H' : Hp} (k : Tk H H') : ∀ {cs : List Conn} {vs : List V}, Conns H cs vs → Conns H' cs vs
  | [], _, h => h
  | _ :: _, _, ⟨t, u, rest, e, h1, h2, h3⟩ => ⟨t, u, rest, e, k _ _ h1, k _ _ h2, h3.tk k⟩
theorem Conns.len {H : Hp} : ∀ {cs : List Conn} {vs : List V}, Conns H cs vs → vs.length = cs.length
  | [], _, h => by cases h; rfl
  | _ :: _, _, ⟨t, u, rest, e, h1, h2, h3⟩ => by rw [e, List.length_cons, List.length_cons, h3.len]
theorem Conns.get {H : Hp} : ∀ {cs : List Conn} {vs : List V} {i : Nat} {c : Conn}, Conns H cs vs → cs[i]? = some c → ∃ t u, vs[i]? = some (.ref t) ∧ H t = some (.tup [.str c.nm, .int c.pl, .ref u]) ∧ H u = some (.tup (c.cs.map cellV))
  | [], _, _, _, _, e => by simp at e
  | _ :: _, _, 0, _, ⟨t, u, rest, e, h1, h2, h3⟩, q => by
    simp at q
    subst q
    exact ⟨t, u, by rw [e]; rfl, h1, h2⟩
  | _ :: _, _, i + 1, _, ⟨t, u, rest, e, h1, h2, h3⟩, q => by
    obtain ⟨t', u', a, b⟩ := h3.get (i := i) (by simpa using q)
    exact ⟨t', u', by rw [e]; simpa using a, b⟩
structure Half where
  m : Int
  ws : List Int
  cs : List Conn
def IsHalf (H : Hp) (v : V) (T : Half) : Prop := ∃ a w c vs, v = .ref a ∧ H a = some (.tup [.int T.m, .ref w, .ref c]) ∧ H w = some (.tup (T.ws.map .int)) ∧ H c = some (.tup vs) ∧ Conns H T.cs vs
theorem IsHalf.tk {H H' : Hp} {v : V} {T : Half} (k : Tk H H') (h : IsHalf H v T) : IsHalf H' v T := by
  obtain ⟨a, w, c, vs, e, h1, h2, h3, h4⟩ := h
  exact ⟨a, w, c, vs, e, k _ _ h1, k _ _ h2, k _ _ h3, h4.tk k⟩
def isN : Option Int → Bool
  | none => true
  | some _ => false
def nonesC (c : Conn) : Nat := c.cs.countP isN
def nones (T : Half) : Nat := (T.cs.map nonesC).sum
theorem flat_cells (cs : List (Option Int)) : (cs.map cellV).all flatV = true := by
  rw [List.all_eq_true]
  intro x hx
  obtain ⟨c, _, rfl⟩ := List.mem_map.mp hx
  cases c <;> rfl
theorem count_cells (cs : List (Option Int)) : ((cs.map cellV).countP fun z => eqV z .non) = cs.countP isN := by
  induction cs with
  | nil => rfl
  | cons c cs ih =>
    rw [List.map_cons, List.countP_cons, List.countP_cons, ih]
    cases c <;> rfl
/-- of moderate size -/
def Fits (T : Half) : Prop := 1 ≤ T.m ∧ T.m ≤ 9 ∧ T.ws.length ≤ 9 ∧ T.cs.length ≤ 8 ∧ ∀ c ∈ T.cs, c.cs.length ≤ 81
end L4

set_option Elab.async false
set_option linter.all false
set_option maxRecDepth 100000
set_option maxHeartbeats 4000000
namespace L4
open PySem L2 PySem.StrLaws
/-! texts put together and taken apart again -/
theorem join_codes (y p q : Str) (r : List Str) : (Str.join y (p :: q :: r)).cps.toList = p.cps.toList ++ (y.cps.toList ++ (Str.join y (q :: r)).cps.toList) := by
  show ((p ++ y) ++ Str.join y (q :: r)).cps.toList = _
  simp [Str.cps_append]
/-! figures -/
def fig (d : Int) : Str := Str.ofString (toString d)
def figures : Str := Str.ofString "0123456789"
theorem fig_is {d : Int} (h0 : 0 ≤ d) (h9 : d ≤ 9) : (fig d).length = 1 ∧ 32 ∉ (fig d).cps.toList ∧ 59 ∉ (fig d).cps.toList ∧ Txt.find figures (fig d) = d := by
  have e : d = 0 ∨ d = 1 ∨ d = 2 ∨ d = 3 ∨ d = 4 ∨ d = 5 ∨ d = 6 ∨ d = 7 ∨ d = 8 ∨ d = 9 := by omega
  rcases e with rfl | rfl | rfl | rfl | rfl | rfl | rfl | rfl | rfl | rfl <;> decide +kernel
end L4

set_option Elab.async false
set_option linter.all false
set_option maxRecDepth 100000
set_option maxHeartbeats 4000000
namespace L4
open PySem L2 PySem.StrLaws
/-! good names, good half tables -/
def Small (x : Str) : Prop := ∀ c ∈ x.cps.toList, 97 ≤ c ∧ c ≤ 122
def IsName (x : Str) : Prop := 2 ≤ x.length ∧ x.length ≤ 8 ∧ Small x
def CellOk (m : Int) (o : Option Int) : Prop := ∀ i, o = some i → 0 ≤ i ∧ i < m
structure GoodC (m : Int) (c : Conn) : Prop where
  nm : IsName c.nm
  p0 : 0 ≤ c.pl
  p2 : c.pl ≤ 2
  len : (c.cs.length : Int) = m ^ c.pl.toNat
  cells : ∀ o ∈ c.cs, CellOk m o
structure Good (T : Half) : Prop where
  m1 : 1 ≤ T.m
  m9 : T.m ≤ 9
  ws : ∀ w ∈ T.ws, 0 ≤ w ∧ w < T.m
  rising : T.ws.Pairwise (· < ·)
  wl : T.ws.length ≤ 9
  few : T.cs.length ≤ 8
  nd : (T.cs.map (·.nm)).Nodup
  each : ∀ c ∈ T.cs, GoodC T.m c
def Full (T : Half) : Prop := ∀ c ∈ T.cs, ∀ o ∈ c.cs, o ≠ none
theorem len_codes (x : Str) : x.cps.toList.length = x.length := by simp [Str.length]
theorem name_words : IsName (Str.ofString "grades") ∧ IsName (Str.ofString "wished") := by
  refine ⟨⟨by decide +kernel, by decide +kernel, ?_⟩, ⟨by decide +kernel, by decide +kernel, ?_⟩⟩
  · unfold Small
    decide +kernel
  · unfold Small
    decide +kernel
theorem IsHalf.same {H H' : Hp} {v : V} {T : Half} (k : Same H H') (h : IsHalf H v T) : IsHalf H' v T := h.tk (Tk.of k)
/-- the texts of a table -/
def gsOf (c : Conn) : List Int := c.cs.map fun o => o.getD 0
theorem full_cells : ∀ {cs : List (Option Int)}, (∀ o ∈ cs, o ≠ none) → cs.map cellV = (cs.map fun o => o.getD 0).map V.int
  | [], _ => rfl
  | none :: cs, h => absurd rfl (h none List.mem_cons_self)
  | some i :: cs, h => by
    rw [List.map_cons, List.map_cons, List.map_cons, full_cells fun o ho => h o (List.mem_cons_of_mem _ ho)]
    rfl
def sp1 : Str := Str.ofString " "
def sp2 : Str := Str.ofString "; "
def wordsOf (w : Str) (ns : List Int) : List Str := w :: ns.map fig
def partOf (w : Str) (ns : List Int) : Str := Txt.join sp1 (wordsOf w ns)
def wordsC (c : Conn) : List Str := wordsOf c.nm (c.pl :: gsOf c)
def wordsT (T : Half) : List (List Str) := wordsOf (Str.ofString "grades") [T.m] :: wordsOf (Str.ofString "wished") T.ws :: T.cs.map wordsC
def partsT (T : Half) : List Str := (wordsT T).map (Txt.join sp1)
def textT (T : Half) : Str := Txt.join sp2 (partsT T)
def Fig (i : Int) : Prop := 0 ≤ i ∧ i ≤ 9
theorem Good.figs {T : Half} (g : Good T) : ∀ ws ∈ wordsT T, ∃ w ns, ws = wordsOf w ns ∧ IsName w ∧ (∀ i ∈ ns, Fig i) ∧ ns.length ≤ 82 := by
  intro ws h
  have hm := g.m9
  have hm1 := g.m1
  rcases List.mem_cons.mp h with rfl | h
  · exact ⟨_, _, rfl, name_words.1, fun i hi => by rw [List.mem_singleton.mp hi]; exact ⟨by omega, hm⟩, by show 1 ≤ 82; decide⟩
  rcases List.mem_cons.mp h with rfl | h
  · exact ⟨_, _, rfl, name_words.2, fun i hi => by have := g.ws i hi; exact ⟨this.1, by omega⟩, by have := g.wl; omega⟩
  · obtain ⟨c, hc, rfl⟩ := List.mem_map.mp h
    have gc := g.each c hc
    refine ⟨_, _, rfl, gc.nm, fun i hi => ?_, ?_⟩
    · rcases List.mem_cons.mp hi with rfl | hi
      · exact ⟨gc.p0, by have := gc.p2; omega⟩
      · obtain ⟨o, ho, rfl⟩ := List.mem_map.mp hi
        have k := gc.cells o ho
        cases o with
        | none => exact ⟨by decide, by decide⟩
        | some j => have := k j rfl; exact ⟨this.1, by show j ≤ 9; omega⟩
    · have hl := gc.len
      have e : c.pl.toNat = 0 ∨ c.pl.toNat = 1 ∨ c.pl.toNat = 2 := by have := gc.p2; omega
      have hb : T.m ^ c.pl.toNat ≤ 81 := by
        have hmm : T.m * T.m ≤ 81 := Int.le_trans (Int.mul_le_mul_of_nonneg_right hm (by omega)) (by omega)
        rcases e with e | e | e <;> rw [e]
        · rw [Int.pow_zero]; decide
        · rw [Int.pow_succ, Int.pow_zero, Int.one_mul]; omega
        · rw [Int.pow_succ, Int.pow_succ, Int.pow_zero, Int.one_mul]; exact hmm
      show (c.pl :: gsOf c).length ≤ 82
      rw [List.length_cons]
      unfold gsOf
      rw [List.length_map]
      omega
theorem sum_ones : ∀ ns : List Int, (∀ i ∈ ns, Fig i) → ((ns.map fig).map (·.length)).sum = ns.length
  | [], _ => rfl
  | i :: ns, h => by
    have := (fig_is (h i List.mem_cons_self).1 (h i List.mem_cons_self).2).1
    rw [List.map_cons, List.map_cons, List.sum_cons, sum_ones ns fun j hj => h j (List.mem_cons_of_mem _ hj), List.length_cons]
    omega
theorem part_len {w : Str} {ns : List Int} (hw : IsName w) (h : ∀ i ∈ ns, Fig i) (hl : ns.length ≤ 82) : ((wordsOf w ns).map (·.length)).sum + (wordsOf w ns).length * sp1.length ≤ 200 ∧ (partOf w ns).length ≤ 200 := by
  have e : sp1.length = 1 := by decide +kernel
  have b : ((wordsOf w ns).map (·.length)).sum + (wordsOf w ns).length * sp1.length ≤ 200 := by
    unfold wordsOf
    rw [List.map_cons, List.sum_cons, sum_ones ns h, List.length_cons, List.length_map, e]
    have := hw.2.1
    omega
  refine ⟨b, ?_⟩
  have j := StrLaws.join_length_le sp1 (wordsOf w ns)
  have ej : Txt.join sp1 (wordsOf w ns) = Str.join sp1 (wordsOf w ns) := glued_eq_join _ _
  unfold partOf
  rw [ej]
  omega
theorem sum_le : ∀ (ps : List Str), (∀ p ∈ ps, p.length ≤ 200) → (ps.map (·.length)).sum ≤ ps.length * 200
  | [], _ => Nat.zero_le _
  | p :: ps, h => by
    have h1 := h p List.mem_cons_self
    have h2 := sum_le ps fun q hq => h q (List.mem_cons_of_mem _ hq)
    rw [List.map_cons, List.sum_cons, List.length_cons]
    omega
theorem parts_len {T : Half} (g : Good T) : (∀ p ∈ partsT T, p.length ≤ 200) ∧ (partsT T).length ≤ 10 := by
  refine ⟨fun p hp => ?_, ?_⟩
  · obtain ⟨ws, hws, rfl⟩ := List.mem_map.mp hp
    obtain ⟨w, ns, rfl, h1, h2, h3⟩ := g.figs ws hws
    exact (part_len h1 h2 h3).2
  · have := g.few
    unfold partsT wordsT
    rw [List.length_map, List.length_cons, List.length_cons, List.length_map]
    omega
theorem text_len {T : Half} (g : Good T) : ((partsT T).map (·.length)).sum + (partsT T).length * sp2.length ≤ 2100 ∧ (textT T).length ≤ 2100 := by
  have e : sp2.length = 2 := by decide +kernel
  obtain ⟨h1, h2⟩ := parts_len g
  have hs := sum_le _ h1
  have b : ((partsT T).map (·.length)).sum + (partsT T).length * sp2.length ≤ 2100 := by
    rw [e]
    omega
  refine ⟨b, ?_⟩
  have j := StrLaws.join_length_le sp2 (partsT T)
  have ej : Txt.join sp2 (partsT T) = Str.join sp2 (partsT T) := glued_eq_join _ _
  unfold textT
  rw [ej]
  omega
end L4

set_option Elab.async false
set_option linter.all false
set_option maxRecDepth 100000
set_option maxHeartbeats 4000000
namespace L4
open PySem L2
/-! comprehensions that only tell: every part by itself -/
theorem map_tup {α : Type} {K : PySem.W.Frag} {a D : Addr} {t : Nat} {te : TE} {σ0 : St} {H1 : Hp} {Q : VK} (as : List α) (g h : α → V) (ha : H1 a = some (.tup (as.map g))) (hl : as.length ≤ 1000) (hD : H1 D = none)
    (he : ∀ z ∈ as, ∀ H' Q', Same H1 H' → (∀ H'', Same H' H'' → Q' (h z) H'') → te (σ0.set t (some (g z))) H' Q')
    (q : ∀ H', Same H1 H' → H' D = some (.lst (as.map h)) → Q (.ref D) H') : CompGo (Itt K a) (gName t) tYes te σ0 H1 Q D := by
  refine comp_tup (xs := as.map g) (fun i ys H' => Same H1 H' ∧ ys = (as.take i).map h) ⟨same_new hD _, rfl⟩ (fun i ys H' hh _ => SqT.of (hh.1 _ _ ha)) ?_ ?_
  · rintro i ys H' x hx ⟨s1, rfl⟩ hD'
    have hi : i < (as.map g).length := (List.getElem?_eq_some_iff.mp hx).1
    rw [List.getElem?_map] at hx
    obtain ⟨z, hz, rfl⟩ := Option.map_eq_some_iff.mp hx
    refine yes (he z (List.mem_of_getElem? hz) H' _ s1 fun H'' s2 => ?_)
    rw [List.length_map] at hi
    refine cyes (by rw [List.length_map]; exact hi) rset1 (s2 _ _ hD') (by rw [List.length_map, List.length_take]; exact small1000 (by omega)) ⟨fun b o qb => ?_, ?_⟩
    · rw [upd_ne (ne_of_none qb hD)]
      exact s2 b o (s1 b o qb)
    · rw [take_snoc hz, List.map_append]
      rfl
  · rintro ys H' ⟨s1, rfl⟩ hD'
    rw [List.length_map, List.take_length] at hD'
    exact q H' s1 hD'
theorem map_list {α : Type} {K : PySem.W.Frag} {a D : Addr} {t : Nat} {te : TE} {σ0 : St} {H1 : Hp} {Q : VK} (as : List α) (g h : α → V) (ha : H1 a = some (.lst (as.map g))) (hl : as.length ≤ 1000) (hD : H1 D = none)
    (he : ∀ z ∈ as, ∀ H' Q', Same H1 H' → (∀ H'', Same H' H'' → Q' (h z) H'') → te (σ0.set t (some (g z))) H' Q')
    (q : ∀ H', Same H1 H' → H' D = some (.lst (as.map h)) → Q (.ref D) H') : CompGo (Itl K a) (gName t) tYes te σ0 H1 Q D := by
  refine comp_list (xs := as.map g) (fun i ys H' => Same H1 H' ∧ ys = (as.take i).map h) ⟨same_new hD _, rfl⟩ (fun i ys H' hh _ => SqL.of (hh.1 _ _ ha)) ?_ ?_
  · rintro i ys H' x hx ⟨s1, rfl⟩ hD'
    have hi : i < (as.map g).length := (List.getElem?_eq_some_iff.mp hx).1
    rw [List.getElem?_map] at hx
    obtain ⟨z, hz, rfl⟩ := Option.map_eq_some_iff.mp hx
    refine yes (he z (List.mem_of_getElem? hz) H' _ s1 fun H'' s2 => ?_)
    rw [List.length_map] at hi
    refine cyes (by rw [List.length_map]; exact hi) rset1 (s2 _ _ hD') (by rw [List.length_map, List.length_take]; exact small1000 (by omega)) ⟨fun b o qb => ?_, ?_⟩
    · rw [upd_ne (ne_of_none qb hD)]
      exact s2 b o (s1 b o qb)
    · rw [take_snoc hz, List.map_append]
      rfl
  · rintro ys H' ⟨s1, rfl⟩ hD'
    rw [List.length_map, List.take_length] at hD'
    exact q H' s1 hD'
theorem map_str {z : Str} {D : Addr} {t : Nat} {te : TE} {σ0 : St} {H1 : Hp} {Q : VK} (h : Nat → V) (hl : z.length ≤ 1000) (hD : H1 D = none)
    (he : ∀ c ∈ z.cps.toList, ∀ H' Q', Same H1 H' → (∀ H'', Same H' H'' → Q' (h c) H'') → te (σ0.set t (some (.str ⟨#[c]⟩))) H' Q')
    (q : ∀ H', Same H1 H' → H' D = some (.lst (z.cps.toList.map h)) → Q (.ref D) H') : CompGo (Its z) (gName t) tYes te σ0 H1 Q D := by
  refine comp_str (fun i ys H' => Same H1 H' ∧ ys = (z.cps.toList.take i).map h) ⟨same_new hD _, rfl⟩ ?_ ?_
  · rintro i ys H' c hc ⟨s1, rfl⟩ hD'
    have hi : i < z.cps.size := (Array.getElem?_eq_some_iff.mp hc).1
    have hc' : z.cps.toList[i]? = some c := by simpa using hc
    have hs : z.cps.size = z.length := rfl
    refine yes (he c (List.mem_of_getElem? hc') H' _ s1 fun H'' s2 => ?_)
    refine cyes hi rset1 (s2 _ _ hD') (by rw [List.length_map, List.length_take]; exact small1000 (by omega)) ⟨fun b o qb => ?_, ?_⟩
    · rw [upd_ne (ne_of_none qb hD)]
      exact s2 b o (s1 b o qb)
    · rw [take_snoc hc', List.map_append]
      rfl
  · rintro ys H' ⟨s1, rfl⟩ hD'
    rw [List.take_of_length_le (by simp)] at hD'
    exact q H' s1 hD'
theorem trues {α : Type} (as : List α) : as.map (fun _ => V.bl true) = (as.map fun _ => true).map V.bl := by rw [List.map_map]; rfl
theorem all_trues {α : Type} (as : List α) : (as.map fun _ => true).all id = true := by
  rw [List.all_eq_true]
  intro x hx
  obtain ⟨_, _, rfl⟩ := List.mem_map.mp hx
  rfl
theorem Same.rfl' {H : Hp} : Same H H := fun _ _ h => h
end L4

set_option Elab.async false
set_option linter.all false
set_option maxRecDepth 100000
set_option maxHeartbeats 4000000
namespace L4
open PySem L2 PySem.StrLaws
/-! things of any kind -/
inductive Th where
  | non
  | bl (b : Bool)
  | int (i : Int)
  | str (x : Str)
  | lst
  | dct
  | tup (ts : List Th)
inductive IsTh (H : Hp) : Th → V → Prop where
  | non : IsTh H .non .non
  | bl (b : Bool) : IsTh H (.bl b) (.bl b)
  | int (i : Int) : IsTh H (.int i) (.int i)
  | str (x : Str) (h : x.length ≤ 3000) : IsTh H (.str x) (.str x)
  | lst {a : Addr} {xs : List V} (e : H a = some (.lst xs)) : IsTh H .lst (.ref a)
  | dct {a : Addr} {kvs : List (Key × V)} (e : H a = some (.dK kvs)) : IsTh H .dct (.ref a)
  | tup {a : Addr} {ts : List Th} {xs : List V} (e : H a = some (.tup xs)) (hl : ts.length = xs.length) (h8 : ts.length ≤ 1000) (hi : ∀ (i : Nat) (t : Th) (x : V), ts[i]? = some t → xs[i]? = some x → IsTh H t x) : IsTh H (.tup ts) (.ref a)
theorem IsTh.same {H H' : Hp} (s : Same H H') {t : Th} {v : V} (h : IsTh H t v) : IsTh H' t v := by
  induction h with
  | non => exact .non
  | bl b => exact .bl b
  | int i => exact .int i
  | str x h => exact .str x h
  | lst e => exact .lst (s _ _ e)
  | dct e => exact .dct (s _ _ e)
  | tup e hl h8 hi ih => exact .tup (s _ _ e) hl h8 ih
def tyTh : Th → Value
  | .non => .type "NoneType"
  | .bl _ => .type "bool"
  | .int _ => .type "int"
  | .str _ => .type "str"
  | .lst => .type "list"
  | .dct => .type "dict"
  | .tup _ => .type "tuple"
theorem IsTh.ty {K : PySem.W.Frag} {H : Hp} {t : Th} {v : V} (h : IsTh H t v) : TyOf K H v (tyTh t) := by
  cases h with
  | non => exact .non
  | bl b => exact .bl b
  | int i => exact .int i
  | str x h => exact .str x
  | lst e => exact .lst e
  | dct e => exact .dK e
  | tup e hl h8 hi => exact .tup e
def isIntB : Th → Bool
  | .bl _ => true
  | .int _ => true
  | _ => false
def isBoolB : Th → Bool
  | .bl _ => true
  | _ => false
def isStrB : Th → Bool
  | .str _ => true
  | _ => false
def isTupB : Th → Bool
  | .tup _ => true
  | _ => false
theorem kit_int {K : PySem.W.Frag} (t : Th) : PySem.W.kitOne K (tyTh t) (.type "int") = some (isIntB t) := by cases t <;> first | rfl | exact kit_same _
theorem kit_bool {K : PySem.W.Frag} (t : Th) : PySem.W.kitOne K (tyTh t) (.type "bool") = some (isBoolB t) := by cases t <;> first | rfl | exact kit_same _
theorem kit_str {K : PySem.W.Frag} (t : Th) : PySem.W.kitOne K (tyTh t) (.type "str") = some (isStrB t) := by cases t <;> first | rfl | exact kit_same _
theorem kit_tup {K : PySem.W.Frag} (t : Th) : PySem.W.kitOne K (tyTh t) (.type "tuple") = some (isTupB t) := by cases t <;> first | rfl | exact kit_same _
/-! what the document says of them -/
def smallB (x : Str) : Bool := x.cps.toList.all fun c => decide (97 ≤ c) && decide (c ≤ 122)
def wholeB : Th → Bool
  | .int _ => true
  | _ => false
def nameB : Th → Bool
  | .str x => decide (2 ≤ x.length) && decide (x.length ≤ 8) && smallB x
  | _ => false
def gradeB (m : Int) : Th → Bool
  | .int i => decide (0 ≤ i) && decide (i < m)
  | _ => false
def intTh : Th → Int
  | .int i => i
  | _ => 0
def strTh : Th → Str
  | .str x => x
  | _ => ""
def risB : List Int → Bool
  | x :: y :: r => decide (x < y) && risB (y :: r)
  | _ => true
def risingB (m : Int) : Th → Bool
  | .tup ts => ts.all (gradeB m) && risB (ts.map intTh)
  | _ => false
def cellB (m : Int) : Th → Bool
  | .non => true
  | t => gradeB m t
def cellsB (m n : Int) : Th → Bool
  | .tup ts => decide ((ts.length : Int) = n) && ts.all (cellB m)
  | _ => false
def conn3 (m : Int) : List Th → Bool
  | [a, b, c] => nameB a && (wholeB b && (decide (0 ≤ intTh b) && decide (intTh b ≤ 2)) && cellsB m (m ^ (intTh b).toNat) c)
  | _ => false
def connB (m : Int) : Th → Bool
  | .tup ts => conn3 m ts
  | _ => false
def headTh : Th → Th
  | .tup (a :: _) => a
  | _ => .non
def connsB (m : Int) : Th → Bool
  | .tup ts => decide (ts.length ≤ 8) && ts.all (connB m) && decide ((ts.map fun t => strTh (headTh t)).Nodup)
  | _ => false
def half3 : List Th → Bool
  | [a, b, c] => wholeB a && (decide (1 ≤ intTh a) && decide (intTh a ≤ 9)) && (risingB (intTh a) b && connsB (intTh a) c)
  | _ => false
def halfB : Th → Bool
  | .tup ts => half3 ts
  | _ => false
end L4

set_option Elab.async false
set_option linter.all false
set_option maxRecDepth 100000
set_option maxHeartbeats 4000000
namespace L4
open PySem L2 PySem.StrLaws
theorem foldK_full {α : Type} [DecidableEq α] : ∀ (vs l : List α), (vs.foldl addK l).length = l.length + vs.length → vs.Nodup ∧ ∀ x ∈ vs, x ∉ l
  | [], _, _ => ⟨List.nodup_nil, by simp⟩
  | v :: vs, l, h => by
    rw [List.foldl_cons] at h
    have h1 := foldK_len vs (addK l v)
    have h2 := len_addK (l := l) (v := v)
    rw [List.length_cons] at h
    by_cases hv : v ∈ l
    · rw [if_pos hv] at h2
      omega
    · rw [if_neg hv] at h2
      have ih := foldK_full vs (addK l v) (by omega)
      refine ⟨List.nodup_cons.mpr ⟨fun hm => ih.2 v hm (mem_addK.mpr (.inr rfl)), ih.1⟩, fun x hx => ?_⟩
      rcases List.mem_cons.mp hx with rfl | hx
      · exact hv
      · exact fun hl => ih.2 x hx (mem_addK.mpr (.inl hl))
theorem dedK_iff {α : Type} [DecidableEq α] (vs : List α) : (dedK vs).length = vs.length ↔ vs.Nodup := by
  constructor
  · intro h
    exact (foldK_full vs [] (by rw [List.length_nil, Nat.zero_add]; exact h)).1
  · intro h
    rw [dedK_nodup h]
theorem zip_snd {α β : Type} : ∀ (as : List α) (bs : List β), as.length = bs.length → (as.zip bs).map Prod.snd = bs
  | [], [], _ => rfl
  | a :: as, b :: bs, h => by
    rw [List.zip_cons_cons, List.map_cons, zip_snd as bs (by simpa using h)]
theorem zip_fst {α β γ : Type} (f : α → γ) : ∀ (as : List α) (bs : List β), as.length = bs.length → (as.zip bs).map (fun p => f p.1) = as.map f
  | [], [], _ => rfl
  | a :: as, b :: bs, h => by
    rw [List.zip_cons_cons, List.map_cons, List.map_cons, zip_fst f as bs (by simpa using h)]
theorem zip_mem {H : Hp} {ts : List Th} {a : Addr} {xs : List V} (h : IsTh H (.tup ts) (.ref a)) (e : H a = some (.tup xs)) {p : Th × V} (hp : p ∈ ts.zip xs) : IsTh H p.1 p.2 := by
  obtain ⟨i, hi⟩ := List.getElem?_of_mem hp
  rw [List.getElem?_zip_eq_some] at hi
  cases h with
  | tup e' hl h8 hh =>
    rw [e] at e'
    cases e'
    exact hh i _ _ hi.1 hi.2
theorem zip_of_get {H : Hp} {ts : List Th} {v : V} (h : IsTh H (.tup ts) v) : ∃ (a : Addr) (xs : List V), v = .ref a ∧ H a = some (.tup xs) ∧ ts.length = xs.length ∧ ts.length ≤ 1000 := by
  cases h with
  | tup e hl h8 hi => exact ⟨_, _, rfl, e, hl, h8⟩
theorem all_map_id {α : Type} (f : α → Bool) (as : List α) : (as.map f).all id = as.all f := by
  rw [List.all_map]
  rfl
theorem ris_zip : ∀ ws : List Int, ((ws.zip (ws.drop 1)).map fun p => decide (p.1 < p.2)).all id = risB ws
  | [] => rfl
  | [x] => rfl
  | x :: y :: r => by
    have ih := ris_zip (y :: r)
    show ((decide (x < y)) :: (((y :: r).zip r).map fun p => decide (p.1 < p.2))).all id = (decide (x < y) && risB (y :: r))
    rw [List.all_cons, ← ih]
    rfl
theorem all_ints {H : Hp} {m : Int} : ∀ {ts : List Th} {xs : List V}, ts.length = xs.length → (∀ p ∈ ts.zip xs, IsTh H p.1 p.2) → ts.all (gradeB m) = true → xs = (ts.map intTh).map V.int
  | [], [], _, _, _ => rfl
  | t :: ts, x :: xs, hl, h, ha => by
    rw [List.all_cons, Bool.and_eq_true] at ha
    have ih := all_ints (by simpa using hl) (fun p hp => h p (by rw [List.zip_cons_cons]; exact List.mem_cons_of_mem _ hp)) ha.2
    have h0 := h (t, x) (by rw [List.zip_cons_cons]; exact List.mem_cons_self)
    rw [List.map_cons, List.map_cons, ← ih]
    cases t with
    | int i => cases h0; rfl
    | _ => exact absurd ha.1 (by simp [gradeB])
theorem small_a (c : Nat) : (!decide ((Str.mk #[c]).cps.toList < (Str.ofString "a").cps.toList)) = decide (97 ≤ c) := by
  have : (Str.ofString "a").cps.toList = [97] := by decide +kernel
  rw [this, Bool.eq_iff_iff]
  simp [List.cons_lt_cons_iff]
theorem small_z (c : Nat) : (!decide ((Str.ofString "z").cps.toList < (Str.mk #[c]).cps.toList)) = decide (c ≤ 122) := by
  have : (Str.ofString "z").cps.toList = [122] := by decide +kernel
  rw [this, Bool.eq_iff_iff]
  simp [List.cons_lt_cons_iff]
theorem conn_false {m : Int} : ∀ {ts : List Th}, ts.length ≠ 3 → connB m (.tup ts) = false
  | [], _ => rfl
  | [_], _ => rfl
  | [_, _], _ => rfl
  | [_, _, _], h => absurd rfl h
  | _ :: _ :: _ :: _ :: _, _ => rfl
theorem half_false : ∀ {ts : List Th}, ts.length ≠ 3 → halfB (.tup ts) = false
  | [], _ => rfl
  | [_], _ => rfl
  | [_, _], _ => rfl
  | [_, _, _], h => absurd rfl h
  | _ :: _ :: _ :: _ :: _, _ => rfl
theorem three {α : Type} : ∀ {ts : List α}, ts.length = 3 → ∃ a b c, ts = [a, b, c]
  | [a, b, c], _ => ⟨a, b, c, rfl⟩
theorem conn_heads {H : Hp} {m : Int} {t : Th} {v : V} (h : IsTh H t v) (hc : connB m t = true) : ∃ (a : Addr) (x : Str) (rest : List V), v = .ref a ∧ H a = some (.tup (.str x :: rest)) ∧ x = strTh (headTh t) := by
  cases t with
  | tup ts =>
    by_cases hl : ts.length = 3
    · obtain ⟨a, b, c, rfl⟩ := three hl
      obtain ⟨ad, xs, rfl, e, hxl, h8⟩ := zip_of_get h
      obtain ⟨x, y, z, rfl⟩ := three (hxl.symm.trans hl)
      have h0 := zip_mem h e (p := (a, x)) (by simp)
      cases a with
      | str s => cases h0; exact ⟨ad, s, _, rfl, e, rfl⟩
      | _ => exact absurd hc (by simp [connB, conn3, nameB])
    · rw [conn_false hl] at hc
      cases hc
  | _ => cases hc
end L4

set_option Elab.async false
set_option linter.all false
set_option maxRecDepth 100000
set_option maxHeartbeats 4000000
namespace L4
open PySem L2 PySem.StrLaws
/-! a thing that is a half table, as data -/
def isNonTh : Th → Bool
  | .non => true
  | _ => false
def third : Th → List Th
  | .tup [_, _, .tup ts] => ts
  | _ => []
def nonesTh (t : Th) : Nat := ((third t).map fun c => (third c).countP isNonTh).sum
def tableB (t : Th) : Bool := halfB t && decide (nonesTh t = 0)
theorem ris_head : ∀ (x : Int) (ws : List Int), risB (x :: ws) = true → (∀ z ∈ ws, x < z) ∧ risB ws = true
  | x, [], _ => ⟨by simp, rfl⟩
  | x, y :: r, h => by
    have h' : (decide (x < y) && risB (y :: r)) = true := h
    rw [Bool.and_eq_true] at h'
    have ih := ris_head y r h'.2
    have xy : x < y := of_decide_eq_true h'.1
    refine ⟨fun z hz => ?_, h'.2⟩
    rcases List.mem_cons.mp hz with rfl | hz
    · exact xy
    · have := ih.1 z hz
      omega
theorem ris_pair : ∀ ws : List Int, risB ws = true → ws.Pairwise (· < ·)
  | [], _ => List.Pairwise.nil
  | x :: ws, h => by
    have := ris_head x ws h
    exact List.pairwise_cons.mpr ⟨this.1, ris_pair ws this.2⟩
theorem ris_len : ∀ (ws : List Int) (lo hi : Int), risB ws = true → (∀ w ∈ ws, lo ≤ w ∧ w < hi) → lo ≤ hi → (ws.length : Int) ≤ hi - lo
  | [], lo, hi, _, _, h => by show (0 : Int) ≤ _; omega
  | x :: ws, lo, hi, h, hb, hh => by
    have hr := ris_head x ws h
    have hx := hb x List.mem_cons_self
    have := ris_len ws (x + 1) hi hr.2 (fun w hw => ⟨by have := hr.1 w hw; omega, (hb w (List.mem_cons_of_mem _ hw)).2⟩) (by omega)
    rw [List.length_cons]
    omega
theorem cells_of {H : Hp} {m : Int} : ∀ {ts : List Th} {xs : List V}, ts.length = xs.length → (∀ p ∈ ts.zip xs, IsTh H p.1 p.2) → ts.all (cellB m) = true →
    ∃ cs : List (Option Int), xs = cs.map cellV ∧ (∀ o ∈ cs, CellOk m o) ∧ cs.countP isN = ts.countP isNonTh
  | [], [], _, _, _ => ⟨[], rfl, by simp, rfl⟩
  | t :: ts, x :: xs, hl, h, ha => by
    rw [List.all_cons, Bool.and_eq_true] at ha
    obtain ⟨cs, e, ok, cn⟩ := cells_of (by simpa using hl) (fun p hp => h p (by rw [List.zip_cons_cons]; exact List.mem_cons_of_mem _ hp)) ha.2
    have h0 := h (t, x) (by rw [List.zip_cons_cons]; exact List.mem_cons_self)
    cases t with
    | non =>
      cases h0
      refine ⟨none :: cs, by rw [List.map_cons, ← e]; rfl, fun o ho => ?_, ?_⟩
      · rcases List.mem_cons.mp ho with rfl | ho
        · exact fun i z => nomatch z
        · exact ok o ho
      · rw [List.countP_cons, List.countP_cons, cn]
        rfl
    | int i =>
      cases h0
      have hg : gradeB m (.int i) = true := ha.1
      rw [show gradeB m (.int i) = (decide (0 ≤ i) && decide (i < m)) from rfl, Bool.and_eq_true] at hg
      refine ⟨some i :: cs, by rw [List.map_cons, ← e]; rfl, fun o ho => ?_, ?_⟩
      · rcases List.mem_cons.mp ho with rfl | ho
        · intro j z
          cases z
          exact ⟨of_decide_eq_true hg.1, of_decide_eq_true hg.2⟩
        · exact ok o ho
      · rw [List.countP_cons, List.countP_cons, cn]
        rfl
    | _ => exact absurd ha.1 (by simp [cellB, gradeB])
theorem name_of {x : Str} (h : nameB (.str x) = true) : IsName x := by
  rw [show nameB (.str x) = (decide (2 ≤ x.length) && decide (x.length ≤ 8) && smallB x) from rfl, Bool.and_eq_true, Bool.and_eq_true] at h
  refine ⟨of_decide_eq_true h.1.1, of_decide_eq_true h.1.2, fun c hc => ?_⟩
  have := List.all_eq_true.mp h.2 c hc
  rw [Bool.and_eq_true] at this
  exact ⟨of_decide_eq_true this.1, of_decide_eq_true this.2⟩
theorem conn_of {H : Hp} {m : Int} {t : Th} {v : V} (h : IsTh H t v) (hc : connB m t = true) :
    ∃ (c : Conn) (a u : Addr), v = .ref a ∧ H a = some (.tup [.str c.nm, .int c.pl, .ref u]) ∧ H u = some (.tup (c.cs.map cellV)) ∧ GoodC m c ∧ c.nm = strTh (headTh t) ∧ nonesC c = (third t).countP isNonTh := by
  cases t with
  | tup ts =>
    by_cases hl : ts.length = 3
    · obtain ⟨t0, t1, t2, rfl⟩ := three hl
      obtain ⟨ad, xs, rfl, e, hxl, h8⟩ := zip_of_get h
      obtain ⟨x, y, z, rfl⟩ := three (hxl.symm.trans hl)
      have h0 := zip_mem h e (p := (t0, x)) (by simp)
      have h1 := zip_mem h e (p := (t1, y)) (by simp)
      have h2 := zip_mem h e (p := (t2, z)) (by simp)
      rw [show connB m (.tup [t0, t1, t2]) = (nameB t0 && (wholeB t1 && (decide (0 ≤ intTh t1) && decide (intTh t1 ≤ 2)) && cellsB m (m ^ (intTh t1).toNat) t2)) from rfl, Bool.and_eq_true, Bool.and_eq_true, Bool.and_eq_true, Bool.and_eq_true] at hc
      obtain ⟨hn, ⟨hw, hp0, hp2⟩, hcl⟩ := hc
      cases t0 with
      | str s =>
        cases h0
        cases t1 with
        | int p =>
          cases h1
          cases t2 with
          | tup us =>
            obtain ⟨u, zs, rfl, eu, hul, h8u⟩ := zip_of_get h2
            rw [show cellsB m (m ^ (intTh (.int p)).toNat) (.tup us) = (decide ((us.length : Int) = m ^ p.toNat) && us.all (cellB m)) from rfl, Bool.and_eq_true] at hcl
            obtain ⟨cs, ec, ok, cn⟩ := cells_of hul (fun q hq => zip_mem h2 eu hq) hcl.2
            refine ⟨⟨s, p, cs⟩, ad, u, rfl, e, by rw [eu, ec], ⟨name_of hn, of_decide_eq_true hp0, of_decide_eq_true hp2, ?_, ok⟩, rfl, cn⟩
            have e1 : (us.length : Int) = m ^ p.toNat := of_decide_eq_true hcl.1
            have e2 : cs.length = us.length := by rw [hul, ec, List.length_map]
            show (cs.length : Int) = m ^ p.toNat
            rw [e2, e1]
          | _ => cases hcl
        | _ => cases hw
      | _ => cases hn
    · rw [conn_false hl] at hc
      cases hc
  | _ => cases hc
theorem conns_of {H : Hp} {m : Int} : ∀ {ts : List Th} {xs : List V}, ts.length = xs.length → (∀ p ∈ ts.zip xs, IsTh H p.1 p.2) → ts.all (connB m) = true →
    ∃ cs : List Conn, Conns H cs xs ∧ (∀ c ∈ cs, GoodC m c) ∧ cs.map (·.nm) = (ts.map fun t => strTh (headTh t)) ∧ (cs.map nonesC).sum = (ts.map fun c => (third c).countP isNonTh).sum ∧ cs.length = ts.length
  | [], [], _, _, _ => ⟨[], rfl, by simp, rfl, rfl, rfl⟩
  | t :: ts, x :: xs, hl, h, ha => by
    rw [List.all_cons, Bool.and_eq_true] at ha
    obtain ⟨cs, hC, hg, hn, hs, hcl⟩ := conns_of (by simpa using hl) (fun p hp => h p (by rw [List.zip_cons_cons]; exact List.mem_cons_of_mem _ hp)) ha.2
    have h0 := h (t, x) (by rw [List.zip_cons_cons]; exact List.mem_cons_self)
    obtain ⟨c, a, u, e, e1, e2, gc, en, ec⟩ := conn_of h0 ha.1
    refine ⟨c :: cs, ⟨a, u, xs, by rw [show x = V.ref a from e], e1, e2, hC⟩, fun d hd => ?_, ?_, ?_, by rw [List.length_cons, List.length_cons, hcl]⟩
    · rcases List.mem_cons.mp hd with rfl | hd
      · exact gc
      · exact hg d hd
    · rw [List.map_cons, List.map_cons, hn, en]
    · rw [List.map_cons, List.map_cons, List.sum_cons, List.sum_cons, hs, ec]
theorem half_of {H : Hp} {t : Th} {v : V} (h : IsTh H t v) (hh : halfB t = true) : ∃ T : Half, IsHalf H v T ∧ Good T ∧ nones T = nonesTh t := by
  cases t with
  | tup ts =>
    by_cases hl : ts.length = 3
    · obtain ⟨t0, t1, t2, rfl⟩ := three hl
      obtain ⟨ad, xs, rfl, e, hxl, h8⟩ := zip_of_get h
      obtain ⟨x, y, z, rfl⟩ := three (hxl.symm.trans hl)
      have h0 := zip_mem h e (p := (t0, x)) (by simp)
      have h1 := zip_mem h e (p := (t1, y)) (by simp)
      have h2 := zip_mem h e (p := (t2, z)) (by simp)
      rw [show halfB (.tup [t0, t1, t2]) = (wholeB t0 && (decide (1 ≤ intTh t0) && decide (intTh t0 ≤ 9)) && (risingB (intTh t0) t1 && connsB (intTh t0) t2)) from rfl, Bool.and_eq_true, Bool.and_eq_true, Bool.and_eq_true, Bool.and_eq_true] at hh
      obtain ⟨⟨hw, hm1, hm9⟩, hr, hc⟩ := hh
      cases t0 with
      | int m =>
        cases h0
        have m1 : 1 ≤ m := of_decide_eq_true hm1
        have m9 : m ≤ 9 := of_decide_eq_true hm9
        cases t1 with
        | tup us =>
          obtain ⟨w, ys, rfl, ew, hul, _⟩ := zip_of_get h1
          rw [show risingB (intTh (.int m)) (.tup us) = (us.all (gradeB m) && risB (us.map intTh)) from rfl, Bool.and_eq_true] at hr
          have ey := all_ints hul (fun q hq => zip_mem h1 ew hq) hr.1
          cases t2 with
          | tup ks =>
            obtain ⟨c, zs, rfl, ec, hkl, _⟩ := zip_of_get h2
            rw [show connsB (intTh (.int m)) (.tup ks) = (decide (ks.length ≤ 8) && ks.all (connB m) && decide ((ks.map fun t => strTh (headTh t)).Nodup)) from rfl, Bool.and_eq_true, Bool.and_eq_true] at hc
            obtain ⟨cs, hC, hg, hn, hs, hcl⟩ := conns_of hkl (fun q hq => zip_mem h2 ec hq) hc.1.2
            have hws : ∀ w ∈ us.map intTh, 0 ≤ w ∧ w < m := fun w hw => by
              obtain ⟨t, ht, rfl⟩ := List.mem_map.mp hw
              have := List.all_eq_true.mp hr.1 t ht
              cases t with
              | int i =>
                rw [show gradeB m (.int i) = (decide (0 ≤ i) && decide (i < m)) from rfl, Bool.and_eq_true] at this
                exact ⟨of_decide_eq_true this.1, of_decide_eq_true this.2⟩
              | _ => cases this
            have hk8 : ks.length ≤ 8 := of_decide_eq_true hc.1.1
            refine ⟨⟨m, us.map intTh, cs⟩, ⟨ad, w, c, zs, rfl, e, by rw [ew, ey], ec, hC⟩, ⟨m1, m9, hws, ris_pair _ hr.2, ?_, by show cs.length ≤ 8; omega, ?_, hg⟩, ?_⟩
            · have := ris_len (us.map intTh) 0 m hr.2 hws (by omega)
              show (us.map intTh).length ≤ 9
              omega
            · show (cs.map (·.nm)).Nodup
              rw [hn]
              exact of_decide_eq_true hc.2
            · exact hs
          | _ => cases hc
        | _ => cases hr
      | _ => cases hw
    · rw [half_false hl] at hh
      cases hh
  | _ => cases hh
end L4

set_option Elab.async false
set_option linter.all false
set_option maxRecDepth 100000
set_option maxHeartbeats 4000000
namespace L4
open PySem L2
/-! displays that make things; X: lists that are still written on, which no thing has -/
open Classical in
def Ths (H : Hp) : List Th → List V → Prop := Paired fun t v => IsTh H t v
theorem Ths.same {H H' : Hp} (s : Same H H') {ts : List Th} {vs : List V} (h : Ths H ts vs) : Ths H' ts vs := by
  unfold Ths at h ⊢
  induction h with
  | nil => exact .nil
  | cons r _ ih => exact .cons (r.same s) ih
theorem Ths.at {H : Hp} {ts : List Th} {vs : List V} (h : Ths H ts vs) : ∀ (i : Nat) (t : Th) (v : V), ts[i]? = some t → vs[i]? = some v → IsTh H t v := fun i t v a b => Paired.at h i t v a b
theorem Ths.len {H : Hp} {ts : List Th} {vs : List V} (h : Ths H ts vs) : ts.length = vs.length := Paired.length h
theorem Ths.tup {H : Hp} {ts : List Th} {vs : List V} {p : Addr} (h : Ths H ts vs) (e : H p = some (.tup vs)) (h8 : ts.length ≤ 1000) : IsTh H (.tup ts) (.ref p) := .tup e h.len h8 fun i t v a b => h.at i t v a b
section
variable {X : Addr → Prop} {H0 : Hp} {σ : St}
end
end L4

set_option Elab.async false
set_option linter.all false
set_option maxRecDepth 100000
set_option maxHeartbeats 4000000
namespace L4
open PySem L2
def thO : Option Int → Th
  | none => .non
  | some i => .int i
def thC (c : Conn) : Th := .tup [.str c.nm, .int c.pl, .tup (c.cs.map thO)]
def thW (T : Half) : Th := .tup (T.ws.map Th.int)
def thCs (T : Half) : Th := .tup (T.cs.map thC)
def thT (T : Half) : Th := .tup [.int T.m, thW T, thCs T]
theorem ths_map {α : Type} {H : Hp} (f : α → Th) (g : α → V) : ∀ (as : List α), (∀ a ∈ as, IsTh H (f a) (g a)) → Ths H (as.map f) (as.map g)
  | [], _ => .nil
  | a :: as, h => .cons (h a List.mem_cons_self) (ths_map f g as fun b hb => h b (List.mem_cons_of_mem _ hb))
end L4

set_option Elab.async false
set_option linter.all false
set_option maxRecDepth 100000
set_option maxHeartbeats 4000000
namespace L4
open PySem L2
end L4

set_option Elab.async false
set_option linter.all false
set_option maxRecDepth 100000
set_option maxHeartbeats 4000000
namespace L2
open PySem PySem.Spec PyProof.Rows
open Builtin
section
variable {X : Cx}
end
end L2

set_option Elab.async false
set_option linter.all false
set_option maxRecDepth 100000
set_option maxHeartbeats 4000000
namespace L4
open PySem L2
/-! the same for any predicate and any slot -/
section
variable {B : Th → Bool} {H0 H : Hp} {l : Addr} {n : Nat} {σ : St}
end
end L4

set_option Elab.async false
set_option linter.all false
set_option maxRecDepth 100000
set_option maxHeartbeats 4000000
namespace L4
open PySem L2 PySem.StrLaws
/-! any text, read as a table's -/
def wGr : Str := Str.ofString "grades"
def wWi : Str := Str.ofString "wished"
def numW (w : Str) : Int := if w.length = 1 then Txt.find figures w else -1
def numT (w : Str) : Th := .int (numW w)
def connTh : List Str → Th
  | n :: p :: r => .tup [.str n, numT p, .tup (r.map numT)]
  | _ => .non
def tableTh : List (List Str) → Th
  | [g, n] :: (w :: ws) :: cs => if g = wGr ∧ w = wWi then .tup [numT n, .tup (ws.map numT), .tup (cs.map connTh)] else .non
  | _ => .non
def parse (x : Str) : List (List Str) := (Txt.split x sp2).map fun p => Txt.split p sp1
def readB : Th → Bool
  | .str x => tableB (tableTh (parse x))
  | _ => false
/-! how long the parts are -/
theorem join_len : ∀ (y : Str) (ps : List Str), (∀ p ∈ ps, p.length ≤ (Str.join y ps).length) ∧ (1 ≤ y.length → ps.length ≤ (Str.join y ps).length + 1)
  | y, [] => ⟨by simp, fun _ => Nat.zero_le _⟩
  | y, [p] => ⟨fun q hq => by rw [List.mem_singleton.mp hq]; exact Nat.le_refl _, fun _ => by simp⟩
  | y, p :: q :: r => by
    obtain ⟨h1, h2⟩ := join_len y (q :: r)
    have e := congrArg List.length (join_codes y p q r)
    rw [List.length_append, List.length_append, len_codes, len_codes, len_codes, len_codes] at e
    refine ⟨fun z hz => ?_, fun hy => ?_⟩
    · rcases List.mem_cons.mp hz with rfl | hz
      · omega
      · have := h1 z hz
        omega
    · have := h2 hy
      rw [List.length_cons]
      omega
theorem split_bounds {x y : Str} (hy : 1 ≤ y.length) : (∀ p ∈ Txt.split x y, p.length ≤ x.length) ∧ (Txt.split x y).length ≤ x.length + 1 := by
  have h := join_len y (Txt.split x y)
  rw [join_split] at h
  exact ⟨h.1, h.2 hy⟩
theorem split_ne {x y : Str} : Txt.split x y ≠ [] := by
  unfold Txt.split
  split
  · simp
  · split
    · simp
    · rw [partsBetween_eq]
      obtain ⟨p, r, e⟩ := partsFrom_ne x y.length 0 (Builtin.Str.occurrences x y 0 x.length (x.length + 1))
      rw [e]
      simp
theorem parse_bounds {x : Str} (hx : x.length ≤ 900) : (parse x).length ≤ 1000 ∧ ∀ ws ∈ parse x, ws ≠ [] ∧ ws.length ≤ 1000 ∧ ∀ w ∈ ws, w.length ≤ 3000 := by
  have s2 : 1 ≤ sp2.length := by decide +kernel
  have s1 : 1 ≤ sp1.length := by decide +kernel
  have h := split_bounds (x := x) s2
  refine ⟨by unfold parse; rw [List.length_map]; omega, fun ws hw => ?_⟩
  obtain ⟨p, hp, rfl⟩ := List.mem_map.mp hw
  have hp2 := h.1 p hp
  have k := split_bounds (x := p) s1
  refine ⟨split_ne, by omega, fun w hw => ?_⟩
  have := k.1 w hw
  omega
/-! how a text fails -/
theorem tbl_of {n : Str} {ws : List Str} {r : List (List Str)} : tableTh ([wGr, n] :: (wWi :: ws) :: r) = .tup [numT n, .tup (ws.map numT), .tup (r.map connTh)] := by
  unfold tableTh
  exact if_pos ⟨rfl, rfl⟩
end L4

set_option Elab.async false
set_option linter.all false
set_option maxRecDepth 100000
set_option maxHeartbeats 4000000
namespace L2
open PySem PySem.Spec PyProof.Rows
/-! the count of tokens never goes back -/
end L2

set_option Elab.async false
set_option linter.all false
set_option maxRecDepth 100000
set_option maxHeartbeats 4000000
namespace L2
open PySem PySem.Spec PyProof.Rows PySem.Builtin PySem.Builtin.Str
/-! rules where a token has been drawn -/
section
variable {X : Cx} {e : Expr} {es : List Expr} {te ta tb : TE} {t : TA} {pos : Pos} {a b : Expr} {st : Stmt} {rest : List Stmt} {ts us : TS}
end
end L2

set_option Elab.async false
set_option linter.all false
set_option maxRecDepth 100000
set_option maxHeartbeats 4000000
namespace L2
open PySem PySem.Spec PyProof.Rows PySem.Builtin PySem.Builtin.Str
theorem small9k {n : Nat} (h : n ≤ 3000) : n ≤ sizeLine := Nat.le_trans h (by decide +kernel)
section
variable {X : Cx}
end
end L2

set_option Elab.async false
set_option linter.all false
set_option maxRecDepth 100000
set_option maxHeartbeats 4000000
namespace L4
open PySem L2 PySem.StrLaws
/-! texts put together of parts of words, and taken apart -/
/-! no "; " within -/
end L4

set_option Elab.async false
set_option linter.all false
set_option maxRecDepth 100000
set_option maxHeartbeats 4000000
namespace L4
open PySem L2 PySem.StrLaws
/-! the words of a good table -/
theorem numW_fig {d : Int} (h : Fig d) : numW (fig d) = d := by
  have := fig_is h.1 h.2
  unfold numW
  rw [if_pos this.1]
  exact this.2.2.2
def nT (T : Half) : Str := fig T.m
def wsT (T : Half) : List Str := T.ws.map fig
def cwT (T : Half) : List (List Str) := T.cs.map wordsC
theorem words_T (T : Half) : wordsT T = [wGr, nT T] :: (wWi :: wsT T) :: cwT T := rfl
theorem figm {T : Half} (g : Good T) : Fig T.m := ⟨by have := g.m1; omega, g.m9⟩
theorem num_n {T : Half} (g : Good T) : numW (nT T) = T.m := numW_fig (figm g)
/-! cells that are none -/
/-! A: a part more -/
/-! B: the last word -/
end L4

set_option Elab.async false
set_option linter.all false
set_option maxRecDepth 100000
set_option maxHeartbeats 4000000
namespace L4
open PySem L2 PySem.StrLaws
section
variable {T : Half} (g : Good T)
include g
end
end L4

set_option Elab.async false
set_option linter.all false
set_option maxRecDepth 100000
set_option maxHeartbeats 4000000
namespace L4
open PySem L2
section
variable {X : Addr → Prop} {H0 H : Hp} {σ : St} {B : Th → Bool} {l : Addr} {n : Nat}
/-! slices and repetitions that make things -/
theorem ths_of {H : Hp} : ∀ {ts : List Th} {xs : List V}, ts.length = xs.length → (∀ (i : Nat) (t : Th) (x : V), ts[i]? = some t → xs[i]? = some x → IsTh H t x) → Ths H ts xs
  | [], [], _, _ => .nil
  | t :: ts, x :: xs, hl, h => .cons (h 0 t x rfl rfl) (ths_of (by simpa using hl) fun i t' x' a b => h (i + 1) t' x' (by simpa using a) (by simpa using b))
end
end L4

set_option Elab.async false
set_option linter.all false
set_option maxRecDepth 100000
set_option maxHeartbeats 4000000
namespace L4
open PySem L2
end L4

set_option Elab.async false
set_option linter.all false
set_option maxRecDepth 100000
set_option maxHeartbeats 4000000
namespace L4
open PySem L2
end L4
namespace L4
open PySem L2
end L4

set_option Elab.async false
set_option linter.all false
set_option maxRecDepth 100000
set_option maxHeartbeats 4000000
namespace L4
open PySem L2
/-! good half tables, as things -/
end L4

set_option Elab.async false
set_option linter.all false
set_option maxRecDepth 100000
set_option maxHeartbeats 4000000
namespace L4
open PySem L2 PySem.StrLaws
section
variable {T : Half} (g : Good T)
include g
/-! D: parts put otherwise -/
/-! E: where there are connectives -/
end
end L4

set_option Elab.async false
set_option linter.all false
set_option maxRecDepth 100000
set_option maxHeartbeats 4000000
namespace L4
open PySem L2 PySem.StrLaws
/-! displays that make texts, and lists of texts -/
section
variable {X : Addr → Prop} {H0 : Hp} {σ : St} {K : PySem.W.Frag}
end
end L4

set_option Elab.async false
set_option linter.all false
set_option maxRecDepth 100000
set_option maxHeartbeats 4000000
namespace L4
open PySem L2 PySem.StrLaws
section
variable {T : Half} (g : Good T) (m4 : T.m ≤ 4) (c4 : T.cs.length ≤ 4)
include g m4
end
section
variable {T : Half} (g : Good T)
include g
end
/-! a great letter -/
/-! the good text -/
theorem conn_good {m : Int} {c : Conn} (m1 : 1 ≤ m) (m9 : m ≤ 9) (gc : GoodC m c) (fu : ∀ o ∈ c.cs, o ≠ none) : connTh (wordsC c) = thC c := by
  show Th.tup [.str c.nm, numT (fig c.pl), .tup (((gsOf c).map fig).map numT)] = .tup [.str c.nm, .int c.pl, .tup (c.cs.map thO)]
  have fpl : Fig c.pl := ⟨gc.p0, by have := gc.p2; omega⟩
  have e1 : numT (fig c.pl) = .int c.pl := by unfold numT; rw [numW_fig fpl]
  have e2 : ((gsOf c).map fig).map numT = c.cs.map thO := by
    unfold gsOf
    rw [List.map_map, List.map_map]
    refine List.map_congr_left fun o ho => ?_
    cases o with
    | none => exact absurd rfl (fu none ho)
    | some j =>
      have k := gc.cells _ ho j rfl
      show numT (fig j) = .int j
      unfold numT
      rw [numW_fig ⟨k.1, by omega⟩]
  rw [e1, e2]
theorem table_text {T : Half} (g : Good T) (fu : Full T) : tableTh (wordsT T) = thT T := by
  rw [words_T, tbl_of]
  show Th.tup [numT (nT T), .tup ((wsT T).map numT), .tup ((cwT T).map connTh)] = .tup [.int T.m, .tup (T.ws.map Th.int), .tup (T.cs.map thC)]
  have e1 : numT (nT T) = .int T.m := by unfold numT; rw [num_n g]
  have e2 : (wsT T).map numT = T.ws.map Th.int := by
    unfold wsT
    rw [List.map_map]
    refine List.map_congr_left fun i hi => ?_
    have k := g.ws i hi
    have := g.m9
    show numT (fig i) = .int i
    unfold numT
    rw [numW_fig ⟨k.1, by omega⟩]
  have e3 : (cwT T).map connTh = T.cs.map thC := by
    unfold cwT
    rw [List.map_map]
    exact List.map_congr_left fun c hc => conn_good g.m1 g.m9 (g.each c hc) (fu c hc)
  rw [e1, e2, e3]
/-! two of the same thing are alike -/
def okD : Nat → Th → Bool
  | _, .non => true
  | _, .bl _ => true
  | _, .int _ => true
  | _, .str _ => true
  | n + 1, .tup ts => ts.all (okD n)
  | _, _ => false
theorem ths_in {H : Hp} {ts : List Th} {v : V} (h : IsTh H (.tup ts) v) : ∃ a xs, v = .ref a ∧ H a = some (.tup xs) ∧ Ths H ts xs := by
  cases h with
  | tup e hl h8 hi => exact ⟨_, _, rfl, e, ths_of hl hi⟩
theorem alike_th {H : Hp} : ∀ (n : Nat) {t : Th} {v u : V}, okD n t = true → IsTh H t v → IsTh H t u → Alike H n v u
  | 0, t, v, u, ok, h, k => by
    cases t <;> first | (cases h; cases k; exact ⟨rfl, rfl⟩) | cases ok
  | n + 1, t, v, u, ok, h, k => by
    cases t with
    | tup ts =>
      obtain ⟨a, xs, rfl, ea, hx⟩ := ths_in h
      obtain ⟨b, ys, rfl, eb, hy⟩ := ths_in k
      refine .inr ⟨a, b, xs, ys, rfl, rfl, ea, eb, ?_⟩
      have ok' : ts.all (okD n) = true := ok
      clear ea eb h k ok
      induction ts generalizing xs ys with
      | nil => cases hx; cases hy; exact .nil
      | cons t ts ih =>
        cases hx with
        | cons r1 t1 =>
          cases hy with
          | cons r2 t2 =>
            rw [List.all_cons, Bool.and_eq_true] at ok'
            exact .cons (alike_th n ok'.1 r1 r2) (ih _ t1 _ t2 ok'.2)
    | _ => first | (cases h; cases k; exact .inl ⟨rfl, rfl⟩) | cases ok
theorem ok_cells (n : Nat) : ∀ cs : List (Option Int), (cs.map thO).all (okD n) = true
  | [] => rfl
  | none :: cs => by rw [List.map_cons, List.all_cons, ok_cells n cs]; cases n <;> rfl
  | some i :: cs => by rw [List.map_cons, List.all_cons, ok_cells n cs]; cases n <;> rfl
theorem ok_ints (n : Nat) : ∀ ws : List Int, (ws.map Th.int).all (okD n) = true
  | [] => rfl
  | i :: ws => by rw [List.map_cons, List.all_cons, ok_ints n ws]; cases n <;> rfl
theorem ok_conns : ∀ cs : List Conn, (cs.map thC).all (okD 2) = true
  | [] => rfl
  | c :: cs => by
    rw [List.map_cons, List.all_cons, ok_conns cs, Bool.and_true]
    show ([Th.str c.nm, .int c.pl, .tup (c.cs.map thO)] : List Th).all (okD 1) = true
    show (true && (true && ((c.cs.map thO).all (okD 0) && true))) = true
    rw [ok_cells 0]
    rfl
theorem ok_table (T : Half) : okD 4 (thT T) = true := by
  show (true && ((T.ws.map Th.int).all (okD 2) && ((T.cs.map thC).all (okD 2) && true))) = true
  rw [ok_ints, ok_conns]
  rfl
end L4

set_option Elab.async false
set_option linter.all false
set_option maxRecDepth 100000
set_option maxHeartbeats 4000000
namespace L2
open PySem PySem.Spec PyProof.Rows
section
variable {X : Cx}
/-- != of two lists of flat values, of one length -/
def rNeL (K : PySem.W.Frag) : R2 := fun x y H Q => ∃ p q xs ys, x = .ref p ∧ y = .ref q ∧ SqL K H p xs ∧ SqL K H q ys ∧ xs.all flatV = true ∧ ys.all flatV = true ∧ xs.length = ys.length ∧ Q (.bl (!eqVs xs ys)) H
theorem op_neL (K : PySem.W.Frag) {k : Nat} (hr : Room k X.A) (hK : X.K = K := by rfl) : OpR X (compareOp .NotEq) (rNeL K) := by
  subst hK
  intro pins s σ H x y v u Q I rx ry h
  obtain ⟨p, q, xs, ys, rfl, rfl, h1, h2, f1, f2, hz, hq⟩ := h
  cases rx
  cases ry
  obtain ⟨us, r1, pl1, _⟩ := I.list h1
  obtain ⟨vs, r2, pl2, _⟩ := I.list h2
  have hu : X.A.units < cLine := Nat.lt_of_succ_lt (hu_of hr)
  have l1 := r1.length
  have l2 := r2.length
  refine SeqAt.RcNeAt.lists pl1.isList pl2.isList (by simp; omega) hu (eqAt_get r1 r2 f1 f2) X.prog X.w _ _ ⟨.bl _, H, I, rfl, ?_⟩
  have e : us.toArray.size = xs.length := by simp; omega
  rw [e, range_all xs ys hz]
  unfold eqVs at hq
  rw [hz] at hq
  simpa using hq
end
end L2
namespace L4
open PySem L2
/-! the chains' connectives -/
end L4
namespace Fr
end Fr

set_option Elab.async false
set_option linter.all false
set_option maxRecDepth 100000
set_option maxHeartbeats 4000000
namespace PySem
open Sem (wp)
section
variable {prog : Program} {w : World} {A : Around} {E : Value → Shared → Prop} {s : Shared}
theorem wpAny_collect_range {Q : List Value → Shared → Prop} {it : Addr} {a b c : Int} {t u v : Tok} {n : Nat} (hh : A.handled = none) (hr : IsRange s.heap it a b c t u v) (hsmall : Builtin.Range.small a b c = true)
    (hn : Builtin.Range.rangeSize a b c = n) (hlen : n ≤ 2 ^ 24)
    (hQ : ∀ h' tk (acc : Array Value), (∀ b o', s.heap.get? b = some o' → h'.get? b = some o') → ItemsOf (fun i v => ∃ t, v = .int (a + i * c) t) acc n → Q acc.toList { s with heap := h', toks := tk }) :
    wpAny (model prog w) A (collect (.ref it)) Q E s := by
  unfold collect
  refine wpAny_bind (wpAny_runValue (codeAny_builtin F.entry_proto_collect ?_))
  rw [Around.under_plainId F.plain_proto_collect _]
  show wpAny _ A.in1 (newList [] >>= fun l => again (.builtin "list.__iadd__" ⟨[l, .ref it], []⟩)) _ _ s
  refine wpAny_bind (wpAny_newObj_type ?_)
  refine wpAny_pure ⟨plainId_quiet F.plain_list_iadd _, codeAny_builtin F.entry_list_iadd ?_⟩
  rw [Around.under_plainId F.plain_list_iadd _]
  show wpAny _ A.in1 (Builtin.List.listExtendWith (.ref s.heap.objs.size) (.ref it) (.ref s.heap.objs.size)) _ _ _
  have hS : (s.heap.push { cls := .type "list", data := .seq ([] : List Value).toArray }).get? s.heap.objs.size = some { cls := .type "list", data := .seq #[] 0 } := Heap.get?_push_size _ rfl
  have fin' : ∀ (s' : Shared), (∃ h' tk acc c', s' = { s with heap := h', toks := tk } ∧ (∀ b o, b ≠ s.heap.objs.size → (s.heap.push { cls := .type "list", data := .seq ([] : List Value).toArray }).get? b = some o → h'.get? b = some o) ∧ h'.get? s.heap.objs.size = some { cls := .type "list", dict := none, data := .seq acc c', slots := #[] } ∧ ItemsOf (fun i v => ∃ t, v = .int (a + i * c) t) acc n) → wpAny (model prog w) A (match Value.ref s.heap.objs.size with
      | Value.ref a => do
        match (← load a).data with
          | Data.seq xs _ => pure xs.toList
          | _ => unsupported "internal:collect"
      | _ => unsupported "internal:collect") Q E s' := by
    rintro s' ⟨h', tk, acc, c', rfl, kp, e, hacc⟩
    show wpAny _ A (load s.heap.objs.size >>= _) _ _ _
    refine wpAny_bind (wpAny_load e ?_)
    refine wpAny_pure ?_
    exact hQ h' tk acc (fun b o' hb => kp b o' (Nat.ne_of_lt (Heap.lt_size hb)) (Heap.get?_push_of_some _ hb)) hacc
  refine wpAny_mono (wpAny_extend_range (A := A) (R := fun r s' => r = .ok (.ret (.ref s.heap.objs.size)) ∧ ∃ h' tk acc c', s' = { s with heap := h', toks := tk } ∧ (∀ b o, b ≠ s.heap.objs.size → (s.heap.push { cls := .type "list", data := .seq ([] : List Value).toArray }).get? b = some o → h'.get? b = some o) ∧ h'.get? s.heap.objs.size = some { cls := .type "list", dict := none, data := .seq acc c', slots := #[] } ∧ ItemsOf (fun i v => ∃ t, v = .int (a + i * c) t) acc n)
    (s := { s with heap := s.heap.push { cls := .type "list", data := .seq ([] : List Value).toArray } }) hh (Heap.get?_push_of_some _ hr) hsmall hn hlen _ _ 0 hS fun h' tk acc' c' k1 k2 k3 => ⟨rfl, h', tk, acc', c', rfl, k1, k2, k3⟩) (fun fin s' h => ?_) (fun e s' h => ?_)
  · cases fin with
    | done f =>
      obtain ⟨e, h⟩ := h
      cases e
      exact fin' _ h
    | again c' => exact ⟨h.1, codeAny_mono h.2 fun r s'' hr => by obtain ⟨rfl, hr⟩ := hr; exact fin' _ hr⟩
  · exact absurd h.1 (by simp)
end
theorem meets_tuple_new_range (l : Addr) (a b c : Int) (t u v : Tok) (n : Nat) (hsmall : Builtin.Range.small a b c = true) (hn : Builtin.Range.rangeSize a b c = n) (hlen : n ≤ 2 ^ 20) :
    Meets (Builtin.«tuple.__new__» ⟨[.type "tuple", .ref l], []⟩)
      (fun A R s => A.handled = none ∧ IsRange s.heap l a b c t u v ∧ ∀ (h' : Heap) (tk : Nat) (acc : Array Value), (∀ b o', s.heap.get? b = some o' → h'.get? b = some o') → ItemsOf (fun i v => ∃ t, v = .int (a + i * c) t) acc n → R (.ok (.ret (.ref h'.objs.size))) { s with heap := h'.push { cls := .type "tuple", data := .seq acc }, toks := tk }) :=
  .of_wp fun prog w A R s h => by
    obtain ⟨hp, g, d, tk, os⟩ := s; obtain ⟨hh, ht, h⟩ := h
    have hsub := sub_tuple_self
    have hinit := init_tuple_lookup
    have hmh := madeHere_tuple
    have hT : Shared.TypeIs ⟨hp, g, d, tk, os⟩ (.ref l) "range" := ⟨_, ht, rfl⟩
    wp_walk using AutoSeq1.wpAny_loadPart' ht, wpAny_typeOf hT, wpAny_collect_range (A := A.in1) hh ht hsmall hn (by omega)
    intro h' tk' acc hk hacc
    show wpAny _ _ (Builtin.Tuple.tupleExact acc.toList.toArray >>= fun v => ret v) _ _ _
    unfold Builtin.Tuple.tupleExact
    have hsz : acc.size ≤ sizeLine := by rw [hacc.1]; exact Nat.le_trans hlen (by decide +kernel)
    refine wpAny_bind (wpAny_newObj_type ?_ (by show acc.toList.toArray.size ≤ sizeLine; simpa using hsz))
    refine wpAny_pure ⟨_, rfl, ?_⟩
    have e : acc.toList.toArray = acc := by simp
    rw [e]
    exact h h' tk' acc hk hacc
section
variable {prog : Program} {w : World} {A : Around} {E : Value → Shared → Prop} {s : Shared}
theorem call_tuple_range {l : Addr} {a b c : Int} {t u v : Tok} {n : Nat} {Q : Value → Shared → Prop} (hh : A.handled = none) (hr : IsRange s.heap l a b c t u v) (hsmall : Builtin.Range.small a b c = true) (hn : Builtin.Range.rangeSize a b c = n) (hlen : n ≤ 2 ^ 20)
    (h : ∀ (h' : Heap) (tk : Nat) (acc : Array Value), (∀ b o', s.heap.get? b = some o' → h'.get? b = some o') → ItemsOf (fun i v => ∃ t, v = .int (a + i * c) t) acc n → Q (.ref h'.objs.size) { s with heap := h'.push { cls := .type "tuple", data := .seq acc }, toks := tk }) :
    wpAny (model prog w) A (call (.type "tuple") [.ref l]) Q E s :=
  callType_new F.called_tuple (by decide) (F.typeCall_tuple_1 _) (F.newCall_tuple_1 _) (fun obj => F.args_object_init_2 obj _) F.entry_tuple_new
    (meets_tuple_new_range l a b c t u v n hsmall hn hlen) ⟨hh, hr, fun h' tk acc hk hacc => ⟨⟨_, Heap.get?_push_size _ rfl, rfl⟩, h h' tk acc hk hacc⟩⟩
end
end PySem
namespace PySem.SeqAt
open PySem
theorem wpAny_forRange {M : Model} {A : Around} {E : Value → Shared → Prop} {s : Shared} {β : Type} {a b : Nat} (f : Nat → β → Sem (ForInStep β)) (I : Nat → β → Shared → Prop) (Q : β → Shared → Prop)
    (turn : ∀ i c s, a ≤ i → i < b → I i c s → wpAny M A (f i c) (fun r s' => match r with | .yield c' => I (i + 1) c' s' | .done c' => Q c' s') E s)
    (fin : ∀ c s, I (max a b) c s → Q c s) (c : β) (h : I a c s) : wpAny M A (forIn [a:b] c f) Q E s := by
  rw [Std.Legacy.Range.forIn_eq_forIn_range']
  have hsz : ([a:b] : Std.Legacy.Range).size = b - a := by simp [Std.Legacy.Range.size]
  show wpAny M A (forIn (List.range' a ([a:b] : Std.Legacy.Range).size 1) c f) Q E s
  rw [hsz]
  refine wpAny_forIn_list f (fun l c st => ∃ i, a ≤ i ∧ i ≤ max a b ∧ l = List.range' i (max a b - i) 1 ∧ I i c st) Q ?_ ?_ _ c ⟨a, Nat.le_refl _, by omega, by congr 1; omega, h⟩
  · rintro x rest c st ⟨i, hai, hib, hl, hI⟩
    have hlt : i < max a b := by
      rcases Nat.lt_or_ge i (max a b) with h' | h'
      · exact h'
      · rw [show max a b - i = 0 by omega] at hl; simp at hl
    obtain ⟨n, hn⟩ : ∃ n, max a b - i = n + 1 := ⟨max a b - i - 1, by omega⟩
    rw [hn, List.range'_succ] at hl
    obtain ⟨rfl, rfl⟩ := List.cons.inj hl
    refine wpAny_mono (turn x c st hai (by omega) hI) (fun r st' h' => ?_) fun _ _ h' => h'
    cases r with
    | done c' => exact h'
    | yield c' => exact ⟨x + 1, by omega, by omega, by congr 1; omega, h'⟩
  · rintro c st ⟨i, hai, hib, hl, hI⟩
    have : i = max a b := by
      rcases Nat.lt_or_ge i (max a b) with h' | h'
      · obtain ⟨n, hn⟩ : ∃ n, max a b - i = n + 1 := ⟨max a b - i - 1, by omega⟩
        rw [hn, List.range'_succ] at hl
        cases hl
      · omega
    rw [this] at hI
    exact fin c st hI
theorem tuple_indexAt (l : Addr) (items : Array Value) (n : Nat) (dd : Option Addr) (sl : Array (Option Value)) (x : Value) (e : Value → Bool) (j : Nat) (hj : j < items.size)
    (hit : e items[j] = true) (hno : ∀ m (hm : m < items.size), m < j → e items[m] = false) :
    Meets (Builtin.«tuple.index» ⟨[.ref l, x], []⟩)
      (fun A R s => s.heap.get? l = some { cls := .type "tuple", dict := dd, data := .seq items n, slots := sl } ∧ (∀ y, y ∈ items → EqAt A.in1 s y x (e y)) ∧ R (.ok (.ret (.int j s.toks))) { s with toks := s.toks + 1 }) :=
  .of_wp fun prog w A R s h => by
    obtain ⟨hp, g, d, tk, os⟩ := s; obtain ⟨hl, he, h⟩ := h
    wp_walk using AutoSeq1.wpAny_loadPart' hl, wpAny_forRange _ (fun i c s' => c = (none, ()) ∧ s' = ⟨hp, g, d, tk, os⟩ ∧ i ≤ j) _
    case turn =>
      rintro i c s' hi1 hi2 ⟨rfl, rfl, hij⟩
      have hi : i < items.size := by omega
      rw [Array.getElem?_eq_getElem hi]
      refine wpAny_bind (he _ (Array.getElem_mem hi) prog w _ _ ?_)
      rcases Nat.lt_or_ge i j with h' | h'
      · rw [hno i hi h']
        wp_walk
        exact ⟨rfl, rfl, h'⟩
      · have e1 : i = j := by omega
        subst e1
        rw [hit]
        wp_walk
        exact ⟨_, rfl, h⟩
    case fin =>
      rintro c s' ⟨rfl, rfl, hij⟩
      omega
    case h =>
      exact ⟨rfl, rfl, Nat.zero_le _⟩
end PySem.SeqAt
namespace L2
open PySem PySem.Spec PyProof.Rows
theorem ints_vals {ns : List Int} {us : List Value} (h : IntsAre us ns) : Vals (ns.map V.int) us := by
  induction h with
  | nil => exact .nil
  | cons n t _ ih => exact .cons ⟨t, rfl⟩ ih
section
variable {X : Cx}
/-- == of two tuples of parts that are alike -/
def rEqD (n : Nat) : R2 := fun x y H Q => ∃ a b xs ys, x = .ref a ∧ y = .ref b ∧ H a = some (.tup xs) ∧ H b = some (.tup ys) ∧ Paired (Alike H n) xs ys ∧ Q (.bl true) H
theorem op_eqD (n : Nat) {k : Nat} (hr : Room k X.A) (hn : n ≤ 20) : OpR X (compareOp .Eq) (rEqD n) := by
  intro pins s σ H x y v u Q I rx ry h
  obtain ⟨a, b, xs, ys, rfl, rfl, ha, hb, pr, q⟩ := h
  cases rx
  cases ry
  have hu : X.A.units + 64 < cLine := hr.units
  obtain ⟨_, us, q1, p1⟩ := I.hok a _ ha
  obtain ⟨_, vs, q2, p2⟩ := I.hok b _ hb
  have ln := Paired.length pr
  have l1 := q1.length
  have l2 := q2.length
  have z := SeqAt.RcAt.tuples (A := X.A) (s := s) (e := fun _ => true) p1.isTup p2.isTup (by omega) (alike_parts (A := X.A.in1) (fun {v u v' u'} a1 a2 a3 => alike_eq I n (A := X.A.in1) (by show X.A.units + 1 + n < cLine; omega) a1 a2 a3) q1 q2 pr)
  have e : ((List.range (min us.toArray.size vs.toArray.size)).all (fun _ => true) && us.toArray.size == vs.toArray.size) = true := by
    simp; omega
  rw [e] at z
  exact z X.prog X.w _ _ ⟨.bl _, H, I, rfl, q⟩
end
end L2

set_option Elab.async false
set_option linter.all false
set_option maxRecDepth 100000
set_option maxHeartbeats 4000000
namespace L2
open PySem PySem.Spec PyProof.Rows
/-! enumerate(a list) -/
section
variable {X : Cx}
end
end L2

set_option Elab.async false
set_option linter.all false
set_option maxRecDepth 100000
set_option maxHeartbeats 4000000
namespace L2
open PySem PySem.Spec PyProof.Rows
theorem bt_sorted : bootBuiltins "sorted" = some (.builtin "sorted") := by decide +kernel
end L2
namespace L4
open PySem L2
/-! the wells of draws: a list of two ints, of which nothing more is known -/
end L4

set_option Elab.async false
set_option linter.all false
set_option maxRecDepth 100000
namespace L2
open PySem
/-! the table of a set: rising places -/
abbrev Rs (xs : Array Nat) : Prop := xs.toList.Pairwise (· < ·)
def cntB (xs : List Nat) (j : Nat) : Nat := (xs.filter fun x => decide (x < j)).length
theorem cnt_le (xs : List Nat) (j : Nat) : cntB xs j ≤ xs.length := List.length_filter_le _ _
/-- in a rising list those below j stand ahead -/
theorem cnt_iff : ∀ (xs : List Nat) (j i : Nat) (x : Nat), xs.Pairwise (· < ·) → xs[i]? = some x → (x < j ↔ i < cntB xs j)
  | [], j, i, x, _, h => by simp at h
  | y :: xs, j, 0, x, hp, h => by
    obtain rfl : y = x := by simpa using h
    unfold cntB
    rw [List.filter_cons]
    by_cases hy : y < j
    · simp [hy]
    · have : xs.filter (fun x => decide (x < j)) = [] := by
        rw [List.filter_eq_nil_iff]
        intro z hz
        have := (List.pairwise_cons.mp hp).1 z hz
        simp
        omega
      simp [hy, this]
  | y :: xs, j, i + 1, x, hp, h => by
    have h' : xs[i]? = some x := by simpa using h
    have ih := cnt_iff xs j i x (List.pairwise_cons.mp hp).2 h'
    have hyx := (List.pairwise_cons.mp hp).1 x (List.mem_of_getElem? h')
    unfold cntB at ih ⊢
    rw [List.filter_cons]
    by_cases hy : y < j
    · simp only [hy, decide_true, if_true, List.length_cons]
      rw [ih]
      omega
    · simp only [hy, decide_false, Bool.false_eq_true, if_false]
      constructor
      · intro hx
        omega
      · intro hi
        have := ih.mpr (by omega)
        omega
theorem below_go {xs : Array Nat} {j : Nat} (hr : Rs xs) : ∀ (fuel lo hi : Nat), hi - lo ≤ fuel → lo ≤ cntB xs.toList j → cntB xs.toList j ≤ hi → hi ≤ xs.size → SetTable.below.go xs j fuel lo hi = cntB xs.toList j
  | 0, lo, hi, h1, h2, h3, h4 => by
    unfold SetTable.below.go
    omega
  | fuel + 1, lo, hi, h1, h2, h3, h4 => by
    unfold SetTable.below.go
    by_cases hlt : lo < hi
    · rw [if_pos hlt]
      have hm : (lo + hi) / 2 < xs.size := by omega
      have hx : xs.toList[(lo + hi) / 2]? = some xs[(lo + hi) / 2] := by simp [hm]
      have hc := cnt_iff xs.toList j _ _ hr hx
      have eg : xs.getD ((lo + hi) / 2) j = xs[(lo + hi) / 2] := by simp [Array.getD, hm]
      dsimp only
      rw [eg]
      by_cases hy : xs[(lo + hi) / 2] < j
      · rw [if_pos hy]
        have := hc.mp hy
        exact below_go hr fuel _ _ (by omega) (by omega) h3 h4
      · rw [if_neg hy]
        have : ¬ (lo + hi) / 2 < cntB xs.toList j := fun z => hy (hc.mpr z)
        exact below_go hr fuel _ _ (by omega) h2 (by omega) (by omega)
    · rw [if_neg hlt]
      omega
theorem below_eq {xs : Array Nat} (hr : Rs xs) (j : Nat) : SetTable.below xs j = cntB xs.toList j := by
  unfold SetTable.below
  have := cnt_le xs.toList j
  exact below_go hr _ _ _ (by omega) (Nat.zero_le _) (by simpa using this) (Nat.le_refl _)
theorem at_below {xs : Array Nat} (hr : Rs xs) {j : Nat} : xs[SetTable.below xs j]? = some j ↔ j ∈ xs.toList := by
  rw [below_eq hr]
  constructor
  · intro h
    have : xs.toList[cntB xs.toList j]? = some j := by simpa using h
    exact List.mem_of_getElem? this
  · intro h
    obtain ⟨i, hi⟩ := List.mem_iff_getElem?.mp h
    have h1 : ¬ i < cntB xs.toList j := fun z => Nat.lt_irrefl _ ((cnt_iff _ _ _ _ hr hi).mpr z)
    have hil := (List.getElem?_eq_some_iff.mp hi).1
    have hcl : cntB xs.toList j ≤ i := by omega
    have hc : cntB xs.toList j < xs.toList.length := by omega
    have hx : xs.toList[cntB xs.toList j]? = some xs.toList[cntB xs.toList j] := List.getElem?_eq_getElem hc
    have h2 : ¬ xs.toList[cntB xs.toList j] < j := fun z => Nat.lt_irrefl _ ((cnt_iff _ _ _ _ hr hx).mp z)
    have e : cntB xs.toList j = i := by
      rcases Nat.lt_or_eq_of_le hcl with h3 | h3
      · exfalso
        have := List.pairwise_iff_getElem.mp hr (cntB xs.toList j) i hc hil h3
        have ei : xs.toList[i] = j := (List.getElem?_eq_some_iff.mp hi).2
        omega
      · exact h3
    rw [e]
    simpa using hi
theorem below_next {xs : Array Nat} (hr : Rs xs) {i x : Nat} (h : xs[i]? = some x) : SetTable.below xs (x + 1) = i + 1 := by
  rw [below_eq hr]
  have hx : xs.toList[i]? = some x := by simpa using h
  have h1 := (cnt_iff _ (x + 1) _ _ hr hx).mp (Nat.lt_succ_self _)
  by_cases h2 : i + 1 < xs.toList.length
  · have hy : xs.toList[i + 1]? = some xs.toList[i + 1] := List.getElem?_eq_getElem h2
    have h3 : ¬ xs.toList[i + 1] < x + 1 := by
      have hil := (List.getElem?_eq_some_iff.mp hx).1
      have := List.pairwise_iff_getElem.mp hr i (i + 1) hil h2 (Nat.lt_succ_self _)
      have ei : xs.toList[i] = x := (List.getElem?_eq_some_iff.mp hx).2
      omega
    have hn : ¬ i + 1 < cntB xs.toList (x + 1) := fun z => h3 ((cnt_iff _ (x + 1) _ _ hr hy).mpr z)
    omega
  · have := cnt_le xs.toList (x + 1)
    omega
theorem ins_list {α : Type} (xs : Array α) (p : Nat) (x : α) : (SetTable.insertAt xs p x).toList = xs.toList.take p ++ x :: xs.toList.drop p := by
  unfold SetTable.insertAt
  simp
  exact List.take_of_length_le (by simp)
theorem ins_rising {xs : Array Nat} (hr : Rs xs) {j : Nat} (hj : j ∉ xs.toList) : Rs (SetTable.insertAt xs (SetTable.below xs j) j) := by
  unfold Rs
  rw [ins_list, below_eq hr]
  have hle := cnt_le xs.toList j
  rw [List.pairwise_append]
  refine ⟨hr.sublist (List.take_sublist _ _), ?_, ?_⟩
  · rw [List.pairwise_cons]
    refine ⟨fun y hy => ?_, hr.sublist (List.drop_sublist _ _)⟩
    obtain ⟨i, hi⟩ := List.mem_iff_getElem?.mp hy
    rw [List.getElem?_drop] at hi
    have h1 : ¬ y < j := fun z => by
      have := (cnt_iff _ j _ _ hr hi).mp z
      omega
    have h2 : y ≠ j := fun z => hj (z ▸ List.mem_of_getElem? hi)
    omega
  · intro a ha b hb
    obtain ⟨i, hi⟩ := List.mem_iff_getElem?.mp ha
    have hil := (List.getElem?_eq_some_iff.mp hi).1
    rw [List.length_take] at hil
    rw [List.getElem?_take_of_lt (by omega)] at hi
    have haj : a < j := (cnt_iff _ j _ _ hr hi).mpr (by omega)
    rcases List.mem_cons.mp hb with rfl | hb
    · exact haj
    · obtain ⟨i', hi'⟩ := List.mem_iff_getElem?.mp hb
      rw [List.getElem?_drop] at hi'
      have h1 : ¬ b < j := fun z => by
        have := (cnt_iff _ j _ _ hr hi').mp z
        omega
      omega
end L2

set_option Elab.async false
set_option linter.all false
set_option maxRecDepth 100000
set_option maxHeartbeats 4000000
namespace L2
open PySem
structure TabI (t : SetTable) (b : Bool) : Prop where
  dum : t.dummies = #[]
  rs : Rs t.place
  led : t.led = b
theorem TabI.fresh (b : Bool) : TabI (.fresh 0 0 b) b := ⟨rfl, List.Pairwise.nil, rfl⟩
theorem has_nil (j : Nat) : SetTable.has #[] j = false := by
  unfold SetTable.has
  simp
theorem slot_empty {t : SetTable} {b : Bool} (h : TabI t b) {j : Nat} (e : t.slot j = .empty) : j ∉ t.place.toList := fun hm => by
  unfold SetTable.slot at e
  have := (at_below h.rs).mpr hm
  dsimp only at e
  rw [this] at e
  simp at e
theorem slot_ndummy {t : SetTable} {b : Bool} (h : TabI t b) {j : Nat} : t.slot j ≠ .dummy := fun e => by
  unfold SetTable.slot at e
  rw [h.dum, has_nil] at e
  dsimp only at e
  split at e
  · cases e
  · simp at e
theorem adv_dummy (t : SetTable) (p : SetTable.Probe) : (t.advance p).dummy = p.dummy := by
  unfold SetTable.advance
  split <;> rfl
theorem probe_free {t : SetTable} {b : Bool} (h : TabI t b) {f : Nat → Int} {x : Int} : ∀ (fuel : Nat) (p : SetTable.Probe) (j : Nat) (d : Option Nat), p.dummy = none → SetTable.probe.go t f x fuel p = some (.empty j d) → d = none ∧ t.slot j = .empty
  | 0, p, j, d, _, e => by
    unfold SetTable.probe.go at e
    cases e
  | fuel + 1, p, j, d, hp, e => by
    unfold SetTable.probe.go at e
    cases hs : t.slot p.j with
    | empty =>
      rw [hs] at e
      dsimp only at e
      injection e with e
      injection e with e1 e2
      rw [← e1, ← e2]
      exact ⟨hp, hs⟩
    | dummy => exact absurd hs (slot_ndummy h)
    | live i =>
      rw [hs] at e
      dsimp only at e
      split at e
      · cases e
      · exact probe_free h fuel _ j d (by rw [adv_dummy]; exact hp) e
theorem free_ti {t : SetTable} {b : Bool} (h : TabI t b) {x : Int} {sl : Nat} {wd : Bool} (e : t.freeSlot x = some (sl, wd)) : wd = false ∧ sl ∉ t.place.toList := by
  unfold SetTable.freeSlot SetTable.probe at e
  split at e
  · rename_i j d hg
    obtain ⟨rfl, hs⟩ := probe_free h _ _ j d rfl hg
    injection e with e
    injection e with e1 e2
    rw [← e1, ← e2]
    exact ⟨rfl, slot_empty h hs⟩
  · cases e
theorem rs_filter {f : Nat → Option Nat} : ∀ (n : Nat), (((List.range n).filterMap fun j => (f j).map (j, ·)).map (·.1)).Pairwise (· < ·) := by
  intro n
  have e : (((List.range n).filterMap fun j => (f j).map (j, ·)).map (·.1)) = (List.range n).filter fun j => (f j).isSome := by
    induction List.range n with
    | nil => rfl
    | cons a l ih =>
      rw [List.filterMap_cons, List.filter_cons]
      cases hf : f a with
      | none => simpa using ih
      | some k => simpa using ih
  rw [e]
  exact List.Pairwise.filter _ List.pairwise_lt_range
section
variable {prog : Program} {w : World} {K : Type} [DecidableEq K] {knd : KeyKind prog w K} {A : Around} {E : Value → Shared → Prop} {s : Shared}
end
end L2

set_option Elab.async false
set_option linter.all false
set_option maxRecDepth 100000
set_option maxHeartbeats 4000000
namespace L2
open PySem
/-! sets of digits: the table never gives way -/
def tt0 (mask : Nat) (P : List Nat) : SetTable := { mask := mask, place := P.toArray, dummies := #[], finger := 0, led := true, moves := 0, plain := true }
def riseL : Nat → Nat → List (List Nat)
  | 0, _ => [[]]
  | hi + 1, n => riseL hi n ++ (if n = 0 then [] else (riseL hi (n - 1)).map (· ++ [hi]))
theorem nil_rise : ∀ (hi n : Nat), [] ∈ riseL hi n
  | 0, n => List.mem_singleton.mpr rfl
  | hi + 1, n => List.mem_append_left _ (nil_rise hi n)
theorem mem_rise : ∀ (hi n : Nat) (P : List Nat), P.Pairwise (· < ·) → (∀ p ∈ P, p < hi) → P.length ≤ n → P ∈ riseL hi n
  | 0, n, P, _, hl, _ => by
    cases P with
    | nil => exact nil_rise 0 n
    | cons p P => exact absurd (hl p (List.mem_cons_self ..)) (Nat.not_lt_zero _)
  | hi + 1, n, P, hp, hl, hn => by
    rcases List.eq_nil_or_concat P with rfl | ⟨Q, q, rfl⟩
    · exact nil_rise _ _
    · rw [List.concat_eq_append] at *
      rw [List.pairwise_append] at hp
      obtain ⟨h1, _, h3⟩ := hp
      have hq := hl q (by simp)
      rw [List.length_append] at hn
      have hn' : Q.length + 1 ≤ n := hn
      by_cases e : q = hi
      · refine List.mem_append_right _ ?_
        rw [if_neg (by omega), e]
        exact List.mem_map.mpr ⟨Q, mem_rise hi (n - 1) Q h1 (fun p hp => by have := h3 p hp q (by simp); omega) (by omega), rfl⟩
      · refine List.mem_append_left _ (mem_rise hi n _ ?_ (fun p hp => ?_) (by rw [List.length_append]; exact hn))
        · rw [List.pairwise_append]
          exact ⟨h1, List.pairwise_singleton _ _, h3⟩
        · rcases List.mem_append.mp hp with h | h
          · have := h3 p h q (by simp)
            omega
          · rw [List.mem_singleton.mp h]
            omega
theorem free7' : ((riseL 8 4).all fun P => (List.range 9).all fun d => match (tt0 7 P).freeSlot (d : Int) with
    | some (sl, _) => decide (sl < 8)
    | none => false) = true := by decide +kernel
theorem free31' : ((riseL 9 9).all fun P => (List.range 9).all fun d => P.contains d || (tt0 31 P).freeSlot (d : Int) == some (d, false)) = true := by decide +kernel
theorem free_as (t : SetTable) (hd : t.dummies = #[]) (h : Int) : t.freeSlot h = (tt0 t.mask t.place.toList).freeSlot h := by
  obtain ⟨mask, place, dummies, finger, led, moves, plain⟩ := t
  dsimp only at hd
  subst hd
  obtain ⟨pl⟩ := place
  unfold SetTable.freeSlot SetTable.probe
  have slot_as : ∀ j, SetTable.slot ⟨mask, ⟨pl⟩, #[], finger, led, moves, plain⟩ j = SetTable.slot (tt0 mask pl) j := fun j => rfl
  have adv_as : ∀ p, SetTable.advance ⟨mask, ⟨pl⟩, #[], finger, led, moves, plain⟩ p = SetTable.advance (tt0 mask pl) p := fun p => rfl
  have go_as : ∀ (f : Nat → Int) (x : Int) (fuel : Nat) (p : SetTable.Probe), SetTable.probe.go ⟨mask, ⟨pl⟩, #[], finger, led, moves, plain⟩ f x fuel p = SetTable.probe.go (tt0 mask pl) f x fuel p := by
    intro f x fuel
    induction fuel with
    | zero => intro p; rfl
    | succ fuel ih =>
      intro p
      unfold SetTable.probe.go
      rw [slot_as]
      cases SetTable.slot (tt0 mask pl) p.j with
      | empty => rfl
      | dummy =>
        dsimp only
        rw [adv_as]
        exact ih _
      | live i =>
        dsimp only
        rw [adv_as, ih]
  rw [go_as]
  rfl
/-- small: eight places, up to four taken; or thirty-two, each digit at its own -/
structure Dg (es : Array (Int × Value)) (t : SetTable) (b : Bool) : Prop where
  ti : TabI t b
  plain : t.plain = true
  len : t.place.size = es.size
  form : (t.mask = 7 ∧ es.size ≤ 4 ∧ ∀ p ∈ t.place.toList, p < 8) ∨ (t.mask = 31 ∧ es.size ≤ 9 ∧ es.toList.map (·.1) = t.place.toList.map (fun (p : Nat) => (p : Int)) ∧ ∀ p ∈ t.place.toList, p < 9)
theorem dg_fresh (b : Bool) : Dg #[] (.fresh 0 0 b) b := ⟨TabI.fresh b, rfl, rfl, .inl ⟨rfl, Nat.zero_le _, fun p hp => by cases hp⟩⟩
theorem ins_size {α : Type} (xs : Array α) (p : Nat) (x : α) (hp : p ≤ xs.size) : (SetTable.insertAt xs p x).size = xs.size + 1 := by
  rw [← Array.length_toList, ins_list, List.length_append, List.length_cons, List.length_take, List.length_drop, Array.length_toList]
  omega
theorem below_le {xs : Array Nat} (hr : Rs xs) (j : Nat) : SetTable.below xs j ≤ xs.size := by
  rw [below_eq hr]
  simpa using cnt_le xs.toList j
/-- eight places: one more finds its place -/
theorem lay7 {es : Array (Int × Value)} {t : SetTable} {b : Bool} (h : Dg es t b) (h7 : t.mask = 7) (h4 : es.size ≤ 4) (h8 : ∀ p ∈ t.place.toList, p < 8) {d : Nat} (hd : d < 9) (v : Value) :
    ∃ sl, sl < 8 ∧ sl ∉ t.place.toList ∧ t.freeSlot (d : Int) = some (sl, false) := by
  have hm := mem_rise 8 4 t.place.toList h.ti.rs h8 (by have := h.len; simp; omega)
  have hc := List.all_eq_true.mp (List.all_eq_true.mp free7' _ hm) d (List.mem_range.mpr hd)
  have e := free_as t h.ti.dum (d : Int)
  rw [h7] at e
  rw [← e] at hc
  cases hf : t.freeSlot (d : Int) with
  | none => rw [hf] at hc; cases hc
  | some z =>
    obtain ⟨sl, wd⟩ := z
    rw [hf] at hc
    obtain ⟨h1, h2⟩ := free_ti h.ti hf
    exact ⟨sl, of_decide_eq_true hc, h2, by rw [h1]⟩
theorem lay31 {es : Array (Int × Value)} {t : SetTable} {b : Bool} (h : Dg es t b) (h31 : t.mask = 31) (h9 : ∀ p ∈ t.place.toList, p < 9) (hs : es.size ≤ 9) {d : Nat} (hd : d < 9) (hn : d ∉ t.place.toList) : t.freeSlot (d : Int) = some (d, false) := by
  have hm := mem_rise 9 9 t.place.toList h.ti.rs h9 (by have := h.len; simp; omega)
  have hc := List.all_eq_true.mp (List.all_eq_true.mp free31' _ hm) d (List.mem_range.mpr hd)
  have e := free_as t h.ti.dum (d : Int)
  rw [h31] at e
  rw [← e] at hc
  rcases (Bool.or_eq_true _ _).mp hc with hc | hc
  · exact absurd (by simpa using hc) hn
  · exact eq_of_beq hc
end L2

set_option Elab.async false
set_option linter.all false
set_option maxRecDepth 100000
set_option maxHeartbeats 4000000
namespace L2
open PySem
/-! digits laid anew on thirty-two places -/
structure Own (ds : List Nat) (owner : Array (Option Nat)) (k : Nat) : Prop where
  size : owner.size = 32
  own : ∀ j i, owner.getD j none = some i ↔ (i < k ∧ ds[i]? = some j)
theorem bits_dig {d : Nat} (hd : d < 9) : SetTable.bits (d : Int) % (31 + 1) = d := by
  unfold SetTable.bits
  have e : ((d : Int) % (2 ^ 64 : Int)) = (d : Int) := Int.emod_eq_of_lt (by omega) (by rw [show (2 ^ 64 : Int) = 18446744073709551616 from by decide]; omega)
  rw [e, Int.toNat_natCast]
  omega
theorem free_own {ds : List Nat} {owner : Array (Option Nat)} {k d : Nat} (h : Own ds owner k) (hd : d < 9) (hn : ∀ i, i < k → ds[i]? ≠ some d) (p : Nat) : SetTable.layClean.free 31 owner (SetTable.turns 31) d p = some d := by
  show SetTable.layClean.free 31 owner 46 d p = some d
  unfold SetTable.layClean.free
  have hr : SetTable.runEnd 31 d + 1 - d = 10 := by
    unfold SetTable.runEnd
    rw [if_pos (by omega)]
    omega
  rw [hr]
  have h0 : (owner.getD (d + 0) (some 0)).isNone = true := by
    have h1 : owner.getD d none = none := by
      cases e : owner.getD d none with
      | none => rfl
      | some i =>
        obtain ⟨a, b⟩ := (h.own d i).mp e
        exact absurd b (hn i a)
    have hs : d < owner.size := by rw [h.size]; omega
    rw [Nat.add_zero]
    simp [Array.getD, hs] at h1 ⊢
    exact h1
  rw [show List.range 10 = 0 :: [1, 2, 3, 4, 5, 6, 7, 8, 9] from rfl, List.find?_cons_of_pos (p := fun k => (owner.getD (d + k) (some 0)).isNone) h0]
  rfl
theorem own_step {ds : List Nat} {owner : Array (Option Nat)} {k d : Nat} (h : Own ds owner k) (hd : d < 9) (hk : ds[k]? = some d) (hn : ∀ i, i < k → ds[i]? ≠ some d) : Own ds (owner.setIfInBounds d (some k)) (k + 1) := by
  refine ⟨by simp [h.size], fun j i => ?_⟩
  have hs : d < owner.size := by rw [h.size]; omega
  by_cases e : j = d
  · subst e
    have e1 : (owner.setIfInBounds j (some k)).getD j none = some k := by simp [Array.getD, hs]
    rw [e1]
    constructor
    · intro z
      cases z
      exact ⟨Nat.lt_succ_self _, hk⟩
    · rintro ⟨a, b⟩
      rcases Nat.lt_succ_iff_lt_or_eq.mp a with a | a
      · exact absurd b (hn i a)
      · rw [a]
  · have e1 : (owner.setIfInBounds d (some k)).getD j none = owner.getD j none := by
      simp only [Array.getD_eq_getD_getElem?, Array.getElem?_setIfInBounds]
      rw [if_neg (fun z => e z.symm)]
    rw [e1, h.own]
    constructor
    · rintro ⟨a, b⟩
      exact ⟨Nat.lt_succ_of_lt a, b⟩
    · rintro ⟨a, b⟩
      rcases Nat.lt_succ_iff_lt_or_eq.mp a with a | a
      · exact ⟨a, b⟩
      · subst a
        rw [hk] at b
        exact absurd (Option.some.inj b).symm e
theorem clean_own {ds : List Nat} (hd : ∀ d ∈ ds, d < 9) (nd : ds.Nodup) : ∃ owner, SetTable.layClean 31 (ds.map fun (d : Nat) => (d : Int)).toArray = some owner ∧ Own ds owner ds.length := by
  unfold SetTable.layClean
  rw [← Array.foldl_toList]
  have key : ∀ (r : List Nat) (pre : List Nat) (owner : Array (Option Nat)), ds = pre ++ r → Own ds owner pre.length →
      ∃ owner', (r.map fun (d : Nat) => (d : Int)).foldl (fun (acc : Option (Array (Option Nat) × Nat)) h => do
        let (owner, k) ← acc
        let j ← SetTable.layClean.free 31 owner (SetTable.turns 31) (SetTable.bits h % (31 + 1)) (SetTable.bits h)
        pure (owner.setIfInBounds j (some k), k + 1)) (some (owner, pre.length)) = some (owner', ds.length) ∧ Own ds owner' ds.length := by
    intro r
    induction r with
    | nil =>
      intro pre owner e ho
      rw [List.append_nil] at e
      rw [e] at ho ⊢
      exact ⟨owner, rfl, ho⟩
    | cons d r ih =>
      intro pre owner e ho
      have hk : ds[pre.length]? = some d := by rw [e]; simp
      have hdd : d < 9 := hd d (by rw [e]; simp)
      have hn : ∀ i, i < pre.length → ds[i]? ≠ some d := fun i hi z => by
        have hk2 := hk
        have := (List.getElem?_inj (List.getElem?_eq_some_iff.mp z).1 nd).mp (z.trans hk2.symm)
        omega
      have hs := own_step ho hdd hk hn
      have hf := free_own ho hdd hn (SetTable.bits (d : Int))
      rw [List.map_cons, List.foldl_cons]
      have e2 : (do
        let (owner, k) ← some (owner, pre.length)
        let j ← SetTable.layClean.free 31 owner (SetTable.turns 31) (SetTable.bits (d : Int) % (31 + 1)) (SetTable.bits (d : Int))
        pure (owner.setIfInBounds j (some k), k + 1)) = some (owner.setIfInBounds d (some pre.length), pre.length + 1) := by
        show (SetTable.layClean.free 31 owner (SetTable.turns 31) (SetTable.bits (d : Int) % (31 + 1)) (SetTable.bits (d : Int)) >>= fun j => some (owner.setIfInBounds j (some pre.length), pre.length + 1)) = _
        rw [bits_dig hdd, hf]
        rfl
      rw [e2]
      have := ih (pre ++ [d]) (owner.setIfInBounds d (some pre.length)) (by rw [e]; simp) (by rw [List.length_append]; exact hs)
      rw [List.length_append] at this
      exact this
  obtain ⟨owner, e, ho⟩ := key ds [] (Array.replicate 32 none) rfl ⟨by simp, fun j i => by
    constructor
    · intro z
      exfalso
      by_cases hj : j < 32
      · simp [Array.getD, hj] at z
      · simp [Array.getD, hj] at z
    · rintro ⟨a, _⟩
      exact absurd a (Nat.not_lt_zero _)⟩
  refine ⟨owner, ?_, ho⟩
  rw [show ((ds.map fun (d : Nat) => (d : Int)).toArray).toList = ds.map fun (d : Nat) => (d : Int) from rfl]
  exact congrArg (Option.map (·.1)) e
end L2

set_option Elab.async false
set_option linter.all false
set_option maxRecDepth 100000
set_option maxHeartbeats 4000000
namespace L2
open PySem
def liveOf (owner : Array (Option Nat)) : List (Nat × Nat) := (List.range 32).filterMap fun j => (owner.getD j none).map (j, ·)
theorem mem_live {ds : List Nat} {owner : Array (Option Nat)} (h : Own ds owner ds.length) (hd : ∀ d ∈ ds, d < 9) {z : Nat × Nat} : z ∈ liveOf owner ↔ ds[z.2]? = some z.1 := by
  unfold liveOf
  rw [List.mem_filterMap]
  constructor
  · rintro ⟨j, hj, e⟩
    obtain ⟨i, e1, rfl⟩ := Option.map_eq_some_iff.mp e
    exact ((h.own j i).mp e1).2
  · intro e
    have hi := (List.getElem?_eq_some_iff.mp e).1
    have h9 := hd _ (List.mem_of_getElem? e)
    refine ⟨z.1, List.mem_range.mpr (by omega), ?_⟩
    rw [(h.own z.1 z.2).mpr ⟨hi, e⟩]
    rfl
theorem live_rs (owner : Array (Option Nat)) : ((liveOf owner).map (·.1)).Pairwise (· < ·) := rs_filter (f := fun j => owner.getD j none) 32
theorem live_perm {ds : List Nat} {owner : Array (Option Nat)} (h : Own ds owner ds.length) (hd : ∀ d ∈ ds, d < 9) : List.Perm ((liveOf owner).map (·.2)) (List.range ds.length) := by
  have rs := live_rs owner
  rw [List.pairwise_map] at rs
  refine (List.perm_ext_iff_of_nodup ?_ List.nodup_range).mpr fun i => ?_
  · unfold List.Nodup
    rw [List.pairwise_map]
    refine List.Pairwise.imp_of_mem (fun {a b} ha hb hab e => ?_) rs
    have h1 := (mem_live h hd).mp ha
    have h2 := (mem_live h hd).mp hb
    rw [e, h2] at h1
    have := Option.some.inj h1
    omega
  · rw [List.mem_map, List.mem_range]
    constructor
    · rintro ⟨z, hz, rfl⟩
      exact (List.getElem?_eq_some_iff.mp ((mem_live h hd).mp hz)).1
    · intro hi
      exact ⟨(ds[i], i), (mem_live h hd).mpr (List.getElem?_eq_getElem hi), rfl⟩
theorem filt_at {es : Array (Int × Value)} : ∀ (L : List Nat), (∀ i ∈ L, i < es.size) → L.filterMap (es[·]?) = L.map fun i => es.getD i (0, .none)
  | [], _ => rfl
  | i :: L, h => by
    have hi := h i (List.mem_cons_self ..)
    rw [List.filterMap_cons, List.map_cons, filt_at L fun k hk => h k (List.mem_cons_of_mem _ hk)]
    simp [hi, Array.getD]
theorem relay_dig {es : Array (Int × Value)} {t : SetTable} {b : Bool} {ds : List Nat} (ti : TabI t b) (hp : t.plain = true) (he : es.toList.map (·.1) = ds.map fun (d : Nat) => (d : Int)) (hd : ∀ d ∈ ds, d < 9) (nd : ds.Nodup) (h9 : ds.length ≤ 9) {w : Nat} (hw : SetTable.sizeAbove w = 32) :
    Dg (relayAll t es w).1 (relayAll t es w).2.1 b ∧ List.Perm (relayAll t es w).1.toList es.toList := by
  have hl : es.size = ds.length := by
    have := congrArg List.length he
    simpa using this
  obtain ⟨owner, eo, ho⟩ := clean_own hd nd
  have eh : es.map (·.1) = (ds.map fun (d : Nat) => (d : Int)).toArray := by
    apply Array.toList_inj.mp
    rw [Array.toList_map]
    exact he
  have er : t.relaid (es.map (·.1)) w = some ({ mask := 31, place := ((liveOf owner).map (·.1)).toArray, dummies := #[], finger := t.finger, led := t.led, moves := t.movedTo 31, plain := t.plain }, ((liveOf owner).map (·.2)).toArray) := by
    unfold SetTable.relaid SetTable.laid
    rw [hw, eh, eo]
    rfl
  have perm := live_perm ho hd
  have ll : (liveOf owner).length = ds.length := by
    have := perm.length_eq
    rwa [List.length_map, List.length_range] at this
  have hin : ∀ i ∈ (liveOf owner).map (·.2), i < es.size := fun i hi => by
    rw [hl]
    exact List.mem_range.mp (perm.mem_iff.mp hi)
  have efm : (((liveOf owner).map (·.2)).toArray.filterMap (es[·]?)).toList = ((liveOf owner).map (·.2)).map fun i => es.getD i (0, .none) := by
    rw [Array.toList_filterMap]
    exact filt_at _ hin
  have esz : (((liveOf owner).map (·.2)).toArray.filterMap (es[·]?)).size = ds.length := by
    rw [← Array.length_toList, efm, List.length_map, List.length_map, ll]
  have cov : coversAll ((liveOf owner).map (·.2)).toArray es.size = true := by
    unfold coversAll
    rw [List.isPerm_iff, hl]
    exact perm
  have ra : relayAll t es w = (((liveOf owner).map (·.2)).toArray.filterMap (es[·]?), { mask := 31, place := ((liveOf owner).map (·.1)).toArray, dummies := #[], finger := t.finger, led := t.led, moves := t.movedTo 31, plain := t.plain }, false) := by
    unfold relayAll
    rw [er]
    dsimp only
    rw [cov, esz]
    rw [if_pos]
    simp only [SetTable.fits, SetTable.fill, Bool.true_and, List.size_toArray, List.length_map, ll, Array.size_empty, Bool.and_eq_true, beq_iff_eq, decide_eq_true_eq]
    refine ⟨trivial, ?_⟩
    show _ + 0 ≤ 31
    omega
  have pm := relayAll_perm t es w
  rw [ra] at pm ⊢
  refine ⟨⟨⟨rfl, live_rs owner, ti.led⟩, hp, ?_, .inr ⟨rfl, by rw [esz]; exact h9, ?_, fun p hp' => ?_⟩⟩, pm⟩
  · show ((liveOf owner).map (·.1)).toArray.size = _
    rw [esz, List.size_toArray, List.length_map, ll]
  · show (((liveOf owner).map (·.2)).toArray.filterMap (es[·]?)).toList.map (·.1) = ((liveOf owner).map (·.1)).map fun (p : Nat) => (p : Int)
    rw [efm, List.map_map, List.map_map, List.map_map]
    refine List.map_congr_left fun z hz => ?_
    have hz' := (mem_live ho hd).mp hz
    have hi := (List.getElem?_eq_some_iff.mp hz').1
    have : (es.toList.map (·.1))[z.2]? = some ((z.1 : Nat) : Int) := by rw [he, List.getElem?_map, hz']; rfl
    rw [List.getElem?_map] at this
    obtain ⟨y, hy, ey⟩ := Option.map_eq_some_iff.mp this
    have hes : z.2 < es.size := by omega
    show (es.getD z.2 (0, .none)).1 = ((z.1 : Nat) : Int)
    rw [← ey]
    have : es[z.2]? = some y := by simpa using hy
    simp [Array.getD, hes] at this ⊢
    rw [this]
  · have hp'' : p ∈ (liveOf owner).map (·.1) := by simpa using hp'
    obtain ⟨z, hz, rfl⟩ := List.mem_map.mp hp''
    exact hd _ (List.mem_of_getElem? ((mem_live ho hd).mp hz))
end L2

set_option Elab.async false
set_option linter.all false
set_option maxRecDepth 100000
set_option maxHeartbeats 4000000
namespace L2
open PySem
structure DgE (es : Array (Int × Value)) (t : SetTable) (b : Bool) (ds : List Nat) : Prop where
  dg : Dg es t b
  he : es.toList.map (·.1) = ds.map fun (d : Nat) => (d : Int)
  hd : ∀ d ∈ ds, d < 9
  nd : ds.Nodup
theorem DgE.len {es : Array (Int × Value)} {t : SetTable} {b : Bool} {ds : List Nat} (h : DgE es t b ds) : es.size = ds.length := by
  have := congrArg List.length h.he
  simpa using this
theorem dge_fresh (b : Bool) : DgE #[] (.fresh 0 0 b) b [] := ⟨dg_fresh b, rfl, (fun d h => by cases h), .nil⟩
theorem nine : ∀ (m : Nat) (xs : List Nat), xs.Nodup → (∀ x ∈ xs, x < m) → xs.length ≤ m
  | 0, xs, _, h => by
    cases xs with
    | nil => exact Nat.le_refl _
    | cons x xs => exact absurd (h x (List.mem_cons_self ..)) (Nat.not_lt_zero _)
  | m + 1, xs, nd, h => by
    have h1 := nine m (xs.erase m) (nd.erase m) fun x hx => by
      have h2 := h x (List.mem_of_mem_erase hx)
      have h3 : x ≠ m := fun e => by
        rw [e] at hx
        exact (List.Nodup.not_mem_erase nd) hx
      omega
    have h2 : xs.length - 1 ≤ (xs.erase m).length := by
      rw [List.length_erase]
      split <;> omega
    omega
/-- what stands behind an addition -/
def addE (t : SetTable) (es : Array (Int × Value)) (x : Int) (v : Value) : Array (Int × Value) × SetTable :=
  if (layNew t es x v).2.1.tooFull = true then ((relayAll (layNew t es x v).2.1 (layNew t es x v).1 (SetTable.grown (layNew t es x v).1.size)).1, (relayAll (layNew t es x v).2.1 (layNew t es x v).1 (SetTable.grown (layNew t es x v).1.size)).2.1) else ((layNew t es x v).1, (layNew t es x v).2.1)
theorem lay_put {t : SetTable} {es : Array (Int × Value)} {x : Int} {v : Value} {sl : Nat} {b : Bool} (h : TabI t b) (hl : t.place.size = es.size) (hf : t.freeSlot x = some (sl, false)) (hm : es.size + 1 ≤ t.mask) :
    layNew t es x v = (SetTable.insertAt es (SetTable.below t.place sl) (x, v), { t with place := SetTable.insertAt t.place (SetTable.below t.place sl) sl }, false, false) := by
  have hp : (t.put sl) = ({ t with place := SetTable.insertAt t.place (SetTable.below t.place sl) sl }, SetTable.below t.place sl) := by
    unfold SetTable.put
    rw [h.dum, has_nil]
    obtain ⟨mask, place, dummies, finger, led, moves, plain⟩ := t
    have := h.dum
    dsimp only at this
    subst this
    rfl
  have bl := below_le h.rs sl
  have s1 : (SetTable.insertAt es (SetTable.below t.place sl) (x, v)).size = es.size + 1 := ins_size _ _ _ (by omega)
  have s2 : (SetTable.insertAt t.place (SetTable.below t.place sl) sl).size = es.size + 1 := by rw [ins_size _ _ _ bl, hl]
  have fit : ({ t with place := SetTable.insertAt t.place (SetTable.below t.place sl) sl } : SetTable).fits (es.size + 1) = true := by
    unfold SetTable.fits SetTable.fill
    dsimp only
    rw [s2, h.dum]
    simp
    omega
  unfold layNew
  rw [hf]
  dsimp only
  rw [hp]
  dsimp only
  rw [s1]
  unfold SetTable.orStandIn
  rw [if_pos fit, fit]
  rfl
theorem ins_map {α β : Type} (f : α → β) (xs : Array α) (p : Nat) (x : α) : (SetTable.insertAt xs p x).toList.map f = (xs.toList.map f).take p ++ f x :: (xs.toList.map f).drop p := by
  rw [ins_list, List.map_append, List.map_cons, List.map_take, List.map_drop]
theorem perm_cast {xs ys : List Nat} (h : List.Perm (xs.map fun (d : Nat) => (d : Int)) (ys.map fun (d : Nat) => (d : Int))) : List.Perm xs ys := by
  have := h.map Int.toNat
  simpa [List.map_map, Function.comp_def] using this
theorem dig_add {es : Array (Int × Value)} {t : SetTable} {b : Bool} {ds : List Nat} (h : DgE es t b ds) {d : Nat} (hd9 : d < 9) (hn : d ∉ ds) (v : Value) :
    (layNew t es (d : Int) v).2.2.1 = false ∧ (layNew t es (d : Int) v).2.1.plain = true ∧ ∃ ds', DgE (addE t es (d : Int) v).1 (addE t es (d : Int) v).2 b ds' ∧ List.Perm ds' (d :: ds) := by
  have hl := h.dg.len
  have el := h.len
  have n9 : ds.length + 1 ≤ 9 := nine 9 (d :: ds) (List.nodup_cons.mpr ⟨hn, h.nd⟩) (fun x hx => by
    rcases List.mem_cons.mp hx with rfl | hx
    · exact hd9
    · exact h.hd x hx)
  have perm : ∀ p, List.Perm (ds.take p ++ d :: ds.drop p) (d :: ds) := fun p => by
    refine List.perm_middle.trans ?_
    rw [List.take_append_drop]
  have good : ∀ p, (∀ x ∈ ds.take p ++ d :: ds.drop p, x < 9) ∧ (ds.take p ++ d :: ds.drop p).Nodup := fun p => by
    refine ⟨fun x hx => ?_, ?_⟩
    · rcases List.mem_cons.mp ((perm p).mem_iff.mp hx) with rfl | hx
      · exact hd9
      · exact h.hd x hx
    · exact (perm p).nodup_iff.mpr (List.nodup_cons.mpr ⟨hn, h.nd⟩)
  have main : ∀ sl, t.freeSlot (d : Int) = some (sl, false) → es.size + 1 ≤ t.mask → sl ∉ t.place.toList →
      TabI { t with place := SetTable.insertAt t.place (SetTable.below t.place sl) sl } b ∧ (SetTable.insertAt es (SetTable.below t.place sl) ((d : Int), v)).toList.map (·.1) = (ds.take (SetTable.below t.place sl) ++ d :: ds.drop (SetTable.below t.place sl)).map (fun (d : Nat) => (d : Int)) ∧ (SetTable.insertAt es (SetTable.below t.place sl) ((d : Int), v)).size = es.size + 1 ∧ (SetTable.insertAt t.place (SetTable.below t.place sl) sl).size = es.size + 1 := fun sl hf hm hs => by
    have bl := below_le h.dg.ti.rs sl
    refine ⟨⟨h.dg.ti.dum, ins_rising h.dg.ti.rs hs, h.dg.ti.led⟩, ?_, ins_size _ _ _ (by omega), by rw [ins_size _ _ _ bl, hl]⟩
    rw [ins_map, h.he, List.map_append, List.map_cons, List.map_take, List.map_drop]
  rcases h.dg.form with ⟨f7, f4, f8⟩ | ⟨f31, f9, fe, f99⟩
  · obtain ⟨sl, s8, hs, hf⟩ := lay7 h.dg f7 f4 f8 hd9 v
    have hm : es.size + 1 ≤ t.mask := by omega
    have eL := lay_put (v := v) h.dg.ti hl hf hm
    obtain ⟨ti', he', s1, s2⟩ := main sl hf hm hs
    obtain ⟨g1, g2⟩ := good (SetTable.below t.place sl)
    have pp := perm (SetTable.below t.place sl)
    generalize ds.take (SetTable.below t.place sl) ++ d :: ds.drop (SetTable.below t.place sl) = ds' at he' g1 g2 pp
    refine ⟨by rw [eL], by rw [eL]; exact h.dg.plain, ?_⟩
    unfold addE
    rw [eL]
    dsimp only
    by_cases hfull : ({ t with place := SetTable.insertAt t.place (SetTable.below t.place sl) sl } : SetTable).tooFull = true
    · rw [if_pos hfull]
      have h5 : es.size + 1 = 5 := by
        unfold SetTable.tooFull SetTable.fill at hfull
        dsimp only at hfull
        rw [s2, h.dg.ti.dum, f7] at hfull
        have := of_decide_eq_true hfull
        simp at this
        omega
      have hw : SetTable.sizeAbove (SetTable.grown (SetTable.insertAt es (SetTable.below t.place sl) ((d : Int), v)).size) = 32 := by
        rw [s1, h5]
        decide
      have r := relay_dig (es := SetTable.insertAt es (SetTable.below t.place sl) ((d : Int), v)) (t := { t with place := SetTable.insertAt t.place (SetTable.below t.place sl) sl }) (b := b) ti' h.dg.plain he' g1 g2 (by rw [pp.length_eq]; exact n9) hw
      obtain ⟨r1, r2⟩ := r
      have rl := r2.length_eq
      rw [Array.length_toList, Array.length_toList] at rl
      replace rl := rl.trans s1
      rcases r1.form with ⟨_, q4, _⟩ | ⟨q1, q2, q3, q4⟩
      · exfalso
        omega
      · have pl := r2.map Prod.fst
        have he2 := he'
        rw [show (fun (x : Int × Value) => x.1) = Prod.fst from rfl] at q3 he2
        rw [q3, he2] at pl
        replace pl := perm_cast pl
        refine ⟨_, ⟨r1, q3, q4, pl.nodup_iff.mpr g2⟩, pl.trans pp⟩
    · rw [if_neg hfull]
      have h4 : es.size + 1 ≤ 4 := by
        unfold SetTable.tooFull SetTable.fill at hfull
        dsimp only at hfull
        rw [s2, h.dg.ti.dum, f7] at hfull
        simp at hfull
        omega
      refine ⟨ds', ⟨⟨ti', h.dg.plain, by dsimp only; rw [s1, s2], .inl ⟨f7, by dsimp only; rw [s1]; exact h4, fun p hp => ?_⟩⟩, he', g1, g2⟩, pp⟩
      have hp' : p ∈ (SetTable.insertAt t.place (SetTable.below t.place sl) sl).toList := hp
      rw [ins_list] at hp'
      rcases List.mem_append.mp hp' with hp' | hp'
      · exact f8 p (List.mem_of_mem_take hp')
      · rcases List.mem_cons.mp hp' with rfl | hp'
        · exact s8
        · exact f8 p (List.mem_of_mem_drop hp')
  · have eds : ds = t.place.toList := by
      have h1 := h.he.symm.trans fe
      exact List.map_inj_right (fun a b e => by omega) |>.mp h1
    have hs : d ∉ t.place.toList := eds ▸ hn
    have hf := lay31 h.dg f31 f99 f9 hd9 hs
    have hm : es.size + 1 ≤ t.mask := by omega
    have eL := lay_put (v := v) h.dg.ti hl hf hm
    obtain ⟨ti', he', s1, s2⟩ := main d hf hm hs
    obtain ⟨g1, g2⟩ := good (SetTable.below t.place d)
    have pp := perm (SetTable.below t.place d)
    have ed' : ds.take (SetTable.below t.place d) ++ d :: ds.drop (SetTable.below t.place d) = (SetTable.insertAt t.place (SetTable.below t.place d) d).toList := by rw [ins_list, eds]
    rw [ed'] at he' g1 g2 pp
    refine ⟨by rw [eL], by rw [eL]; exact h.dg.plain, _, ?_, pp⟩
    unfold addE
    rw [eL]
    dsimp only
    have hfull : ¬ ({ t with place := SetTable.insertAt t.place (SetTable.below t.place d) d } : SetTable).tooFull = true := by
      unfold SetTable.tooFull SetTable.fill
      dsimp only
      rw [s2, h.dg.ti.dum, f31]
      simp
      omega
    rw [if_neg hfull]
    exact ⟨⟨ti', h.dg.plain, by dsimp only; rw [s1, s2], .inr ⟨f31, by dsimp only; rw [s1]; omega, he', g1⟩⟩, he', g1, g2⟩
end L2

set_option Elab.async false
set_option linter.all false
set_option maxRecDepth 100000
set_option maxHeartbeats 4000000
namespace L2
open PySem
/-- a set of digits -/
def DIs (b : Bool) (h : Heap) (a : Addr) (ds : List Nat) : Prop :=
  ∃ o es ep t, h.get? a = some o ∧ o.ExactSet ∧ o.data = .set es ep t ∧ DgE es t b ds ∧ ∀ e ∈ es.toList, ∃ tk, e.2 = Value.int e.1 tk
theorem DIs.keep {b : Bool} {h h' : Heap} {a : Addr} {ds : List Nat} (x : DIs b h a ds) (k : ∀ o, h.get? a = some o → h'.get? a = some o) : DIs b h' a ds := by
  obtain ⟨o, es, ep, t, ho, r⟩ := x
  exact ⟨o, es, ep, t, k o ho, r⟩
theorem Dg.fits {es : Array (Int × Value)} {t : SetTable} {b : Bool} (h : Dg es t b) : t.fits es.size = true := by
  unfold SetTable.fits SetTable.fill
  rw [h.len, h.ti.dum]
  simp
  rcases h.form with ⟨h1, h2, _⟩ | ⟨h1, h2, _⟩ <;> omega
theorem Dg.small {es : Array (Int × Value)} {t : SetTable} {b : Bool} (h : Dg es t b) : es.size ≤ 9 := by
  rcases h.form with ⟨h1, h2, _⟩ | ⟨h1, h2, _⟩ <;> omega
theorem hash_dig : ∀ d : Nat, d < 9 → hashInt (d : Int) = (d : Int) := by decide
theorem DgE.mem {es : Array (Int × Value)} {t : SetTable} {b : Bool} {ds : List Nat} (h : DgE es t b ds) {e : Int × Value} (he : e ∈ es.toList) : ∃ d ∈ ds, e.1 = (d : Int) := by
  have := List.mem_map_of_mem (f := fun (x : Int × Value) => x.1) he
  rw [h.he] at this
  obtain ⟨d, hd, e'⟩ := List.mem_map.mp this
  exact ⟨d, hd, e'.symm⟩
theorem DgE.at {es : Array (Int × Value)} {t : SetTable} {b : Bool} {ds : List Nat} (h : DgE es t b ds) {d : Nat} (hd : d ∈ ds) : ∃ e ∈ es.toList, e.1 = (d : Int) := by
  have : (d : Int) ∈ ds.map fun (d : Nat) => (d : Int) := List.mem_map_of_mem hd
  rw [← h.he] at this
  obtain ⟨e, he, e'⟩ := List.mem_map.mp this
  exact ⟨e, he, e'⟩
section
variable {prog : Program} {w : World} {A : Around} {E : Value → Shared → Prop} {s : Shared}
theorem dge_elems {es : Array (Int × Value)} {t : SetTable} {b : Bool} {ds : List Nat} (h : DgE es t b ds) (hv : ∀ e ∈ es.toList, ∃ tk, e.2 = Value.int e.1 tk) : ElemsOf (intKind prog w) es.toList := fun e he => by
  obtain ⟨tk, ev⟩ := hv e he
  obtain ⟨d, hd, e1⟩ := h.mem he
  rw [ev]
  refine ⟨⟨e.1, by simp [intKind, Value.isInt], ?_⟩, rfl⟩
  show e.1 = hashInt e.1
  rw [e1, hash_dig d (h.hd d hd)]
theorem dis_store {h : Heap} {a : Addr} {o : Obj} {es es' : Array (Int × Value)} {ep : Nat} {t t' : SetTable} {b : Bool} {ds' : List Nat} (ho : h.get? a = some o) (hex : o.ExactSet) (hd : o.data = .set es ep t) (hg : DgE es' t' b ds') (hv : ∀ e ∈ es'.toList, ∃ tk, e.2 = Value.int e.1 tk) :
    DIs b (h.update a (Obj.putSet es' t')) a ds' := by
  have hgt : (h.update a (Obj.putSet es' t')).get? a = some { o with data := .set es' (ep + 1) t' } := by
    have := Heap.get?_update_self (Obj.putSet es' t') ho (by rw [putSet_of es' t' hd]; rfl)
    rw [putSet_of es' t' hd] at this; exact this
  exact ⟨_, es', ep + 1, t', hgt, hex, rfl, hg, hv⟩
theorem setAddD {a : Addr} {ds : List Nat} {b : Bool} {d : Nat} {tk : Tok} {Q : Bool → Shared → Prop} (hS : DIs b s.heap a ds) (hd9 : d < 9)
    (h : ∀ h' ds', Heap.SameBut a s.heap h' → DIs b h' a ds' → List.Perm ds' (if d ∈ ds then ds else d :: ds) → Q (!decide (d ∈ ds)) { s with heap := h' }) :
    wpAny (model prog w) A (setAddHashed a (.int (d : Int) tk) (hashInt (d : Int))) Q E s := by
  obtain ⟨o, es, ep, t, ho, hex, hd, hg, hv⟩ := hS
  have hf := hg.dg.fits
  have hel := dge_elems (prog := prog) (w := w) hg hv
  have hb : es.size < scanBound := by have := hg.dg.small; unfold scanBound; omega
  have hkey : (intKind prog w).is (d : Int) (.int (d : Int) tk) = true := by simp [intKind, Value.isInt]
  unfold setAddHashed setAddHashedIn
  refine wpAny_holding (wpAny_bind (wpAny_setState_of ho hd hf ?_))
  dsimp only
  rw [byScan_of (knd := intKind prog w) rfl hb hel]
  simp only [↓reduceIte]
  unfold setAddByScan
  refine wpAny_bind ?_
  refine wpAny_bind (wpAny_rule ?_)
  refine wpAny_bind (wpAny_setScan_of (knd := intKind prog w) hkey ho hd hf hel ?_)
  cases hr : List.findIdx? (fun e => (intKind prog w).is (d : Int) e.2) es.toList with
  | some j =>
    dsimp only
    obtain ⟨hj, hpj, _⟩ := List.findIdx?_eq_some_iff_getElem.mp hr
    have hm := List.getElem_mem hj
    have hin : d ∈ ds := by
      obtain ⟨tk', ev⟩ := hv _ hm
      obtain ⟨d', hd', e1⟩ := hg.mem hm
      rw [ev] at hpj
      have : es.toList[j].1 = (d : Int) := by
        simp [intKind, Value.isInt] at hpj
        exact hpj
      rw [e1] at this
      rwa [show d' = d by omega] at hd'
    refine wpAny_pure (wpAny_pure ?_)
    have e : s = { s with heap := s.heap } := by cases s; rfl
    have := h s.heap ds (Heap.SameBut.refl a s.heap) ⟨o, es, ep, t, ho, hex, hd, hg, hv⟩ (by rw [if_pos hin])
    rw [decide_eq_true hin] at this; rw [e]; exact this
  | none =>
    dsimp only
    have hin : d ∉ ds := fun hin => by
      obtain ⟨e, he, e1⟩ := hg.at hin
      obtain ⟨tk', ev⟩ := hv e he
      have := List.findIdx?_eq_none_iff.mp hr e he
      rw [ev, e1] at this
      simp [intKind, Value.isInt] at this
    have hgw : ∀ (b : Bool) {s₁ : Shared} {Q' : Unit → Shared → Prop}, Q' () s₁ → wpAny (model prog w) A (match b with | true => rule "set.scan.the-table-gave-way" | false => pure ()) Q' E s₁ :=
      fun b s₁ Q' hq => by cases b <;> first | exact wpAny_pure hq | exact wpAny_rule hq
    have eh : (intKind prog w).hash (d : Int) = (d : Int) := hash_dig d hd9
    have eh' : hashInt (d : Int) = (d : Int) := hash_dig d hd9
    obtain ⟨a1, a2, ds', a3, a4⟩ := dig_add hg hd9 hin (.int (d : Int) tk)
    have hperm := layNew_perm t es (d : Int) (.int (d : Int) tk)
    unfold addE at a3
    rw [show (intKind prog w).hash (d : Int) = (d : Int) from eh] at *
    try rw [eh']
    generalize hL : layNew t es (d : Int) (.int (d : Int) tk) = L at a1 a2 a3 hperm ⊢
    obtain ⟨es1, t1, wasDummy, gave⟩ := L
    dsimp only at a1 a2 a3 hperm ⊢
    subst a1
    rw [Array.toList_push] at hperm
    have hv1 : ∀ e ∈ es1.toList, ∃ tk, e.2 = Value.int e.1 tk := fun e he => by
      rcases List.mem_append.mp (hperm.mem_iff.mp he) with he | he
      · exact hv e he
      · rw [List.mem_singleton.mp he]
        exact ⟨tk, rfl⟩
    have s1 : es1.size = es.size + 1 := by
      rw [← Array.length_toList, hperm.length_eq, List.length_append, Array.length_toList]
      rfl
    have hsm := hg.dg.small
    have hb1 : es1.size < scanBound := by unfold scanBound; omega
    have pp : List.Perm ds' (if d ∈ ds then ds else d :: ds) := by rw [if_neg hin]; exact a4
    have fin : ∀ h', Heap.SameBut a s.heap h' → DIs b h' a ds' → Q true { s with heap := h' } := fun h' z1 z2 => by
      have := h h' ds' z1 z2 pp
      rw [decide_eq_false hin] at this
      exact this
    refine wpAny_bind (hgw _ ?_)
    rw [if_pos a2]
    refine wpAny_bind ?_
    rw [hashByValue_scannable 8 rfl]
    refine wpAny_pure ?_
    simp only [plainKind, ↓reduceIte, Bool.not_false, Bool.true_and]
    have hgt : (s.heap.update a (Obj.putSet es1 t1)).get? a = some { o with data := .set es1 (ep + 1) t1 } := by
      have := Heap.get?_update_self (Obj.putSet es1 t1) ho (by rw [putSet_of es1 t1 hd]; rfl)
      rw [putSet_of es1 t1 hd] at this; exact this
    have hsb1 := Heap.SameBut.update s.heap a (Obj.putSet es1 t1)
    refine wpAny_bind (wpAny_storeSet_of ho hd ?_ (fits_of_scanBound hb1))
    by_cases hfull : t1.tooFull = true
    · rw [if_pos hfull] at a3 ⊢
      have hp := relayAll_perm t1 es1 (SetTable.grown es1.size)
      generalize hRl : relayAll t1 es1 (SetTable.grown es1.size) = Rl at hp a3 ⊢
      obtain ⟨es2, t3, gave2⟩ := Rl
      dsimp only at hp a3 ⊢
      refine wpAny_bind (hgw _ ?_)
      have hb2 : es2.size < scanBound := by have := a3.dg.small; unfold scanBound; omega
      refine wpAny_bind (wpAny_storeSet_of hgt rfl ?_ (fits_of_scanBound hb2))
      exact wpAny_pure (wpAny_pure (fin _ (hsb1.trans (Heap.SameBut.update _ a _)) (dis_store hgt hex rfl a3 fun e he => hv1 e (hp.mem_iff.mp he))))
    · rw [if_neg hfull] at a3 ⊢
      exact wpAny_pure (wpAny_pure (fin _ hsb1 (dis_store ho hex hd a3 hv1)))
end
end L2

set_option Elab.async false
set_option linter.all false
set_option maxRecDepth 100000
set_option maxHeartbeats 4000000
namespace L2
open PySem PySem.Spec PyProof.Rows
abbrev byTxt (w : World) : Bool := w.params.followText "set-order"
section
variable {prog : Program} {w : World} {A : Around} {E : Value → Shared → Prop} {s : Shared}
theorem code_set_newL (a : Value) {Q₁ : Value → Shared → Prop}
    (h : Q₁ (.ref s.heap.objs.size) { s with heap := s.heap.push { cls := .type "set", dict := none, data := .set #[] 0 (.fresh 0 0 (!byTxt w)) } }) :
    codeAny (model prog w) A (.call (.builtin "set.__new__") ⟨[.type "set", a], []⟩) (wants Q₁ E) s := by
  refine codeAny_of_tree ?_
  show wpAny _ A.in1 (do checkBuiltinCall "set.__new__" ⟨[.type "set", a], []⟩; again (.builtin "set.__new__" ⟨[.type "set", a], []⟩)) _ _ s
  refine wpAny_bind (wpAny_of_eq (PySem.F.newCall_set_1 a) (wpAny_pure ⟨plainId_quiet PySem.F.plain_set_new _, codeAny_builtin PySem.F.entry_set_new ?_⟩))
  rw [Around.under_plainId PySem.F.plain_set_new _]
  unfold Builtin.«set.__new__» Builtin.Frozenset.newClass
  have hsub := sub_set_self
  obtain ⟨hp, g, d, tk, os⟩ := s
  dsimp only
  wp_walk
  refine wpAny_askSetting (wpAny_pure ?_)
  dsimp only
  simp only [newObj]
  refine wpAny_bind (wpAny_alloc (wpAny_pure ?_))
  exact wpAny_pure h
theorem set_loopD {R : Result → Shared → Prop} {J l a : Addr} {items : Array Value} {ys : List Nat} {bb : Bool} (hh : A.in1.handled = none) (hJ : l ≠ J) (aJ : a ≠ J) (al : a ≠ l) (hv : ∀ (i : Nat) (v : Value), items[i]? = some v → ∃ t, v = .int ((ys.getD i 0 : Nat) : Int) t) (hn : items.size = ys.length) (hb : ∀ y ∈ ys, y < 9) :
    ∀ (k i : Nat) (s : Shared) (ds : List Nat), ys.length - i = k → i ≤ ys.length → s.heap.IsListIter J l i → s.heap.IsList l items → DIs bb s.heap a ds → (∀ d, d ∈ ds ↔ d ∈ ys.take i) →
      (∀ h' tk ds', (∀ b o, b ≠ a → b ≠ J → s.heap.get? b = some o → h'.get? b = some o) → DIs bb h' a ds' → (∀ d, d ∈ ds' ↔ d ∈ ys) → R (.ok (.ret .none)) { s with heap := h', toks := tk }) →
      codeAny (model prog w) A (.builtin "set.update.loop" ⟨[.ref a, .ref J], []⟩) R s := by
  intro k
  induction k with
  | zero =>
    intro i s ds hk hi h1 h2 h3 hds hR
    have e : i = ys.length := by omega
    subst e
    refine codeAny_builtin PyProof.Rows.F.entry_set_update_loop ?_
    rw [Around.under_plainId PyProof.Rows.F.plain_set_update_loop _]
    show wpAny _ A.in1 (pyNext (.ref J) >>= _) _ _ s
    refine wpAny_bind (wpAny_pyNext_list_end hh h1 h2 (by first | omega | (simp; omega)) fun h' eb => ?_)
    show wpAny _ A.in1 (ret Value.none) _ _ _
    rw [List.take_length] at hds
    exact wpAny_pure (hR h' s.toks ds (fun b o _ nb e => eb b o nb e) (h3.keep fun o e => eb a o aJ e) hds)
  | succ k ih =>
    intro i s ds hk hi h1 h2 h3 hds hR
    have hlt : i < ys.length := by omega
    refine codeAny_builtin PyProof.Rows.F.entry_set_update_loop ?_
    rw [Around.under_plainId PyProof.Rows.F.plain_set_update_loop _]
    show wpAny _ A.in1 (pyNext (.ref J) >>= _) _ _ s
    have hi2 : items[i]? = some (items[i]'(by omega)) := by simp [show i < items.size by omega]
    refine wpAny_bind (wpAny_pyNext_list_item h1 h2 hi2 fun h' h1' sb => ?_)
    obtain ⟨t, et⟩ := hv i _ hi2
    rw [et]
    have h3' : DIs bb h' a ds := h3.keep fun o e => (sb.2 a aJ).trans e
    show wpAny _ A.in1 (holding [Value.int ((ys.getD i 0 : Nat) : Int) t] (setAdd a (.int ((ys.getD i 0 : Nat) : Int) t)) >>= _) _ _ _
    refine wpAny_bind (wpAny_holding ?_)
    unfold setAdd
    have is1 : (PySem.intKind prog w).is ((ys.getD i 0 : Nat) : Int) (.int ((ys.getD i 0 : Nat) : Int) t) = true := by
      simp [PySem.intKind, Value.isInt]
    refine wpAny_holding (wpAny_bind ((PySem.intKind prog w).pyHash (k := ((ys.getD i 0 : Nat) : Int)) is1 ?_))
    have ey : ys[i]? = some (ys.getD i 0) := by simp [List.getD, hlt]
    have e1 : ys.take (i + 1) = ys.take i ++ [ys.getD i 0] := by rw [List.take_add_one, ey]; rfl
    refine setAddD (s := { s with heap := h', toks := s.toks + 1 }) h3' (hb _ (List.mem_of_getElem? ey)) fun h'' ds' sb2 h4 pm => ?_
    have hds' : ∀ d, d ∈ ds' ↔ d ∈ ys.take (i + 1) := fun d => by
      rw [pm.mem_iff, e1, List.mem_append, List.mem_singleton, ← hds d]
      split
      · rename_i hc
        constructor
        · exact .inl
        · rintro (z | rfl)
          · exact z
          · exact hc
      · rw [List.mem_cons]
        exact Or.comm
    refine wpAny_pure ⟨plainId_quiet PyProof.Rows.F.plain_set_update_loop _, ih (i + 1) { s with heap := h'', toks := s.toks + 1 } ds' (by omega) hlt ?_ ?_ h4 hds' fun h6 tk ds6 k6 s6 m6 => hR h6 tk ds6 (fun b o na nJ e => k6 b o na nJ ((sb2.2 b na).trans ((sb.2 b nJ).trans e))) s6 m6⟩
    · obtain ⟨o, q1, q2⟩ := h1'
      exact ⟨o, (sb2.2 J (Ne.symm aJ)).trans q1, q2⟩
    · obtain ⟨o, q1, q2⟩ := h2
      exact ⟨o, (sb2.2 l (Ne.symm al)).trans ((sb.2 l hJ).trans q1), q2⟩
theorem set_madeD {l : Addr} {items : Array Value} {ys : List Nat} {Q : Value → Shared → Prop} (hh : A.handled = none) (hl : s.heap.IsList l items) (hi : ∀ (i : Nat) (v : Value), items[i]? = some v → ∃ t, v = .int ((ys.getD i 0 : Nat) : Int) t) (hn : items.size = ys.length) (hb : ∀ y ∈ ys, y < 9)
    (h : ∀ h' tk ds, DIs (!byTxt w) h' s.heap.objs.size ds → (∀ d, d ∈ ds ↔ d ∈ ys) → (∀ b o, b < s.heap.objs.size → s.heap.get? b = some o → h'.get? b = some o) → Q (.ref s.heap.objs.size) { s with heap := h', toks := tk }) :
    wpAny (model prog w) A (call (.type "set") [.ref l]) Q E s := by
  obtain ⟨c0, tl0, hmro⟩ := PySem.F.called_set.mro
  have made := PySem.F.called_set.made; have subs := PySem.F.called_set.sub
  have nt := PySem.F.called_set.notType; have cc := PySem.F.called_set.canCreate; have tcall := PySem.F.typeCall_set_1 (.ref l)
  refine wpAny_call (codeAny_of_tree ?_)
  show wpAny _ _ (callAny (.type "set") ⟨[.ref l], []⟩) _ _ _
  refine wpAny_pure ⟨Code.quiet_builtin _ (by decide +kernel), codeAny_builtin PySem.F.entry_type_call ?_⟩
  rw [Around.under_plain (weight_type_call_type "set" [.ref l] []) rfl]
  repeat (any_goals (first | assumption | wp_step))
  refine codeAny_mono (code_set_newL (.ref l) (E := E) (Q₁ := fun v s1 => ∃ b : Bool, b = (!byTxt w) ∧ v = .ref s.heap.objs.size ∧ s1 = { s with heap := s.heap.push (freshSet b) }) ⟨_, rfl, rfl, rfl⟩) fun r s1 hr => ?_
  match r, hr with
  | .error e, hr => exact hr
  | .ok (.ret v), hr =>
    obtain ⟨b, eb, ev, es⟩ := hr
    subst ev es
    have at0 : (s.heap.push (freshSet b)).get? s.heap.objs.size = some (freshSet b) := Heap.get?_push_size _ rfl
    have ty0 : Shared.TypeIs { s with heap := s.heap.push (freshSet b) } (.ref s.heap.objs.size) "set" := ⟨_, at0, rfl⟩
    have il := PySem.F.called_set.init.lookup
    have ib := PySem.F.called_set.init.bind (.ref s.heap.objs.size)
    repeat (any_goals (first | assumption | wp_step))
    refine codeAny_mono (codeAny_call_builtin (R := wants (fun r s2 => r = .none ∧ ∃ h' tk ds, s2 = { s with heap := h', toks := tk } ∧ DIs (!byTxt w) h' s.heap.objs.size ds ∧ (∀ d, d ∈ ds ↔ d ∈ ys) ∧ ∀ b o, b < s.heap.objs.size → s.heap.get? b = some o → h'.get? b = some o) E) PySem.F.called_set.init.plain PySem.F.entry_set_init (check_set_init_1 ty0 ?_)) fun r2 s2 hr2 => ?_
    · obtain ⟨⟨oc, od, odt, osl⟩, hol, hcl, nl, hdl⟩ := id hl
      have hcl' : oc = _ := hcl; have hdl' : odt = _ := hdl
      subst hcl' hdl'
      have hol1 : (s.heap.push (freshSet b)).get? l = some { cls := .type "list", dict := od, data := .seq items nl, slots := osl } := Heap.get?_push_of_some _ hol
      have n1 := PySem.F.sub_list_set; have n2 := PySem.F.sub_list_frozenset
      have n3 : (Value.type "list" == Value.type "dict") = false := by decide
      have hl1 : (s.heap.push (freshSet b)).IsList l items := ⟨_, hol1, rfl, nl, rfl⟩
      have lS : l < s.heap.objs.size := Heap.lt_size hol
      have jS : (s.heap.push (freshSet b)).objs.size = s.heap.objs.size + 1 := Heap.size_push ..
      unfold Builtin.«set.__init__» noKeywords Builtin.Frozenset.updateFrom
      generalize ePI : pyIter = PI
      wp_walk
      subst ePI
      refine wpAny_pyIter_list hl1 (wpAny_bind (wpAny_runValue ?_))
      refine set_loopD (bb := !byTxt w) (J := (s.heap.push (freshSet b)).objs.size) (l := l) (a := s.heap.objs.size) (items := items) (ys := ys) (by simp [hh]) (Nat.ne_of_lt (by rw [jS]; exact Nat.lt_succ_of_lt lS)) (Nat.ne_of_lt (by rw [jS]; exact Nat.lt_succ_self _)) (Nat.ne_of_gt lS) hi hn hb (ys.length - 0) 0 _ [] rfl (Nat.zero_le _) ⟨_, Heap.get?_push_size _ rfl, rfl, rfl⟩ (hl1.push _) ?_ (fun d => by simp) fun h' tk ds hk hS hm => ?_
      · exact ⟨_, #[], 0, .fresh 0 0 b, Heap.get?_push_of_some _ at0, ⟨rfl, rfl, rfl⟩, rfl, eb ▸ dge_fresh b, fun e he => by cases he⟩
      · show wpAny _ _ _ _ _ _
        refine wpAny_pure ?_
        show wpAny _ _ (ret Value.none) _ _ _
        refine wpAny_pure ⟨rfl, h', tk, ds, rfl, hS, hm, fun c o hc e => hk c o (Nat.ne_of_lt hc) (Nat.ne_of_lt (by rw [jS]; exact Nat.lt_succ_of_lt hc)) (Heap.get?_push_of_some _ (Heap.get?_push_of_some _ e))⟩
    · match r2, hr2 with
      | .error e, hr2 => exact hr2
      | .ok (.ret v), hr2 =>
        obtain ⟨ev, h', tk, ds, es, hS, hm, hk⟩ := hr2
        subst ev es
        repeat (any_goals (first | assumption | wp_step))
        exact h _ _ _ hS hm hk
      | .ok .next, hr2 => exact hr2.elim
      | .ok .brk, hr2 => exact hr2.elim
      | .ok .cont, hr2 => exact hr2.elim
  | .ok .next, hr => exact hr.elim
  | .ok .brk, hr => exact hr.elim
  | .ok .cont, hr => exact hr.elim
end
end L2

set_option Elab.async false
set_option linter.all false
set_option maxRecDepth 100000
set_option maxHeartbeats 4000000
namespace L2
open PySem PySem.Spec PyProof.Rows
theorem pick_go {α : Type} (next : Nat → Nat) : ∀ (fuel k : Nat) (left : List α) (out : Array α), left.length = fuel → List.Perm (pickOrder.go next fuel k left out).toList (out.toList ++ left)
  | 0, k, left, out, h => by
    unfold pickOrder.go
    rw [List.length_eq_zero_iff.mp h, List.append_nil]
  | fuel + 1, k, left, out, h => by
    unfold pickOrder.go
    have hlt : next k % left.length < left.length := Nat.mod_lt _ (by omega)
    rw [List.getElem?_eq_getElem hlt]
    dsimp only
    refine (pick_go next fuel (k + 1) _ _ (by rw [List.length_eraseIdx, if_pos hlt, h]; rfl)).trans ?_
    rw [Array.toList_push, List.append_assoc]
    refine List.Perm.append_left _ ?_
    generalize next k % left.length = i at hlt
    rw [List.eraseIdx_eq_take_drop_succ]
    show List.Perm (left[i] :: (left.take i ++ left.drop (i + 1))) left
    refine List.perm_middle.symm.trans ?_
    rw [← List.drop_eq_getElem_cons hlt, List.take_append_drop]
theorem pick_perm {α : Type} (next : Nat → Nat) (xs : Array α) : List.Perm (pickOrder next xs).toList xs.toList := by
  have := pick_go next xs.size 0 xs.toList #[] (by simp)
  simpa [pickOrder] using this
theorem slot_seti_next : Slot "set_iterator" "__next__" "set_iterator.__next__" :=
  .of (owner := "set_iterator") (n := "__next__") (by rw [typeLookup_type, builtinLookup_eq_fast]; kernel_rfl) (by decide +kernel) (by decide +kernel) (by decide +kernel)
    (by first | exact .inl (by decide +kernel) | exact .inr (by decide +kernel)) (by rw [isSubtype_type]; kernel_rfl)
theorem entry_seti_next : entryFor table "set_iterator.__next__" = some Builtin.«set_iterator.__next__» := entryFor_of_tree (by kernel_rfl)
theorem args_seti_next (a : Value) : argsOk "set_iterator.__next__" ⟨[a], []⟩ := by
  unfold argsOk; kernel_rfl
theorem slot_seti_iter : Slot "set_iterator" "__iter__" "set_iterator.__iter__" :=
  .of (owner := "set_iterator") (n := "__iter__") (by rw [typeLookup_type, builtinLookup_eq_fast]; kernel_rfl) (by decide +kernel) (by decide +kernel) (by decide +kernel)
    (by first | exact .inl (by decide +kernel) | exact .inr (by decide +kernel)) (by rw [isSubtype_type]; kernel_rfl)
theorem entry_seti_iter : entryFor table "set_iterator.__iter__" = some Builtin.«dict_keyiterator.__iter__» := entryFor_alias (id' := "dict_keyiterator.__iter__") (by kernel_rfl) rfl (by decide +kernel) (by kernel_rfl)
theorem args_seti_iter (a : Value) : argsOk "set_iterator.__iter__" ⟨[a], []⟩ := by
  unfold argsOk; kernel_rfl
theorem entry_set_iter' : entryFor table "set.__iter__" = some Builtin.«frozenset.__iter__» := entryFor_alias (id' := "frozenset.__iter__") (by kernel_rfl) rfl (by decide +kernel) (by kernel_rfl)
/-- the order of a walk -/
def wOrd (w : World) (a : Addr) (es : Array (Int × Value)) (ep : Nat) : Array (Int × Value) := if byTxt w = true then pickOrder (w.params.setOrder a ep) es else es
theorem wOrd_perm (w : World) (a : Addr) (es : Array (Int × Value)) (ep : Nat) : List.Perm (wOrd w a es ep).toList es.toList := by
  unfold wOrd
  split
  · exact pick_perm _ _
  · exact .refl _
theorem wOrd_size (w : World) (a : Addr) (es : Array (Int × Value)) (ep : Nat) : (wOrd w a es ep).size = es.size := by
  have := (wOrd_perm w a es ep).length_eq
  simpa using this
/-- the place that a walk has come to -/
def wSlot (w : World) (t : SetTable) : Nat → Nat
  | 0 => 0
  | i + 1 => if byTxt w = true then 0 else t.place.getD i 0 + 1
theorem slot_text {w : World} {t : SetTable} (h : byTxt w = true) : ∀ i, wSlot w t i = 0
  | 0 => rfl
  | i + 1 => if_pos h
theorem slot_succ {w : World} {t : SetTable} (h : byTxt w = false) (i : Nat) : wSlot w t (i + 1) = t.place.getD i 0 + 1 := if_neg (by rw [h]; simp)
def SetIt (h : Heap) (I a : Addr) (sl i n ep : Nat) : Prop := ∃ o, h.get? I = some o ∧ o.cls = .type "set_iterator" ∧ o.data = .fields #[.int (sl : Nat) 0, .int (i : Nat) 0, .ref a, .int (n : Nat) 0, .int (ep : Nat) 0]
theorem SetIt.typeIs {s : Shared} {I a : Addr} {sl i n ep : Nat} (x : SetIt s.heap I a sl i n ep) : s.TypeIs (.ref I) "set_iterator" := let ⟨o, ho, hc, _⟩ := x; ⟨o, ho, hc⟩
/-- a set of digits, its entries and its table named -/
def DAt (b : Bool) (h : Heap) (a : Addr) (es : Array (Int × Value)) (ep : Nat) (t : SetTable) : Prop := ∃ o, h.get? a = some o ∧ o.ExactSet ∧ o.data = .set es ep t ∧ Dg es t b
section
variable {prog : Program} {w : World} {A : Around} {E : Value → Shared → Prop} {s : Shared} {a I : Addr} {es : Array (Int × Value)} {ep : Nat} {t : SetTable}
theorem wpAny_pyIter_setD {Q : Value → Shared → Prop} (hd : DAt (!byTxt w) s.heap a es ep t)
    (hQ : Q (.ref s.heap.objs.size) { s with heap := s.heap.push { cls := .type "set_iterator", data := .fields #[.int (0 : Nat) 0, .int (0 : Nat) 0, .ref a, .int (es.size : Nat) 0, .int (ep : Nat) 0] } }) :
    wpAny (model prog w) A (pyIter (.ref a)) Q E s := by
  obtain ⟨o, ho, hx, hdat, hg⟩ := hd
  have hf := hg.fits
  have hT : s.TypeIs (.ref a) "set" := ⟨o, ho, hx.1⟩
  refine wpAny_pyIter_slot hT PySem.F.slot_set_iter (wpAny_call_entry PySem.F.slot_set_iter hT entry_set_iter' ?_ (PySem.F.args_set_iter_1 _))
  unfold Builtin.«frozenset.__iter__» Builtin.Frozenset.slot0
  refine wpAny_bind (wpAny_bind (wpAny_pure ?_))
  refine wpAny_pure ?_
  unfold Builtin.Frozenset.sizeOf setEntries
  refine wpAny_bind (wpAny_bind (wpAny_bind (wpAny_setState_of ho hdat hf (wpAny_pure (wpAny_pure ?_)))))
  unfold setDrawn setsByText
  refine wpAny_bind (wpAny_bind (wpAny_setState_of ho hdat hf ?_))
  refine wpAny_bind (wpAny_bind (wpAny_askSetting (wpAny_pure (wpAny_pure ?_))))
  refine wpAny_ite_split (fun hab => absurd (show (!(byTxt w) && (!t.plain && decide (es.size > 1))) = true from hab) (by rw [hg.plain]; simp)) (fun _ => wpAny_bind (wpAny_pure ?_))
  refine wpAny_bind (wpAny_setEpoch_of ho hdat hf ?_)
  refine wpAny_bind (wpAny_newObj_type ?_)
  exact wpAny_pure ⟨_, rfl, "set_iterator", _, ⟨_, Heap.get?_push_size _ rfl, rfl⟩, slot_seti_next.lookup, hQ⟩
theorem below_zero {xs : Array Nat} (hr : Rs xs) : SetTable.below xs 0 = 0 := by
  rw [below_eq hr]
  unfold cntB
  rw [List.filter_eq_nil_iff.mpr fun x _ => by simp]
  rfl
theorem below_slot {b : Bool} (hg : Dg es t b) (ht : byTxt w = false) : ∀ (i : Nat), i ≤ t.place.size → SetTable.below t.place (wSlot w t i) = i
  | 0, _ => below_zero hg.ti.rs
  | i + 1, hi => by
    rw [slot_succ ht]
    exact below_next hg.ti.rs (by simp [Array.getD, show i < t.place.size by omega])
theorem setNextD {Q : Option (Value × Nat) → Shared → Prop} {i : Nat} (hi : i ≤ es.size) (hd : DAt (!byTxt w) s.heap a es ep t)
    (hQ : Q ((wOrd w a es ep)[i]?.map fun e => (e.2, wSlot w t (i + 1))) s) :
    wpAny (model prog w) A (setNext a (wSlot w t i) i ep) Q E s := by
  obtain ⟨o, ho, hx, hdat, hg⟩ := id hd
  have hf := hg.fits
  unfold setNext setsByText
  refine wpAny_bind (wpAny_setState_of ho hdat hf ?_)
  refine wpAny_bind (wpAny_bind (wpAny_askSetting (wpAny_pure ?_)))
  refine wpAny_ite_split (fun hab => ?_) (fun hab => ?_)
  · have ht : byTxt w = true := hab
    rw [if_neg (by simp)]
    unfold setWalk setsByText
    refine wpAny_bind (wpAny_bind (wpAny_setState_of ho hdat hf ?_))
    refine wpAny_bind (wpAny_bind (wpAny_askSetting (wpAny_pure ?_)))
    refine wpAny_ite_split (fun _ => ?_) (fun hn => absurd hab hn)
    refine wpAny_bind (wpAny_askSetting (wpAny_pure (wpAny_pure ?_)))
    rw [slot_text ht] at hQ ⊢
    unfold wOrd at hQ
    rw [if_pos ht] at hQ
    exact hQ
  · have ht : byTxt w = false := Bool.eq_false_iff.mpr hab
    refine wpAny_ite_split (fun hdr => absurd (show (!t.plain && decide (es.size > 1)) = true from hdr) (by rw [hg.plain]; simp)) (fun _ => ?_)
    have hled : t.led = true := by rw [hg.ti.led, ht]; rfl
    show wpAny _ _ (_ >>= _) _ _ _
    refine wpAny_bind (wpAny_of_eq (a := ()) (show (if (!t.led && !es.isEmpty) = true then (unsupported "set:maker-not-led" : Sem Unit) else pure ()) = pure () by rw [hled]; rfl) ?_)
    refine wpAny_pure ?_
    rw [below_slot hg ht i (by rw [hg.len]; exact hi)]
    unfold wOrd at hQ
    rw [if_neg (by rw [ht]; simp), slot_succ ht] at hQ
    by_cases hlt : i < es.size
    · have e1 : es[i]? = some es[i] := by simp [hlt]
      have hlt' : i < t.place.size := by rw [hg.len]; exact hlt
      have e2 : t.place[i]? = some (t.place.getD i 0) := by simp [Array.getD, hlt']
      rw [e1] at hQ ⊢
      rw [e2]
      exact hQ
    · have e1 : es[i]? = none := Array.getElem?_eq_none (by omega)
      rw [e1] at hQ ⊢
      exact hQ
theorem pyNext_setD_item {Q : Option Value → Shared → Prop} {i : Nat} {e : Int × Value} (hit : SetIt s.heap I a (wSlot w t i) i es.size ep) (hd : DAt (!byTxt w) s.heap a es ep t) (he : (wOrd w a es ep)[i]? = some e)
    (hQ : ∀ h', SetIt h' I a (wSlot w t (i + 1)) (i + 1) es.size ep → Heap.SameBut I s.heap h' → Q (some e.2) { s with heap := h' }) :
    wpAny (model prog w) A (pyNext (.ref I)) Q E s := by
  obtain ⟨oI, hoI, hcI, hdI⟩ := id hit
  obtain ⟨o, ho, hx, hdat, hg⟩ := id hd
  have hf := hg.fits
  unfold pyNext
  refine wpAny_bind (wpAny_attempt (wpAny_callSpecial?_slot (name := Str.ofString "__next__") hit.typeIs slot_seti_next
    (wpAny_call_entry slot_seti_next hit.typeIs entry_seti_next ?_ (args_seti_next _))))
  unfold Builtin.«set_iterator.__next__»
  refine wpAny_bind (wpAny_pure ?_)
  refine wpAny_bind (wpAny_fieldsOf hoI hdI ?_)
  dsimp only
  unfold setEntries
  refine wpAny_bind (wpAny_bind (wpAny_setState_of ho hdat hf (wpAny_pure ?_)))
  rw [if_neg (by simp)]
  have hi : i < es.size := by
    have := (Array.getElem?_eq_some_iff.mp he).1
    rwa [wOrd_size] at this
  simp only [Int.toNat_natCast]
  refine wpAny_bind (setNextD (Nat.le_of_lt hi) hd ?_)
  rw [he]
  dsimp only [Option.map_some]
  refine wpAny_bind (wpAny_setField hoI hdI (by simp) ?_)
  have h1 := Heap.get?_update_self (Obj.mapFields (·.setIfInBounds 0 (rawInt ((wSlot w t (i + 1) : Nat) : Int)))) hoI (Obj.isFreed_of_fields (Obj.data_mapFields hdI _))
  have d1 := Obj.data_mapFields hdI (·.setIfInBounds 0 (rawInt ((wSlot w t (i + 1) : Nat) : Int)))
  refine wpAny_bind (wpAny_setField h1 d1 (by simp) ?_)
  refine wpAny_pure ⟨_, rfl, wpAny_pure (hQ _ ⟨_, Heap.get?_update_self _ h1 (Obj.isFreed_of_fields (Obj.data_mapFields d1 _)), ?_, ?_⟩ ((Heap.SameBut.update ..).trans (Heap.SameBut.update ..)))⟩
  · rw [Obj.cls_mapFields, Obj.cls_mapFields]
    exact hcI
  · rw [Obj.data_mapFields d1]
    simp [rawInt]
theorem pyNext_setD_end {Q : Option Value → Shared → Prop} (hh : A.handled = none) (hit : SetIt s.heap I a (wSlot w t es.size) es.size es.size ep) (hd : DAt (!byTxt w) s.heap a es ep t)
    (hQ : ∀ h', Heap.ExtBut I s.heap h' → Q none { s with heap := h' }) :
    wpAny (model prog w) A (pyNext (.ref I)) Q E s := by
  obtain ⟨oI, hoI, hcI, hdI⟩ := id hit
  obtain ⟨o, ho, hx, hdat, hg⟩ := id hd
  have hf := hg.fits
  unfold pyNext
  refine wpAny_bind (wpAny_attempt (wpAny_callSpecial?_slot (name := Str.ofString "__next__") hit.typeIs slot_seti_next
    (wpAny_call_entry slot_seti_next hit.typeIs entry_seti_next ?_ (args_seti_next _))))
  unfold Builtin.«set_iterator.__next__»
  refine wpAny_bind (wpAny_pure ?_)
  refine wpAny_bind (wpAny_fieldsOf hoI hdI ?_)
  dsimp only
  unfold setEntries
  refine wpAny_bind (wpAny_bind (wpAny_setState_of ho hdat hf (wpAny_pure ?_)))
  rw [if_neg (by simp)]
  simp only [Int.toNat_natCast]
  refine wpAny_bind (setNextD (Nat.le_refl _) hd ?_)
  rw [Array.getElem?_eq_none (by rw [wOrd_size]; exact Nat.le_refl _)]
  dsimp only [Option.map_none]
  refine wpAny_bind (wpAny_setField hoI hdI (by simp) ?_)
  show wpAny _ _ (newExc (.type "StopIteration") [] >>= _) _ _ _
  refine wpAny_bind ?_
  simp only [newExc, newTuple]
  refine wpAny_bind (wpAny_newObj_type ?_ (by size_fits))
  refine wpAny_bind (m := firstArgMember _ _) (wpAny_of_eq (a := Value.none) (by first | rfl | (simp only [firstArgMember]; rfl)) ?_)
  refine wpAny_newObj_type ?_ (by size_fits)
  simp only [raiseNew]
  refine wpAny_bind (wpAny_handled ?_)
  rw [show A.in1.handled = none from hh]
  refine wpAny_bind (wpAny_pure (wpAny_throw ?_))
  refine wpAny_bind (wpAny_isInstance (T := "StopIteration") (b := true) ⟨_, Heap.get?_push_size _ rfl, rfl⟩ isSubtype_stop ?_)
  exact wpAny_pure (hQ _ (((Heap.SameBut.update ..).extBut.push _).push _))
end
end L2

set_option Elab.async false
set_option linter.all false
set_option maxRecDepth 100000
set_option maxHeartbeats 4000000
namespace L2
open PySem PySem.Spec PyProof.Rows PySem.W
section
variable {prog : Program} {w : World} {A : Around} {E : Value → Shared → Prop} {s : Shared} {a : Addr} {es : Array (Int × Value)} {ep : Nat} {t : SetTable}
theorem hint_setD {Q : Bool → Shared → Prop} (hT : s.TypeIs (.ref a) "set") (h : Q false s) : wpAny (model prog w) A (Builtin.List.listLengthHint (.ref a)) Q E s := by
  unfold Builtin.List.listLengthHint
  refine wpAny_bind (wpAny_specialOf hT PySem.F.slot_set_len.lookup ?_)
  generalize hid : ("set.__len__" : String) = id0
  wp_delta
  rw [show splitId id0 = some ("set", "__len__") from by subst hid; decide +kernel]
  subst hid
  refine wpAny_bind (wpAny_isInstance (T := "set") (b := true) hT (by rw [isSubtype_type]; kernel_rfl) ?_)
  refine wpAny_ite_split (fun hab => absurd hab (by decide)) (fun _ => ?_)
  refine wpAny_ite_split (fun _ => ?_) (fun hab => absurd (by decide +kernel) hab)
  refine wpAny_bind (wpAny_typeOf hT ?_)
  exact wpAny_pure h
theorem DAt.keep {b : Bool} {h h' : Heap} (x : DAt b h a es ep t) (k : ∀ o, h.get? a = some o → h'.get? a = some o) : DAt b h' a es ep t := let ⟨o, ho, r⟩ := x; ⟨o, k o ho, r⟩
theorem SetIt.keep {h h' : Heap} {I a : Addr} {sl i n ep : Nat} (x : SetIt h I a sl i n ep) (k : ∀ o, h.get? I = some o → h'.get? I = some o) : SetIt h' I a sl i n ep := let ⟨o, ho, r⟩ := x; ⟨o, k o ho, r⟩
theorem pyIter_seti {Q : Value → Shared → Prop} {I a : Addr} {sl i n ep : Nat} (hit : SetIt s.heap I a sl i n ep) (h : Q (.ref I) s) : wpAny (model prog w) A (pyIter (.ref I)) Q E s := by
  refine wpAny_pyIter_slot hit.typeIs slot_seti_iter (wpAny_call_entry slot_seti_iter hit.typeIs entry_seti_iter ?_ (args_seti_iter _))
  show wpAny _ _ (ret (.ref I)) _ _ s
  exact wpAny_pure ⟨_, rfl, "set_iterator", _, hit.typeIs, slot_seti_next.lookup, h⟩
theorem walks_setD (hh : A.handled = none) (I : Addr) (hne : a ≠ I) : Walks prog w A I [I, a] [I] es.size (fun i v => ∃ e, (wOrd w a es ep)[i]? = some e ∧ v = e.2) (fun i h => SetIt h I a (wSlot w t i) i es.size ep ∧ DAt (!byTxt w) h a es ep t) where
  sub := fun b hb => by simp at hb; simp [hb]
  frame := fun _ _ _ st hk => ⟨st.1.keep fun o e => hk I (by simp) o e, st.2.keep fun o e => hk a (by simp) o e⟩
  item := fun i s Q E hi st hQ => by
    have hi' : i < (wOrd w a es ep).size := by rw [wOrd_size]; exact hi
    have he : (wOrd w a es ep)[i]? = some ((wOrd w a es ep)[i]'hi') := Array.getElem?_eq_getElem hi'
    refine pyNext_setD_item st.1 st.2 he fun h' hit' hs' => ?_
    exact hQ _ h' s.toks ⟨_, he, rfl⟩ ⟨hit', st.2.keep fun o e => hs'.extBut a o hne e⟩ fun b o hb e => hs'.extBut b o (fun h => hb (by simp [h])) e
  done := fun s Q E st hQ => pyNext_setD_end hh st.1 st.2 fun h' he' => hQ h' s.toks fun b o hb e => he' b o (fun h => hb (by simp [h])) e
  self := fun _ _ _ _ st hQ => pyIter_seti st.1 hQ
theorem kdl_setD : KdlSrc prog w "set" a a es.size (fun i v => ∃ e, (wOrd w a es ep)[i]? = some e ∧ v = e.2) (fun h => DAt (!byTxt w) h a es ep t) where
  type := fun _ hm => let ⟨o, ho, hx, _⟩ := hm; ⟨o, ho, hx.1⟩
  there := fun _ hm => let ⟨o, ho, _⟩ := hm; ⟨Heap.lt_size ho, Heap.lt_size ho⟩
  keep := fun _ _ hm hk => hm.keep fun o e => hk a (.inl rfl) o e
  notList := by decide
  notTuple := by decide
  hint := fun _ _ _ _ hm hq => hint_setD (let ⟨o, ho, hx, _⟩ := hm; ⟨o, ho, hx.1⟩) hq
  iter := fun _ s hh hm => ⟨_, _, (fun _ _ hq => wpAny_pyIter_setD hm hq), walks_setD hh _ (let ⟨o, ho, _⟩ := hm; Nat.ne_of_lt (Heap.lt_size ho)), ⟨⟨_, Heap.get?_push_size _ rfl, rfl, rfl⟩, hm.keep fun o e => Heap.get?_push_of_some _ e⟩⟩
theorem ints_items {ns : List Int} {acc : Array Value} {W : Array (Int × Value)} (hi : ItemsOf (fun i v => ∃ e, W[i]? = some e ∧ v = e.2) acc W.size) (hv : ∀ e ∈ W.toList, ∃ tk, e.2 = Value.int e.1 tk) : IntsAre acc.toList (W.toList.map Prod.fst) := by
  have key : ∀ (us : List Value) (es : List (Int × Value)), us.length = es.length → (∀ (i : Nat) u, us[i]? = some u → ∃ e, es[i]? = some e ∧ u = e.2) → (∀ e ∈ es, ∃ tk, e.2 = Value.int e.1 tk) → IntsAre us (es.map Prod.fst) := by
    intro us
    induction us with
    | nil =>
      intro es hl _ _
      cases es with
      | nil => exact .nil
      | cons e es => cases hl
    | cons u us ih =>
      intro es hl hi hv
      cases es with
      | nil => cases hl
      | cons e es =>
        obtain ⟨e', h1, h2⟩ := hi 0 u rfl
        obtain rfl : e = e' := by simpa using h1
        obtain ⟨tk, h3⟩ := hv e (List.mem_cons_self ..)
        rw [h2, h3]
        exact .cons _ tk (ih es (by simpa using hl) (fun i u hu => hi (i + 1) u (by simpa using hu)) fun e he => hv e (List.mem_cons_of_mem _ he))
  refine key _ _ ?_ (fun i u hu => ?_) hv
  · rw [Array.length_toList, Array.length_toList]
    exact hi.1
  · obtain ⟨e, h1, h2⟩ := hi.2 i u (by rw [← Array.getElem?_toList]; exact hu)
    exact ⟨e, by rw [Array.getElem?_toList]; exact h1, h2⟩
theorem sorted_setD {ds : List Nat} {Q : Value → Shared → Prop} (hh : A.handled = none) (hd : DIs (!byTxt w) s.heap a ds)
    (h : ∀ (h1 h' : Heap) (tk : Nat) (out : Array Value) (e : Nat) (ns' : List Int), (∀ b o, s.heap.get? b = some o → h1.get? b = some o) → (∀ b o, h1.get? b = some o → h'.get? b = some o) → h'.get? h1.objs.size = some (seqObj "list" out e) → IntsAre out.toList ns' → ns'.Perm (ds.map fun (d : Nat) => (d : Int)) → ns'.Pairwise (· ≤ ·) → Q (.ref h1.objs.size) { s with heap := h', toks := tk }) :
    wpAny (model prog w) A (call (.builtin "sorted") [.ref a]) Q E s := by
  obtain ⟨o, es, ep, t, ho, hx, hdat, hg, hv⟩ := hd
  have hs := hg.dg.small
  have h9 : es.size ≤ sizeLine := fits_of_scanBound (by unfold scanBound; omega)
  refine Calls.call_function_entry kind_sorted plain_sorted entry_sorted (args_sorted1 _) ?_
  unfold Builtin.«sorted»
  refine wpAny_bind (m := checkCount "sorted" 1 1 _) (wpAny_pure ?_)
  refine wpAny_bind (kdu_collect (A := A.in1) (kdl_setD (a := a) (es := es) (ep := ep) (t := t)) hh ⟨o, ho, hx, hdat, hg.dg⟩ h9 fun h' tk acc hk hacc => ?_)
  have wp := wOrd_perm w a es ep
  have hacc' := hacc
  rw [← wOrd_size w a es ep] at hacc'
  have hI := ints_items (ns := []) hacc' fun e he => hv e (wp.mem_iff.mp he)
  have hl : acc.toList.length = es.size := by rw [Array.length_toList]; exact hacc.1
  have hp : List.Perm ((wOrd w a es ep).toList.map Prod.fst) (ds.map fun (d : Nat) => (d : Int)) := by
    have := wp.map Prod.fst
    have he := hg.he
    rw [show (fun (x : Int × Value) => x.1) = Prod.fst from rfl] at he
    rwa [he] at this
  refine wpAny_bind (wpAny_newList ?_ (by rw [hl]; exact h9))
  have hoL : (h'.push (seqObj "list" acc.toList.toArray 0)).get? h'.objs.size = some (seqObj "list" acc.toList.toArray 0) := Heap.get?_push_size _ rfl
  show wpAny _ _ _ _ _ { s with heap := h'.push (seqObj "list" acc.toList.toArray 0), toks := tk }
  refine wpAny_bind (wpAny_holding (wpAny_call_entry slot_list_sort ⟨_, hoL, rfl⟩ entry_list_sort (list_sort_tree hoL hI (by omega) fun out ns' a1 a2 a3 => ⟨_, rfl, ?_⟩) (args_list_sort _)))
  obtain ⟨e, he⟩ := sortedHeap_at (vs := acc.toList) (out := out) hoL
  exact wpAny_pure ⟨_, rfl, h h' _ tk out e ns' hk (fun b o q1 => by
    have hb := Heap.lt_size q1
    rw [sortedHeap_old (Nat.ne_of_lt hb) (by rw [Heap.size_push]; exact Nat.lt_succ_of_lt hb)]
    exact Heap.get?_push_of_some _ q1) he a1 (a2.trans hp) a3⟩
end
/-- a set of digits, tracked -/
def DSet (w : World) (a : Addr) (ds : List Nat) : HO := .ext fun h => DIs (!byTxt w) h a ds
def nI (d : Nat) : V := .int (d : Int)
section
variable {X : Cx}
theorem kcall_setD (K : PySem.W.Frag) (hc : X.calm = true) (hK : X.K = K := by rfl) : CallR X (.type "set") (fun xs H Q => ∃ (p : Addr) (ys : List Nat), xs = [.ref p] ∧ SqL K H p (ys.map nI) ∧ (∀ y ∈ ys, y < 9) ∧ ∀ (a : Addr) (ds : List Nat), H a = none → ds.Nodup → (∀ d, d ∈ ds ↔ d ∈ ys) → Q (.ref a) (upd H a (DSet X.w a ds))) := by
  subst hK
  intro pins s σ H xs us Q I r h
  obtain ⟨p, ys, rfl, hq, hz, q⟩ := h
  obtain ⟨u, rfl, ru⟩ := vals1 r
  cases ru
  obtain ⟨its, rv, pl, _⟩ := I.list hq
  have hl := rv.length
  rw [List.length_map] at hl
  refine set_madeD (I.ok.hd hc) pl.isList (ys := ys) (fun i v hv => ?_) (by simpa using hl.symm) hz fun h' tk ds hS hm hk => ?_
  · have hv' : its[i]? = some v := by simpa using hv
    have hi := (List.getElem?_eq_some_iff.mp hv').1
    have e1 : (ys.map nI)[i]? = some (nI (ys.getD i 0)) := by
      rw [List.getElem?_map]
      simp [List.getD, show i < ys.length by omega]
    obtain ⟨u, hu, t, e⟩ := rv.get e1
    rw [hv'] at hu
    cases hu
    exact ⟨t, e⟩
  have fr := I.hok.fresh (Nat.le_refl s.heap.objs.size)
  have nd : ds.Nodup := by obtain ⟨_, _, _, _, _, _, _, hg, _⟩ := hS; exact hg.nd
  refine ⟨.ref s.heap.objs.size, _, I.laid (t' := tk) (o := DSet X.w s.heap.objs.size ds) (fun b o e => hk b o (Heap.lt_size e) e) (Nat.le_refl _) ⟨hS, ?_, fun h1 h2 z k => z.keep k⟩, rfl, q _ ds fr nd hm⟩
  obtain ⟨o, _, _, _, ho, _⟩ := hS
  exact ⟨o, ho⟩
theorem kcall_sortedD (hc : X.calm = true) : CallR X (.builtin "sorted") (fun xs H Q => ∃ (a : Addr) (ds : List Nat), xs = [.ref a] ∧ H a = some (DSet X.w a ds) ∧ ∀ (l : Addr) (ms : List Nat), H l = none → ms.Perm ds → ms.Pairwise (· ≤ ·) → Q (.ref l) (upd H l (.lst (ms.map nI)))) := by
  intro pins s σ H xs us Q I r h
  obtain ⟨a, ds, rfl, ha, q⟩ := h
  obtain ⟨u, rfl, rx⟩ := vals1 r
  cases rx
  have hd := (I.hok a _ ha).1
  refine sorted_setD (I.ok.hd hc) hd fun h1 h' tk out e ns' k1 k2 he a1 a2 a3 => ?_
  have I1 : Inv X pins σ H { s with heap := h1, toks := tk } := I.un (Un.kept k1) (I.hok.kept k1)
  have sm : ds.length ≤ 9 := by
    obtain ⟨_, _, _, _, _, _, _, hg, _⟩ := hd
    rw [← hg.len]
    exact hg.dg.small
  have en : ns' = (ns'.map Int.toNat).map fun (d : Nat) => (d : Int) := by
    rw [List.map_map]
    have : ns'.map id = ns'.map ((fun (d : Nat) => (d : Int)) ∘ Int.toNat) := List.map_congr_left fun z hz => by
      obtain ⟨d, _, e⟩ := List.mem_map.mp (a2.mem_iff.mp hz)
      rw [← e]
      rfl
    rwa [List.map_id] at this
  have ep : List.Perm (ns'.map Int.toNat) ds := by
    have := a2.map Int.toNat
    simpa [List.map_map, Function.comp_def] using this
  refine ⟨.ref h1.objs.size, _, I1.laid (t' := tk) (o := .lst ((ns'.map Int.toNat).map nI)) k2 (Nat.le_refl _) ?_, rfl, q _ (ns'.map Int.toNat) (I1.hok.fresh (Nat.le_refl _)) ep ?_⟩
  · refine ⟨by rw [List.length_map, ep.length_eq]; exact Nat.le_trans sm (fits_of_scanBound (by unfold scanBound; omega)), out.toList, e, ?_, ?_⟩
    · have := ints_vals a1
      rw [en, List.map_map] at this
      rw [List.map_map] at *
      exact this
    · simpa [seqObj] using he
  · rw [List.pairwise_map]
    exact a3.imp fun h => Int.toNat_le_toNat h
end
end L2

set_option Elab.async false
set_option linter.all false
set_option maxRecDepth 100000
set_option maxHeartbeats 4000000
namespace L2
open PySem PySem.Spec PyProof.Rows
section
variable {X : Cx}
/-- z.index(y), found -/
def rIndexS : V → List V → Hp → VK → Prop := fun x vs H Q => ∃ (z y : Str) (i : Nat) (rest : List Nat), x = .str z ∧ vs = [.str y] ∧ Builtin.Str.occurrences z y 0 z.length 1 = i :: rest ∧ Q (.int i) H
theorem mt_indexS : MtR X "str.index" rIndexS := by
  intro pins s σ H x vs v us Q I rx rv h
  obtain ⟨z, y, i, rest, rfl, rfl, ho, q⟩ := h
  obtain ⟨t, rfl⟩ := rx
  obtain ⟨u, rfl, t', rfl⟩ := vals1 rv
  exact SC.index ho ⟨.int _, H, I.tok _, ⟨_, rfl⟩, q⟩
def isNon : V → Bool
  | .non => true
  | _ => false
def isNoneV : Value → Bool
  | .none => true
  | _ => false
/-- None in a list of Nones and tuples -/
def rInN (K : PySem.W.Frag) : R2 := fun x y H Q => ∃ p xs, x = .non ∧ y = .ref p ∧ SqL K H p xs ∧ (∀ z ∈ xs, z = .non ∨ ∃ a ys, z = .ref a ∧ H a = some (.tup ys)) ∧ Q (.bl (xs.any isNon)) H
theorem any_non {H : Hp} : ∀ {xs : List V} {us : List Value}, Vals xs us → (∀ z ∈ xs, z = .non ∨ ∃ a ys, z = .ref a ∧ H a = some (.tup ys)) → us.any isNoneV = xs.any isNon
  | _, _, .nil, _ => rfl
  | x :: xs, u :: us, .cons r t, h => by
    rw [List.any_cons, List.any_cons, any_non t fun z hz => h z (List.mem_cons_of_mem _ hz)]
    congr 1
    rcases h x (List.mem_cons_self ..) with rfl | ⟨a, ys, rfl, _⟩
    · cases r
      rfl
    · cases r
      rfl
theorem op_inN (K : PySem.W.Frag) {k : Nat} (hr : Room k X.A) (hK : X.K = K := by rfl) : OpR X (compareOp .In) (rInN K) := by
  subst hK
  intro pins s σ H x y v u Q I rx ry h
  obtain ⟨p, xs, rfl, rfl, hq, hz, q⟩ := h
  cases rx
  cases ry
  obtain ⟨its, r, pl, _⟩ := I.list hq
  have hu : X.A.in1.units < cLine := hu_of hr
  refine SeqAt.in_listAt isNoneV pl.isList (fun w hw => ?_) ⟨.bl _, H, I, rfl, ?_⟩
  · have hw' : w ∈ its := by simpa using hw
    obtain ⟨i, hi⟩ := List.getElem?_of_mem hw'
    have hl := r.length
    have hil := (List.getElem?_eq_some_iff.mp hi).1
    have hx : xs[i]? = some (xs[i]'(by omega)) := List.getElem?_eq_getElem (by omega)
    obtain ⟨w', hw1, rw'⟩ := r.get hx
    rw [hi] at hw1
    cases hw1
    generalize xs[i]'(by omega) = z at hx rw'
    rcases hz z (List.mem_of_getElem? hx) with rfl | ⟨a, ys, rfl, ha⟩
    · cases rw'
      exact SeqAt.EqAt.same _
    · cases rw'
      obtain ⟨_, us, q1, p1⟩ := I.hok a _ ha
      exact SeqAt.EqAt.tuple_none p1.isTup hu
  · rw [show its.toArray.any isNoneV = its.any isNoneV by simp, any_non r hz]
    exact q
/-- == of None and None, or of two tuples that are alike -/
def rEqN (n : Nat) : R2 := fun x y H Q => (x = .non ∧ y = .non ∧ Q (.bl true) H) ∨ rEqD n x y H Q
theorem op_eqN (n : Nat) {k : Nat} (hr : Room k X.A) (hn : n ≤ 20) : OpR X (compareOp .Eq) (rEqN n) := by
  intro pins s σ H x y v u Q I rx ry h
  rcases h with ⟨rfl, rfl, q⟩ | h
  · cases rx
    cases ry
    exact SeqAt.RcAt.none_none X.prog X.w _ _ ⟨.bl true, H, I, rfl, q⟩
  · exact op_eqD n hr hn pins s σ H x y v u Q I rx ry h
/-- != of two lists of flat values -/
def rNeLL (K : PySem.W.Frag) : R2 := fun x y H Q => ∃ p q xs ys, x = .ref p ∧ y = .ref q ∧ SqL K H p xs ∧ SqL K H q ys ∧ xs.all flatV = true ∧ ys.all flatV = true ∧ Q (.bl (!eqVs xs ys)) H
theorem op_neLL (K : PySem.W.Frag) {k : Nat} (hr : Room k X.A) (hK : X.K = K := by rfl) : OpR X (compareOp .NotEq) (rNeLL K) := by
  intro pins s σ H x y v u Q I rx ry h
  obtain ⟨p, q, xs, ys, rfl, rfl, h1, h2, f1, f2, hq⟩ := h
  by_cases hz : xs.length = ys.length
  · exact op_neL K hr hK pins s σ H _ _ v u Q I rx ry ⟨p, q, xs, ys, rfl, rfl, h1, h2, f1, f2, hz, hq⟩
  subst hK
  cases rx
  cases ry
  obtain ⟨us, r1, pl1, _⟩ := I.list h1
  obtain ⟨vs, r2, pl2, _⟩ := I.list h2
  have hu : X.A.units < cLine := Nat.lt_of_succ_lt (hu_of hr)
  have l1 := r1.length
  have l2 := r2.length
  refine SeqAt.RcNeAt.lists_lengths pl1.isList pl2.isList (by simp; omega) hu X.prog X.w _ _ ⟨.bl true, H, I, rfl, ?_⟩
  have e : eqVs xs ys = false := by
    unfold eqVs
    rw [show (xs.length == ys.length) = false from beq_eq_false_iff_ne.mpr hz, Bool.and_false]
  rw [e] at hq
  exact hq
end
end L2

set_option Elab.async false
set_option linter.all false
set_option maxRecDepth 100000
set_option maxHeartbeats 4000000
namespace L4
open PySem L2 PySem.StrLaws
section
variable {X : Addr → Prop} {H0 : Hp} {σ : St} {K : PySem.W.Frag}
end
theorem cut_upto {xs : List V} (b : Nat) (hb : b ≤ xs.length) : cutV xs none (some (b : Int)) = xs.take b := by
  unfold cutV
  rw [HT.sIx_none, HT.sIx_nat, show min b xs.length = b by omega, List.drop_zero, Nat.sub_zero]
end L4

set_option Elab.async false
set_option linter.all false
set_option maxRecDepth 100000
set_option maxHeartbeats 4000000
namespace L4
open PySem L2 PySem.StrLaws Builtin.Str
/-! what a text that is read says -/
theorem one_str {w : Str} (h : w.length = 1) : ∃ c, w = ⟨#[c]⟩ := by
  obtain ⟨⟨l⟩⟩ := w
  match l, h with
  | [c], _ => exact ⟨c, rfl⟩
theorem figs_mem : figures.cps.toList = [48, 49, 50, 51, 52, 53, 54, 55, 56, 57] := by decide +kernel
theorem fig_code : ∀ c ∈ ([48, 49, 50, 51, 52, 53, 54, 55, 56, 57] : List Nat), (⟨#[c]⟩ : Str) = fig ((c : Int) - 48) := by decide +kernel
theorem find_occ (w : Str) : Txt.find figures w = match occurrences figures w 0 figures.length 1 with | i :: _ => (i : Int) | [] => -1 := rfl
/-- a word of one figure, or none -/
theorem word_num (w : Str) : (w.length = 1 ∧ (∃ i rest, occurrences figures w 0 figures.length 1 = i :: rest ∧ numW w = (i : Int)) ∧ Fig (numW w) ∧ w = fig (numW w)) ∨ ((w.length = 1 → occurrences figures w 0 figures.length 1 = []) ∧ numW w = -1) := by
  by_cases h1 : w.length = 1
  · obtain ⟨c, rfl⟩ := one_str h1
    have hf := found_one figures c
    have e : numW ⟨#[c]⟩ = Txt.find figures ⟨#[c]⟩ := if_pos h1
    rw [find_occ] at e
    cases ho : occurrences figures ⟨#[c]⟩ 0 figures.length 1 with
    | nil =>
      rw [ho] at e
      exact .inr ⟨fun _ => rfl, e⟩
    | cons i rest =>
      rw [ho] at e hf
      have hm : c ∈ figures.cps.toList := of_decide_eq_true hf.symm
      rw [figs_mem] at hm
      have hc := fig_code c hm
      have hc2 : Fig ((c : Int) - 48) := by
        simp only [List.mem_cons, List.not_mem_nil, or_false] at hm
        unfold Fig
        omega
      have hn : numW ⟨#[c]⟩ = (c : Int) - 48 := by rw [hc]; exact numW_fig hc2
      refine .inl ⟨h1, ⟨i, rest, rfl, e⟩, by rw [hn]; exact hc2, ?_⟩
      rw [hn]
      exact hc
  · exact .inr ⟨fun z => absurd z h1, if_neg h1⟩
theorem num_fig {w : Str} (h : 0 ≤ numW w) : Fig (numW w) ∧ w = fig (numW w) := by
  rcases word_num w with ⟨_, _, h1, h2⟩ | ⟨_, h1⟩
  · exact ⟨h1, h2⟩
  · omega
theorem nums_fig : ∀ {ws : List Str}, (∀ w ∈ ws, 0 ≤ numW w) → (ws.map numW).map fig = ws
  | [], _ => rfl
  | w :: ws, h => by
    rw [List.map_cons, List.map_cons, nums_fig fun u hu => h u (List.mem_cons_of_mem _ hu), ← (num_fig (h w (List.mem_cons_self ..))).2]
def connW : List Str → Conn
  | n :: p :: r => ⟨n, numW p, r.map fun w => some (numW w)⟩
  | _ => ⟨"", 0, []⟩
theorem gs_some (ns : List Str) : (ns.map fun w => some (numW w)).map (fun o => o.getD 0) = ns.map numW := by
  rw [List.map_map]
  rfl
theorem conn_w {m : Int} {cw : List Str} (h : connB m (connTh cw) = true) : ∃ n p r, cw = n :: p :: r ∧ GoodC m (connW cw) ∧ (∀ o ∈ (connW cw).cs, o ≠ none) ∧ wordsC (connW cw) = cw ∧ nameB (.str n) = true ∧ 0 ≤ numW p ∧ numW p ≤ 2 ∧ (r.length : Int) = m ^ (numW p).toNat ∧ ∀ w ∈ r, 0 ≤ numW w ∧ numW w < m := by
  match cw, h with
  | [], h => cases h
  | [w], h => cases h
  | n :: p :: r, h =>
    have h' : (nameB (.str n) && (wholeB (numT p) && (decide (0 ≤ numW p) && decide (numW p ≤ 2)) && (decide (((r.map numT).length : Int) = m ^ (numW p).toNat) && (r.map numT).all (cellB m)))) = true := h
    simp only [Bool.and_eq_true, decide_eq_true_eq, List.length_map] at h'
    obtain ⟨h1, ⟨_, h2, h3⟩, h4, h5⟩ := h'
    have h6 : ∀ w ∈ r, 0 ≤ numW w ∧ numW w < m := fun w hw => by
      have := List.all_eq_true.mp h5 (numT w) (List.mem_map_of_mem hw)
      have z : (decide (0 ≤ numW w) && decide (numW w < m)) = true := this
      rw [Bool.and_eq_true] at z
      exact ⟨of_decide_eq_true z.1, of_decide_eq_true z.2⟩
    refine ⟨n, p, r, rfl, ⟨name_of h1, h2, h3, ?_, ?_⟩, ?_, ?_, h1, h2, h3, h4, h6⟩
    · show ((r.map fun w => some (numW w)).length : Int) = _
      rw [List.length_map]
      exact h4
    · intro o ho i e
      obtain ⟨w, hw, rfl⟩ := List.mem_map.mp (show o ∈ r.map fun w => some (numW w) from ho)
      cases e
      exact h6 w hw
    · intro o ho e
      obtain ⟨w, hw, rfl⟩ := List.mem_map.mp (show o ∈ r.map fun w => some (numW w) from ho)
      cases e
    · show n :: fig (numW p) :: ((r.map fun w => some (numW w)).map fun o => o.getD 0).map fig = _
      rw [gs_some, nums_fig fun w hw => (h6 w hw).1, ← (num_fig h2).2]
/-- all that a table's text asks -/
structure Asks (n : Str) (ws : List Str) (cs : List (List Str)) : Prop where
  few : cs.length ≤ 8
  n1 : 1 ≤ numW n
  wl : ∀ u ∈ ws, 0 ≤ numW u ∧ numW u < numW n
  ris : (ws.map numW).Pairwise (· < ·)
  each : ∀ cw ∈ cs, connB (numW n) (connTh cw) = true
  nd : (cs.map fun cw => cw.headD "").Nodup
theorem ris_iff : ∀ ws : List Int, risB ws = true ↔ ws.Pairwise (· < ·)
  | [] => ⟨fun _ => .nil, fun _ => rfl⟩
  | [x] => ⟨fun _ => List.pairwise_singleton _ _, fun _ => rfl⟩
  | x :: y :: r => by
    constructor
    · exact ris_pair _
    · intro h
      have h1 := List.pairwise_cons.mp h
      show (decide (x < y) && risB (y :: r)) = true
      rw [decide_eq_true (h1.1 y (List.mem_cons_self ..)), (ris_iff (y :: r)).mpr h1.2]
      rfl
theorem heads_eq {m : Int} {cs : List (List Str)} (h : ∀ cw ∈ cs, connB m (connTh cw) = true) : (cs.map connTh).map (fun t => strTh (headTh t)) = cs.map fun cw => cw.headD "" := by
  rw [List.map_map]
  refine List.map_congr_left fun cw hc => ?_
  obtain ⟨n, p, r, rfl, _⟩ := conn_w (h cw hc)
  rfl
theorem half_asks {n : Str} {ws : List Str} {cs : List (List Str)} : tableB (tableTh ([wGr, n] :: (wWi :: ws) :: cs)) = true ↔ Asks n ws cs := by
  rw [tbl_of]
  constructor
  · intro h
    unfold tableB at h
    rw [Bool.and_eq_true] at h
    have h' : (wholeB (numT n) && (decide (1 ≤ numW n) && decide (numW n ≤ 9)) && (((ws.map numT).all (gradeB (numW n)) && risB ((ws.map numT).map intTh)) && (decide ((cs.map connTh).length ≤ 8) && (cs.map connTh).all (connB (numW n)) && decide (((cs.map connTh).map fun t => strTh (headTh t)).Nodup)))) = true := h.1
    simp only [Bool.and_eq_true, decide_eq_true_eq, List.length_map] at h'
    obtain ⟨⟨_, h1, h2⟩, ⟨h3, h4⟩, ⟨h5, h6⟩, h7⟩ := h'
    have h8 : ∀ cw ∈ cs, connB (numW n) (connTh cw) = true := fun cw hc => List.all_eq_true.mp h6 _ (List.mem_map_of_mem hc)
    refine ⟨h5, h1, fun u hu => ?_, ?_, h8, ?_⟩
    · have z : (decide (0 ≤ numW u) && decide (numW u < numW n)) = true := List.all_eq_true.mp h3 (numT u) (List.mem_map_of_mem hu)
      rw [Bool.and_eq_true] at z
      exact ⟨of_decide_eq_true z.1, of_decide_eq_true z.2⟩
    · rw [List.map_map] at h4
      exact ris_pair _ h4
    · rwa [heads_eq h8] at h7
  · intro a
    have n9 := (num_fig (w := n) (by have := a.n1; omega)).1.2
    unfold tableB
    rw [Bool.and_eq_true]
    constructor
    · show (wholeB (numT n) && (decide (1 ≤ numW n) && decide (numW n ≤ 9)) && (((ws.map numT).all (gradeB (numW n)) && risB ((ws.map numT).map intTh)) && (decide ((cs.map connTh).length ≤ 8) && (cs.map connTh).all (connB (numW n)) && decide (((cs.map connTh).map fun t => strTh (headTh t)).Nodup)))) = true
      simp only [Bool.and_eq_true, decide_eq_true_eq, List.length_map]
      refine ⟨⟨rfl, a.n1, n9⟩, ⟨?_, ?_⟩, ⟨a.few, ?_⟩, ?_⟩
      · rw [List.all_eq_true]
        intro t ht
        obtain ⟨u, hu, rfl⟩ := List.mem_map.mp ht
        have := a.wl u hu
        show (decide (0 ≤ numW u) && decide (numW u < numW n)) = true
        rw [decide_eq_true this.1, decide_eq_true this.2]
        rfl
      · rw [List.map_map]
        exact (ris_iff _).mpr a.ris
      · rw [List.all_eq_true]
        intro t ht
        obtain ⟨cw, hc, rfl⟩ := List.mem_map.mp ht
        exact a.each cw hc
      · rw [heads_eq a.each]
        exact a.nd
    · rw [decide_eq_true_iff]
      show ((cs.map connTh).map fun c => (third c).countP isNonTh).sum = 0
      rw [List.map_map]
      have : cs.map ((fun c => (third c).countP isNonTh) ∘ connTh) = cs.map fun _ => 0 := List.map_congr_left fun cw hc => by
        obtain ⟨n', p, r, rfl, _⟩ := conn_w (a.each cw hc)
        show (r.map numT).countP isNonTh = 0
        rw [List.countP_eq_zero]
        intro t ht
        obtain ⟨w, _, rfl⟩ := List.mem_map.mp ht
        exact Bool.false_ne_true
      rw [this]
      clear this
      induction cs with
      | nil => rfl
      | cons c cs ih => 
        rw [List.map_cons, List.sum_cons, ih ⟨by have := a.few; rw [List.length_cons] at this; omega, a.n1, a.wl, a.ris, fun cw hc => a.each cw (List.mem_cons_of_mem _ hc), (List.nodup_cons.mp (by simpa using a.nd)).2⟩]
/-- the shape of what is read -/
theorem shape_of {ps : List (List Str)} (h : tableB (tableTh ps) = true) : ∃ n ws cs, ps = [wGr, n] :: (wWi :: ws) :: cs := by
  unfold tableTh at h
  split at h
  · rename_i g n w ws cs
    split at h
    · rename_i hg
      exact ⟨n, ws, cs, by rw [hg.1, hg.2]⟩
    · cases h
  · cases h
theorem asks_good {n : Str} {ws : List Str} {cs : List (List Str)} (a : Asks n ws cs) : ∃ T, Good T ∧ Full T ∧ [wGr, n] :: (wWi :: ws) :: cs = wordsT T := by
  have n1 := a.n1
  have nf := num_fig (w := n) (by omega)
  refine ⟨⟨numW n, ws.map numW, cs.map connW⟩, ⟨n1, nf.1.2, fun w hw => ?_, a.ris, ?_, by show (cs.map connW).length ≤ 8; rw [List.length_map]; exact a.few, ?_, fun c hc => ?_⟩, fun c hc => ?_, ?_⟩
  · obtain ⟨u, hu, rfl⟩ := List.mem_map.mp hw
    exact a.wl u hu
  · have := ris_len (ws.map numW) 0 (numW n) ((ris_iff _).mpr a.ris) (fun w hw => by
      obtain ⟨u, hu, rfl⟩ := List.mem_map.mp hw
      exact a.wl u hu) (by omega)
    have := nf.1.2
    show (ws.map numW).length ≤ 9
    omega
  · show ((cs.map connW).map (·.nm)).Nodup
    have e : (cs.map connW).map (·.nm) = cs.map fun cw => cw.headD "" := by
      rw [List.map_map]
      refine List.map_congr_left fun cw hc => ?_
      obtain ⟨n', p, r, rfl, _⟩ := conn_w (a.each cw hc)
      rfl
    rw [e]
    exact a.nd
  · obtain ⟨cw, hcw, rfl⟩ := List.mem_map.mp hc
    obtain ⟨_, _, _, _, g, _⟩ := conn_w (a.each cw hcw)
    exact g
  · obtain ⟨cw, hcw, rfl⟩ := List.mem_map.mp hc
    obtain ⟨_, _, _, _, _, f, _⟩ := conn_w (a.each cw hcw)
    exact f
  · show _ = [wGr, fig (numW n)] :: (wWi :: (ws.map numW).map fig) :: (cs.map connW).map wordsC
    rw [nums_fig fun u hu => (a.wl u hu).1, ← nf.2, List.map_map]
    congr 2
    have : cs.map id = cs.map (wordsC ∘ connW) := List.map_congr_left fun cw hc => by
      obtain ⟨_, _, _, _, _, _, e, _⟩ := conn_w (a.each cw hc)
      exact e.symm
    rwa [List.map_id] at this
theorem read_T {x : Str} (h : readB (.str x) = true) : ∃ T, Good T ∧ Full T ∧ parse x = wordsT T ∧ textT T = x := by
  have h' : tableB (tableTh (parse x)) = true := h
  obtain ⟨n, ws, cs, e⟩ := shape_of h'
  rw [e] at h'
  obtain ⟨T, g, fu, eT⟩ := asks_good (half_asks.mp h')
  refine ⟨T, g, fu, e.trans eT, ?_⟩
  unfold textT partsT
  rw [← eT, ← e]
  unfold parse
  rw [List.map_map]
  have : (Txt.split x sp2).map (Txt.join sp1 ∘ fun p => Txt.split p sp1) = (Txt.split x sp2).map id := List.map_congr_left fun p _ => (glued_eq_join _ _).trans (join_split p sp1)
  rw [this, List.map_id]
  exact (glued_eq_join _ _).trans (join_split x sp2)
theorem ths_ints {H : Hp} : ∀ {ws : List Int} {ys : List V}, Ths H (ws.map Th.int) ys → ys = ws.map V.int
  | [], _, h => by cases h; rfl
  | w :: ws, _, h => by
    cases h with
    | cons r t =>
      cases r
      rw [ths_ints t]
      rfl
theorem ths_cells {H : Hp} : ∀ {cs : List (Option Int)} {ys : List V}, Ths H (cs.map thO) ys → ys = cs.map cellV
  | [], _, h => by cases h; rfl
  | none :: cs, _, h => by
    cases h with
    | cons r t =>
      have r' : IsTh H .non _ := r
      cases r'
      rw [ths_cells t]
      rfl
  | some i :: cs, _, h => by
    cases h with
    | cons r t =>
      have r' : IsTh H (.int i) _ := r
      cases r'
      rw [ths_cells t]
      rfl
theorem ths_conns_in {H : Hp} : ∀ {cs : List Conn} {vs : List V}, Ths H (cs.map thC) vs → Conns H cs vs
  | [], _, h => by cases h; rfl
  | c :: cs, _, h => by
    cases h with
    | cons r t =>
      obtain ⟨a, xs, rfl, e, hx⟩ := ths_in r
      cases hx with
      | cons r0 hx =>
      cases hx with
      | cons r1 hx =>
      cases hx with
      | cons r2 hx =>
      cases hx
      cases r0
      cases r1
      obtain ⟨u, zs, rfl, eu, hz⟩ := ths_in r2
      rw [ths_cells hz] at eu
      exact ⟨a, u, _, rfl, e, eu, ths_conns_in t⟩
theorem half_in {H : Hp} {T : Half} {v : V} (h : IsTh H (thT T) v) : IsHalf H v T := by
  obtain ⟨a, xs, rfl, e, hx⟩ := ths_in h
  cases hx with
  | cons r0 hx =>
  cases hx with
  | cons r1 hx =>
  cases hx with
  | cons r2 hx =>
  cases hx
  cases r0
  obtain ⟨w, ys, rfl, ew, hy⟩ := ths_in r1
  obtain ⟨c, zs, rfl, ec, hz⟩ := ths_in r2
  rw [ths_ints hy] at ew
  exact ⟨a, w, c, zs, rfl, e, ew, ec, ths_conns_in hz⟩
end L4

set_option Elab.async false
set_option linter.all false
set_option maxRecDepth 100000
set_option maxHeartbeats 4000000
namespace L2
open PySem PySem.Spec PyProof.Rows
section
variable {X : Cx}
/-- list + list, each a list of the heap or one that was there -/
def rCatQ (K : PySem.W.Frag) : R2 := fun x y H Q => ∃ l b xs zs, x = .ref l ∧ y = .ref b ∧ SqL K H l xs ∧ SqL K H b zs ∧ xs.length + zs.length ≤ sizeLine ∧ ∀ p, H p = none → Q (.ref p) (upd H p (.lst (xs ++ zs)))
theorem op_catQ (K : PySem.W.Frag) (hK : X.K = K := by rfl) : OpR X (binaryOp .Add) (rCatQ K) := by
  subst hK
  intro pins s σ H x y v u Q I rx ry h
  obtain ⟨l, b, xs, zs, rfl, rfl, hH, hB, hz, q⟩ := h
  cases rx
  cases ry
  obtain ⟨its, r, pl, _⟩ := I.list hH
  obtain ⟨its2, r2, pl2, _⟩ := I.list hB
  have l1 := r.length
  have l2 := r2.length
  obtain ⟨⟨cls, dd, data, sl⟩, n, ho, hc, hdd, hd⟩ := pl
  obtain ⟨⟨cls2, dd2, data2, sl2⟩, n2, ho2, hc2, hdd2, hd2⟩ := pl2
  simp only at hc hd hc2 hd2
  subst hc hd hc2 hd2
  refine concat_meets ⟨_, ho, rfl⟩ ⟨_, ho2, rfl⟩ noFill_list_add seq_list_add PySem.F.slot_list_add PySem.F.entry_list_add (PySem.F.args_list_add_2 _ _) (list_addW l b its.toArray its2.toArray n n2 dd dd2 sl sl2 (by simp; omega)) ⟨ho, ho2, ?_⟩
  have ea : its.toArray ++ its2.toArray = (its ++ its2).toArray := by simp
  rw [ea]
  exact ⟨.ref _, _, I.lnew (t' := s.toks) (r.append r2) (by rw [List.length_append]; omega), rfl, q _ I.fresh⟩
end
end L2
namespace L4
open PySem L2 PySem.StrLaws Builtin.Str
theorem perm_sorted : ∀ {xs ys : List Nat}, xs.Perm ys → xs.Pairwise (· ≤ ·) → ys.Pairwise (· ≤ ·) → xs = ys := fun p h1 h2 => p.eq_of_pairwise (fun a b _ _ h k => Nat.le_antisymm h k) h1 h2
/-- sorted(set(ys)) is ys just where ys rises -/
theorem sorted_set {ys ds ms : List Nat} (nd : ds.Nodup) (hm : ∀ d, d ∈ ds ↔ d ∈ ys) (pm : ms.Perm ds) (so : ms.Pairwise (· ≤ ·)) : ys = ms ↔ ys.Pairwise (· < ·) := by
  have ndm : ms.Nodup := pm.nodup_iff.mpr nd
  constructor
  · intro e
    subst e
    have := List.pairwise_and_iff.mpr ⟨so, ndm⟩
    exact this.imp fun h => Nat.lt_of_le_of_ne h.1 h.2
  · intro h
    have n1 : ys.Nodup := h.imp fun h => Nat.ne_of_lt h
    exact perm_sorted (((List.perm_ext_iff_of_nodup n1 nd).mpr fun d => (hm d).symm).trans pm.symm) (h.imp Nat.le_of_lt) so
theorem eqVs_nI (xs ys : List Nat) : eqVs (xs.map nI) (ys.map nI) = decide (xs = ys) := by
  unfold eqVs
  rw [List.length_map, List.length_map]
  induction xs generalizing ys with
  | nil => cases ys <;> simp
  | cons x xs ih =>
    cases ys with
    | nil => simp
    | cons y ys =>
      have := ih ys
      rw [List.map_cons, List.map_cons, List.zip_cons_cons, List.all_cons, List.length_cons, List.length_cons]
      have e1 : eqV (nI x) (nI y) = decide (x = y) := by
        show (((x : Int)) == (y : Int)) = _
        rw [Bool.eq_iff_iff, beq_iff_eq, decide_eq_true_iff]
        omega
      have e2 : (xs.length + 1 == ys.length + 1) = (xs.length == ys.length) := by
        rw [Bool.eq_iff_iff, beq_iff_eq, beq_iff_eq]
        omega
      show ((eqV (nI x) (nI y) && _) && _) = _
      rw [e1, e2, Bool.and_assoc, this, Bool.eq_iff_iff]
      simp
theorem flat_nI (xs : List Nat) : (xs.map nI).all flatV = true := by
  rw [List.all_eq_true]
  intro x hx
  obtain ⟨n, _, rfl⟩ := List.mem_map.mp hx
  rfl
/-! numbers told by words -/
def numV (w : Str) : V := if 0 ≤ numW w then .int (numW w) else .non
theorem numV_int {w : Str} (h : 0 ≤ numW w) : numV w = .int (numW w) := if_pos h
theorem numV_non {w : Str} (h : ¬ 0 ≤ numW w) : numV w = .non := if_neg h
theorem nums_nI {m : Int} {ws : List Str} (h : ∀ w ∈ ws, 0 ≤ numW w ∧ numW w < m) : ws.map numV = (ws.map fun w => (numW w).toNat).map nI := by
  rw [List.map_map]
  refine List.map_congr_left fun w hw => ?_
  have := (h w hw).1
  rw [numV_int this]
  show V.int (numW w) = .int (((numW w).toNat : Nat) : Int)
  rw [Int.toNat_of_nonneg this]
theorem rise_nats {m : Int} {ws : List Str} (h : ∀ w ∈ ws, 0 ≤ numW w ∧ numW w < m) : (ws.map fun w => (numW w).toNat).Pairwise (· < ·) ↔ (ws.map numW).Pairwise (· < ·) := by
  rw [List.pairwise_map, List.pairwise_map]
  constructor
  · intro k
    refine List.Pairwise.imp_of_mem (fun {a b} ha hb z => ?_) k
    have h1 := (h a ha).1
    have h2 := (h b hb).1
    omega
  · intro k
    refine List.Pairwise.imp_of_mem (fun {a b} ha hb z => ?_) k
    have h1 := (h a ha).1
    have h2 := (h b hb).1
    omega
/-! a connective's part -/
def dueC (m : Int) (cw : List Str) : Th := if connB m (connTh cw) = true then connTh cw else .non
theorem dueC_yes {m : Int} {cw : List Str} (h : connB m (connTh cw) = true) : dueC m cw = connTh cw := if_pos h
theorem dueC_no {m : Int} {cw : List Str} (h : ¬ connB m (connTh cw) = true) : dueC m cw = .non := if_neg h
theorem conn_mk {m : Int} {n p : Str} {r : List Str} (h2 : 2 ≤ n.length) (h8 : n.length ≤ 8) (hs : smallB n = true) (p0 : 0 ≤ numW p) (p2 : numW p ≤ 2) (hl : (r.length : Int) = m ^ (numW p).toNat) (hr : ∀ w ∈ r, 0 ≤ numW w ∧ numW w < m) : connB m (connTh (n :: p :: r)) = true := by
  show ((decide (2 ≤ n.length) && decide (n.length ≤ 8) && smallB n) && (wholeB (numT p) && (decide (0 ≤ numW p) && decide (numW p ≤ 2)) && (decide (((r.map numT).length : Int) = m ^ (numW p).toNat) && (r.map numT).all (cellB m)))) = true
  have ha : (r.map numT).all (cellB m) = true := by
    rw [List.all_eq_true]
    intro t ht
    obtain ⟨w, hw, rfl⟩ := List.mem_map.mp ht
    have := hr w hw
    show (decide (0 ≤ numW w) && decide (numW w < m)) = true
    rw [decide_eq_true this.1, decide_eq_true this.2]
    rfl
  rw [ha, List.length_map, decide_eq_true h2, decide_eq_true h8, hs, decide_eq_true p0, decide_eq_true p2, decide_eq_true hl]
  rfl
theorem name_b {n : Str} (h : nameB (.str n) = true) : 2 ≤ n.length ∧ n.length ≤ 8 ∧ smallB n = true := by
  have h' : ((decide (2 ≤ n.length) && decide (n.length ≤ 8)) && smallB n) = true := h
  simp only [Bool.and_eq_true, decide_eq_true_eq] at h'
  exact ⟨h'.1.1, h'.1.2, h'.2⟩
theorem conn_parts {m : Int} {n p : Str} {r : List Str} (h : connB m (connTh (n :: p :: r)) = true) : (2 ≤ n.length ∧ n.length ≤ 8 ∧ smallB n = true) ∧ 0 ≤ numW p ∧ numW p ≤ 2 ∧ (r.length : Int) = m ^ (numW p).toNat ∧ ∀ w ∈ r, 0 ≤ numW w ∧ numW w < m := by
  obtain ⟨n', p', r', e, _, _, _, hb, h1, h2, h3, h4⟩ := conn_w h
  cases e
  exact ⟨name_b hb, h1, h2, h3, h4⟩
/-! what the text is due to be -/
def dueTh (x : Str) : Th := if readB (.str x) = true then tableTh (parse x) else .non
theorem due_yes {x : Str} (h : readB (.str x) = true) : dueTh x = tableTh (parse x) := if_pos h
theorem due_no {x : Str} (h : ¬ readB (.str x) = true) : dueTh x = .non := if_neg h
theorem read_no {x : Str} (h : ∀ n ws cs, parse x = [wGr, n] :: (wWi :: ws) :: cs → Asks n ws cs → False) : ¬ readB (.str x) = true := fun hb => by
  have h' : tableB (tableTh (parse x)) = true := hb
  obtain ⟨n, ws, cs, e⟩ := shape_of h'
  rw [e] at h'
  exact h n ws cs e (half_asks.mp h')
theorem read_of {x n : Str} {ws : List Str} {cs : List (List Str)} (e : parse x = [wGr, n] :: (wWi :: ws) :: cs) (a : Asks n ws cs) : readB (.str x) = true := by
  show tableB (tableTh (parse x)) = true
  rw [e]
  exact half_asks.mpr a
theorem eq_of_nd {i j : Int} (h : ¬ (!decide (V.int i = V.int j)) = true) : i = j := by
  by_cases e : i = j
  · exact e
  · exact absurd (by rw [decide_eq_false (fun z => by cases z; exact e rfl)]; rfl) h
theorem ne_of_nd {i j : Int} (h : (!decide (V.int i = V.int j)) = true) : i ≠ j := fun e => by
  rw [e, decide_eq_true rfl] at h
  cases h
theorem seq_of_nd {i j : Str} (h : ¬ (!decide (V.str i = V.str j)) = true) : i = j := by
  by_cases e : i = j
  · exact e
  · exact absurd (by rw [decide_eq_false (fun z => by cases z; exact e rfl)]; rfl) h
theorem sne_of_nd {i j : Str} (h : (!decide (V.str i = V.str j)) = true) : i ≠ j := fun e => by
  rw [e, decide_eq_true rfl] at h
  cases h
theorem not_nb {b : Bool} (h : (!b) = true) : b = false := by cases b <;> first | rfl | cases h
theorem nb_not {b : Bool} (h : ¬ (!b) = true) : b = true := by cases b <;> first | rfl | exact absurd rfl h
/-! lists of texts -/
theorem strs_pick {L : List Str} {b : Int} (h0 : 0 ≤ b) (h1 : b < (L.length : Int)) : ∃ w, w ∈ L ∧ atI (L.map V.str) b = some (.str w) := by
  have hb : b.toNat < L.length := by omega
  have e : b = ((b.toNat : Nat) : Int) := by omega
  refine ⟨L[b.toNat], List.getElem_mem hb, ?_⟩
  have q := atI_nat (xs := L.map V.str) (j := b.toNat) (v := .str L[b.toNat]) (by rw [List.getElem?_map, List.getElem?_eq_getElem hb]; rfl)
  rw [← e] at q
  exact q
theorem sum_le7 {b : Nat} : ∀ {ys : List Str}, (∀ y ∈ ys, y.length ≤ b) → (ys.map (·.length)).sum ≤ ys.length * b
  | [], _ => Nat.zero_le _
  | y :: ys, h => by
    have h1 := h y (List.mem_cons_self ..)
    have h2 := sum_le7 fun z hz => h z (List.mem_cons_of_mem y hz)
    rw [List.map_cons, List.sum_cons, List.length_cons, Nat.succ_mul]
    omega
theorem join_le {b : Nat} (z : Str) : ∀ {ys : List Str}, (∀ y ∈ ys, y.length ≤ b) → (Str.join z ys).length ≤ ys.length * (b + z.length)
  | [], _ => by
    show (Str.mk #[]).length ≤ _
    exact Nat.zero_le _
  | [y], h => by
    have h1 := h y (List.mem_cons_self ..)
    have e : Str.join z [y] = y := rfl
    rw [e, List.length_singleton]
    omega
  | y :: y2 :: ys, h => by
    have h1 := h y (List.mem_cons_self ..)
    have h2 := join_le z (ys := y2 :: ys) fun z hz => h z (List.mem_cons_of_mem y hz)
    have e := congrArg List.length (join_codes z y y2 ys)
    rw [List.length_append, List.length_append, len_codes, len_codes, len_codes, len_codes] at e
    rw [List.length_cons, Nat.succ_mul]
    omega
theorem tjoin_le {b : Nat} (z : Str) {ys : List Str} (h : ∀ y ∈ ys, y.length ≤ b) : (Txt.join z ys).length ≤ ys.length * (b + z.length) := by
  have e : Txt.join z ys = Str.join z ys := glued_eq_join _ _
  rw [e]
  exact join_le z h
theorem small_az (c : Nat) : (decide (c ∈ (Str.ofString "abcdefghijklmnopqrstuvwxyz").cps.toList)) = (decide (97 ≤ c) && decide (c ≤ 122)) := by
  have e : (Str.ofString "abcdefghijklmnopqrstuvwxyz").cps.toList = List.range' 97 26 := by decide +kernel
  rw [e, Bool.eq_iff_iff, Bool.and_eq_true, decide_eq_true_iff, decide_eq_true_iff, decide_eq_true_iff, List.mem_range'_1]
  omega
theorem Pool.same7 {H H' : Hp} {p : Addr} (h : Pool H p) (s : Same H H') : Pool H' p := by
  obtain ⟨r, a, b, e⟩ := h
  exact ⟨r, a, b, s _ _ e⟩
theorem pool_ne {H : Hp} {p t : Addr} (h : Pool H p) (n : H t = none) : t ≠ p := fun z => by
  obtain ⟨r, a, b, e⟩ := h
  rw [← z, n] at e
  cases e
theorem pool_ne_strs {H : Hp} {p l : Addr} {ws : List Str} (h : Pool H p) (n : H l = some (.lst (ws.map V.str))) : l ≠ p := fun z => by
  obtain ⟨r, a, b, e⟩ := h
  rw [← z, n] at e
  match ws, e with
  | [], e => cases e
  | w :: ws, e => cases e
theorem off_none {p t : Addr} {H H' : Hp} (o : Off p H H') (n : H' t = none) (hp : t ≠ p) : H t = none := by
  cases e : H t with
  | none => rfl
  | some u =>
    have := o t u hp e
    rw [n] at this
    cases this
/-- lists of words, none of them at p or D -/
def Wdz (p D : Addr) (H : Hp) : List (List Str) → List V → Prop := Paired fun ws v => ∃ a, v = .ref a ∧ a ≠ p ∧ a ≠ D ∧ H a = some (.lst (ws.map V.str))
theorem Wdz.off {p D : Addr} {H H' : Hp} (s : Off p H H') {ws : List (List Str)} {vs : List V} (h : Wdz p D H ws vs) : Wdz p D H' ws vs := by
  unfold Wdz at h ⊢
  induction h with
  | nil => exact .nil
  | cons r _ ih =>
    obtain ⟨a, e, n1, n2, k⟩ := r
    exact .cons ⟨a, e, n1, n2, s _ _ n1 k⟩ ih
theorem Wdz.put {p D : Addr} {H : Hp} {o : HO} {ws : List (List Str)} {vs : List V} (h : Wdz p D H ws vs) : Wdz p D (upd H D o) ws vs := by
  unfold Wdz at h ⊢
  induction h with
  | nil => exact .nil
  | cons r _ ih =>
    obtain ⟨a, e, n1, n2, k⟩ := r
    exact .cons ⟨a, e, n1, n2, by rw [upd_ne n2]; exact k⟩ ih
theorem Wdz.snoc {p D : Addr} {H : Hp} {ws : List (List Str)} {vs : List V} {w : List Str} {a : Addr} (h : Wdz p D H ws vs) (n1 : a ≠ p) (n2 : a ≠ D) (k : H a = some (.lst (w.map V.str))) : Wdz p D H (ws ++ [w]) (vs ++ [.ref a]) := by
  unfold Wdz at h ⊢
  induction h with
  | nil => exact .cons ⟨a, rfl, n1, n2, k⟩ .nil
  | cons r _ ih => exact .cons r ih
theorem Wdz.get {p D : Addr} {H : Hp} {ws : List (List Str)} {vs : List V} (h : Wdz p D H ws vs) : ∀ {i : Nat} {v : V}, vs[i]? = some v → ∃ w a, ws[i]? = some w ∧ v = .ref a ∧ a ≠ p ∧ a ≠ D ∧ H a = some (.lst (w.map V.str)) := by
  unfold Wdz at h
  induction h with
  | nil => intro i v e; simp at e
  | cons r _ ih =>
    intro i v e
    cases i with
    | zero =>
      simp at e
      subst e
      obtain ⟨a, e, k⟩ := r
      exact ⟨_, a, rfl, e, k⟩
    | succ i =>
      obtain ⟨w, a, e1, e2⟩ := ih (i := i) (by simpa using e)
      exact ⟨w, a, by simpa using e1, e2⟩
theorem Wdz.len {p D : Addr} {H : Hp} {ws : List (List Str)} {vs : List V} (h : Wdz p D H ws vs) : vs.length = ws.length := (Paired.length h).symm
theorem cells3 {m pl : Int} (h1 : 1 ≤ m) (h9 : m ≤ 3) (p0 : 0 ≤ pl) (p2 : pl ≤ 2) : ∃ n : Int, atI [V.int 1, V.int m, V.int (m * m)] pl = some (.int n) ∧ 0 ≤ n ∧ n ≤ 9 := by
  have em : m = 1 ∨ m = 2 ∨ m = 3 := by omega
  have e : pl = 0 ∨ pl = 1 ∨ pl = 2 := by omega
  rcases e with rfl | rfl | rfl
  · exact ⟨1, rfl, by omega, by omega⟩
  · exact ⟨m, rfl, by omega, by omega⟩
  · refine ⟨m * m, rfl, ?_, ?_⟩ <;> rcases em with rfl | rfl | rfl <;> decide
def nms7 : List Str := [Str.ofString "not", Str.ofString "an", Str.ofString "grades", Str.ofString "wished", Str.ofString "abcdefgh", Str.ofString "or"]
theorem nms7_len : ∀ w ∈ nms7, w.length ≤ 9 := by decide +kernel
def odds7 : List Str := [Str.ofString "0", Str.ofString "1", Str.ofString "2", Str.ofString "3", Str.ofString "9", Str.ofString "10", Str.ofString "00", Str.ofString "01", Str.ofString "-1", Str.ofString "+1", Str.ofString "", Str.ofString "a", Str.ofString "An", Str.ofString "not", Str.ofString "grades", Str.ofString "wished", Str.ofString "abcdefghi", Str.ofString ";"]
theorem odds7_len : ∀ w ∈ odds7, w.length ≤ 9 := by decide +kernel
def signs7 : List Str := [Str.ofString "; ", Str.ofString "; ", Str.ofString "; ", Str.ofString "; ", Str.ofString "; ", Str.ofString "; ", Str.ofString ";", Str.ofString ", "]
theorem signs7_len : ∀ w ∈ signs7, w.length ≤ 2 := by decide +kernel
theorem fig_len9 {d : Int} (h : Fig d) : (fig d).length ≤ 9 := by
  have := (fig_is h.1 h.2).1
  omega
theorem dueC_tk {H H' : Hp} {m : Int} (k : Tk H H') {ws : List Str} {v : V} (hc : IsTh H (connTh ws) v → IsTh H' (connTh ws) v) (h : IsTh H (dueC m ws) v) : IsTh H' (dueC m ws) v := by
  by_cases e : connB m (connTh ws) = true
  · rw [dueC_yes e] at h ⊢
    exact hc h
  · rw [dueC_no e] at h ⊢
    cases h
    exact .non
theorem ths_get {H : Hp} {ts : List Th} {vs : List V} (h : Ths H ts vs) : ∀ {i : Nat} {t : Th} {v : V}, ts[i]? = some t → vs[i]? = some v → IsTh H t v := by
  unfold Ths at h
  induction h with
  | nil => intro i t v e; simp at e
  | cons r _ ih =>
    intro i t v e k
    cases i with
    | zero =>
      simp at e k
      subst e k
      exact r
    | succ i => exact ih (i := i) (by simpa using e) (by simpa using k)
theorem conn_tup {m : Int} {cw : List Str} (h : connB m (connTh cw) = true) : ∃ n p r, cw = n :: p :: r ∧ connTh cw = .tup [.str n, numT p, .tup (r.map numT)] := by
  obtain ⟨n, p, r, e, _⟩ := conn_w h
  subst e
  exact ⟨n, p, r, rfl, rfl⟩
end L4

set_option maxHeartbeats 0
namespace K07
open PySem L2 L4

local macro_rules | `(tactic| walk_at "hp") => `(tactic| first | assumption | exact upd_same | (rw [upd_ne (by first | assumption | exact Ne.symm (by assumption) | exact ne_of_none (by assumption) (by assumption) | exact Ne.symm (ne_of_none (by assumption) (by assumption)))]; walk_at "hp"))
local macro_rules | `(tactic| walk_at "r1") => `(tactic| first | refine ⟨_, rfl, ?_⟩ | refine .inl ⟨_, _, _, _, rfl, rfl, SqL.of (by walk_at "hp"), rfl, ?_⟩ | refine .inr (.inl ⟨_, _, _, _, rfl, rfl, SqT.of (by walk_at "hp"), rfl, ?_⟩) | refine ⟨_, _, rfl, rfl, ?_⟩ | refine ⟨(show CMul _ _ from .inr ⟨by omega, by omega⟩), ?_⟩ | refine ⟨(show CMul _ _ from .inl ⟨by omega, by omega⟩), ?_⟩ | refine ⟨(show CDiv _ _ from ⟨by omega, by omega⟩), ?_⟩ | refine ⟨(show CPow _ _ from ⟨by decide, by decide, by decide⟩), ?_⟩ | refine ⟨(show (0 : Int) < _ by omega), ?_⟩ | refine ⟨_, _, _, _, rfl, rfl, (by walk_at "hp"), rfl, ?_⟩)
local macro_rules | `(tactic| walk_at "rd") => `(tactic| repeat walk_at "r1")

theorem cells_many {m pl : Int} (h1 : 1 ≤ m) (h9 : m ≤ 9) (p0 : 0 ≤ pl) (p2 : pl ≤ 2) : ∃ n : Int, atI [V.int 1, V.int m, V.int (m * m)] pl = some (.int n) ∧ 0 ≤ n ∧ n ≤ 81 ∧ n = m ^ pl.toNat := by
  have hm : m * m ≤ 81 := Int.le_trans (Int.mul_le_mul_of_nonneg_right h9 (by omega)) (by omega)
  have hm0 : 0 ≤ m * m := Int.mul_nonneg (by omega) (by omega)
  have e : pl = 0 ∨ pl = 1 ∨ pl = 2 := by omega
  rcases e with rfl | rfl | rfl
  · exact ⟨1, rfl, by omega, by omega, (by show 1 = m ^ 0; rw [Int.pow_zero])⟩
  · exact ⟨m, rfl, by omega, by omega, (by show m = m ^ 1; rw [Int.pow_succ, Int.pow_zero, Int.one_mul])⟩
  · exact ⟨m * m, rfl, hm0, hm, (by show m * m = m ^ 2; rw [Int.pow_succ, Int.pow_succ, Int.pow_zero, Int.one_mul])⟩
theorem pow81 {m : Int} {p : Nat} (h1 : 1 ≤ m) (h9 : m ≤ 9) (hp : p ≤ 2) : m ^ p ≤ 81 := by
  have e : p = 0 ∨ p = 1 ∨ p = 2 := by omega
  have hmm : m * m ≤ 81 := Int.le_trans (Int.mul_le_mul_of_nonneg_right h9 (by omega)) (by omega)
  rcases e with e | e | e <;> rw [e]
  · rw [Int.pow_zero]; decide
  · rw [Int.pow_succ, Int.pow_zero, Int.one_mul]; omega
  · rw [Int.pow_succ, Int.pow_succ, Int.pow_zero, Int.one_mul]; exact hmm
theorem good_fits {T : Half} (g : Good T) : Fits T := by
  refine ⟨g.m1, g.m9, g.wl, g.few, fun c hc => ?_⟩
  have gc := g.each c hc
  have h1 := gc.len
  have h2 := pow81 (p := c.pl.toNat) g.m1 g.m9 (by have := gc.p2; omega)
  omega
def spWholeT : Sp := fun vs H Q _ => ∃ (t : Th) (v : V), vs = [v] ∧ IsTh H t v ∧ Q (.bl (wholeB t)) H
def spSmallT : Sp := fun vs H Q _ => ∃ x : Str, vs = [.str x] ∧ x.length ≤ 8 ∧ ∀ H', Same H H' → Q (.bl (smallB x)) H'
def spNameT : Sp := fun vs H Q _ => ∃ (t : Th) (v : V), vs = [v] ∧ IsTh H t v ∧ ∀ H', Same H H' → Q (.bl (nameB t)) H'
def spGradeT : Sp := fun vs H Q _ => ∃ (t : Th) (v : V) (m : Int), vs = [v, .int m] ∧ IsTh H t v ∧ Q (.bl (gradeB m t)) H
def spRisingT : Sp := fun vs H Q _ => ∃ (t : Th) (v : V) (m : Int), vs = [v, .int m] ∧ IsTh H t v ∧ ∀ H', Same H H' → Q (.bl (risingB m t)) H'
def spCellsT : Sp := fun vs H Q _ => ∃ (t : Th) (v : V) (m n : Int), vs = [v, .int m, .int n] ∧ IsTh H t v ∧ ∀ H', Same H H' → Q (.bl (cellsB m n t)) H'
def spPower : Sp := fun vs H Q _ => ∃ (b : Int) (n : Nat), vs = [.int b, .int n] ∧ 1 ≤ b ∧ b ≤ 9 ∧ n ≤ 1000 ∧ Q (.int (b ^ n)) H
def spConnT : Sp := fun vs H Q _ => ∃ (t : Th) (v : V) (m : Int), vs = [v, .int m] ∧ IsTh H t v ∧ 1 ≤ m ∧ m ≤ 9 ∧ ∀ H', Same H H' → Q (.bl (connB m t)) H'
def spConnsT : Sp := fun vs H Q _ => ∃ (t : Th) (v : V) (m : Int), vs = [v, .int m] ∧ IsTh H t v ∧ 1 ≤ m ∧ m ≤ 9 ∧ ∀ H', Same H H' → Q (.bl (connsB m t)) H'
def spNones : Sp := fun vs H Q _ => ∃ (v : V) (T : Half), vs = [v] ∧ IsHalf H v T ∧ Fits T ∧ ∀ H', Same H H' → Q (.int (nones T : Nat)) H'
def spTableT : Sp := fun vs H Q _ => ∃ (t : Th) (v : V), vs = [v] ∧ IsTh H t v ∧ ∀ H', Same H H' → Q (.bl (tableB t)) H'

def spHalfT : Sp := fun vs H Q _ => ∃ (t : Th) (v : V), vs = [v] ∧ IsTh H t v ∧ ∀ H', Same H H' → Q (.bl (halfB t)) H'
def spShow : Sp := fun vs H Q _ => ∃ (v : V) (T : Half), vs = [v] ∧ IsHalf H v T ∧ Good T ∧ Full T ∧ ∀ H', Same H H' → Q (.str (textT T)) H'
def Wds (H : Hp) : List (List Str) → List V → Prop := Paired fun ws v => ∃ a, v = .ref a ∧ H a = some (.lst (ws.map V.str))
def spNumW : Sp := fun vs H Q _ => ∃ x : Str, vs = [.str x] ∧ x.length ≤ 3000 ∧ Q (.int (numW x)) H
def spNumsW : Sp := fun vs H Q _ => ∃ (l : Addr) (ws : List Str), vs = [.ref l] ∧ H l = some (.lst (ws.map V.str)) ∧ ws.length ≤ 1000 ∧ (∀ w ∈ ws, w.length ≤ 3000) ∧ ∀ H' k, Same H H' → H' k = some (.lst (ws.map fun w => V.int (numW w))) → Q (.ref k) H'
def spConnW : Sp := fun vs H Q _ => ∃ (l : Addr) (ws : List Str), vs = [.ref l] ∧ H l = some (.lst (ws.map V.str)) ∧ ws.length ≤ 1000 ∧ (∀ w ∈ ws, w.length ≤ 3000) ∧ ∀ H' v, Same H H' → IsTh H' (connTh ws) v → Q v H'
def spTableW : Sp := fun vs H Q _ => ∃ (l : Addr) (xs : List V) (ps : List (List Str)), vs = [.ref l] ∧ H l = some (.lst xs) ∧ Wds H ps xs ∧ ps.length ≤ 1000 ∧ (∀ ws ∈ ps, ws ≠ [] ∧ ws.length ≤ 1000 ∧ ∀ w ∈ ws, w.length ≤ 3000) ∧ ∀ H' v, Same H H' → IsTh H' (tableTh ps) v → Q v H'
def spReadW (C : Addr) : Sp := fun vs H Q E => ∃ (t : Th) (v : V), vs = [v] ∧ IsTh H t v ∧ (∀ x, t = .str x → x.length ≤ 900) ∧ (readB t = false → ∀ H', Same H H' → E (.ref C) none H') ∧ (readB t = true → ∀ H' v', Same H H' → IsTh H' (tableTh (parse (strTh t))) v' → Q v' H')
theorem log_fig {z : Int} (h : Fig z) : z.natAbs.log2 < 1920 := by
  obtain ⟨z0, z9⟩ := h
  have h9 : z.natAbs < 2 ^ 4 := by omega
  by_cases hz0 : z.natAbs = 0
  · rw [hz0]; decide
  · have := (Nat.log2_lt (n := z.natAbs) (k := 4) hz0).mpr h9
    omega
def partC (c : Conn) : Str := partOf c.nm (c.pl :: gsOf c)
theorem parts_eq (T : Half) : partsT T = partOf (Str.ofString "grades") [T.m] :: partOf (Str.ofString "wished") T.ws :: T.cs.map partC := by
  unfold partsT wordsT
  rw [List.map_cons, List.map_cons, List.map_map]
  rfl
theorem conn_figs {m : Int} {c : Conn} (m1 : 1 ≤ m) (m9 : m ≤ 9) (gc : GoodC m c) : (∀ i ∈ gsOf c, Fig i) ∧ (gsOf c).length ≤ 81 := by
  refine ⟨fun i hi => ?_, ?_⟩
  · obtain ⟨o, ho, rfl⟩ := List.mem_map.mp hi
    have k := gc.cells o ho
    cases o with
    | none => exact ⟨by decide, by decide⟩
    | some j => have := k j rfl; exact ⟨this.1, by show j ≤ 9; omega⟩
  · have h1 := gc.len
    have h2 := pow81 (p := c.pl.toNat) m1 m9 (by have := gc.p2; omega)
    unfold gsOf
    rw [List.length_map]
    omega
theorem Wds.same {H H' : Hp} (s : Same H H') {ws : List (List Str)} {vs : List V} (h : Wds H ws vs) : Wds H' ws vs := by
  unfold Wds at h ⊢
  induction h with
  | nil => exact .nil
  | cons r _ ih =>
    obtain ⟨a, e, k⟩ := r
    exact .cons ⟨a, e, s _ _ k⟩ ih
theorem Wds.snoc {H : Hp} {ws : List (List Str)} {vs : List V} {w : List Str} {a : Addr} (h : Wds H ws vs) (k : H a = some (.lst (w.map V.str))) : Wds H (ws ++ [w]) (vs ++ [.ref a]) := by
  unfold Wds at h ⊢
  induction h with
  | nil => exact .cons ⟨a, rfl, k⟩ .nil
  | cons r _ ih => exact .cons r ih
theorem Wds.get {H : Hp} {ws : List (List Str)} {vs : List V} (h : Wds H ws vs) : ∀ {i : Nat} {v : V}, vs[i]? = some v → ∃ w a, ws[i]? = some w ∧ v = .ref a ∧ H a = some (.lst (w.map V.str)) := by
  unfold Wds at h
  induction h with
  | nil => intro i v e; simp at e
  | cons r _ ih =>
    intro i v e
    cases i with
    | zero =>
      simp at e
      subst e
      obtain ⟨a, e, k⟩ := r
      exact ⟨_, a, rfl, e, k⟩
    | succ i =>
      obtain ⟨w, a, e1, e2, e3⟩ := ih (i := i) (by simpa using e)
      exact ⟨w, a, by simpa using e1, e2, e3⟩
theorem Wds.len {H : Hp} {ws : List (List Str)} {vs : List V} (h : Wds H ws vs) : vs.length = ws.length := (Paired.length h).symm
theorem cut_from {xs : List V} (k : Nat) (hk : k ≤ xs.length) : cutV xs (some (k : Int)) none = xs.drop k := by
  unfold cutV
  rw [HT.sIx_nat, HT.sIx_none, show min k xs.length = k by omega]
  exact List.take_of_length_le (by rw [List.length_drop]; omega)
theorem cat_ints (ms : List Int) : ([.int 0] ++ ms.map V.int : List V) = (0 :: ms).map V.int := rfl
local macro_rules | `(tactic| walk_at "mk") => `(tactic| repeat' first | exact mk_nil | exact mk_int | exact mk_bl | exact mk_non | exact mk_neg | exact mk_dct | exact mk_str (by decide +kernel) | exact mk_var rfl (by assumption) | apply mk_cons | apply mk_tup | apply mk_lst | apply mk_list | refine mk_cat ?_ ?_ ?_ | refine mk_sl (by intro H Q h; first | exact h | exact ⟨_, rfl, h⟩ | exact ⟨_, rfl, _, rfl, h⟩ | exact ⟨_, rfl, _, _, rfl, rfl, _, rfl, h⟩) (by intro H Q h; first | exact h | exact ⟨_, rfl, h⟩ | exact ⟨_, rfl, _, rfl, h⟩ | exact ⟨_, rfl, _, _, rfl, rfl, _, rfl, h⟩) ?_ | refine mk_drop 2 (by decide) ?_ ?_ | exact Nat.le_of_ble_eq_true rfl)

theorem wds_get {H : Hp} {ps : List (List Str)} {xs : List V} (h : Wds H ps xs) {i : Nat} {ws : List Str} (e : ps[i]? = some ws) : ∃ a, xs[i]? = some (.ref a) ∧ H a = some (.lst (ws.map V.str)) := by
  have hl := h.len
  have hi : i < ps.length := (List.getElem?_eq_some_iff.mp e).1
  have hx : xs[i]? = some (xs.getD i .non) := by simp [List.getD, show i < xs.length by omega]
  obtain ⟨w, a, e1, e2, e3⟩ := h.get hx
  rw [e] at e1
  cases e1
  exact ⟨a, by rw [hx, e2], e3⟩
theorem conn_tk {H H' : Hp} (k : Tk H H') {ws : List Str} {v : V} (h : IsTh H (connTh ws) v) : IsTh H' (connTh ws) v := by
  match ws, h with
  | [], h => cases h; exact .non
  | [w], h => cases h; exact .non
  | n :: p :: r, h =>
    obtain ⟨a, xs, rfl, e, hl, h8⟩ := zip_of_get h
    obtain ⟨x, y, z, rfl⟩ := three hl.symm
    have h0 := zip_mem h e (p := (.str n, x)) (by simp)
    have h1 := zip_mem h e (p := (numT p, y)) (by simp)
    have h2 := zip_mem h e (p := (.tup (r.map numT), z)) (by simp)
    cases h0
    cases h1
    rename_i hn
    obtain ⟨b, ys, rfl, eb, hlb, h8b⟩ := zip_of_get h2
    refine Ths.tup (vs := [.str n, .int (numW p), .ref b]) (.cons (.str _ hn) (.cons (.int _) (.cons ?_ .nil))) (k _ _ e) (by show 3 ≤ 1000; decide)
    refine .tup (k _ _ eb) hlb h8b fun i t x ht hx => ?_
    cases h2 with
    | tup e' _ _ hh =>
      rw [eb] at e'
      cases e'
      have := hh i t x ht hx
      rw [List.getElem?_map] at ht
      obtain ⟨w, _, rfl⟩ := Option.map_eq_some_iff.mp ht
      cases this
      exact .int _
theorem ths_tk {H H' : Hp} (k : Tk H H') : ∀ {cs : List (List Str)} {vs : List V}, Ths H (cs.map connTh) vs → Ths H' (cs.map connTh) vs
  | [], _, h => by cases h; exact .nil
  | c :: cs, _, h => by
    cases h with
    | cons r t => exact .cons (conn_tk k r) (ths_tk k t)
theorem ths_snoc {H : Hp} {ts : List Th} {vs : List V} {t : Th} {v : V} (h : Ths H ts vs) (k : IsTh H t v) : Ths H (ts ++ [t]) (vs ++ [v]) := by
  unfold Ths at h ⊢
  induction h with
  | nil => exact .cons k .nil
  | cons r _ ih => exact .cons r ih
theorem tbl_bad {ps : List (List Str)} (h : ∀ g n w ws cs, ps = [g, n] :: (w :: ws) :: cs → ¬ (g = wGr ∧ w = wWi)) : tableTh ps = .non := by
  unfold tableTh
  split
  · exact if_neg (h _ _ _ _ _ rfl)
  · rfl

def spPart : Sp := fun vs H Q _ => ∃ (w : Str) (a : Addr) (ns : List Int), vs = [.str w, .ref a] ∧ H a = some (.tup (ns.map V.int)) ∧ IsName w ∧ (∀ i ∈ ns, Fig i) ∧ ns.length ≤ 82 ∧ ∀ H', Same H H' → Q (.str (partOf w ns)) H'

def spLaw (K : PySem.W.Frag) : Sp := fun vs H Q _ => ∃ (a : Addr) (ns : List Int), vs = [.ref a] ∧ SqL K H a (ns.map V.int) ∧ ns.length ≤ 63 ∧ ∀ H', Q (.bl true) H'
def spPart7 : Sp := fun vs H Q _ => ∃ (p : Addr) (m : Int), vs = [.ref p, .int m] ∧ Pool H p ∧ 1 ≤ m ∧ m ≤ 3 ∧ ∀ (l : Addr) (ws : List Str) (H' : Hp), Off p H H' → Pool H' p → H' l = some (.lst (ws.map V.str)) → 1 ≤ ws.length → ws.length ≤ 11 → (∀ w ∈ ws, w.length ≤ 9) → H l = none → Q (.ref l) H'
def spBent7 : Sp := fun vs H Q _ => ∃ (p l : Addr) (ws : List Str), vs = [.ref p, .ref l] ∧ Pool H p ∧ H l = some (.lst (ws.map V.str)) ∧ 1 ≤ ws.length ∧ ws.length ≤ 11 ∧ (∀ w ∈ ws, w.length ≤ 9) ∧ ∀ (l' : Addr) (ws' : List Str) (H' : Hp), Off p H H' → Pool H' p → H' l' = some (.lst (ws'.map V.str)) → ws'.length ≤ 12 → (∀ w ∈ ws', w.length ≤ 9) → (l' = l ∨ H l' = none) → Q (.ref l') H'
def spText7 : Sp := fun vs H Q _ => ∃ c : Int, vs = [.int c] ∧ ∀ (x : Str) (H' : Hp), Same H H' → x.length ≤ 900 → Q (.str x) H'
def spNumber7 : Sp := fun vs H Q _ => ∃ x : Str, vs = [.str x] ∧ x.length ≤ 3000 ∧ Q (numV x) H
def spConn7 : Sp := fun vs H Q _ => ∃ (l : Addr) (m : Int) (ws : List Str), vs = [.ref l, .int m] ∧ H l = some (.lst (ws.map V.str)) ∧ ws.length ≤ 1000 ∧ (∀ w ∈ ws, w.length ≤ 3000) ∧ 1 ≤ m ∧ m ≤ 9 ∧ ∀ (v : V) (H' : Hp), Same H H' → IsTh H' (dueC m ws) v → Q v H'
def spDue7 : Sp := fun vs H Q _ => ∃ x : Str, vs = [.str x] ∧ x.length ≤ 900 ∧ ∀ (v : V) (H' : Hp), Same H H' → IsTh H' (dueTh x) v → Q v H'
def spRight7 : Sp := fun vs H Q _ => ∃ x : Str, vs = [.str x] ∧ x.length ≤ 900 ∧ ∀ H', Same H H' → Q (.bl true) H'
theorem ths_due {H H' : Hp} {m : Int} (k : Tk H H') : ∀ {cs : List (List Str)} {vs : List V}, Ths H (cs.map (dueC m)) vs → Ths H' (cs.map (dueC m)) vs
  | [], _, h => by cases h; exact .nil
  | c :: cs, _, h => by
    cases h with
    | cons r t => exact .cons (dueC_tk k (conn_tk k) r) (ths_due k t)
def top (i : Nat) : Stmt := PySem.Challenge.pw_truthgrades_k07_whole_texts_of_tables.main.body.getD i (.Pass ⟨0, 0, 0, 0⟩)
/-- the built-in names that the text asks: none is a name of its own -/
structure Gb (mg : Str → Option Value) : Prop where
  «abs» : mg "abs" = none
  «range» : mg "range" = none
  «tuple» : mg "tuple" = none
  «sum» : mg "sum" = none
  «isinstance» : mg "isinstance" = none
  «int» : mg "int" = none
  «bool» : mg "bool" = none
  «str» : mg "str" = none
  «len» : mg "len" = none
  «all» : mg "all" = none
  «zip» : mg "zip" = none
  «set» : mg "set" = none
  «sorted» : mg "sorted" = none
  «MOST_GRADES» : ∃ u, mg "MOST_GRADES" = some u ∧ RelV (.int 9) u
  «MOST_PLACES» : ∃ u, mg "MOST_PLACES" = some u ∧ RelV (.int 2) u
  «MOST_CONNECTIVES» : ∃ u, mg "MOST_CONNECTIVES" = some u ∧ RelV (.int 8) u
  «FIGURES» : ∃ u, mg "FIGURES" = some u ∧ RelV (.str figures) u
/-- the own classes, and what is to be known of them -/
structure Cl (K : PySem.W.Frag) (mg : Str → Option Value) (c : Nat → Addr) : Prop where
  g_GradeError : mg "GradeError" = some (.ref (c 0))
  g_NoTable : mg "NoTable" = some (.ref (c 1))
  x_NoTable : PySem.W.excIn K (c 1) [.type "ValueError", .type "Exception", .type "BaseException", .type "object"] "ValueError.__new__" = true
  m_NoTable : PySem.W.exmOne K (.ref (c 1)) (.ref (c 1)) = some true
abbrev s_law_draw : Stmt := top 31
theorem sc_law_draw : FnScope ["_law_pool_here", "_law_many", "_law_found"] ["_law_pool_here", "_law_many"] (defScope s_law_draw) := ⟨rfl, rfl, rfl, by decide +kernel, rfl, by decide +kernel, by decide +kernel⟩
theorem ok_law_draw {P : Program} {w : World} {K : PySem.W.Frag} {mg : Str → Option Value} {base : Heap} {f : Addr} {fd : FuncData} (F : Fun K "_law_draw" "_law_draw" s_law_draw f fd) (gb : Gb mg) {c : Nat → Addr} (cl : Cl K mg c) : FnOk P w K mg base CX0 1 f fd ["_law_pool_here", "_law_many"] spDraw := by
  refine F.ok sc_law_draw (fun vs H Q E h => ?_) (fun cdv A outer s H vs Q E hr h => ?_)
  · obtain ⟨p, m, rfl, _⟩ := h
    rfl
  obtain ⟨p, m, rfl, ⟨r, a, b, hp⟩, m0, m1, q⟩ := h
  refine ⟨_, (@pss_cons _ _ _ _ _ (@ps_if _ _ _ _ _ _ _ _ (@pt_cmpR _ _ _ _ _ _ _ _ (@op_gt _) (@pe_ix _ _ _ _ _ _ _ (@kix_seq _ K (by rfl)) (@pv _ 0 _ _ (by rfl) (by first | exact Or.inl rfl | exact Or.inr (Or.inl rfl) | exact Or.inr (Or.inr rfl)) (by decide) (by decide)) (@pe_int _ _ _ _) (fun _ _ => rfl)) (@pe_int _ _ _ _) (@nomark _ _ (by decide) (by decide))) (@pss_cons _ _ _ _ _ (@ps_set _ _ 2 _ _ _ _ sc_law_draw.nd rfl (Or.inl rfl) (@pe_op _ _ _ _ _ _ _ _ (@op_mod _) (@pe_ix _ _ _ _ _ _ _ (@kix_seq _ K (by rfl)) (@pv _ 0 _ _ (by rfl) (by first | exact Or.inl rfl | exact Or.inr (Or.inl rfl) | exact Or.inr (Or.inr rfl)) (by decide) (by decide)) (@pe_int _ _ _ _) (fun _ _ => rfl)) (@pv _ 1 _ _ (by rfl) (by first | exact Or.inl rfl | exact Or.inr (Or.inl rfl) | exact Or.inr (Or.inr rfl)) (by decide) (by decide))) (by rfl) (by first | exact .inl rfl | exact .inr rfl | assumption)) (@pss_cons _ _ _ _ _ (@ps_asg _ _ _ _ _ _ (@pe_op _ _ _ _ _ _ _ _ (@op_fdiv _) (@pe_ix _ _ _ _ _ _ _ (@kix_seq _ K (by rfl)) (@pv _ 0 _ _ (by rfl) (by first | exact Or.inl rfl | exact Or.inr (Or.inl rfl) | exact Or.inr (Or.inr rfl)) (by decide) (by decide)) (@pe_int _ _ _ _) (fun _ _ => rfl)) (@pv _ 1 _ _ (by rfl) (by first | exact Or.inl rfl | exact Or.inr (Or.inl rfl) | exact Or.inr (Or.inr rfl)) (by decide) (by decide))) (@pg_sub _ _ _ _ _ _ _ (@pv _ 0 _ _ (by rfl) (by first | exact Or.inl rfl | exact Or.inr (Or.inl rfl) | exact Or.inr (Or.inr rfl)) (by decide) (by decide)) (@pe_int _ _ _ _) (@set_list _) (by intro _; rfl)) (by rfl) (by rfl) (by rfl)) (@pss_one _ _ _ (@ps_ret _ _ _ _ (@pv _ 2 _ _ (by rfl) (by first | exact Or.inl rfl | exact Or.inr (Or.inl rfl) | exact Or.inr (Or.inr rfl)) (by decide) (by decide)))))) (@pss_nil _)) (@pss_cons _ _ _ _ _ (@ps_asg _ _ _ _ _ _ (@pe_op _ _ _ _ _ _ _ _ (@op_mod _) (@pe_op _ _ _ _ _ _ _ _ (@op_add _) (@pe_op _ _ _ _ _ _ _ _ (@op_add _) (@pe_op _ _ _ _ _ _ _ _ (@op_mul _) (@pe_ix _ _ _ _ _ _ _ (@kix_seq _ K (by rfl)) (@pv _ 0 _ _ (by rfl) (by first | exact Or.inl rfl | exact Or.inr (Or.inl rfl) | exact Or.inr (Or.inr rfl)) (by decide) (by decide)) (@pe_int _ _ _ _) (fun _ _ => rfl)) (@pe_int _ _ _ _)) (@pe_ix _ _ _ _ _ _ _ (@kix_seq _ K (by rfl)) (@pv _ 0 _ _ (by rfl) (by first | exact Or.inl rfl | exact Or.inr (Or.inl rfl) | exact Or.inr (Or.inr rfl)) (by decide) (by decide)) (@pe_int _ _ _ _) (fun _ _ => rfl))) (@pe_int _ _ _ _)) (@pe_int _ _ _ _)) (@pg_sub _ _ _ _ _ _ _ (@pv _ 0 _ _ (by rfl) (by first | exact Or.inl rfl | exact Or.inr (Or.inl rfl) | exact Or.inr (Or.inr rfl)) (by decide) (by decide)) (@pe_int _ _ _ _) (@set_list _) (by intro _; rfl)) (by rfl) (by rfl) (by rfl)) (@pss_cons _ _ _ _ _ (@ps_asg _ _ _ _ _ _ (@pe_op _ _ _ _ _ _ _ _ (@op_mod _) (@pe_op _ _ _ _ _ _ _ _ (@op_add _) (@pe_op _ _ _ _ _ _ _ _ (@op_add _) (@pe_op _ _ _ _ _ _ _ _ (@op_mul _) (@pe_ix _ _ _ _ _ _ _ (@kix_seq _ K (by rfl)) (@pv _ 0 _ _ (by rfl) (by first | exact Or.inl rfl | exact Or.inr (Or.inl rfl) | exact Or.inr (Or.inr rfl)) (by decide) (by decide)) (@pe_int _ _ _ _) (fun _ _ => rfl)) (@pe_int _ _ _ _)) (@pe_op _ _ _ _ _ _ _ _ (@op_mod _) (@pe_op _ _ _ _ _ _ _ _ (@op_mul _) (@pe_ix _ _ _ _ _ _ _ (@kix_seq _ K (by rfl)) (@pv _ 0 _ _ (by rfl) (by first | exact Or.inl rfl | exact Or.inr (Or.inl rfl) | exact Or.inr (Or.inr rfl)) (by decide) (by decide)) (@pe_int _ _ _ _) (fun _ _ => rfl)) (@pe_ix _ _ _ _ _ _ _ (@kix_seq _ K (by rfl)) (@pv _ 0 _ _ (by rfl) (by first | exact Or.inl rfl | exact Or.inr (Or.inl rfl) | exact Or.inr (Or.inr rfl)) (by decide) (by decide)) (@pe_int _ _ _ _) (fun _ _ => rfl))) (@pe_int _ _ _ _))) (@pe_int _ _ _ _)) (@pe_int _ _ _ _)) (@pg_sub _ _ _ _ _ _ _ (@pv _ 0 _ _ (by rfl) (by first | exact Or.inl rfl | exact Or.inr (Or.inl rfl) | exact Or.inr (Or.inr rfl)) (by decide) (by decide)) (@pe_int _ _ _ _) (@set_list _) (by intro _; rfl)) (by rfl) (by rfl) (by rfl)) (@pss_one _ _ _ (@ps_ret _ _ _ _ (@pe_op _ _ _ _ _ _ _ _ (@op_mod _) (@pe_op _ _ _ _ _ _ _ _ (@op_fdiv _) (@pe_op _ _ _ _ _ _ _ _ (@op_add _) (@pe_ix _ _ _ _ _ _ _ (@kix_seq _ K (by rfl)) (@pv _ 0 _ _ (by rfl) (by first | exact Or.inl rfl | exact Or.inr (Or.inl rfl) | exact Or.inr (Or.inr rfl)) (by decide) (by decide)) (@pe_int _ _ _ _) (fun _ _ => rfl)) (@pe_op _ _ _ _ _ _ _ _ (@op_mul _) (@pe_int _ _ _ _) (@pe_ix _ _ _ _ _ _ _ (@kix_seq _ K (by rfl)) (@pv _ 0 _ _ (by rfl) (by first | exact Or.inl rfl | exact Or.inr (Or.inl rfl) | exact Or.inr (Or.inr rfl)) (by decide) (by decide)) (@pe_int _ _ _ _) (fun _ _ => rfl)))) (@pe_int _ _ _ _)) (@pv _ 1 _ _ (by rfl) (by first | exact Or.inl rfl | exact Or.inr (Or.inl rfl) | exact Or.inr (Or.inr rfl)) (by decide) (by decide)))))))), ?_⟩
  walk_at "rd"
  refine ite2 (fun c => ?_) (fun c => ?_)
  · walk_at "rd"
    exact q _ _ (Int.emod_nonneg _ (by omega)) (Int.emod_lt_of_pos _ m0) Off.put ⟨_, _, _, upd_same⟩
  · walk_at "rd"
    exact q _ _ (Int.emod_nonneg _ (by omega)) (Int.emod_lt_of_pos _ m0) (Off.put.trans Off.put) ⟨_, _, _, upd_same⟩

abbrev s_law_pool : Stmt := top 30
theorem sc_law_pool : FnScope ["_law_cell", "_law_rest", "_law_one"] ["_law_cell"] (defScope s_law_pool) := ⟨rfl, rfl, rfl, by decide +kernel, rfl, by decide +kernel, by decide +kernel⟩
theorem ok_law_pool {P : Program} {w : World} {K : PySem.W.Frag} {mg : Str → Option Value} {base : Heap} {f : Addr} {fd : FuncData} (F : Fun K "_law_pool" "_law_pool" s_law_pool f fd) (gb : Gb mg) {c : Nat → Addr} (cl : Cl K mg c) : FnOk P w K mg base CX0 1 f fd ["_law_cell"] spPool := by
  refine F.ok sc_law_pool (fun vs H Q E h => ?_) (fun cdv A outer s H vs Q E hr h => ?_)
  · obtain ⟨c, rfl, _⟩ := h
    rfl
  obtain ⟨c, rfl, q⟩ := h
  refine ⟨_, (@pss_cons _ _ _ _ _ (@ps_set _ _ 1 _ _ _ _ sc_law_pool.nd rfl (Or.inl rfl) (@pe_int _ _ _ _) (by rfl) (by first | exact .inl rfl | exact .inr rfl | assumption)) (@pss_cons _ _ _ _ _ (@ps_if _ _ _ _ _ _ _ _ (@PW.pt _ _ _ (@pw_or _ _ _ _ _ _ _ (@pt_cmpR _ _ _ _ _ _ _ _ (@op_lt _) (@pv _ 0 _ _ (by rfl) (by first | exact Or.inl rfl | exact Or.inr (Or.inl rfl) | exact Or.inr (Or.inr rfl)) (by decide) (by decide)) (@pe_int _ _ _ _) (@nomark _ _ (by decide) (by decide))) (@pw_or1 _ _ _ _ (@pt_cmpR _ _ _ _ _ _ _ _ (@op_ge _) (@pv _ 0 _ _ (by rfl) (by first | exact Or.inl rfl | exact Or.inr (Or.inl rfl) | exact Or.inr (Or.inr rfl)) (by decide) (by decide)) (@pe_op _ _ _ _ _ _ _ _ (@op_pow _) (@pe_int _ _ _ _) (@pe_int _ _ _ _)) (@nomark _ _ (by decide) (by decide)))))) (@pss_one _ _ _ (@ps_set _ _ 1 _ _ _ _ sc_law_pool.nd rfl (Or.inl rfl) (@pe_callB _ _ _ _ _ _ _ _ _ (@call_abs _) rfl gb.abs bt_abs (@pa_cons _ _ _ _ _ (@pv _ 0 _ _ (by rfl) (by first | exact Or.inl rfl | exact Or.inr (Or.inl rfl) | exact Or.inr (Or.inr rfl)) (by decide) (by decide)) (@pa_nil _) (by rfl)) (by decide) (by decide) (by rfl) (by rfl)) (by rfl) (by first | exact .inl rfl | exact .inr rfl | assumption))) (@pss_nil _)) (@pss_cons _ _ _ _ _ (@ps_set _ _ 2 _ _ _ _ sc_law_pool.nd rfl (Or.inl rfl) (@pe_op _ _ _ _ _ _ _ _ (@op_mod _) (@pv _ 0 _ _ (by rfl) (by first | exact Or.inl rfl | exact Or.inr (Or.inl rfl) | exact Or.inr (Or.inr rfl)) (by decide) (by decide)) (@pe_int _ _ _ _)) (by rfl) (by first | exact .inl rfl | exact .inr rfl | assumption)) (@pss_one _ _ _ (@ps_ret _ _ _ _ (@pe_lst _ _ _ _ (@pa_cons _ _ _ _ _ (@pv _ 1 _ _ (by rfl) (by first | exact Or.inl rfl | exact Or.inr (Or.inl rfl) | exact Or.inr (Or.inr rfl)) (by decide) (by decide)) (@pa_cons _ _ _ _ _ (@pv _ 2 _ _ (by rfl) (by first | exact Or.inl rfl | exact Or.inr (Or.inl rfl) | exact Or.inr (Or.inr rfl)) (by decide) (by decide)) (@pa_cons _ _ _ _ _ (@pe_op _ _ _ _ _ _ _ _ (@op_mod _) (@pe_op _ _ _ _ _ _ _ _ (@op_add _) (@pe_op _ _ _ _ _ _ _ _ (@op_mul _) (@pv _ 2 _ _ (by rfl) (by first | exact Or.inl rfl | exact Or.inr (Or.inl rfl) | exact Or.inr (Or.inr rfl)) (by decide) (by decide)) (@pe_int _ _ _ _)) (@pe_int _ _ _ _)) (@pe_int _ _ _ _)) (@pa_nil _) (by rfl)) (by rfl)) (by rfl)))))))), ?_⟩
  walk_at "rd"
  refine ite2 (fun c1 => ?_) (fun c1 => ?_)
  · walk_at "rd"
    exact ⟨small9 (by show 3 ≤ 1000; decide), fun p hp => q p _ _ _ hp⟩
  · walk_at "rd"
    refine ite2 (fun c2 => ?_) (fun c2 => ?_)
    · walk_at "rd"
      exact ⟨small9 (by show 3 ≤ 1000; decide), fun p hp => q p _ _ _ hp⟩
    · walk_at "rd"
      exact ⟨small9 (by show 3 ≤ 1000; decide), fun p hp => q p _ _ _ hp⟩

abbrev s_power : Stmt := top 14
theorem sc_power : FnScope ["base", "exponent", "product", "step"] ["base", "exponent"] (defScope s_power) := ⟨rfl, rfl, rfl, by decide +kernel, rfl, by decide +kernel, by decide +kernel⟩
theorem ok_power {P : Program} {w : World} {K : PySem.W.Frag} {mg : Str → Option Value} {base : Heap} {f : Addr} {fd : FuncData} (F : Fun K "power" "power" s_power f fd) (gb : Gb mg) {c : Nat → Addr} (cl : Cl K mg c) : FnOk P w K mg base CX0 1 f fd ["base", "exponent"] spPower := by
  refine F.ok sc_power (fun vs H Q E h => ?_) (fun cdv A outer s H vs Q E hr h => ?_)
  · obtain ⟨b, n, rfl, _⟩ := h
    rfl
  obtain ⟨b, n, rfl, b1, b9, n9, q⟩ := h
  refine ⟨_, (@pss_cons _ _ _ _ _ (@ps_set _ _ 2 _ _ _ _ sc_power.nd rfl (Or.inl rfl) (@pe_int _ _ _ _) (by rfl) (by first | exact .inl rfl | exact .inr rfl | assumption)) (@pss_cons _ _ _ _ _ (@ps_for _ _ _ _ _ _ _ _ PassesOwn.never rfl (@pi_range1 _ _ _ _ _ _ rfl gb.range (@pa_cons _ _ _ _ _ (@pv _ 1 _ _ (by rfl) (by first | exact Or.inl rfl | exact Or.inr (Or.inl rfl) | exact Or.inr (Or.inr rfl)) (by decide) (by decide)) (@pa_nil _) (by rfl)) (by rfl)) (@pg_name _ _ 3 _ sc_power.nd rfl (Or.inl rfl) (by first | exact .inl rfl | exact .inr rfl | assumption)) (@pss_one _ _ _ (@ps_set _ _ 2 _ _ _ _ sc_power.nd rfl (Or.inl rfl) (@pe_op _ _ _ _ _ _ _ _ (@op_mul _) (@pv _ 2 _ _ (by rfl) (by first | exact Or.inl rfl | exact Or.inr (Or.inl rfl) | exact Or.inr (Or.inr rfl)) (by decide) (by decide)) (@pv _ 0 _ _ (by rfl) (by first | exact Or.inl rfl | exact Or.inr (Or.inl rfl) | exact Or.inr (Or.inr rfl)) (by decide) (by decide))) (by rfl) (by first | exact .inl rfl | exact .inr rfl | assumption))) (by intro _; rfl)) (@pss_one _ _ _ (@ps_ret _ _ _ _ (@pv _ 2 _ _ (by rfl) (by first | exact Or.inl rfl | exact Or.inr (Or.inl rfl) | exact Or.inr (Or.inr rfl)) (by decide) (by decide)))))), ?_⟩
  refine ⟨_, rfl, _, rfl, by omega, by omega, ?_⟩
  refine for_range (fun i σ H' => H' = H ∧ ∃ st, σ = [some (.int b), some (.int n), some (.int (b ^ i)), st]) ⟨rfl, none, by rw [Int.pow_zero]; rfl⟩ ?_ ?_
  · rintro i σ H' hi ⟨rfl, st, rfl⟩
    refine ⟨_, rfl, _, rfl, _, _, rfl, rfl, .inr ⟨by omega, by omega⟩, rfl, some (.int (0 + i)), ?_⟩
    rw [Int.pow_succ]
    rfl
  · rintro σ H' ⟨rfl, st, rfl⟩
    exact ⟨_, rfl, by rw [Int.toNat_natCast]; exact q⟩

abbrev s_count_nones : Stmt := top 13
theorem sc_count_nones : FnScope ["H"] ["H"] (defScope s_count_nones) := ⟨rfl, rfl, rfl, by decide +kernel, rfl, by decide +kernel, by decide +kernel⟩
theorem ok_count_nones {P : Program} {w : World} {K : PySem.W.Frag} {mg : Str → Option Value} {base : Heap} {f : Addr} {fd : FuncData} (F : Fun K "count_nones" "count_nones" s_count_nones f fd) (gb : Gb mg) {c : Nat → Addr} (cl : Cl K mg c) : FnOk P w K mg base CX0 1 f fd ["H"] spNones := by
  refine F.ok sc_count_nones (fun vs H Q E h => ?_) (fun cdv A outer s H vs Q E hr h => ?_)
  · obtain ⟨v, T, rfl, _⟩ := h
    rfl
  obtain ⟨v, T, rfl, ⟨a, w1, c, vs, rfl, h1, h2, h3, h4⟩, ft, q⟩ := h
  have nd0 : (["name", "places", "cells"] : List Str).Nodup := by decide +kernel
  refine ⟨_, (@pss_one _ _ _ (@ps_ret _ _ _ _ (@pe_callB _ _ _ _ _ _ _ _ _ (@kcall_sum _ K rfl (by rfl)) rfl gb.sum bt_sum (@pa_cons _ _ _ _ _ (@pe_comp _ ["name", "places", "cells"] [none, none, none] _ _ _ _ _ _ _ _ _ _ (by exact (show CompOk ["H"] (defScope s_count_nones) ["name", "places", "cells"] [none, none, none] _ from ⟨rfl, by decide +kernel, by decide +kernel, by decide +kernel, by decide +kernel, rfl, by decide +kernel⟩)) rfl (@kpi_tup _ K _ _ _ (@pe_ix _ _ _ _ _ _ _ (@kix_seq _ K (by rfl)) (@pv _ 0 _ _ (by rfl) (by first | exact Or.inl rfl | exact Or.inr (Or.inl rfl) | exact Or.inr (Or.inr rfl)) (by decide) (by decide)) (@pe_int _ _ _ _) (fun _ _ => rfl)) (by rfl)) (fun _ _ _ _ => (@kpg_tup _ K _ _ _ _ 3 rfl (@pgs_cons _ _ _ _ _ (@pg_name _ _ 0 _ nd0 rfl (Or.inl rfl) (by first | exact .inl rfl | exact .inr rfl | assumption)) (@pgs_cons _ _ _ _ _ (@pg_name _ _ 1 _ nd0 rfl (Or.inl rfl) (by first | exact .inl rfl | exact .inr rfl | assumption)) (@pgs_cons _ _ _ _ _ (@pg_name _ _ 2 _ nd0 rfl (Or.inl rfl) (by first | exact .inl rfl | exact .inr rfl | assumption)) (@pgs_nil _) (by rfl)) (by rfl)) (by rfl)) (by rfl) (by rfl) (by rfl))) (fun _ _ _ _ => (@pf_nil _)) (fun _ _ _ _ => (@kpe_bm _ K _ _ _ _ _ _ _ _ _ _ _ PySem.F.plainAttrs_tuple PySem.F.slot_tuple_count PySem.F.type_tuple_count (@mt_count _) (@pv _ 2 _ _ (by rfl) (by first | exact Or.inl rfl | exact Or.inr (Or.inl rfl) | exact Or.inr (Or.inr rfl)) (by decide) (by decide)) (@pa_cons _ _ _ _ _ (@pe_non _ _ _) (@pa_nil _) (by rfl)) (by rfl) (by rfl) (by rfl) (by rfl) (by rfl) (by rfl))) (by intro _; rfl)) (@pa_nil _) (by rfl)) (by decide) (by decide) (by rfl) (by rfl)))), ?_⟩
  refine ⟨_, rfl, .inr (.inl ⟨a, _, 2, _, rfl, rfl, SqT.of h1, rfl, c, rfl, ⟨_, SqT.of h3⟩, fun D hD => ?_⟩)⟩
  have hlen := h4.len
  have ge : ∀ i, i < T.cs.length → T.cs[i]? = some (T.cs.getD i ⟨"", 0, []⟩) := fun i hi => by simp [List.getD, hi]
  have gx : ∀ i, ∃ t u : Addr, i < T.cs.length → vs[i]? = some (.ref t) ∧ H t = some (.tup [.str (T.cs.getD i ⟨"", 0, []⟩).nm, .int (T.cs.getD i ⟨"", 0, []⟩).pl, .ref u]) ∧ H u = some (.tup ((T.cs.getD i ⟨"", 0, []⟩).cs.map cellV)) := fun i => by
    by_cases hi : i < T.cs.length
    · obtain ⟨t, u, h⟩ := h4.get (ge i hi)
      exact ⟨t, u, fun _ => h⟩
    · exact ⟨0, 0, fun z => absurd z hi⟩
  obtain ⟨ad, gx⟩ := Classical.axiomOfChoice gx
  obtain ⟨au, gx⟩ := Classical.axiomOfChoice gx
  refine comp_tt3 (n := T.cs.length) (ad := ad) (v1 := fun i => .str (T.cs.getD i ⟨"", 0, []⟩).nm) (v2 := fun i => .int (T.cs.getD i ⟨"", 0, []⟩).pl) (v3 := fun i => .ref (au i))
    (fun i ys H' => Same H H' ∧ ys = (T.cs.take i).map fun c => V.int (nonesC c : Nat)) ⟨same_new hD _, rfl⟩ hlen (fun i hi => (gx i hi).1) (fun i ys H' p _ => SqT.of (p.1 _ _ h3)) (fun i ys H' hi p => SqT.of (p.1 _ _ (gx i hi).2.1)) ?_ ?_
  · rintro i ys H' hi ⟨s1, rfl⟩ hD'
    refine yes ?_
    refine ⟨_, rfl, .inr (.inr (.inr (.inr ⟨rfl, _, s1 _ _ (gx i hi).2.2⟩))), _, _, _, rfl, rfl, s1 _ _ (gx i hi).2.2, rfl, flat_cells _, ?_⟩
    rw [count_cells]
    have hz : ((T.cs.take i).map fun c => V.int (nonesC c : Nat)).length < sizeLine := by
      rw [List.length_map, List.length_take]
      exact small1000 (by have := ft.2.2.2.1; omega)
    refine cyes hi rfl hD' hz ⟨fun b o q => ?_, ?_⟩
    · rw [upd_ne (ne_of_none q hD)]
      exact s1 b o q
    · rw [take_snoc (ge i hi), List.map_append]
      rfl
  · rintro ys H' ⟨s1, rfl⟩ hD'
    rw [List.take_length] at hD'
    refine ⟨D, T.cs.map fun c => ((nonesC c : Nat) : Int), rfl, SqL.of (by rw [List.map_map]; exact hD'), ?_⟩
    have e : ∀ cs : List Conn, (cs.map fun c => ((nonesC c : Nat) : Int)).sum = (((cs.map nonesC).sum : Nat) : Int) := fun cs => by
      induction cs with
      | nil => rfl
      | cons c cs ih => rw [List.map_cons, List.sum_cons, List.map_cons, List.sum_cons, ih, Int.natCast_add]
    rw [e]
    exact q H' s1

abbrev s_is_whole : Stmt := top 4
theorem sc_is_whole : FnScope ["thing"] ["thing"] (defScope s_is_whole) := ⟨rfl, rfl, rfl, by decide +kernel, rfl, by decide +kernel, by decide +kernel⟩
theorem ok_is_whole {P : Program} {w : World} {K : PySem.W.Frag} {mg : Str → Option Value} {base : Heap} {f : Addr} {fd : FuncData} (F : Fun K "is_whole" "is_whole" s_is_whole f fd) (gb : Gb mg) {c : Nat → Addr} (cl : Cl K mg c) : FnOk P w K mg base CX0 1 f fd ["thing"] spWholeT := by
  refine F.ok sc_is_whole (fun vs H Q E h => ?_) (fun cdv A outer s H vs Q E hr h => ?_)
  · obtain ⟨t, v, rfl, _⟩ := h
    rfl
  obtain ⟨t, v, rfl, h, q⟩ := h
  refine ⟨_, (@pss_one _ _ _ (@ps_ret _ _ _ _ (@pe_and _ _ _ _ _ _ _ (@pe_callB _ _ _ _ _ _ _ _ _ (@kcall_isiT _ K (by rfl)) rfl gb.isinstance bt_isinstance (@pa_cons _ _ _ _ _ (@pv _ 0 _ _ (by rfl) (by first | exact Or.inl rfl | exact Or.inr (Or.inl rfl) | exact Or.inr (Or.inr rfl)) (by decide) (by decide)) (@pa_cons _ _ _ _ _ (@pe_bltn _ _ (.ty "int") _ _ rfl gb.int bt_int rfl (by decide) (by decide)) (@pa_nil _) (by rfl)) (by rfl)) (by decide) (by decide) (by rfl) (by rfl)) (@pe_one _ _ _ _ _ (@pe_not _ _ _ _ (@pe_callB _ _ _ _ _ _ _ _ _ (@kcall_isiT _ K (by rfl)) rfl gb.isinstance bt_isinstance (@pa_cons _ _ _ _ _ (@pv _ 0 _ _ (by rfl) (by first | exact Or.inl rfl | exact Or.inr (Or.inl rfl) | exact Or.inr (Or.inr rfl)) (by decide) (by decide)) (@pa_cons _ _ _ _ _ (@pe_bltn _ _ (.ty "bool") _ _ rfl gb.bool bt_bool rfl (by decide) (by decide)) (@pa_nil _) (by rfl)) (by rfl)) (by decide) (by decide) (by rfl) (by rfl))))))), ?_⟩
  refine ⟨_, rfl, _, _, _, isIntB t, rfl, h.ty, kit_int t, _, rfl, ?_⟩
  cases t with
  | int i => exact iteT ⟨_, rfl, _, _, _, false, rfl, h.ty, kit_bool (.int i), _, rfl, q⟩
  | bl b => exact iteT ⟨_, rfl, _, _, _, true, rfl, h.ty, kit_bool (.bl b), _, rfl, q⟩
  | _ => exact iteF q

abbrev s_has_small_letters_alone : Stmt := top 6
theorem sc_has_small_letters_alone : FnScope ["text"] ["text"] (defScope s_has_small_letters_alone) := ⟨rfl, rfl, rfl, by decide +kernel, rfl, by decide +kernel, by decide +kernel⟩
theorem ok_has_small_letters_alone {P : Program} {w : World} {K : PySem.W.Frag} {mg : Str → Option Value} {base : Heap} {f : Addr} {fd : FuncData} (F : Fun K "has_small_letters_alone" "has_small_letters_alone" s_has_small_letters_alone f fd) (gb : Gb mg) {c : Nat → Addr} (cl : Cl K mg c) : FnOk P w K mg base CX0 1 f fd ["text"] spSmallT := by
  refine F.ok sc_has_small_letters_alone (fun vs H Q E h => ?_) (fun cdv A outer s H vs Q E hr h => ?_)
  · obtain ⟨x, rfl, _⟩ := h
    rfl
  obtain ⟨x, rfl, hl, q⟩ := h
  have nd0 : (["sign"] : List Str).Nodup := by decide +kernel
  refine ⟨_, (@pss_one _ _ _ (@ps_ret _ _ _ _ (@pe_callB _ _ _ _ _ _ _ _ _ (@kcall_all _ K rfl (by rfl)) rfl gb.all bt_all (@pa_cons _ _ _ _ _ (@pe_comp _ ["sign"] [none] _ _ _ _ _ _ _ _ _ _ (by exact (show CompOk ["text"] (defScope s_has_small_letters_alone) ["sign"] [none] _ from ⟨rfl, by decide +kernel, by decide +kernel, by decide +kernel, by decide +kernel, rfl, by decide +kernel⟩)) rfl (@pi_str _ _ _ _ (@pv _ 0 _ _ (by rfl) (by first | exact Or.inl rfl | exact Or.inr (Or.inl rfl) | exact Or.inr (Or.inr rfl)) (by decide) (by decide))) (fun _ _ _ _ => (@pg_name _ _ 0 _ nd0 rfl (Or.inl rfl) (by first | exact .inl rfl | exact .inr rfl | assumption))) (fun _ _ _ _ => (@pf_nil _)) (fun _ _ _ _ => (@pe_chain _ _ _ _ _ _ _ _ _ _ _ _ (@op_le_str _) (@op_le_str _) (@pe_str _ _ _ _) (@pv _ 0 _ _ (by rfl) (by first | exact Or.inl rfl | exact Or.inr (Or.inl rfl) | exact Or.inr (Or.inr rfl)) (by decide) (by decide)) (@pe_str _ _ _ _) (by with_unfolding_all rfl))) (by intro _; rfl)) (@pa_nil _) (by rfl)) (by decide) (by decide) (by rfl) (by rfl)))), ?_⟩
  refine ⟨_, rfl, x, rfl, fun D hD => ?_⟩
  refine map_str (h := fun c => .bl (decide (97 ≤ c) && decide (c ≤ 122))) (by omega) hD (fun c hc H' Q' s1 q' => ?_) (fun H' s1 hD' => ?_)
  · refine ⟨_, rfl, _, _, rfl, rfl, _, rfl, ?_⟩
    rw [small_a]
    have q2 := q' _ Same.rfl'
    cases hb : decide (97 ≤ c) with
    | false =>
      rw [hb, Bool.false_and] at q2
      exact iteF q2
    | true =>
      rw [hb, Bool.true_and] at q2
      refine iteT ⟨_, _, rfl, rfl, ?_⟩
      rw [small_z]
      exact q2
  · have e : x.cps.toList.map (fun c => V.bl (decide (97 ≤ c) && decide (c ≤ 122))) = (x.cps.toList.map fun c => decide (97 ≤ c) && decide (c ≤ 122)).map V.bl := by rw [List.map_map]; rfl
    rw [e] at hD'
    refine ⟨D, _, rfl, SqL.of hD', ?_⟩
    rw [all_map_id]
    exact q _ s1

abbrev s_is_name : Stmt := top 5
theorem sc_is_name : FnScope ["thing"] ["thing"] (defScope s_is_name) := ⟨rfl, rfl, rfl, by decide +kernel, rfl, by decide +kernel, by decide +kernel⟩
theorem ok_is_name {P : Program} {w : World} {K : PySem.W.Frag} {mg : Str → Option Value} {base : Heap} {f : Addr} {fd : FuncData} (F : Fun K "is_name" "is_name" s_is_name f fd) (gb : Gb mg) {c : Nat → Addr} (cl : Cl K mg c) (d_has_small_letters_alone : Def P w K mg base 1 "has_small_letters_alone" ["text"] spSmallT) : FnOk P w K mg base CX0 2 f fd ["thing"] spNameT := by
  refine F.ok sc_is_name (fun vs H Q E h => ?_) (fun cdv A outer s H vs Q E hr h => ?_)
  · obtain ⟨t, v, rfl, _⟩ := h
    rfl
  obtain ⟨t, v, rfl, h, q⟩ := h
  refine ⟨_, (@pss_one _ _ _ (@ps_ret _ _ _ _ (@pe_and _ _ _ _ _ _ _ (@pe_callB _ _ _ _ _ _ _ _ _ (@kcall_isiT _ K (by rfl)) rfl gb.isinstance bt_isinstance (@pa_cons _ _ _ _ _ (@pv _ 0 _ _ (by rfl) (by first | exact Or.inl rfl | exact Or.inr (Or.inl rfl) | exact Or.inr (Or.inr rfl)) (by decide) (by decide)) (@pa_cons _ _ _ _ _ (@pe_bltn _ _ (.ty "str") _ _ rfl gb.str bt_str rfl (by decide) (by decide)) (@pa_nil _) (by rfl)) (by rfl)) (by decide) (by decide) (by rfl) (by rfl)) (@pe_and _ _ _ _ _ _ _ (@pe_chain _ _ _ _ _ _ _ _ _ _ _ _ (@op_le _) (@op_le _) (@pe_int _ _ _ _) (@pe_callB _ _ _ _ _ _ _ _ _ (@kcall_len _ K (by rfl)) rfl gb.len bt_len (@pa_cons _ _ _ _ _ (@pv _ 0 _ _ (by rfl) (by first | exact Or.inl rfl | exact Or.inr (Or.inl rfl) | exact Or.inr (Or.inr rfl)) (by decide) (by decide)) (@pa_nil _) (by rfl)) (by decide) (by decide) (by rfl) (by rfl)) (@pe_int _ _ _ _) (by with_unfolding_all rfl)) (@pe_one _ _ _ _ _ (@pe_def _ _ _ _ _ _ _ _ _ _ _ d_has_small_letters_alone hr (by omega) rfl (@pa_cons _ _ _ _ _ (@pv _ 0 _ _ (by rfl) (by first | exact Or.inl rfl | exact Or.inr (Or.inl rfl) | exact Or.inr (Or.inr rfl)) (by decide) (by decide)) (@pa_nil _) (by rfl)) (by decide) (by rfl) (by rfl))))))), ?_⟩
  refine ⟨_, rfl, _, _, _, isStrB t, rfl, h.ty, kit_str t, _, rfl, ?_⟩
  cases t with
  | str x =>
    cases h with
    | str _ hx =>
    have hb : x.length ≤ sizeLine := Nat.le_trans hx (by decide +kernel)
    refine iteT ⟨_, rfl, _, x.length, rfl, ⟨hb, rfl⟩, _, _, rfl, rfl, _, rfl, ?_⟩
    by_cases h2 : (2 : Int) ≤ x.length
    · rw [if_pos (decide_eq_true h2)]
      refine ⟨_, _, rfl, rfl, _, rfl, ?_⟩
      by_cases h8 : (x.length : Int) ≤ 8
      · rw [if_pos (decide_eq_true h8)]
        refine ⟨_, rfl, x, rfl, by omega, fun H1 s1 => ?_⟩
        have := q H1 s1
        rw [show nameB (.str x) = (decide (2 ≤ x.length) && decide (x.length ≤ 8) && smallB x) from rfl] at this
        rw [decide_eq_true (show 2 ≤ x.length by omega), decide_eq_true (show x.length ≤ 8 by omega), Bool.true_and, Bool.true_and] at this
        exact this
      · rw [if_neg (by simpa using h8)]
        have := q _ Same.rfl'
        rw [show nameB (.str x) = (decide (2 ≤ x.length) && decide (x.length ≤ 8) && smallB x) from rfl] at this
        rw [decide_eq_false (show ¬ x.length ≤ 8 by omega), Bool.and_false, Bool.false_and] at this
        exact this
    · rw [if_neg (by simpa using h2)]
      have := q _ Same.rfl'
      rw [show nameB (.str x) = (decide (2 ≤ x.length) && decide (x.length ≤ 8) && smallB x) from rfl] at this
      rw [decide_eq_false (show ¬ 2 ≤ x.length by omega), Bool.false_and, Bool.false_and] at this
      exact ⟨false, rfl, iteF this⟩
  | _ => exact iteF (q _ Same.rfl')

abbrev s_is_grade : Stmt := top 15
theorem sc_is_grade : FnScope ["thing", "many"] ["thing", "many"] (defScope s_is_grade) := ⟨rfl, rfl, rfl, by decide +kernel, rfl, by decide +kernel, by decide +kernel⟩
theorem ok_is_grade {P : Program} {w : World} {K : PySem.W.Frag} {mg : Str → Option Value} {base : Heap} {f : Addr} {fd : FuncData} (F : Fun K "is_grade" "is_grade" s_is_grade f fd) (gb : Gb mg) {c : Nat → Addr} (cl : Cl K mg c) (d_is_whole : Def P w K mg base 1 "is_whole" ["thing"] spWholeT) : FnOk P w K mg base CX0 2 f fd ["thing", "many"] spGradeT := by
  refine F.ok sc_is_grade (fun vs H Q E h => ?_) (fun cdv A outer s H vs Q E hr h => ?_)
  · obtain ⟨t, v, m, rfl, _⟩ := h
    rfl
  obtain ⟨t, v, m, rfl, h, q⟩ := h
  refine ⟨_, (@pss_one _ _ _ (@ps_ret _ _ _ _ (@pe_and _ _ _ _ _ _ _ (@pe_def _ _ _ _ _ _ _ _ _ _ _ d_is_whole hr (by omega) rfl (@pa_cons _ _ _ _ _ (@pv _ 0 _ _ (by rfl) (by first | exact Or.inl rfl | exact Or.inr (Or.inl rfl) | exact Or.inr (Or.inr rfl)) (by decide) (by decide)) (@pa_nil _) (by rfl)) (by decide) (by rfl) (by rfl)) (@pe_one _ _ _ _ _ (@pe_chain _ _ _ _ _ _ _ _ _ _ _ _ (@op_le _) (@op_lt _) (@pe_int _ _ _ _) (@pv _ 0 _ _ (by rfl) (by first | exact Or.inl rfl | exact Or.inr (Or.inl rfl) | exact Or.inr (Or.inr rfl)) (by decide) (by decide)) (@pv _ 1 _ _ (by rfl) (by first | exact Or.inl rfl | exact Or.inr (Or.inl rfl) | exact Or.inr (Or.inr rfl)) (by decide) (by decide)) (by with_unfolding_all rfl)))))), ?_⟩
  refine ⟨_, rfl, t, v, rfl, h, _, rfl, ?_⟩
  cases t with
  | int i =>
    cases h
    refine iteT ⟨_, rfl, _, _, rfl, rfl, _, rfl, ?_⟩
    rw [show gradeB m (.int i) = (decide (0 ≤ i) && decide (i < m)) from rfl] at q
    cases hb : decide (0 ≤ i) with
    | false =>
      rw [hb, Bool.false_and] at q
      exact iteF q
    | true =>
      rw [hb, Bool.true_and] at q
      exact iteT ⟨_, rfl, _, _, rfl, rfl, q⟩
  | _ => exact iteF q

abbrev s_are_rising_grades : Stmt := top 16
theorem sc_are_rising_grades : FnScope ["thing", "many"] ["thing", "many"] (defScope s_are_rising_grades) := ⟨rfl, rfl, rfl, by decide +kernel, rfl, by decide +kernel, by decide +kernel⟩
theorem ok_are_rising_grades {P : Program} {w : World} {K : PySem.W.Frag} {mg : Str → Option Value} {base : Heap} {f : Addr} {fd : FuncData} (F : Fun K "are_rising_grades" "are_rising_grades" s_are_rising_grades f fd) (gb : Gb mg) {c : Nat → Addr} (cl : Cl K mg c) (d_is_grade : Def P w K mg base 2 "is_grade" ["thing", "many"] spGradeT) : FnOk P w K mg base CX0 3 f fd ["thing", "many"] spRisingT := by
  refine F.ok sc_are_rising_grades (fun vs H Q E h => ?_) (fun cdv A outer s H vs Q E hr h => ?_)
  · obtain ⟨t, v, m, rfl, _⟩ := h
    rfl
  obtain ⟨t, v, m, rfl, h, q⟩ := h
  have nd0 : (["part", "many"] : List Str).Nodup := by decide +kernel
  have nd1 : (["one", "other"] : List Str).Nodup := by decide +kernel
  refine ⟨_, (@pss_cons _ _ _ _ _ (@ps_if _ _ _ _ _ _ _ _ (@PW.pt _ _ _ (@pw_or _ _ _ _ _ _ _ (@pt_not _ _ _ _ (@pt_val _ _ _ (@pe_callB _ _ _ _ _ _ _ _ _ (@kcall_isiT _ K (by rfl)) rfl gb.isinstance bt_isinstance (@pa_cons _ _ _ _ _ (@pv _ 0 _ _ (by rfl) (by first | exact Or.inl rfl | exact Or.inr (Or.inl rfl) | exact Or.inr (Or.inr rfl)) (by decide) (by decide)) (@pa_cons _ _ _ _ _ (@pe_bltn _ _ (.ty "tuple") _ _ rfl gb.tuple bt_tuple rfl (by decide) (by decide)) (@pa_nil _) (by rfl)) (by rfl)) (by decide) (by decide) (by rfl) (by rfl)) (by intro _; rfl))) (@pw_or1 _ _ _ _ (@pt_not _ _ _ _ (@pt_val _ _ _ (@pe_callB _ _ _ _ _ _ _ _ _ (@kcall_all _ K rfl (by rfl)) rfl gb.all bt_all (@pa_cons _ _ _ _ _ (@pe_comp _ ["part", "many"] [none, some 1] _ _ _ _ _ _ _ _ _ _ (by exact (show CompOk ["thing", "many"] (defScope s_are_rising_grades) ["part", "many"] [none, some 1] _ from ⟨rfl, by decide +kernel, by decide +kernel, by decide +kernel, by decide +kernel, rfl, by decide +kernel⟩)) rfl (@kpi_tup _ K _ _ _ (@pv _ 0 _ _ (by rfl) (by first | exact Or.inl rfl | exact Or.inr (Or.inl rfl) | exact Or.inr (Or.inr rfl)) (by decide) (by decide)) (by rfl)) (fun _ _ _ _ => (@pg_name _ _ 0 _ nd0 rfl (Or.inl rfl) (by first | exact .inl rfl | exact .inr rfl | assumption))) (fun _ _ _ _ => (@pf_nil _)) (fun _ _ _ _ => (@pe_def _ _ _ _ _ _ _ _ _ _ _ d_is_grade hr (by omega) rfl (@pa_cons _ _ _ _ _ (@pv _ 0 _ _ (by rfl) (by first | exact Or.inl rfl | exact Or.inr (Or.inl rfl) | exact Or.inr (Or.inr rfl)) (by decide) (by decide)) (@pa_cons _ _ _ _ _ (@pv _ 1 _ _ (by rfl) (by first | exact Or.inl rfl | exact Or.inr (Or.inl rfl) | exact Or.inr (Or.inr rfl)) (by decide) (by decide)) (@pa_nil _) (by rfl)) (by rfl)) (by decide) (by rfl) (by rfl))) (by intro _; rfl)) (@pa_nil _) (by rfl)) (by decide) (by decide) (by rfl) (by rfl)) (by intro _; rfl)))))) (@pss_one _ _ _ (@ps_ret _ _ _ _ (@pe_bl _ _ _ _))) (@pss_nil _)) (@pss_one _ _ _ (@ps_ret _ _ _ _ (@pe_callB _ _ _ _ _ _ _ _ _ (@kcall_all _ K rfl (by rfl)) rfl gb.all bt_all (@pa_cons _ _ _ _ _ (@pe_comp _ ["one", "other"] [none, none] _ _ _ _ _ _ _ _ _ _ (by exact (show CompOk ["thing", "many"] (defScope s_are_rising_grades) ["one", "other"] [none, none] _ from ⟨rfl, by decide +kernel, by decide +kernel, by decide +kernel, by decide +kernel, rfl, by decide +kernel⟩)) rfl (@kpi_zip _ K _ _ _ _ _ _ _ _ rfl gb.zip (@pa_cons _ _ _ _ _ (@pv _ 0 _ _ (by rfl) (by first | exact Or.inl rfl | exact Or.inr (Or.inl rfl) | exact Or.inr (Or.inr rfl)) (by decide) (by decide)) (@pa_cons _ _ _ _ _ (@pe_slice _ _ _ _ _ _ _ _ _ _ (@ksl_tupA _ K (by rfl)) (@pv _ 0 _ _ (by rfl) (by first | exact Or.inl rfl | exact Or.inr (Or.inl rfl) | exact Or.inr (Or.inr rfl)) (by decide) (by decide)) (@po_some _ _ _ (@pe_int _ _ _ _)) (@po_none _)) (@pa_nil _) (by rfl)) (by rfl)) (by rfl) (by rfl) (by rfl)) (fun _ _ _ _ => (@kpg_tup _ K _ _ _ _ 2 rfl (@pgs_cons _ _ _ _ _ (@pg_name _ _ 0 _ nd1 rfl (Or.inl rfl) (by first | exact .inl rfl | exact .inr rfl | assumption)) (@pgs_cons _ _ _ _ _ (@pg_name _ _ 1 _ nd1 rfl (Or.inl rfl) (by first | exact .inl rfl | exact .inr rfl | assumption)) (@pgs_nil _) (by rfl)) (by rfl)) (by rfl) (by rfl) (by rfl))) (fun _ _ _ _ => (@pf_nil _)) (fun _ _ _ _ => (@pe_cmpR _ _ _ _ _ _ _ _ (@op_lt _) (@pv _ 0 _ _ (by rfl) (by first | exact Or.inl rfl | exact Or.inr (Or.inl rfl) | exact Or.inr (Or.inr rfl)) (by decide) (by decide)) (@pv _ 1 _ _ (by rfl) (by first | exact Or.inl rfl | exact Or.inr (Or.inl rfl) | exact Or.inr (Or.inr rfl)) (by decide) (by decide)) (@nomark _ _ (by decide) (by decide)))) (by intro _; rfl)) (@pa_nil _) (by rfl)) (by decide) (by decide) (by rfl) (by rfl))))), ?_⟩
  refine ⟨_, rfl, _, _, _, isTupB t, rfl, h.ty, kit_tup t, _, rfl, ?_⟩
  cases t with
  | tup ts =>
    obtain ⟨a, xs, rfl, ha, hl, h8⟩ := zip_of_get h
    have hsn := zip_snd ts xs hl
    have hp : ∀ p ∈ ts.zip xs, IsTh H p.1 p.2 := fun p hp => zip_mem h ha hp
    have hzl : (ts.zip xs).length ≤ 1000 := by rw [List.length_zip]; omega
    refine iteF ⟨_, rfl, a, rfl, ⟨_, SqT.of ha⟩, fun D hD => ?_⟩
    refine map_tup (ts.zip xs) Prod.snd (fun p => .bl (gradeB m p.1)) (by rw [hsn]; exact ha) hzl hD (fun z hz H' Q' s1 q' => ?_) (fun H' s1 hD' => ?_)
    · exact ⟨_, rfl, _, rfl, z.1, z.2, m, rfl, (hp z hz).same s1, q' _ Same.rfl'⟩
    have ez : (ts.zip xs).map (fun p => V.bl (gradeB m p.1)) = (ts.map (gradeB m)).map V.bl := by
      rw [List.map_map]
      exact zip_fst (fun t => V.bl (gradeB m t)) ts xs hl
    rw [ez] at hD'
    refine ⟨D, _, rfl, SqL.of hD', _, rfl, ?_⟩
    rw [all_map_id]
    have ha' := s1 _ _ ha
    cases hb : ts.all (gradeB m) with
    | false =>
      have := q _ s1
      rw [show risingB m (.tup ts) = (ts.all (gradeB m) && risB (ts.map intTh)) from rfl] at this
      rw [hb, Bool.false_and] at this
      exact iteT this
    | true =>
      have ex := all_ints hl hp hb
      generalize hws : ts.map intTh = ws at ex
      have hwl : ws.length ≤ 1000 := by rw [← hws, List.length_map]; omega
      subst ex
      have q2 : ∀ H', Same H H' → Q (.bl (risB ws)) H' := fun H' s => by
        have := q H' s
        rw [show risingB m (.tup ts) = (ts.all (gradeB m) && risB (ts.map intTh)) from rfl] at this
        rw [hb, Bool.true_and, hws] at this
        exact this
      refine iteF ?_
      have key : ∀ (b : Addr) (H2 : Hp), Same H' H2 → H2 b = some (.tup ((ws.drop 1).map V.int)) → ∀ D2, H2 D2 = none → CompGo (Itz K a b) (gTup K 2 (gCons (gName 0) (gCons (gName 1) gNil))) tYes (tOp (rI0 fun i j => V.bl (decide (i < j))) (tVar 0) (tVar 1)) [none, none] H2 (fun v H3 => ∃ p bs, [v] = [V.ref p] ∧ SqL K H3 p (List.map V.bl bs) ∧ Q (V.bl (bs.all id)) H3) D2 := fun b H2 s2 hb2 D2 hD2 => by
        have ha2 := s2 _ _ ha'
        refine comp_zip (xs := ws.map V.int) (ys := (ws.drop 1).map V.int) (n := (ws.drop 1).length) (fun i zs H3 => Same H2 H3 ∧ zs = (((ws.zip (ws.drop 1)).take i).map fun p => decide (p.1 < p.2)).map V.bl) (by simp) ⟨same_new hD2 _, rfl⟩ (fun i zs H3 hh _ => ⟨SqT.of (hh.1 _ _ ha2), SqT.of (hh.1 _ _ hb2)⟩) ?_ ?_
        · rintro i zs H3 T x y hx hy hi ⟨s3, rfl⟩ hD3 hT
          rw [List.getElem?_map] at hx hy
          obtain ⟨u, hu, rfl⟩ := Option.map_eq_some_iff.mp hx
          obtain ⟨w', hw', rfl⟩ := Option.map_eq_some_iff.mp hy
          have hz : (ws.zip (ws.drop 1))[i]? = some (u, w') := List.getElem?_zip_eq_some.mpr ⟨hu, hw'⟩
          have hDT : D2 ≠ T := fun z => by
            rw [← z, hD3] at hT
            cases hT
          refine yes ⟨_, rfl, _, rfl, _, _, rfl, rfl, ?_⟩
          refine cyes hi rfl (by rw [upd_ne hDT]; exact hD3) (by rw [List.length_map, List.length_map, List.length_take, List.length_zip]; exact small1000 (by omega)) ⟨fun c o qc => ?_, ?_⟩
          · rw [upd_ne (ne_of_none qc hD2), upd_ne (ne_of_none (s3 _ _ qc) hT)]
            exact s3 _ _ qc
          · rw [take_snoc hz, List.map_append, List.map_append]
            rfl
        · rintro zs H3 ⟨s3, rfl⟩ hD3
          refine ⟨D2, _, rfl, SqL.of hD3, ?_⟩
          rw [List.take_of_length_le (by rw [List.length_zip, List.length_drop]; omega), ris_zip]
          exact q2 _ (fun c o qc => s3 _ _ (s2 _ _ (s1 _ _ qc)))
      refine ⟨_, rfl, _, rfl, _, rfl, ?_⟩
      cases ws with
      | nil =>
        refine .inr ⟨a, [], rfl, SqT.of ha', ⟨rfl, rfl⟩, ?_⟩
        exact ⟨a, a, _, _, rfl, SqT.of ha', SqT.of ha', fun D2 hD2 => key a H' Same.rfl' ha' D2 hD2⟩
      | cons w0 ws =>
        refine .inl ⟨a, _, rfl, SqT.of ha', ?_, fun b hb' => ?_⟩
        · intro z
          have h1 := HT.sIx_nat ((w0 :: ws).map V.int).length 0 1
          have z1 := z.1
          rw [show ((1 : Nat) : Int) = 1 from rfl] at h1
          rw [h1, List.length_map, List.length_cons] at z1
          omega
        · have ec : cutV ((w0 :: ws).map V.int) (some 1) none = ((w0 :: ws).drop 1).map V.int := by
            have h1 := HT.sIx_nat ((w0 :: ws).map V.int).length 0 1
            rw [show ((1 : Nat) : Int) = 1 from rfl] at h1
            unfold cutV
            rw [h1, HT.sIx_none, List.length_map, List.length_cons, show min 1 (ws.length + 1) = 1 by omega]
            show (ws.map V.int).take _ = _
            rw [List.take_of_length_le (by rw [List.length_map]; omega)]
            rfl
          rw [ec]
          refine ⟨a, b, _, _, rfl, SqT.of (by rw [upd_ne (ne_of_none ha' hb')]; exact ha'), SqT.of upd_same, fun D2 hD2 => key b _ (same_new hb' _) upd_same D2 hD2⟩
  | _ => exact iteT (iteT (q _ Same.rfl'))

abbrev s_are_cells : Stmt := top 19
theorem sc_are_cells : FnScope ["thing", "many", "length"] ["thing", "many", "length"] (defScope s_are_cells) := ⟨rfl, rfl, rfl, by decide +kernel, rfl, by decide +kernel, by decide +kernel⟩
theorem ok_are_cells {P : Program} {w : World} {K : PySem.W.Frag} {mg : Str → Option Value} {base : Heap} {f : Addr} {fd : FuncData} (F : Fun K "are_cells" "are_cells" s_are_cells f fd) (gb : Gb mg) {c : Nat → Addr} (cl : Cl K mg c) (d_is_grade : Def P w K mg base 2 "is_grade" ["thing", "many"] spGradeT) : FnOk P w K mg base CX0 3 f fd ["thing", "many", "length"] spCellsT := by
  refine F.ok sc_are_cells (fun vs H Q E h => ?_) (fun cdv A outer s H vs Q E hr h => ?_)
  · obtain ⟨t, v, m, n, rfl, _⟩ := h
    rfl
  obtain ⟨t, v, m, n, rfl, h, q⟩ := h
  have nd0 : (["cell", "many"] : List Str).Nodup := by decide +kernel
  refine ⟨_, (@pss_cons _ _ _ _ _ (@ps_if _ _ _ _ _ _ _ _ (@PW.pt _ _ _ (@pw_or _ _ _ _ _ _ _ (@pt_not _ _ _ _ (@pt_val _ _ _ (@pe_callB _ _ _ _ _ _ _ _ _ (@kcall_isiT _ K (by rfl)) rfl gb.isinstance bt_isinstance (@pa_cons _ _ _ _ _ (@pv _ 0 _ _ (by rfl) (by first | exact Or.inl rfl | exact Or.inr (Or.inl rfl) | exact Or.inr (Or.inr rfl)) (by decide) (by decide)) (@pa_cons _ _ _ _ _ (@pe_bltn _ _ (.ty "tuple") _ _ rfl gb.tuple bt_tuple rfl (by decide) (by decide)) (@pa_nil _) (by rfl)) (by rfl)) (by decide) (by decide) (by rfl) (by rfl)) (by intro _; rfl))) (@pw_or1 _ _ _ _ (@pt_cmpR _ _ _ _ _ _ _ _ (@op_ne _) (@pe_callB _ _ _ _ _ _ _ _ _ (@kcall_len _ K (by rfl)) rfl gb.len bt_len (@pa_cons _ _ _ _ _ (@pv _ 0 _ _ (by rfl) (by first | exact Or.inl rfl | exact Or.inr (Or.inl rfl) | exact Or.inr (Or.inr rfl)) (by decide) (by decide)) (@pa_nil _) (by rfl)) (by decide) (by decide) (by rfl) (by rfl)) (@pv _ 2 _ _ (by rfl) (by first | exact Or.inl rfl | exact Or.inr (Or.inl rfl) | exact Or.inr (Or.inr rfl)) (by decide) (by decide)) (@nomark _ _ (by decide) (by decide)))))) (@pss_one _ _ _ (@ps_ret _ _ _ _ (@pe_bl _ _ _ _))) (@pss_nil _)) (@pss_one _ _ _ (@ps_ret _ _ _ _ (@pe_callB _ _ _ _ _ _ _ _ _ (@kcall_all _ K rfl (by rfl)) rfl gb.all bt_all (@pa_cons _ _ _ _ _ (@pe_comp _ ["cell", "many"] [none, some 1] _ _ _ _ _ _ _ _ _ _ (by exact (show CompOk ["thing", "many", "length"] (defScope s_are_cells) ["cell", "many"] [none, some 1] _ from ⟨rfl, by decide +kernel, by decide +kernel, by decide +kernel, by decide +kernel, rfl, by decide +kernel⟩)) rfl (@kpi_tup _ K _ _ _ (@pv _ 0 _ _ (by rfl) (by first | exact Or.inl rfl | exact Or.inr (Or.inl rfl) | exact Or.inr (Or.inr rfl)) (by decide) (by decide)) (by rfl)) (fun _ _ _ _ => (@pg_name _ _ 0 _ nd0 rfl (Or.inl rfl) (by first | exact .inl rfl | exact .inr rfl | assumption))) (fun _ _ _ _ => (@pf_nil _)) (fun _ _ _ _ => (@pe_or _ _ _ _ _ _ _ (@pe_cmpR _ _ _ _ _ _ _ _ (@op_isN _) (@pv _ 0 _ _ (by rfl) (by first | exact Or.inl rfl | exact Or.inr (Or.inl rfl) | exact Or.inr (Or.inr rfl)) (by decide) (by decide)) (@pe_non _ _ _) (@nomark _ _ (by decide) (by decide))) (@pe_one _ _ _ _ _ (@pe_def _ _ _ _ _ _ _ _ _ _ _ d_is_grade hr (by omega) rfl (@pa_cons _ _ _ _ _ (@pv _ 0 _ _ (by rfl) (by first | exact Or.inl rfl | exact Or.inr (Or.inl rfl) | exact Or.inr (Or.inr rfl)) (by decide) (by decide)) (@pa_cons _ _ _ _ _ (@pv _ 1 _ _ (by rfl) (by first | exact Or.inl rfl | exact Or.inr (Or.inl rfl) | exact Or.inr (Or.inr rfl)) (by decide) (by decide)) (@pa_nil _) (by rfl)) (by rfl)) (by decide) (by rfl) (by rfl))))) (by intro _; rfl)) (@pa_nil _) (by rfl)) (by decide) (by decide) (by rfl) (by rfl))))), ?_⟩
  refine ⟨_, rfl, _, _, _, isTupB t, rfl, h.ty, kit_tup t, _, rfl, ?_⟩
  cases t with
  | tup ts =>
    obtain ⟨a, xs, rfl, ha, hl, h8⟩ := zip_of_get h
    have hsn := zip_snd ts xs hl
    have hp : ∀ p ∈ ts.zip xs, IsTh H p.1 p.2 := fun p hp => zip_mem h ha hp
    have hzl : (ts.zip xs).length ≤ 1000 := by rw [List.length_zip]; omega
    refine iteF ⟨_, rfl, _, ts.length, rfl, .inr ⟨_, SqT.of ha, hl⟩, _, rfl, rfl, _, rfl, ?_⟩
    by_cases hn : (ts.length : Int) = n
    · refine iteNS (c := V.int (ts.length : Int) = V.int n) (by rw [hn]) ?_
      have q2 : ∀ H', Same H H' → Q (.bl (ts.all (cellB m))) H' := fun H' s => by
        have := q H' s
        rw [show cellsB m n (.tup ts) = (decide ((ts.length : Int) = n) && ts.all (cellB m)) from rfl] at this
        rw [decide_eq_true hn, Bool.true_and] at this
        exact this
      refine ⟨_, rfl, a, rfl, ⟨_, SqT.of ha⟩, fun D hD => ?_⟩
      refine map_tup (ts.zip xs) Prod.snd (fun p => .bl (cellB m p.1)) (by rw [hsn]; exact ha) hzl hD (fun z hz H' Q' s1 q' => ?_) (fun H' s1 hD' => ?_)
      · have hz' := (hp z hz).same s1
        obtain ⟨zt, zv⟩ := z
        refine ⟨_, rfl, rfl, _, rfl, ?_⟩
        have q3 := q' _ Same.rfl'
        cases zt with
        | non =>
          cases hz'
          exact ite2 (fun _ => q3) (fun c => absurd (decide_eq_true rfl) c)
        | _ =>
          refine ite2 (fun c => absurd (of_decide_eq_true c) (by cases hz' <;> (intro z; cases z))) (fun _ => ?_)
          exact ⟨_, rfl, _, rfl, _, _, m, rfl, hz', q3⟩
      · have ez : (ts.zip xs).map (fun p => V.bl (cellB m p.1)) = (ts.map (cellB m)).map V.bl := by
          rw [List.map_map]
          exact zip_fst (fun t => V.bl (cellB m t)) ts xs hl
        rw [ez] at hD'
        refine ⟨D, _, rfl, SqL.of hD', ?_⟩
        rw [all_map_id]
        exact q2 _ s1
    · refine ite2 (fun _ => ?_) (fun c => absurd (by simpa using c) (by simpa using hn))
      have := q _ Same.rfl'
      rw [show cellsB m n (.tup ts) = (decide ((ts.length : Int) = n) && ts.all (cellB m)) from rfl] at this
      rw [decide_eq_false hn, Bool.false_and] at this
      exact this
  | _ => exact iteT (iteT (q _ Same.rfl'))

abbrev s_is_connective : Stmt := top 18
theorem sc_is_connective : FnScope ["thing", "many", "places"] ["thing", "many"] (defScope s_is_connective) := ⟨rfl, rfl, rfl, by decide +kernel, rfl, by decide +kernel, by decide +kernel⟩
theorem ok_is_connective {P : Program} {w : World} {K : PySem.W.Frag} {mg : Str → Option Value} {base : Heap} {f : Addr} {fd : FuncData} (F : Fun K "is_connective" "is_connective" s_is_connective f fd) (gb : Gb mg) {c : Nat → Addr} (cl : Cl K mg c) (d_is_name : Def P w K mg base 2 "is_name" ["thing"] spNameT) (d_is_whole : Def P w K mg base 1 "is_whole" ["thing"] spWholeT) (d_are_cells : Def P w K mg base 3 "are_cells" ["thing", "many", "length"] spCellsT) (d_power : Def P w K mg base 1 "power" ["base", "exponent"] spPower) : FnOk P w K mg base CX0 4 f fd ["thing", "many"] spConnT := by
  refine F.ok sc_is_connective (fun vs H Q E h => ?_) (fun cdv A outer s H vs Q E hr h => ?_)
  · obtain ⟨t, v, m, rfl, _⟩ := h
    rfl
  obtain ⟨t, v, m, rfl, h, m1, m9, q⟩ := h
  refine ⟨_, (@pss_cons _ _ _ _ _ (@ps_if _ _ _ _ _ _ _ _ (@PW.pt _ _ _ (@pw_or _ _ _ _ _ _ _ (@pt_not _ _ _ _ (@pt_val _ _ _ (@pe_callB _ _ _ _ _ _ _ _ _ (@kcall_isiT _ K (by rfl)) rfl gb.isinstance bt_isinstance (@pa_cons _ _ _ _ _ (@pv _ 0 _ _ (by rfl) (by first | exact Or.inl rfl | exact Or.inr (Or.inl rfl) | exact Or.inr (Or.inr rfl)) (by decide) (by decide)) (@pa_cons _ _ _ _ _ (@pe_bltn _ _ (.ty "tuple") _ _ rfl gb.tuple bt_tuple rfl (by decide) (by decide)) (@pa_nil _) (by rfl)) (by rfl)) (by decide) (by decide) (by rfl) (by rfl)) (by intro _; rfl))) (@pw_or1 _ _ _ _ (@pt_cmpR _ _ _ _ _ _ _ _ (@op_ne _) (@pe_callB _ _ _ _ _ _ _ _ _ (@kcall_len _ K (by rfl)) rfl gb.len bt_len (@pa_cons _ _ _ _ _ (@pv _ 0 _ _ (by rfl) (by first | exact Or.inl rfl | exact Or.inr (Or.inl rfl) | exact Or.inr (Or.inr rfl)) (by decide) (by decide)) (@pa_nil _) (by rfl)) (by decide) (by decide) (by rfl) (by rfl)) (@pe_int _ _ _ _) (@nomark _ _ (by decide) (by decide)))))) (@pss_one _ _ _ (@ps_ret _ _ _ _ (@pe_bl _ _ _ _))) (@pss_nil _)) (@pss_cons _ _ _ _ _ (@ps_set _ _ 2 _ _ _ _ sc_is_connective.nd rfl (Or.inl rfl) (@pe_ix _ _ _ _ _ _ _ (@kix_seq _ K (by rfl)) (@pv _ 0 _ _ (by rfl) (by first | exact Or.inl rfl | exact Or.inr (Or.inl rfl) | exact Or.inr (Or.inr rfl)) (by decide) (by decide)) (@pe_int _ _ _ _) (fun _ _ => rfl)) (by rfl) (by first | exact .inl rfl | exact .inr rfl | assumption)) (@pss_cons _ _ _ _ _ (@ps_if _ _ _ _ _ _ _ _ (@PW.pt _ _ _ (@pw_or _ _ _ _ _ _ _ (@pt_not _ _ _ _ (@pt_val _ _ _ (@pe_def _ _ _ _ _ _ _ _ _ _ _ d_is_name hr (by omega) rfl (@pa_cons _ _ _ _ _ (@pe_ix _ _ _ _ _ _ _ (@kix_seq _ K (by rfl)) (@pv _ 0 _ _ (by rfl) (by first | exact Or.inl rfl | exact Or.inr (Or.inl rfl) | exact Or.inr (Or.inr rfl)) (by decide) (by decide)) (@pe_int _ _ _ _) (fun _ _ => rfl)) (@pa_nil _) (by rfl)) (by decide) (by rfl) (by rfl)) (by intro _; rfl))) (@pw_or _ _ _ _ _ _ _ (@pt_not _ _ _ _ (@pt_val _ _ _ (@pe_def _ _ _ _ _ _ _ _ _ _ _ d_is_whole hr (by omega) rfl (@pa_cons _ _ _ _ _ (@pv _ 2 _ _ (by rfl) (by first | exact Or.inl rfl | exact Or.inr (Or.inl rfl) | exact Or.inr (Or.inr rfl)) (by decide) (by decide)) (@pa_nil _) (by rfl)) (by decide) (by rfl) (by rfl)) (by intro _; rfl))) (@pw_or1 _ _ _ _ (@pt_not _ _ _ _ (@pt_chain _ _ _ _ _ _ _ _ _ _ _ _ (@op_le _) (@op_le _) (@pe_int _ _ _ _) (@pv _ 2 _ _ (by rfl) (by first | exact Or.inl rfl | exact Or.inr (Or.inl rfl) | exact Or.inr (Or.inr rfl)) (by decide) (by decide)) (@pe_globR _ _ _ _ rfl gb.MOST_PLACES (by decide)) (by with_unfolding_all rfl))))))) (@pss_one _ _ _ (@ps_ret _ _ _ _ (@pe_bl _ _ _ _))) (@pss_nil _)) (@pss_one _ _ _ (@ps_ret _ _ _ _ (@pe_def _ _ _ _ _ _ _ _ _ _ _ d_are_cells hr (by omega) rfl (@pa_cons _ _ _ _ _ (@pe_ix _ _ _ _ _ _ _ (@kix_seq _ K (by rfl)) (@pv _ 0 _ _ (by rfl) (by first | exact Or.inl rfl | exact Or.inr (Or.inl rfl) | exact Or.inr (Or.inr rfl)) (by decide) (by decide)) (@pe_int _ _ _ _) (fun _ _ => rfl)) (@pa_cons _ _ _ _ _ (@pv _ 1 _ _ (by rfl) (by first | exact Or.inl rfl | exact Or.inr (Or.inl rfl) | exact Or.inr (Or.inr rfl)) (by decide) (by decide)) (@pa_cons _ _ _ _ _ (@pe_def _ _ _ _ _ _ _ _ _ _ _ d_power hr (by omega) rfl (@pa_cons _ _ _ _ _ (@pv _ 1 _ _ (by rfl) (by first | exact Or.inl rfl | exact Or.inr (Or.inl rfl) | exact Or.inr (Or.inr rfl)) (by decide) (by decide)) (@pa_cons _ _ _ _ _ (@pv _ 2 _ _ (by rfl) (by first | exact Or.inl rfl | exact Or.inr (Or.inl rfl) | exact Or.inr (Or.inr rfl)) (by decide) (by decide)) (@pa_nil _) (by rfl)) (by rfl)) (by decide) (by rfl) (by rfl)) (@pa_nil _) (by rfl)) (by rfl)) (by rfl)) (by decide) (by rfl) (by rfl))))))), ?_⟩
  refine ⟨_, rfl, _, _, _, isTupB t, rfl, h.ty, kit_tup t, _, rfl, ?_⟩
  cases t with
  | tup ts =>
    obtain ⟨a, xs, rfl, ha, hl, h8⟩ := zip_of_get h
    refine iteF ⟨_, rfl, _, ts.length, rfl, .inr ⟨_, SqT.of ha, hl⟩, rfl, _, rfl, ?_⟩
    by_cases h3 : ts.length = 3
    · refine iteNS (c := V.int (ts.length : Int) = V.int 3) (by rw [h3]; rfl) ?_
      obtain ⟨t0, t1, t2, rfl⟩ := three h3
      obtain ⟨x0, x1, x2, rfl⟩ := three (hl.symm.trans h3)
      have i0 := zip_mem h ha (p := (t0, x0)) (by simp)
      have i1 := zip_mem h ha (p := (t1, x1)) (by simp)
      have i2 := zip_mem h ha (p := (t2, x2)) (by simp)
      refine ⟨_, rfl, .inr (.inl ⟨a, _, 1, _, rfl, rfl, SqT.of ha, rfl, ?_⟩)⟩
      refine ⟨_, rfl, .inr (.inl ⟨a, _, 0, _, rfl, rfl, SqT.of ha, rfl, t0, x0, rfl, i0, fun H1 s1 => ⟨_, rfl, ?_⟩⟩)⟩
      have q1 : ∀ H', Same H H' → Q (.bl (nameB t0 && (wholeB t1 && (decide (0 ≤ intTh t1) && decide (intTh t1 ≤ 2)) && cellsB m (m ^ (intTh t1).toNat) t2))) H' := q
      cases hb0 : nameB t0 with
      | false =>
        rw [hb0] at q1
        exact iteT (iteT (q1 _ s1))
      | true =>
        rw [hb0] at q1
        refine iteF ⟨_, rfl, t1, x1, rfl, i1.same s1, _, rfl, ?_⟩
        cases t1 with
        | int p =>
          cases i1
          refine iteF ⟨_, rfl, _, _, rfl, rfl, _, rfl, ?_⟩
          have q2 : ∀ H', Same H H' → Q (.bl ((decide (0 ≤ p) && decide (p ≤ 2)) && cellsB m (m ^ p.toNat) t2)) H' := q1
          by_cases p0 : 0 ≤ p
          · rw [if_pos (decide_eq_true p0)]
            refine ⟨_, _, rfl, rfl, _, rfl, ?_⟩
            by_cases p2 : p ≤ 2
            · rw [decide_eq_true p2]
              have ha1 := s1 _ _ ha
              refine iteF ⟨_, rfl, .inr (.inl ⟨a, _, 2, _, rfl, rfl, SqT.of ha1, rfl, _, rfl, _, rfl, _, rfl, m, p.toNat, ?_, m1, m9, by omega, t2, x2, m, _, rfl, i2.same s1, fun H2 s2 => ?_⟩)⟩
              · rw [show ((p.toNat : Nat) : Int) = p by omega]
                rfl
              · have := q2 _ (fun b o qb => s2 _ _ (s1 _ _ qb))
                rw [decide_eq_true p0, decide_eq_true p2] at this
                exact this
            · rw [decide_eq_false p2]
              have := q2 _ s1
              rw [decide_eq_false p2, Bool.and_false, Bool.false_and] at this
              exact iteT this
          · rw [if_neg (by simpa using p0)]
            have := q2 _ s1
            rw [decide_eq_false p0, Bool.false_and, Bool.false_and] at this
            exact ⟨false, rfl, iteT this⟩
        | _ => exact iteT (iteT (q1 _ s1))
    · refine ite2 (fun _ => ?_) (fun c => absurd (by simpa using c) (fun (z : (ts.length : Int) = 3) => h3 (by omega)))
      have := q _ Same.rfl'
      rw [show connB m (.tup ts) = conn3 m ts from rfl] at this
      have e : conn3 m ts = false := conn_false (m := m) h3
      rw [e] at this
      exact this
  | _ => exact iteT (iteT (q _ Same.rfl'))

abbrev s_are_connectives : Stmt := top 17
theorem sc_are_connectives : FnScope ["thing", "many"] ["thing", "many"] (defScope s_are_connectives) := ⟨rfl, rfl, rfl, by decide +kernel, rfl, by decide +kernel, by decide +kernel⟩
theorem ok_are_connectives {P : Program} {w : World} {K : PySem.W.Frag} {mg : Str → Option Value} {base : Heap} {f : Addr} {fd : FuncData} (F : Fun K "are_connectives" "are_connectives" s_are_connectives f fd) (gb : Gb mg) {c : Nat → Addr} (cl : Cl K mg c) (d_is_connective : Def P w K mg base 4 "is_connective" ["thing", "many"] spConnT) : FnOk P w K mg base CX0 5 f fd ["thing", "many"] spConnsT := by
  refine F.ok sc_are_connectives (fun vs H Q E h => ?_) (fun cdv A outer s H vs Q E hr h => ?_)
  · obtain ⟨t, v, m, rfl, _⟩ := h
    rfl
  obtain ⟨t, v, m, rfl, h, m1, m9, q⟩ := h
  have nd0 : (["part", "many"] : List Str).Nodup := by decide +kernel
  have nd1 : (["part"] : List Str).Nodup := by decide +kernel
  refine ⟨_, (@pss_cons _ _ _ _ _ (@ps_if _ _ _ _ _ _ _ _ (@PW.pt _ _ _ (@pw_or _ _ _ _ _ _ _ (@pt_not _ _ _ _ (@pt_val _ _ _ (@pe_callB _ _ _ _ _ _ _ _ _ (@kcall_isiT _ K (by rfl)) rfl gb.isinstance bt_isinstance (@pa_cons _ _ _ _ _ (@pv _ 0 _ _ (by rfl) (by first | exact Or.inl rfl | exact Or.inr (Or.inl rfl) | exact Or.inr (Or.inr rfl)) (by decide) (by decide)) (@pa_cons _ _ _ _ _ (@pe_bltn _ _ (.ty "tuple") _ _ rfl gb.tuple bt_tuple rfl (by decide) (by decide)) (@pa_nil _) (by rfl)) (by rfl)) (by decide) (by decide) (by rfl) (by rfl)) (by intro _; rfl))) (@pw_or1 _ _ _ _ (@pt_cmpR _ _ _ _ _ _ _ _ (@op_gt _) (@pe_callB _ _ _ _ _ _ _ _ _ (@kcall_len _ K (by rfl)) rfl gb.len bt_len (@pa_cons _ _ _ _ _ (@pv _ 0 _ _ (by rfl) (by first | exact Or.inl rfl | exact Or.inr (Or.inl rfl) | exact Or.inr (Or.inr rfl)) (by decide) (by decide)) (@pa_nil _) (by rfl)) (by decide) (by decide) (by rfl) (by rfl)) (@pe_globR _ _ _ _ rfl gb.MOST_CONNECTIVES (by decide)) (@nomark _ _ (by decide) (by decide)))))) (@pss_one _ _ _ (@ps_ret _ _ _ _ (@pe_bl _ _ _ _))) (@pss_nil _)) (@pss_cons _ _ _ _ _ (@ps_if _ _ _ _ _ _ _ _ (@pt_not _ _ _ _ (@pt_val _ _ _ (@pe_callB _ _ _ _ _ _ _ _ _ (@kcall_all _ K rfl (by rfl)) rfl gb.all bt_all (@pa_cons _ _ _ _ _ (@pe_comp _ ["part", "many"] [none, some 1] _ _ _ _ _ _ _ _ _ _ (by exact (show CompOk ["thing", "many"] (defScope s_are_connectives) ["part", "many"] [none, some 1] _ from ⟨rfl, by decide +kernel, by decide +kernel, by decide +kernel, by decide +kernel, rfl, by decide +kernel⟩)) rfl (@kpi_tup _ K _ _ _ (@pv _ 0 _ _ (by rfl) (by first | exact Or.inl rfl | exact Or.inr (Or.inl rfl) | exact Or.inr (Or.inr rfl)) (by decide) (by decide)) (by rfl)) (fun _ _ _ _ => (@pg_name _ _ 0 _ nd0 rfl (Or.inl rfl) (by first | exact .inl rfl | exact .inr rfl | assumption))) (fun _ _ _ _ => (@pf_nil _)) (fun _ _ _ _ => (@pe_def _ _ _ _ _ _ _ _ _ _ _ d_is_connective hr (by omega) rfl (@pa_cons _ _ _ _ _ (@pv _ 0 _ _ (by rfl) (by first | exact Or.inl rfl | exact Or.inr (Or.inl rfl) | exact Or.inr (Or.inr rfl)) (by decide) (by decide)) (@pa_cons _ _ _ _ _ (@pv _ 1 _ _ (by rfl) (by first | exact Or.inl rfl | exact Or.inr (Or.inl rfl) | exact Or.inr (Or.inr rfl)) (by decide) (by decide)) (@pa_nil _) (by rfl)) (by rfl)) (by decide) (by rfl) (by rfl))) (by intro _; rfl)) (@pa_nil _) (by rfl)) (by decide) (by decide) (by rfl) (by rfl)) (by intro _; rfl))) (@pss_one _ _ _ (@ps_ret _ _ _ _ (@pe_bl _ _ _ _))) (@pss_nil _)) (@pss_one _ _ _ (@ps_ret _ _ _ _ (@pe_cmpR _ _ _ _ _ _ _ _ (@op_eq _) (@pe_callB _ _ _ _ _ _ _ _ _ (@call_lenS _) rfl gb.len bt_len (@pa_cons _ _ _ _ _ (@pe_callTy _ _ _ _ _ _ _ _ _ (@kcall_setS _ K rfl (by rfl)) rfl gb.set bt_set (@pa_cons _ _ _ _ _ (@pe_comp _ ["part"] [none] _ _ _ _ _ _ _ _ _ _ (by exact (show CompOk ["thing", "many"] (defScope s_are_connectives) ["part"] [none] _ from ⟨rfl, by decide +kernel, by decide +kernel, by decide +kernel, by decide +kernel, rfl, by decide +kernel⟩)) rfl (@kpi_tup _ K _ _ _ (@pv _ 0 _ _ (by rfl) (by first | exact Or.inl rfl | exact Or.inr (Or.inl rfl) | exact Or.inr (Or.inr rfl)) (by decide) (by decide)) (by rfl)) (fun _ _ _ _ => (@pg_name _ _ 0 _ nd1 rfl (Or.inl rfl) (by first | exact .inl rfl | exact .inr rfl | assumption))) (fun _ _ _ _ => (@pf_nil _)) (fun _ _ _ _ => (@pe_ix _ _ _ _ _ _ _ (@kix_seq _ K (by rfl)) (@pv _ 0 _ _ (by rfl) (by first | exact Or.inl rfl | exact Or.inr (Or.inl rfl) | exact Or.inr (Or.inr rfl)) (by decide) (by decide)) (@pe_int _ _ _ _) (fun _ _ => rfl))) (by intro _; rfl)) (@pa_nil _) (by rfl)) (by decide) (by decide) (by rfl) (by rfl)) (@pa_nil _) (by rfl)) (by decide) (by decide) (by rfl) (by rfl)) (@pe_callB _ _ _ _ _ _ _ _ _ (@kcall_len _ K (by rfl)) rfl gb.len bt_len (@pa_cons _ _ _ _ _ (@pv _ 0 _ _ (by rfl) (by first | exact Or.inl rfl | exact Or.inr (Or.inl rfl) | exact Or.inr (Or.inr rfl)) (by decide) (by decide)) (@pa_nil _) (by rfl)) (by decide) (by decide) (by rfl) (by rfl)) (@nomark _ _ (by decide) (by decide))))))), ?_⟩
  refine ⟨_, rfl, _, _, _, isTupB t, rfl, h.ty, kit_tup t, _, rfl, ?_⟩
  cases t with
  | tup ts =>
    obtain ⟨a, xs, rfl, ha, hl, h8⟩ := zip_of_get h
    have hsn := zip_snd ts xs hl
    have hp : ∀ p ∈ ts.zip xs, IsTh H p.1 p.2 := fun p hp => zip_mem h ha hp
    have hzl : (ts.zip xs).length ≤ 1000 := by rw [List.length_zip]; omega
    have q0 : ∀ H', Same H H' → Q (.bl (decide (ts.length ≤ 8) && ts.all (connB m) && decide ((ts.map fun t => strTh (headTh t)).Nodup))) H' := q
    refine iteF ⟨_, rfl, _, ts.length, rfl, .inr ⟨_, SqT.of ha, hl⟩, _, _, rfl, rfl, _, rfl, ?_⟩
    by_cases hn : ts.length ≤ 8
    · refine ite2 (fun c => absurd (of_decide_eq_true c) (by omega)) (fun _ => ?_)
      refine ⟨_, rfl, a, rfl, ⟨_, SqT.of ha⟩, fun D hD => ?_⟩
      refine map_tup (ts.zip xs) Prod.snd (fun p => .bl (connB m p.1)) (by rw [hsn]; exact ha) hzl hD (fun z hz H' Q' s1 q' => ?_) (fun H' s1 hD' => ?_)
      · exact ⟨_, rfl, _, rfl, z.1, z.2, m, rfl, (hp z hz).same s1, m1, m9, q'⟩
      have ez : (ts.zip xs).map (fun p => V.bl (connB m p.1)) = (ts.map (connB m)).map V.bl := by
        rw [List.map_map]
        exact zip_fst (fun t => V.bl (connB m t)) ts xs hl
      rw [ez] at hD'
      refine ⟨D, _, rfl, SqL.of hD', _, rfl, ?_⟩
      rw [all_map_id]
      rw [decide_eq_true hn, Bool.true_and] at q0
      cases hb : ts.all (connB m) with
      | false =>
        have := q0 _ s1
        rw [hb, Bool.false_and] at this
        exact iteT this
      | true =>
        rw [hb, Bool.true_and] at q0
        have ha' := s1 _ _ ha
        refine iteF ⟨_, rfl, a, rfl, ⟨_, SqT.of ha'⟩, fun D2 hD2 => ?_⟩
        refine map_tup (ts.zip xs) Prod.snd (fun p => .str (strTh (headTh p.1))) (by rw [hsn]; exact ha') hzl hD2 (fun z hz H2 Q' s2 q' => ?_) (fun H2 s2 hD2' => ?_)
        · have hz1 : z.1 ∈ ts := (List.of_mem_zip hz).1
          obtain ⟨az, xz, rest, e1, e2, e3⟩ := conn_heads (hp z hz) (List.all_eq_true.mp hb _ hz1)
          obtain ⟨zt, zv⟩ := z
          subst e1
          refine ⟨_, rfl, .inr (.inl ⟨az, _, 0, _, rfl, rfl, SqT.of (s2 _ _ (s1 _ _ e2)), atI_nat (j := 0) rfl, ?_⟩)⟩
          rw [e3]
          exact q' _ Same.rfl'
        · have ez2 : (ts.zip xs).map (fun p => V.str (strTh (headTh p.1))) = (ts.map fun t => strTh (headTh t)).map V.str := by
            rw [List.map_map]
            exact zip_fst (fun t => V.str (strTh (headTh t))) ts xs hl
          rw [ez2] at hD2'
          refine ⟨D2, _, rfl, SqL.of hD2', by rw [List.length_map]; omega, fun S hS => ?_⟩
          refine ⟨S, _, rfl, upd_same, ?_⟩
          refine ⟨_, rfl, _, ts.length, rfl, .inr ⟨_, SqT.of (show _ = some (HO.tup xs) by rw [upd_ne (ne_of_none (s2 _ _ ha') hS)]; exact s2 _ _ ha'), hl⟩, rfl, ?_⟩
          have ed : decide (V.int ((dedK (ts.map fun t => strTh (headTh t))).length : Nat) = V.int (ts.length : Nat)) = decide ((ts.map fun t => strTh (headTh t)).Nodup) := by
            rw [Bool.eq_iff_iff, decide_eq_true_iff, decide_eq_true_iff, ← dedK_iff, List.length_map]
            constructor
            · intro z
              have := V.int.inj z
              omega
            · intro z
              rw [z]
          rw [ed]
          refine q0 _ fun b o qb => ?_
          have h3 := s2 _ _ (s1 _ _ qb)
          rw [upd_ne (ne_of_none h3 hS)]
          exact h3
    · refine ite2 (fun _ => ?_) (fun c => absurd (decide_eq_true (show (8 : Int) < ts.length by omega)) c)
      have := q0 _ Same.rfl'
      rw [decide_eq_false hn, Bool.false_and, Bool.false_and] at this
      exact this
  | _ => exact iteT (iteT (q _ Same.rfl'))

abbrev s_is_half : Stmt := top 11
theorem sc_is_half : FnScope ["thing", "many"] ["thing"] (defScope s_is_half) := ⟨rfl, rfl, rfl, by decide +kernel, rfl, by decide +kernel, by decide +kernel⟩
theorem ok_is_half {P : Program} {w : World} {K : PySem.W.Frag} {mg : Str → Option Value} {base : Heap} {f : Addr} {fd : FuncData} (F : Fun K "is_half" "is_half" s_is_half f fd) (gb : Gb mg) {c : Nat → Addr} (cl : Cl K mg c) (d_is_whole : Def P w K mg base 1 "is_whole" ["thing"] spWholeT) (d_are_rising_grades : Def P w K mg base 3 "are_rising_grades" ["thing", "many"] spRisingT) (d_are_connectives : Def P w K mg base 5 "are_connectives" ["thing", "many"] spConnsT) : FnOk P w K mg base CX0 6 f fd ["thing"] spHalfT := by
  refine F.ok sc_is_half (fun vs H Q E h => ?_) (fun cdv A outer s H vs Q E hr h => ?_)
  · obtain ⟨t, v, rfl, _⟩ := h
    rfl
  obtain ⟨t, v, rfl, h, q⟩ := h
  refine ⟨_, (@pss_cons _ _ _ _ _ (@ps_if _ _ _ _ _ _ _ _ (@PW.pt _ _ _ (@pw_or _ _ _ _ _ _ _ (@pt_not _ _ _ _ (@pt_val _ _ _ (@pe_callB _ _ _ _ _ _ _ _ _ (@kcall_isiT _ K (by rfl)) rfl gb.isinstance bt_isinstance (@pa_cons _ _ _ _ _ (@pv _ 0 _ _ (by rfl) (by first | exact Or.inl rfl | exact Or.inr (Or.inl rfl) | exact Or.inr (Or.inr rfl)) (by decide) (by decide)) (@pa_cons _ _ _ _ _ (@pe_bltn _ _ (.ty "tuple") _ _ rfl gb.tuple bt_tuple rfl (by decide) (by decide)) (@pa_nil _) (by rfl)) (by rfl)) (by decide) (by decide) (by rfl) (by rfl)) (by intro _; rfl))) (@pw_or1 _ _ _ _ (@pt_cmpR _ _ _ _ _ _ _ _ (@op_ne _) (@pe_callB _ _ _ _ _ _ _ _ _ (@kcall_len _ K (by rfl)) rfl gb.len bt_len (@pa_cons _ _ _ _ _ (@pv _ 0 _ _ (by rfl) (by first | exact Or.inl rfl | exact Or.inr (Or.inl rfl) | exact Or.inr (Or.inr rfl)) (by decide) (by decide)) (@pa_nil _) (by rfl)) (by decide) (by decide) (by rfl) (by rfl)) (@pe_int _ _ _ _) (@nomark _ _ (by decide) (by decide)))))) (@pss_one _ _ _ (@ps_ret _ _ _ _ (@pe_bl _ _ _ _))) (@pss_nil _)) (@pss_cons _ _ _ _ _ (@ps_set _ _ 1 _ _ _ _ sc_is_half.nd rfl (Or.inl rfl) (@pe_ix _ _ _ _ _ _ _ (@kix_seq _ K (by rfl)) (@pv _ 0 _ _ (by rfl) (by first | exact Or.inl rfl | exact Or.inr (Or.inl rfl) | exact Or.inr (Or.inr rfl)) (by decide) (by decide)) (@pe_int _ _ _ _) (fun _ _ => rfl)) (by rfl) (by first | exact .inl rfl | exact .inr rfl | assumption)) (@pss_cons _ _ _ _ _ (@ps_if _ _ _ _ _ _ _ _ (@PW.pt _ _ _ (@pw_or _ _ _ _ _ _ _ (@pt_not _ _ _ _ (@pt_val _ _ _ (@pe_def _ _ _ _ _ _ _ _ _ _ _ d_is_whole hr (by omega) rfl (@pa_cons _ _ _ _ _ (@pv _ 1 _ _ (by rfl) (by first | exact Or.inl rfl | exact Or.inr (Or.inl rfl) | exact Or.inr (Or.inr rfl)) (by decide) (by decide)) (@pa_nil _) (by rfl)) (by decide) (by rfl) (by rfl)) (by intro _; rfl))) (@pw_or1 _ _ _ _ (@pt_not _ _ _ _ (@pt_chain _ _ _ _ _ _ _ _ _ _ _ _ (@op_le _) (@op_le _) (@pe_int _ _ _ _) (@pv _ 1 _ _ (by rfl) (by first | exact Or.inl rfl | exact Or.inr (Or.inl rfl) | exact Or.inr (Or.inr rfl)) (by decide) (by decide)) (@pe_globR _ _ _ _ rfl gb.MOST_GRADES (by decide)) (by with_unfolding_all rfl)))))) (@pss_one _ _ _ (@ps_ret _ _ _ _ (@pe_bl _ _ _ _))) (@pss_nil _)) (@pss_one _ _ _ (@ps_ret _ _ _ _ (@pe_and _ _ _ _ _ _ _ (@pe_def _ _ _ _ _ _ _ _ _ _ _ d_are_rising_grades hr (by omega) rfl (@pa_cons _ _ _ _ _ (@pe_ix _ _ _ _ _ _ _ (@kix_seq _ K (by rfl)) (@pv _ 0 _ _ (by rfl) (by first | exact Or.inl rfl | exact Or.inr (Or.inl rfl) | exact Or.inr (Or.inr rfl)) (by decide) (by decide)) (@pe_int _ _ _ _) (fun _ _ => rfl)) (@pa_cons _ _ _ _ _ (@pv _ 1 _ _ (by rfl) (by first | exact Or.inl rfl | exact Or.inr (Or.inl rfl) | exact Or.inr (Or.inr rfl)) (by decide) (by decide)) (@pa_nil _) (by rfl)) (by rfl)) (by decide) (by rfl) (by rfl)) (@pe_one _ _ _ _ _ (@pe_def _ _ _ _ _ _ _ _ _ _ _ d_are_connectives hr (by omega) rfl (@pa_cons _ _ _ _ _ (@pe_ix _ _ _ _ _ _ _ (@kix_seq _ K (by rfl)) (@pv _ 0 _ _ (by rfl) (by first | exact Or.inl rfl | exact Or.inr (Or.inl rfl) | exact Or.inr (Or.inr rfl)) (by decide) (by decide)) (@pe_int _ _ _ _) (fun _ _ => rfl)) (@pa_cons _ _ _ _ _ (@pv _ 1 _ _ (by rfl) (by first | exact Or.inl rfl | exact Or.inr (Or.inl rfl) | exact Or.inr (Or.inr rfl)) (by decide) (by decide)) (@pa_nil _) (by rfl)) (by rfl)) (by decide) (by rfl) (by rfl))))))))), ?_⟩
  refine ⟨_, rfl, _, _, _, isTupB t, rfl, h.ty, kit_tup t, _, rfl, ?_⟩
  cases t with
  | tup ts =>
    obtain ⟨a, xs, rfl, ha, hl, h8⟩ := zip_of_get h
    refine iteF ⟨_, rfl, _, ts.length, rfl, .inr ⟨_, SqT.of ha, hl⟩, rfl, _, rfl, ?_⟩
    by_cases h3 : ts.length = 3
    · refine iteNS (c := V.int (ts.length : Int) = V.int 3) (by rw [h3]; rfl) ?_
      obtain ⟨t0, t1, t2, rfl⟩ := three h3
      obtain ⟨x0, x1, x2, rfl⟩ := three (hl.symm.trans h3)
      have i0 := zip_mem h ha (p := (t0, x0)) (by simp)
      have i1 := zip_mem h ha (p := (t1, x1)) (by simp)
      have i2 := zip_mem h ha (p := (t2, x2)) (by simp)
      refine ⟨_, rfl, .inr (.inl ⟨a, _, 0, _, rfl, rfl, SqT.of ha, rfl, ?_⟩)⟩
      refine ⟨_, rfl, t0, x0, rfl, i0, _, rfl, ?_⟩
      cases t0 with
      | int m =>
        cases i0
        have q1 : ∀ H', Same H H' → Q (.bl ((decide (1 ≤ m) && decide (m ≤ 9)) && (risingB m t1 && connsB m t2))) H' := q
        refine iteF ⟨_, rfl, _, _, rfl, rfl, _, rfl, ?_⟩
        by_cases p0 : 1 ≤ m
        · rw [if_pos (decide_eq_true p0)]
          refine ⟨_, _, rfl, rfl, _, rfl, ?_⟩
          by_cases p2 : m ≤ 9
          · rw [decide_eq_true p2]
            rw [decide_eq_true p0, decide_eq_true p2] at q1
            have q2 : ∀ H', Same H H' → Q (.bl (risingB m t1 && connsB m t2)) H' := q1
            refine iteF ⟨_, rfl, .inr (.inl ⟨a, _, 1, _, rfl, rfl, SqT.of ha, rfl, _, rfl, t1, x1, m, rfl, i1, fun H1 s1 => ⟨_, rfl, ?_⟩⟩)⟩
            cases hb : risingB m t1 with
            | false =>
              rw [hb] at q2
              exact iteF (q2 _ s1)
            | true =>
              rw [hb] at q2
              exact iteT ⟨_, rfl, .inr (.inl ⟨a, _, 2, _, rfl, rfl, SqT.of (s1 _ _ ha), rfl, _, rfl, t2, x2, m, rfl, i2.same s1, p0, p2, fun H2 s2 => q2 _ fun b o qb => s2 _ _ (s1 _ _ qb)⟩)⟩
          · rw [decide_eq_false p2]
            have := q1 _ Same.rfl'
            rw [decide_eq_false p2, Bool.and_false, Bool.false_and] at this
            exact iteT this
        · rw [if_neg (by simpa using p0)]
          have := q1 _ Same.rfl'
          rw [decide_eq_false p0, Bool.false_and, Bool.false_and] at this
          exact ⟨false, rfl, iteT this⟩
      | _ => exact iteT (iteT (q _ Same.rfl'))
    · refine ite2 (fun _ => ?_) (fun c => absurd (by simpa using c) (fun (z : (ts.length : Int) = 3) => h3 (by omega)))
      have := q _ Same.rfl'
      have e : half3 ts = false := half_false h3
      rw [show halfB (.tup ts) = half3 ts from rfl] at this
      rw [e] at this
      exact this
  | _ => exact iteT (iteT (q _ Same.rfl'))

abbrev s_is_table : Stmt := top 12
theorem sc_is_table : FnScope ["thing"] ["thing"] (defScope s_is_table) := ⟨rfl, rfl, rfl, by decide +kernel, rfl, by decide +kernel, by decide +kernel⟩
theorem ok_is_table {P : Program} {w : World} {K : PySem.W.Frag} {mg : Str → Option Value} {base : Heap} {f : Addr} {fd : FuncData} (F : Fun K "is_table" "is_table" s_is_table f fd) (gb : Gb mg) {c : Nat → Addr} (cl : Cl K mg c) (d_is_half : Def P w K mg base 6 "is_half" ["thing"] spHalfT) (d_count_nones : Def P w K mg base 1 "count_nones" ["H"] spNones) : FnOk P w K mg base CX0 7 f fd ["thing"] spTableT := by
  refine F.ok sc_is_table (fun vs H Q E h => ?_) (fun cdv A outer s H vs Q E hr h => ?_)
  · obtain ⟨t, v, rfl, _⟩ := h
    rfl
  obtain ⟨t, v, rfl, h, q⟩ := h
  refine ⟨_, (@pss_one _ _ _ (@ps_ret _ _ _ _ (@pe_and _ _ _ _ _ _ _ (@pe_def _ _ _ _ _ _ _ _ _ _ _ d_is_half hr (by omega) rfl (@pa_cons _ _ _ _ _ (@pv _ 0 _ _ (by rfl) (by first | exact Or.inl rfl | exact Or.inr (Or.inl rfl) | exact Or.inr (Or.inr rfl)) (by decide) (by decide)) (@pa_nil _) (by rfl)) (by decide) (by rfl) (by rfl)) (@pe_one _ _ _ _ _ (@pe_cmpR _ _ _ _ _ _ _ _ (@op_eq _) (@pe_def _ _ _ _ _ _ _ _ _ _ _ d_count_nones hr (by omega) rfl (@pa_cons _ _ _ _ _ (@pv _ 0 _ _ (by rfl) (by first | exact Or.inl rfl | exact Or.inr (Or.inl rfl) | exact Or.inr (Or.inr rfl)) (by decide) (by decide)) (@pa_nil _) (by rfl)) (by decide) (by rfl) (by rfl)) (@pe_int _ _ _ _) (@nomark _ _ (by decide) (by decide))))))), ?_⟩
  refine ⟨_, rfl, t, v, rfl, h, fun H1 s1 => ⟨_, rfl, ?_⟩⟩
  have q1 : ∀ H', Same H H' → Q (.bl (halfB t && decide (nonesTh t = 0))) H' := q
  cases hb : halfB t with
  | false =>
    rw [hb] at q1
    exact iteF (q1 _ s1)
  | true =>
    rw [hb] at q1
    obtain ⟨T, ih, g, hn⟩ := half_of h hb
    refine iteT ⟨_, rfl, v, T, rfl, ih.same s1, good_fits g, fun H2 s2 => ⟨rfl, ?_⟩⟩
    have e : decide (V.int (nones T : Nat) = V.int 0) = decide (nonesTh t = 0) := by
      rw [Bool.eq_iff_iff, decide_eq_true_iff, decide_eq_true_iff, hn]
      constructor
      · intro z
        have := V.int.inj z
        omega
      · intro z
        rw [z]
        rfl
    rw [e]
    exact q1 _ fun b o qb => s2 _ _ (s1 _ _ qb)

abbrev s_number_of : Stmt := top 28
theorem sc_number_of : FnScope ["word"] ["word"] (defScope s_number_of) := ⟨rfl, rfl, rfl, by decide +kernel, rfl, by decide +kernel, by decide +kernel⟩
theorem ok_number_of {P : Program} {w : World} {K : PySem.W.Frag} {mg : Str → Option Value} {base : Heap} {f : Addr} {fd : FuncData} (F : Fun K "number_of" "number_of" s_number_of f fd) (gb : Gb mg) {c : Nat → Addr} (cl : Cl K mg c) : FnOk P w K mg base CX0 1 f fd ["word"] spNumW := by
  refine F.ok sc_number_of (fun vs H Q E h => ?_) (fun cdv A outer s H vs Q E hr h => ?_)
  · obtain ⟨x, rfl, _⟩ := h
    rfl
  obtain ⟨x, rfl, hx, q⟩ := h
  refine ⟨_, (@pss_one _ _ _ (@ps_ret _ _ _ _ (@pe_ifExp _ _ _ _ _ _ _ _ (@pt_cmpR _ _ _ _ _ _ _ _ (@op_eq _) (@pe_callB _ _ _ _ _ _ _ _ _ (@kcall_len _ K (by rfl)) rfl gb.len bt_len (@pa_cons _ _ _ _ _ (@pv _ 0 _ _ (by rfl) (by first | exact Or.inl rfl | exact Or.inr (Or.inl rfl) | exact Or.inr (Or.inr rfl)) (by decide) (by decide)) (@pa_nil _) (by rfl)) (by decide) (by decide) (by rfl) (by rfl)) (@pe_int _ _ _ _) (@nomark _ _ (by decide) (by decide))) (@kpe_bm _ K _ _ _ _ _ _ _ _ _ _ _ PySem.F.plainAttrs_str PySem.F.slot_str_find PySem.F.type_str_find (@mt_find _) (@pe_globR _ _ _ _ rfl gb.FIGURES (by decide)) (@pa_cons _ _ _ _ _ (@pv _ 0 _ _ (by rfl) (by first | exact Or.inl rfl | exact Or.inr (Or.inl rfl) | exact Or.inr (Or.inr rfl)) (by decide) (by decide)) (@pa_nil _) (by rfl)) (by rfl) (by rfl) (by rfl) (by rfl) (by rfl) (by rfl)) (@pe_un _ _ _ _ _ _ (@un_neg _) (@pe_int _ _ _ _))))), ?_⟩
  refine ⟨_, rfl, _, x.length, rfl, ⟨small9k hx, rfl⟩, rfl, _, rfl, ?_⟩
  refine ite2 (fun c => ?_) (fun c => ?_)
  · have h1 : x.length = 1 := by
      have := of_decide_eq_true c
      injection this with e
      omega
    refine ⟨rfl, _, rfl, _, _, rfl, rfl, ?_⟩
    have e : numW x = PySem.Txt.find figures x := if_pos h1
    rw [← e]
    exact q
  · have h1 : ¬ x.length = 1 := fun z => c (decide_eq_true (by rw [z]; rfl))
    refine ⟨1, rfl, ?_⟩
    have e : numW x = -1 := if_neg h1
    rw [e] at q
    exact q

abbrev s_numbers_of : Stmt := top 27
theorem sc_numbers_of : FnScope ["words"] ["words"] (defScope s_numbers_of) := ⟨rfl, rfl, rfl, by decide +kernel, rfl, by decide +kernel, by decide +kernel⟩
theorem ok_numbers_of {P : Program} {w : World} {K : PySem.W.Frag} {mg : Str → Option Value} {base : Heap} {f : Addr} {fd : FuncData} (F : Fun K "numbers_of" "numbers_of" s_numbers_of f fd) (gb : Gb mg) {c : Nat → Addr} (cl : Cl K mg c) (d_number_of : Def P w K mg base 1 "number_of" ["word"] spNumW) : FnOk P w K mg base CX0 2 f fd ["words"] spNumsW := by
  refine F.ok sc_numbers_of (fun vs H Q E h => ?_) (fun cdv A outer s H vs Q E hr h => ?_)
  · obtain ⟨l, ws, rfl, _⟩ := h
    rfl
  obtain ⟨l, ws, rfl, hl, hn, hw, q⟩ := h
  have nd0 : (["word"] : List Str).Nodup := by decide +kernel
  refine ⟨_, (@pss_one _ _ _ (@ps_ret _ _ _ _ (@pe_comp _ ["word"] [none] _ _ _ _ _ _ _ _ _ _ (by exact (show CompOk ["words"] (defScope s_numbers_of) ["word"] [none] _ from ⟨rfl, by decide +kernel, by decide +kernel, by decide +kernel, by decide +kernel, rfl, by decide +kernel⟩)) rfl (@kpi_list _ K _ _ _ (@pv _ 0 _ _ (by rfl) (by first | exact Or.inl rfl | exact Or.inr (Or.inl rfl) | exact Or.inr (Or.inr rfl)) (by decide) (by decide)) (by rfl)) (fun _ _ _ _ => (@pg_name _ _ 0 _ nd0 rfl (Or.inl rfl) (by first | exact .inl rfl | exact .inr rfl | assumption))) (fun _ _ _ _ => (@pf_nil _)) (fun _ _ _ _ => (@pe_def _ _ _ _ _ _ _ _ _ _ _ d_number_of hr (by omega) rfl (@pa_cons _ _ _ _ _ (@pv _ 0 _ _ (by rfl) (by first | exact Or.inl rfl | exact Or.inr (Or.inl rfl) | exact Or.inr (Or.inr rfl)) (by decide) (by decide)) (@pa_nil _) (by rfl)) (by decide) (by rfl) (by rfl))) (by intro _; rfl)))), ?_⟩
  refine ⟨_, rfl, l, rfl, ⟨_, SqL.of hl⟩, fun D hD => ?_⟩
  refine map_list ws V.str (fun w => V.int (numW w)) hl hn hD (fun z hz H' Q' s1 q' => ?_) (fun H' s1 hD' => q H' D s1 hD')
  exact ⟨_, rfl, z, rfl, hw z hz, q' _ Same.rfl'⟩

abbrev s_connective_of : Stmt := top 26
theorem sc_connective_of : FnScope ["words"] ["words"] (defScope s_connective_of) := ⟨rfl, rfl, rfl, by decide +kernel, rfl, by decide +kernel, by decide +kernel⟩
theorem ok_connective_of {P : Program} {w : World} {K : PySem.W.Frag} {mg : Str → Option Value} {base : Heap} {f : Addr} {fd : FuncData} (F : Fun K "connective_of" "connective_of" s_connective_of f fd) (gb : Gb mg) {c : Nat → Addr} (cl : Cl K mg c) (d_number_of : Def P w K mg base 1 "number_of" ["word"] spNumW) (d_numbers_of : Def P w K mg base 2 "numbers_of" ["words"] spNumsW) : FnOk P w K mg base CX0 3 f fd ["words"] spConnW := by
  refine F.ok sc_connective_of (fun vs H Q E h => ?_) (fun cdv A outer s H vs Q E hr h => ?_)
  · obtain ⟨l, ws, rfl, _⟩ := h
    rfl
  obtain ⟨l, ws, rfl, hl, hn, hw, q⟩ := h
  refine ⟨_, (@pss_cons _ _ _ _ _ (@ps_if _ _ _ _ _ _ _ _ (@pt_cmpR _ _ _ _ _ _ _ _ (@op_lt _) (@pe_callB _ _ _ _ _ _ _ _ _ (@kcall_len _ K (by rfl)) rfl gb.len bt_len (@pa_cons _ _ _ _ _ (@pv _ 0 _ _ (by rfl) (by first | exact Or.inl rfl | exact Or.inr (Or.inl rfl) | exact Or.inr (Or.inr rfl)) (by decide) (by decide)) (@pa_nil _) (by rfl)) (by decide) (by decide) (by rfl) (by rfl)) (@pe_int _ _ _ _) (@nomark _ _ (by decide) (by decide))) (@pss_one _ _ _ (@ps_ret _ _ _ _ (@pe_non _ _ _))) (@pss_nil _)) (@pss_one _ _ _ (@ps_ret _ _ _ _ (@pe_tup _ _ _ _ _ (@pa_cons _ _ _ _ _ (@pe_ix _ _ _ _ _ _ _ (@kix_seq _ K (by rfl)) (@pv _ 0 _ _ (by rfl) (by first | exact Or.inl rfl | exact Or.inr (Or.inl rfl) | exact Or.inr (Or.inr rfl)) (by decide) (by decide)) (@pe_int _ _ _ _) (fun _ _ => rfl)) (@pa_cons _ _ _ _ _ (@pe_def _ _ _ _ _ _ _ _ _ _ _ d_number_of hr (by omega) rfl (@pa_cons _ _ _ _ _ (@pe_ix _ _ _ _ _ _ _ (@kix_seq _ K (by rfl)) (@pv _ 0 _ _ (by rfl) (by first | exact Or.inl rfl | exact Or.inr (Or.inl rfl) | exact Or.inr (Or.inr rfl)) (by decide) (by decide)) (@pe_int _ _ _ _) (fun _ _ => rfl)) (@pa_nil _) (by rfl)) (by decide) (by rfl) (by rfl)) (@pa_cons _ _ _ _ _ (@pe_callTy _ _ _ _ _ _ _ _ _ (@kcall_tuple_of _ K (by rfl)) rfl gb.tuple bt_tuple (@pa_cons _ _ _ _ _ (@pe_def _ _ _ _ _ _ _ _ _ _ _ d_numbers_of hr (by omega) rfl (@pa_cons _ _ _ _ _ (@pe_slice _ _ _ _ _ _ _ _ _ _ (@ksl_any _ K (by rfl)) (@pv _ 0 _ _ (by rfl) (by first | exact Or.inl rfl | exact Or.inr (Or.inl rfl) | exact Or.inr (Or.inr rfl)) (by decide) (by decide)) (@po_some _ _ _ (@pe_int _ _ _ _)) (@po_none _)) (@pa_nil _) (by rfl)) (by decide) (by rfl) (by rfl)) (@pa_nil _) (by rfl)) (by decide) (by decide) (by rfl) (by rfl)) (@pa_nil _) (by rfl)) (by rfl)) (by rfl)))))), ?_⟩
  refine ⟨_, rfl, _, _, rfl, .inl ⟨_, SqL.of hl, rfl⟩, _, _, rfl, rfl, _, rfl, ?_⟩
  match ws, hl, hn, hw, q with
  | [], hl, hn, hw, q => exact ite2 (fun _ => q _ _ Same.rfl' .non) (fun z => absurd (decide_eq_true (by decide)) z)
  | [w], hl, hn, hw, q => exact ite2 (fun _ => q _ _ Same.rfl' .non) (fun z => absurd (decide_eq_true (by show ((1 : Nat) : Int) < 2; decide)) z)
  | n :: p :: r, hl, hn, hw, q =>
  have hn' : r.length ≤ 998 := by rw [List.length_cons, List.length_cons] at hn; omega
  refine ite2 (fun z => absurd (of_decide_eq_true z) (by rw [List.length_map, List.length_cons, List.length_cons]; omega)) (fun _ => ?_)
  refine ⟨_, rfl, .inl ⟨l, _, 0, _, rfl, rfl, SqL.of hl, atI_nat (j := 0) rfl, ?_⟩⟩
  refine ⟨_, rfl, .inl ⟨l, _, 1, _, rfl, rfl, SqL.of hl, atI_nat (j := 1) rfl, p, rfl, hw p (by simp), ?_⟩⟩
  refine ⟨_, rfl, 2, rfl, .inl ⟨l, _, rfl, SqL.of hl, fun k hk => ?_⟩⟩
  have ec : cutV ((n :: p :: r).map V.str) (some 2) none = r.map V.str := cut_from (xs := (n :: p :: r).map V.str) 2 (by rw [List.length_map, List.length_cons, List.length_cons]; omega)
  rw [ec]
  refine ⟨k, r, rfl, upd_same, by omega, fun w hw' => hw w (List.mem_cons_of_mem _ (List.mem_cons_of_mem _ hw')), fun H1 k1 s1 hk1 => ?_⟩
  refine ⟨k1, _, rfl, .inl ⟨SqL.of hk1, fun u hu => ?_⟩⟩
  refine ⟨small9 (by show 3 ≤ 1000; decide), fun t ht => ?_⟩
  have s12 : Same H1 (upd H1 u (.tup (r.map fun w => V.int (numW w)))) := same_new hu _
  have s23 : Same (upd H1 u (.tup (r.map fun w => V.int (numW w)))) (upd (upd H1 u (.tup (r.map fun w => V.int (numW w)))) t (.tup [.str n, .int (numW p), .ref u])) := same_new ht _
  refine q _ _ (fun b o qb => s23 _ _ (s12 _ _ (s1 _ _ (same_new hk _ _ _ qb)))) ?_
  refine Ths.tup (vs := [.str n, .int (numW p), .ref u]) (.cons (.str _ (hw n (by simp))) (.cons (.int _) (.cons ?_ .nil))) upd_same (by show 3 ≤ 1000; decide)
  exact Ths.tup (ths_map numT (fun w => V.int (numW w)) r fun w _ => .int _) (s23 _ _ upd_same) (by rw [List.length_map]; omega)

abbrev s_table_of : Stmt := top 25
theorem sc_table_of : FnScope ["parts", "connectives"] ["parts"] (defScope s_table_of) := ⟨rfl, rfl, rfl, by decide +kernel, rfl, by decide +kernel, by decide +kernel⟩
theorem ok_table_of {P : Program} {w : World} {K : PySem.W.Frag} {mg : Str → Option Value} {base : Heap} {f : Addr} {fd : FuncData} (F : Fun K "table_of" "table_of" s_table_of f fd) (gb : Gb mg) {c : Nat → Addr} (cl : Cl K mg c) (d_number_of : Def P w K mg base 1 "number_of" ["word"] spNumW) (d_numbers_of : Def P w K mg base 2 "numbers_of" ["words"] spNumsW) (d_connective_of : Def P w K mg base 3 "connective_of" ["words"] spConnW) : FnOk P w K mg base CX0 4 f fd ["parts"] spTableW := by
  refine F.ok sc_table_of (fun vs H Q E h => ?_) (fun cdv A outer s H vs Q E hr h => ?_)
  · obtain ⟨l, xs, ps, rfl, _⟩ := h
    rfl
  obtain ⟨l, xs, ps, rfl, hl, hW, hn, hw, q⟩ := h
  have nd0 : (["words"] : List Str).Nodup := by decide +kernel
  refine ⟨_, (@pss_cons _ _ _ _ _ (@ps_if _ _ _ _ _ _ _ _ (@PW.pt _ _ _ (@pw_or _ _ _ _ _ _ _ (@pt_cmpR _ _ _ _ _ _ _ _ (@op_lt _) (@pe_callB _ _ _ _ _ _ _ _ _ (@kcall_len _ K (by rfl)) rfl gb.len bt_len (@pa_cons _ _ _ _ _ (@pv _ 0 _ _ (by rfl) (by first | exact Or.inl rfl | exact Or.inr (Or.inl rfl) | exact Or.inr (Or.inr rfl)) (by decide) (by decide)) (@pa_nil _) (by rfl)) (by decide) (by decide) (by rfl) (by rfl)) (@pe_int _ _ _ _) (@nomark _ _ (by decide) (by decide))) (@pw_or1 _ _ _ _ (@pt_cmpR _ _ _ _ _ _ _ _ (@op_ne _) (@pe_callB _ _ _ _ _ _ _ _ _ (@kcall_len _ K (by rfl)) rfl gb.len bt_len (@pa_cons _ _ _ _ _ (@pe_ix _ _ _ _ _ _ _ (@kix_seq _ K (by rfl)) (@pv _ 0 _ _ (by rfl) (by first | exact Or.inl rfl | exact Or.inr (Or.inl rfl) | exact Or.inr (Or.inr rfl)) (by decide) (by decide)) (@pe_int _ _ _ _) (fun _ _ => rfl)) (@pa_nil _) (by rfl)) (by decide) (by decide) (by rfl) (by rfl)) (@pe_int _ _ _ _) (@nomark _ _ (by decide) (by decide)))))) (@pss_one _ _ _ (@ps_ret _ _ _ _ (@pe_non _ _ _))) (@pss_nil _)) (@pss_cons _ _ _ _ _ (@ps_if _ _ _ _ _ _ _ _ (@PW.pt _ _ _ (@pw_or _ _ _ _ _ _ _ (@pt_cmpR _ _ _ _ _ _ _ _ (@op_ne _) (@pe_ix _ _ _ _ _ _ _ (@kix_seq _ K (by rfl)) (@pe_ix _ _ _ _ _ _ _ (@kix_seq _ K (by rfl)) (@pv _ 0 _ _ (by rfl) (by first | exact Or.inl rfl | exact Or.inr (Or.inl rfl) | exact Or.inr (Or.inr rfl)) (by decide) (by decide)) (@pe_int _ _ _ _) (fun _ _ => rfl)) (@pe_int _ _ _ _) (fun _ _ => rfl)) (@pe_str _ _ _ _) (@nomark _ _ (by decide) (by decide))) (@pw_or1 _ _ _ _ (@pt_cmpR _ _ _ _ _ _ _ _ (@op_ne _) (@pe_ix _ _ _ _ _ _ _ (@kix_seq _ K (by rfl)) (@pe_ix _ _ _ _ _ _ _ (@kix_seq _ K (by rfl)) (@pv _ 0 _ _ (by rfl) (by first | exact Or.inl rfl | exact Or.inr (Or.inl rfl) | exact Or.inr (Or.inr rfl)) (by decide) (by decide)) (@pe_int _ _ _ _) (fun _ _ => rfl)) (@pe_int _ _ _ _) (fun _ _ => rfl)) (@pe_str _ _ _ _) (@nomark _ _ (by decide) (by decide)))))) (@pss_one _ _ _ (@ps_ret _ _ _ _ (@pe_non _ _ _))) (@pss_nil _)) (@pss_cons _ _ _ _ _ (@ps_set _ _ 1 _ _ _ _ sc_table_of.nd rfl (Or.inl rfl) (@pe_callTy _ _ _ _ _ _ _ _ _ (@kcall_tuple_of _ K (by rfl)) rfl gb.tuple bt_tuple (@pa_cons _ _ _ _ _ (@pe_comp _ ["words"] [none] _ _ _ _ _ _ _ _ _ _ (by exact (show CompOk ["parts", "connectives"] (defScope s_table_of) ["words"] [none] _ from ⟨rfl, by decide +kernel, by decide +kernel, by decide +kernel, by decide +kernel, rfl, by decide +kernel⟩)) rfl (@kpi_list _ K _ _ _ (@pe_slice _ _ _ _ _ _ _ _ _ _ (@ksl_any _ K (by rfl)) (@pv _ 0 _ _ (by rfl) (by first | exact Or.inl rfl | exact Or.inr (Or.inl rfl) | exact Or.inr (Or.inr rfl)) (by decide) (by decide)) (@po_some _ _ _ (@pe_int _ _ _ _)) (@po_none _)) (by rfl)) (fun _ _ _ _ => (@pg_name _ _ 0 _ nd0 rfl (Or.inl rfl) (by first | exact .inl rfl | exact .inr rfl | assumption))) (fun _ _ _ _ => (@pf_nil _)) (fun _ _ _ _ => (@pe_def _ _ _ _ _ _ _ _ _ _ _ d_connective_of hr (by omega) rfl (@pa_cons _ _ _ _ _ (@pv _ 0 _ _ (by rfl) (by first | exact Or.inl rfl | exact Or.inr (Or.inl rfl) | exact Or.inr (Or.inr rfl)) (by decide) (by decide)) (@pa_nil _) (by rfl)) (by decide) (by rfl) (by rfl))) (by intro _; rfl)) (@pa_nil _) (by rfl)) (by decide) (by decide) (by rfl) (by rfl)) (by rfl) (by first | exact .inl rfl | exact .inr rfl | assumption)) (@pss_one _ _ _ (@ps_ret _ _ _ _ (@pe_tup _ _ _ _ _ (@pa_cons _ _ _ _ _ (@pe_def _ _ _ _ _ _ _ _ _ _ _ d_number_of hr (by omega) rfl (@pa_cons _ _ _ _ _ (@pe_ix _ _ _ _ _ _ _ (@kix_seq _ K (by rfl)) (@pe_ix _ _ _ _ _ _ _ (@kix_seq _ K (by rfl)) (@pv _ 0 _ _ (by rfl) (by first | exact Or.inl rfl | exact Or.inr (Or.inl rfl) | exact Or.inr (Or.inr rfl)) (by decide) (by decide)) (@pe_int _ _ _ _) (fun _ _ => rfl)) (@pe_int _ _ _ _) (fun _ _ => rfl)) (@pa_nil _) (by rfl)) (by decide) (by rfl) (by rfl)) (@pa_cons _ _ _ _ _ (@pe_callTy _ _ _ _ _ _ _ _ _ (@kcall_tuple_of _ K (by rfl)) rfl gb.tuple bt_tuple (@pa_cons _ _ _ _ _ (@pe_def _ _ _ _ _ _ _ _ _ _ _ d_numbers_of hr (by omega) rfl (@pa_cons _ _ _ _ _ (@pe_slice _ _ _ _ _ _ _ _ _ _ (@ksl_any _ K (by rfl)) (@pe_ix _ _ _ _ _ _ _ (@kix_seq _ K (by rfl)) (@pv _ 0 _ _ (by rfl) (by first | exact Or.inl rfl | exact Or.inr (Or.inl rfl) | exact Or.inr (Or.inr rfl)) (by decide) (by decide)) (@pe_int _ _ _ _) (fun _ _ => rfl)) (@po_some _ _ _ (@pe_int _ _ _ _)) (@po_none _)) (@pa_nil _) (by rfl)) (by decide) (by rfl) (by rfl)) (@pa_nil _) (by rfl)) (by decide) (by decide) (by rfl) (by rfl)) (@pa_cons _ _ _ _ _ (@pv _ 1 _ _ (by rfl) (by first | exact Or.inl rfl | exact Or.inr (Or.inl rfl) | exact Or.inr (Or.inr rfl)) (by decide) (by decide)) (@pa_nil _) (by rfl)) (by rfl)) (by rfl)))))))), ?_⟩
  refine ⟨_, rfl, _, _, rfl, .inl ⟨_, SqL.of hl, rfl⟩, _, _, rfl, rfl, _, rfl, ?_⟩
  have hlen := hW.len
  match ps, hW, hn, hw, q, hlen with
  | [], hW, hn, hw, q, hlen => exact ite2 (fun _ => q _ _ Same.rfl' .non) (fun z => absurd (decide_eq_true (by rw [hlen]; decide)) z)
  | [p], hW, hn, hw, q, hlen => exact ite2 (fun _ => q _ _ Same.rfl' (by rw [tbl_bad (fun _ _ _ _ _ e => by cases e)]; exact .non)) (fun z => absurd (decide_eq_true (by rw [hlen]; show ((1 : Nat) : Int) < 2; decide)) z)
  | p :: p' :: cs, hW, hn, hw, q, hlen =>
  have hcl : cs.length ≤ 998 := by rw [List.length_cons, List.length_cons] at hn; omega
  refine ite2 (fun z => absurd (of_decide_eq_true z) (by rw [hlen, List.length_cons, List.length_cons]; omega)) (fun _ => ?_)
  obtain ⟨a0, x0, h0⟩ := wds_get hW (i := 0) rfl
  obtain ⟨a1, x1, h1⟩ := wds_get hW (i := 1) rfl
  refine ⟨_, rfl, .inl ⟨l, _, 0, _, rfl, rfl, SqL.of hl, atI_nat (j := 0) x0, _, p.length, rfl, .inl ⟨_, SqL.of h0, by rw [List.length_map]⟩, rfl, _, rfl, ?_⟩⟩
  by_cases hp2 : p.length = 2
  · obtain ⟨gg, nn, rfl⟩ : ∃ gg nn, p = [gg, nn] := by
      match p, hp2 with
      | [gg, nn], _ => exact ⟨gg, nn, rfl⟩
    refine iteNS (c := V.int 2 = V.int 2) rfl ?_
    obtain ⟨w, ws, rfl⟩ : ∃ w ws, p' = w :: ws := by
      match p', (hw p' (by simp)).1 with
      | w :: ws, _ => exact ⟨w, ws, rfl⟩
      | [], z => exact absurd rfl z
    have hw0 := hw [gg, nn] (by simp)
    have hw1 := hw (w :: ws) (by simp)
    refine ⟨_, rfl, .inl ⟨l, _, 0, _, rfl, rfl, SqL.of hl, atI_nat (j := 0) x0, .inl ⟨a0, _, 0, _, rfl, rfl, SqL.of h0, atI_nat (j := 0) rfl, rfl, _, rfl, ?_⟩⟩⟩
    by_cases hg : gg = wGr
    · subst hg
      refine iteNS (c := V.str wGr = V.str wGr) rfl ?_
      refine ⟨_, rfl, .inl ⟨l, _, 1, _, rfl, rfl, SqL.of hl, atI_nat (j := 1) x1, .inl ⟨a1, _, 0, _, rfl, rfl, SqL.of h1, atI_nat (j := 0) rfl, rfl, _, rfl, ?_⟩⟩⟩
      by_cases hwi : w = wWi
      · subst hwi
        refine iteNS (c := V.str wWi = V.str wWi) rfl ?_
        rw [tbl_of] at q
        refine ⟨_, rfl, 2, rfl, .inl ⟨l, _, rfl, SqL.of hl, fun k hk => ?_⟩⟩
        have ec : cutV xs (some 2) none = xs.drop 2 := cut_from (xs := xs) 2 (by rw [hlen, List.length_cons, List.length_cons]; omega)
        rw [ec]
        have sk : Same H (upd H k (.lst (xs.drop 2))) := same_new hk _
        refine ⟨k, rfl, ⟨_, SqL.of upd_same⟩, fun D hD => ?_⟩
        have hrl : (xs.drop 2).length = cs.length := by rw [List.length_drop, hlen, List.length_cons, List.length_cons]; omega
        refine comp_list (xs := xs.drop 2) (fun i ys H' => Same (upd H k (.lst (xs.drop 2))) H' ∧ Ths H' ((cs.take i).map connTh) ys) ⟨same_new hD _, .nil⟩ (fun i ys H' hh _ => SqL.of (hh.1 _ _ upd_same)) ?_ ?_
        · rintro i ys H' x hx ⟨s1, hT⟩ hD'
          have hi : i < (xs.drop 2).length := (List.getElem?_eq_some_iff.mp hx).1
          have hci : cs[i]? = some (cs.getD i []) := by simp [List.getD, show i < cs.length by omega]
          obtain ⟨ac, xc, hc⟩ := wds_get hW (i := i + 2) (ws := cs.getD i []) (by rw [← hci]; rfl)
          rw [List.getElem?_drop, show 2 + i = i + 2 by omega, xc] at hx
          cases hx
          have hwc := hw (cs.getD i []) (List.mem_cons_of_mem _ (List.mem_cons_of_mem _ (List.mem_of_getElem? hci)))
          have hyl := hT.len
          rw [List.length_map, List.length_take] at hyl
          refine yes ⟨_, rfl, ac, cs.getD i [], rfl, s1 _ _ (sk _ _ hc), hwc.2.1, hwc.2.2, fun H2 v s2 hv => ?_⟩
          have hD2 := s2 _ _ hD'
          have tk2 : Tk H2 (upd H2 D (.lst (ys ++ [v]))) := Tk.put hD2
          refine cyes hi rset1 hD2 (small1000 (by omega)) ⟨fun b o qb => ?_, ?_⟩
          · rw [upd_ne (ne_of_none qb hD)]
            exact s2 _ _ (s1 _ _ qb)
          · rw [take_snoc hci, List.map_append]
            exact ths_snoc (ths_tk tk2 (hT.same s2)) (conn_tk tk2 hv)
        · rintro ys H' ⟨s1, hT⟩ hD'
          rw [hrl, List.take_length] at hT
          have hyl := hT.len
          rw [List.length_map] at hyl
          have s01 : Same H H' := fun b o qb => s1 _ _ (sk _ _ qb)
          refine ⟨D, _, rfl, .inl ⟨SqL.of hD', fun ct hct => ?_⟩⟩
          have s02 : Same H (upd H' ct (.tup ys)) := fun b o qb => same_new hct _ _ _ (s01 _ _ qb)
          refine ⟨_, rfl, .inl ⟨l, _, 0, _, rfl, rfl, SqL.of (s02 _ _ hl), atI_nat (j := 0) x0, .inl ⟨a0, _, 1, _, rfl, rfl, SqL.of (s02 _ _ h0), atI_nat (j := 1) rfl, nn, rfl, hw0.2.2 nn (by simp), ?_⟩⟩⟩
          refine ⟨_, rfl, .inl ⟨l, _, 1, _, rfl, rfl, SqL.of (s02 _ _ hl), atI_nat (j := 1) x1, 1, rfl, .inl ⟨a1, _, rfl, SqL.of (s02 _ _ h1), fun k2 hk2 => ?_⟩⟩⟩
          have ec2 : cutV ((wWi :: ws).map V.str) (some 1) none = ws.map V.str := cut_from (xs := (wWi :: ws).map V.str) 1 (by rw [List.length_map, List.length_cons]; omega)
          rw [ec2]
          have hwl : ws.length ≤ 999 := by have := hw1.2.1; rw [List.length_cons] at this; omega
          refine ⟨k2, ws, rfl, upd_same, by omega, fun w hw' => hw1.2.2 w (List.mem_cons_of_mem _ hw'), fun H3 k3 s3 hk3 => ?_⟩
          have s13 : Same (upd H' ct (.tup ys)) H3 := fun b o qb => s3 _ _ (same_new hk2 _ _ _ qb)
          refine ⟨k3, _, rfl, .inl ⟨SqL.of hk3, fun wt hwt => ?_⟩⟩
          refine ⟨_, rfl, small9 (by show 3 ≤ 1000; decide), fun tt htt => ?_⟩
          have s34 : Same H3 (upd H3 wt (.tup (ws.map fun w => V.int (numW w)))) := same_new hwt _
          have s45 : Same (upd H3 wt (.tup (ws.map fun w => V.int (numW w)))) (upd (upd H3 wt (.tup (ws.map fun w => V.int (numW w)))) tt (.tup [.int (numW nn), .ref wt, .ref ct])) := same_new htt _
          refine q _ _ (fun b o qb => s45 _ _ (s34 _ _ (s13 _ _ (s02 _ _ qb)))) ?_
          refine Ths.tup (vs := [.int (numW nn), .ref wt, .ref ct]) (.cons (.int _) (.cons ?_ (.cons ?_ .nil))) upd_same (by show 3 ≤ 1000; decide)
          · exact Ths.tup (ths_map numT (fun w => V.int (numW w)) ws fun w _ => .int _) (s45 _ _ upd_same) (by rw [List.length_map]; omega)
          · exact Ths.tup ((hT.same (same_new hct _)).same fun b o qb => s45 _ _ (s34 _ _ (s13 _ _ qb))) (s45 _ _ (s34 _ _ (s13 _ _ upd_same))) (by rw [List.length_map]; omega)
      · refine ite2 (fun _ => ?_) (fun z => absurd (by rw [decide_eq_false (fun e => by cases e; exact hwi rfl)]; rfl) z)
        rw [tbl_bad (fun _ _ _ _ _ e z => by cases e; exact hwi z.2)] at q
        exact q _ _ Same.rfl' .non
    · refine ite2 (fun z => ?_) (fun z => ?_)
      · rw [tbl_bad (fun _ _ _ _ _ e z => by cases e; exact hg z.1)] at q
        exact q _ _ Same.rfl' .non
      · exact absurd (by rw [decide_eq_false (fun e => by cases e; exact hg rfl)]; rfl) z
  · refine ite2 (fun z => ?_) (fun z => ?_)
    · rw [tbl_bad (fun _ _ _ _ _ e z => by cases e; exact hp2 rfl)] at q
      exact q _ _ Same.rfl' .non
    · exact absurd (by rw [decide_eq_false (fun e => by injection e with e; omega)]; rfl) z

abbrev s_read_table : Stmt := top 24
theorem sc_read_table : FnScope ["text", "table"] ["text"] (defScope s_read_table) := ⟨rfl, rfl, rfl, by decide +kernel, rfl, by decide +kernel, by decide +kernel⟩
theorem ok_read_table {P : Program} {w : World} {K : PySem.W.Frag} {mg : Str → Option Value} {base : Heap} {f : Addr} {fd : FuncData} (F : Fun K "read_table" "read_table" s_read_table f fd) (gb : Gb mg) {c : Nat → Addr} (cl : Cl K mg c) (d_table_of : Def P w K mg base 4 "table_of" ["parts"] spTableW) (d_is_table : Def P w K mg base 7 "is_table" ["thing"] spTableT) : FnOk P w K mg base (CX1 P w) 8 f fd ["text"] (spReadW (c 1)) := by
  refine F.ok1 sc_read_table (fun vs H Q E h => ?_) (fun cdv A outer s H vs Q E hr h => ?_)
  · obtain ⟨t, v, rfl, _⟩ := h
    rfl
  obtain ⟨t, v, rfl, ht, h9, q0, q1⟩ := h
  have nd0 : (["part"] : List Str).Nodup := by decide +kernel
  refine ⟨_, (@pss_cons _ _ _ _ _ (@ps_if _ _ _ _ _ _ _ _ (@pt_not _ _ _ _ (@pt_val _ _ _ (@pe_callB _ _ _ _ _ _ _ _ _ (@kcall_isiT _ K (by rfl)) rfl gb.isinstance bt_isinstance (@pa_cons _ _ _ _ _ (@pv _ 0 _ _ (by rfl) (by first | exact Or.inl rfl | exact Or.inr (Or.inl rfl) | exact Or.inr (Or.inr rfl)) (by decide) (by decide)) (@pa_cons _ _ _ _ _ (@pe_bltn _ _ (.ty "str") _ _ rfl gb.str bt_str rfl (by decide) (by decide)) (@pa_nil _) (by rfl)) (by rfl)) (by decide) (by decide) (by rfl) (by rfl)) (by intro _; rfl))) (@pss_one _ _ _ (@ps_raise _ _ _ _ _ _ _ _ _ _ _ _ _ _ _ _ _ _ rfl cl.g_NoTable cl.x_NoTable PySem.F.excBase_ValueError rfl PySem.F.excBase_ValueError rfl (@thrown1 _ _ _ _ _ _ _ _ _ _ _ _ _ _ _) (@pa_cons _ _ _ _ _ (@pe_str _ _ _ _) (@pa_nil _) (by rfl)) (by decide) (by rfl) (by rfl))) (@pss_nil _)) (@pss_cons _ _ _ _ _ (@ps_set _ _ 1 _ _ _ _ sc_read_table.nd rfl (Or.inl rfl) (@pe_def _ _ _ _ _ _ _ _ _ _ _ d_table_of hr (by omega) rfl (@pa_cons _ _ _ _ _ (@pe_comp _ ["part"] [none] _ _ _ _ _ _ _ _ _ _ (by exact (show CompOk ["text", "table"] (defScope s_read_table) ["part"] [none] _ from ⟨rfl, by decide +kernel, by decide +kernel, by decide +kernel, by decide +kernel, rfl, by decide +kernel⟩)) rfl (@kpi_list _ K _ _ _ (@kpe_bm _ K _ _ _ _ _ _ _ _ _ _ _ PySem.F.plainAttrs_str PySem.F.slot_str_split PySem.F.type_str_split (@mt_split _) (@pv _ 0 _ _ (by rfl) (by first | exact Or.inl rfl | exact Or.inr (Or.inl rfl) | exact Or.inr (Or.inr rfl)) (by decide) (by decide)) (@pa_cons _ _ _ _ _ (@pe_str _ _ _ _) (@pa_nil _) (by rfl)) (by rfl) (by rfl) (by rfl) (by rfl) (by rfl) (by rfl)) (by rfl)) (fun _ _ _ _ => (@pg_name _ _ 0 _ nd0 rfl (Or.inl rfl) (by first | exact .inl rfl | exact .inr rfl | assumption))) (fun _ _ _ _ => (@pf_nil _)) (fun _ _ _ _ => (@kpe_bm _ K _ _ _ _ _ _ _ _ _ _ _ PySem.F.plainAttrs_str PySem.F.slot_str_split PySem.F.type_str_split (@mt_split _) (@pv _ 0 _ _ (by rfl) (by first | exact Or.inl rfl | exact Or.inr (Or.inl rfl) | exact Or.inr (Or.inr rfl)) (by decide) (by decide)) (@pa_cons _ _ _ _ _ (@pe_str _ _ _ _) (@pa_nil _) (by rfl)) (by rfl) (by rfl) (by rfl) (by rfl) (by rfl) (by rfl))) (by intro _; rfl)) (@pa_nil _) (by rfl)) (by decide) (by rfl) (by rfl)) (by rfl) (by first | exact .inl rfl | exact .inr rfl | assumption)) (@pss_cons _ _ _ _ _ (@ps_if _ _ _ _ _ _ _ _ (@pt_not _ _ _ _ (@pt_val _ _ _ (@pe_def _ _ _ _ _ _ _ _ _ _ _ d_is_table hr (by omega) rfl (@pa_cons _ _ _ _ _ (@pv _ 1 _ _ (by rfl) (by first | exact Or.inl rfl | exact Or.inr (Or.inl rfl) | exact Or.inr (Or.inr rfl)) (by decide) (by decide)) (@pa_nil _) (by rfl)) (by decide) (by rfl) (by rfl)) (by intro _; rfl))) (@pss_one _ _ _ (@ps_raise _ _ _ _ _ _ _ _ _ _ _ _ _ _ _ _ _ _ rfl cl.g_NoTable cl.x_NoTable PySem.F.excBase_ValueError rfl PySem.F.excBase_ValueError rfl (@thrown1 _ _ _ _ _ _ _ _ _ _ _ _ _ _ _) (@pa_cons _ _ _ _ _ (@pe_str _ _ _ _) (@pa_nil _) (by rfl)) (by decide) (by rfl) (by rfl))) (@pss_nil _)) (@pss_one _ _ _ (@ps_ret _ _ _ _ (@pv _ 1 _ _ (by rfl) (by first | exact Or.inl rfl | exact Or.inr (Or.inl rfl) | exact Or.inr (Or.inr rfl)) (by decide) (by decide))))))), ?_⟩
  refine ⟨_, rfl, _, _, _, isStrB t, rfl, ht.ty, kit_str t, _, rfl, ?_⟩
  cases t with
  | str x =>
    cases ht with
    | str _ hx =>
    have x9 := h9 x rfl
    have big : ∀ n, n ≤ 2102 → n ≤ sizeLine := fun n h => Nat.le_trans h (by decide +kernel)
    obtain ⟨pn, pw⟩ := parse_bounds x9
    have sb := split_bounds (x := x) (y := sp2) (by decide +kernel)
    refine ⟨_, rfl, rfl, x, sp2, rfl, rfl, by decide +kernel, big _ (by omega), fun l hl => ?_⟩
    refine ⟨l, rfl, ⟨_, SqL.of upd_same⟩, fun D hD => ?_⟩
    have sk : Same H (upd H l (.lst ((PySem.Txt.split x sp2).map V.str))) := same_new hl _
    have hpl : (parse x).length = (PySem.Txt.split x sp2).length := by unfold parse; rw [List.length_map]
    refine comp_list (xs := (PySem.Txt.split x sp2).map V.str) (fun i ys H' => ∃ G : Hp, Same (upd H l (.lst ((PySem.Txt.split x sp2).map V.str))) G ∧ Same G H' ∧ G D = none ∧ Wds G ((parse x).take i) ys) ⟨_, Same.rfl', same_new hD _, hD, .nil⟩ (fun i ys H' hh _ => SqL.of (hh.elim fun G k => k.2.1 _ _ (k.1 _ _ upd_same))) ?_ ?_
    · rintro i ys H' z hz ⟨G, g1, g2, gD, hW⟩ hD'
      have hi : i < ((PySem.Txt.split x sp2).map V.str).length := (List.getElem?_eq_some_iff.mp hz).1
      have hi' := hi
      rw [List.length_map] at hi'
      rw [List.getElem?_map] at hz
      obtain ⟨pt, hpt, rfl⟩ := Option.map_eq_some_iff.mp hz
      have hws : (parse x)[i]? = some (PySem.Txt.split pt sp1) := by unfold parse; rw [List.getElem?_map, hpt]; rfl
      have hlp := sb.1 _ (List.mem_of_getElem? hpt)
      have hyl := hW.len
      rw [List.length_take] at hyl
      refine yes ⟨_, rfl, rfl, _, sp1, rfl, rfl, by decide +kernel, big _ (by omega), fun k hk => ?_⟩
      have hD2 := same_new hk (.lst ((PySem.Txt.split pt sp1).map V.str)) _ _ hD'
      have hkD : k ≠ D := fun z => by rw [z, hD'] at hk; cases hk
      have hGk : G k = none := by
        cases e : G k with
        | none => rfl
        | some o => rw [g2 _ _ e] at hk; cases hk
      refine cyes hi rset1 hD2 (small1000 (by omega)) ⟨upd G k (.lst ((PySem.Txt.split pt sp1).map V.str)), fun b o qb => same_new hGk _ _ _ (g1 _ _ qb), fun b o qb => ?_, by rw [upd_ne (Ne.symm hkD)]; exact gD, ?_⟩
      · have hbD : b ≠ D := fun z => by
          rw [z, upd_ne (Ne.symm hkD), gD] at qb
          cases qb
        rw [upd_ne hbD]
        by_cases hb : b = k
        · rw [hb] at qb ⊢
          rw [upd_same] at qb ⊢
          exact qb
        · rw [upd_ne hb] at qb ⊢
          exact g2 _ _ qb
      · rw [take_snoc hws]
        exact (hW.same (same_new hGk _)).snoc upd_same
    · rintro ys H' ⟨G, g1, g2, gD, hWG⟩ hD'
      have hW := hWG.same g2
      have s1 : Same (upd H l (.lst ((PySem.Txt.split x sp2).map V.str))) H' := fun b o qb => g2 _ _ (g1 _ _ qb)
      rw [List.length_map, ← hpl, List.take_length] at hW
      refine ⟨D, ys, parse x, rfl, hD', hW, pn, pw, fun H3 v s3 ih => ?_⟩
      refine ⟨_, rfl, _, v, rfl, ih, fun H4 s4 => ⟨_, rfl, ?_⟩⟩
      have sH : Same H H4 := fun b o qb => s4 _ _ (s3 _ _ (s1 _ _ (sk _ _ qb)))
      cases hb : tableB (tableTh (parse x)) with
      | false => exact ⟨small9 (by show 1 ≤ 1000; decide), q0 hb H4 sH⟩
      | true => exact ⟨_, rfl, q1 hb H4 v sH (ih.same s4)⟩
  | _ => exact ⟨small9 (by show 1 ≤ 1000; decide), q0 rfl H Same.rfl'⟩

abbrev s_part_text : Stmt := top 23
theorem sc_part_text : FnScope ["word", "numbers"] ["word", "numbers"] (defScope s_part_text) := ⟨rfl, rfl, rfl, by decide +kernel, rfl, by decide +kernel, by decide +kernel⟩
theorem ok_part_text {P : Program} {w : World} {K : PySem.W.Frag} {mg : Str → Option Value} {base : Heap} {f : Addr} {fd : FuncData} (F : Fun K "part_text" "part_text" s_part_text f fd) (gb : Gb mg) {c : Nat → Addr} (cl : Cl K mg c) : FnOk P w K mg base CX0 1 f fd ["word", "numbers"] spPart := by
  refine F.ok sc_part_text (fun vs H Q E h => ?_) (fun cdv A outer s H vs Q E hr h => ?_)
  · obtain ⟨w, a, ns, rfl, _⟩ := h
    rfl
  obtain ⟨w, a, ns, rfl, ha, hw, hf, hl, q⟩ := h
  have nd0 : (["number"] : List Str).Nodup := by decide +kernel
  refine ⟨_, (@pss_one _ _ _ (@ps_ret _ _ _ _ (@kpe_bm _ K _ _ _ _ _ _ _ _ _ _ _ PySem.F.plainAttrs_str PySem.F.slot_str_join PySem.F.type_str_join (@kmt_join _ K (by rfl)) (@pe_str _ _ _ _) (@pa_cons _ _ _ _ _ (@pe_op _ _ _ _ _ _ _ _ (@op_cat _) (@pe_lst _ _ _ _ (@pa_cons _ _ _ _ _ (@pv _ 0 _ _ (by rfl) (by first | exact Or.inl rfl | exact Or.inr (Or.inl rfl) | exact Or.inr (Or.inr rfl)) (by decide) (by decide)) (@pa_nil _) (by rfl))) (@pe_comp _ ["number"] [none] _ _ _ _ _ _ _ _ _ _ (by exact (show CompOk ["word", "numbers"] (defScope s_part_text) ["number"] [none] _ from ⟨rfl, by decide +kernel, by decide +kernel, by decide +kernel, by decide +kernel, rfl, by decide +kernel⟩)) rfl (@kpi_tup _ K _ _ _ (@pv _ 1 _ _ (by rfl) (by first | exact Or.inl rfl | exact Or.inr (Or.inl rfl) | exact Or.inr (Or.inr rfl)) (by decide) (by decide)) (by rfl)) (fun _ _ _ _ => (@pg_name _ _ 0 _ nd0 rfl (Or.inl rfl) (by first | exact .inl rfl | exact .inr rfl | assumption))) (fun _ _ _ _ => (@pf_nil _)) (fun _ _ _ _ => (@pe_callTy _ _ _ _ _ _ _ _ _ (@call_str_int _) rfl gb.str bt_str (@pa_cons _ _ _ _ _ (@pv _ 0 _ _ (by rfl) (by first | exact Or.inl rfl | exact Or.inr (Or.inl rfl) | exact Or.inr (Or.inr rfl)) (by decide) (by decide)) (@pa_nil _) (by rfl)) (by decide) (by decide) (by rfl) (by rfl))) (by intro _; rfl))) (@pa_nil _) (by rfl)) (by rfl) (by rfl) (by rfl) (by rfl) (by rfl) (by rfl)))), ?_⟩
  refine ⟨rfl, ?_⟩
  refine ⟨_, rfl, small9 (by show 1 ≤ 1000; decide), fun g hg => ?_⟩
  have hag := ne_of_none ha hg
  refine ⟨_, rfl, a, rfl, ⟨_, SqT.of (by rw [upd_ne hag]; exact ha)⟩, fun D hD => ?_⟩
  have hgD : g ≠ D := fun z => by rw [← z, upd_same] at hD; cases hD
  refine map_tup ns V.int (fun i => V.str (fig i)) (by rw [upd_ne hag]; exact ha) (by omega) hD (fun z hz H' Q' s1 q' => ?_) (fun H' s1 hD' => ?_)
  · refine ⟨_, rfl, z, rfl, ?_, q' _ Same.rfl'⟩
    obtain ⟨z0, z9⟩ := hf z hz
    have h9 : z.natAbs < 2 ^ 4 := by omega
    have := Nat.log2_lt (n := z.natAbs) (k := 4)
    by_cases hz0 : z.natAbs = 0
    · rw [hz0]; decide
    · have := (this hz0).mpr h9
      omega
  · refine ⟨g, D, _, _, rfl, rfl, s1 _ _ upd_same, hD', by rw [List.length_map]; exact small9 (by show 1 + ns.length ≤ 1000; omega), fun e he => ?_⟩
    have e2 : ([V.str w] ++ ns.map (fun i => V.str (fig i)) : List V) = (L4.wordsOf w ns).map V.str := by
      unfold L4.wordsOf
      rw [List.map_cons, List.map_map]
      rfl
    rw [e2]
    refine ⟨sp1, e, L4.wordsOf w ns, rfl, rfl, SqL.of upd_same, ?_, ?_⟩
    · have := (part_len hw hf hl).1
      omega
    · refine q _ fun b o qb => ?_
      have h3 := s1 _ _ (show (upd H g (.lst [.str w])) b = some o by rw [upd_ne (ne_of_none qb hg)]; exact qb)
      rw [upd_ne (ne_of_none h3 he)]
      exact h3

abbrev s_show_table : Stmt := top 22
theorem sc_show_table : FnScope ["T", "parts", "name", "places", "cells"] ["T"] (defScope s_show_table) := ⟨rfl, rfl, rfl, by decide +kernel, rfl, by decide +kernel, by decide +kernel⟩
theorem ok_show_table {P : Program} {w : World} {K : PySem.W.Frag} {mg : Str → Option Value} {base : Heap} {f : Addr} {fd : FuncData} (F : Fun K "show_table" "show_table" s_show_table f fd) (gb : Gb mg) {c : Nat → Addr} (cl : Cl K mg c) (d_part_text : Def P w K mg base 1 "part_text" ["word", "numbers"] spPart) : FnOk P w K mg base CX0 2 f fd ["T"] spShow := by
  refine F.ok sc_show_table (fun vs H Q E h => ?_) (fun cdv A outer s H vs Q E hr h => ?_)
  · obtain ⟨v, T, rfl, _⟩ := h
    rfl
  obtain ⟨v, T, rfl, ⟨a, w1, c, xs, rfl, h1, h2, h3, h4⟩, g, fu, q⟩ := h
  refine ⟨_, (@pss_cons _ _ _ _ _ (@ps_set _ _ 1 _ _ _ _ sc_show_table.nd rfl (Or.inl rfl) (@pe_lst _ _ _ _ (@pa_cons _ _ _ _ _ (@pe_def _ _ _ _ _ _ _ _ _ _ _ d_part_text hr (by omega) rfl (@pa_cons _ _ _ _ _ (@pe_str _ _ _ _) (@pa_cons _ _ _ _ _ (@pe_tup _ _ _ _ _ (@pa_cons _ _ _ _ _ (@pe_ix _ _ _ _ _ _ _ (@kix_seq _ K (by rfl)) (@pv _ 0 _ _ (by rfl) (by first | exact Or.inl rfl | exact Or.inr (Or.inl rfl) | exact Or.inr (Or.inr rfl)) (by decide) (by decide)) (@pe_int _ _ _ _) (fun _ _ => rfl)) (@pa_nil _) (by rfl))) (@pa_nil _) (by rfl)) (by rfl)) (by decide) (by rfl) (by rfl)) (@pa_cons _ _ _ _ _ (@pe_def _ _ _ _ _ _ _ _ _ _ _ d_part_text hr (by omega) rfl (@pa_cons _ _ _ _ _ (@pe_str _ _ _ _) (@pa_cons _ _ _ _ _ (@pe_ix _ _ _ _ _ _ _ (@kix_seq _ K (by rfl)) (@pv _ 0 _ _ (by rfl) (by first | exact Or.inl rfl | exact Or.inr (Or.inl rfl) | exact Or.inr (Or.inr rfl)) (by decide) (by decide)) (@pe_int _ _ _ _) (fun _ _ => rfl)) (@pa_nil _) (by rfl)) (by rfl)) (by decide) (by rfl) (by rfl)) (@pa_nil _) (by rfl)) (by rfl))) (by rfl) (by first | exact .inl rfl | exact .inr rfl | assumption)) (@pss_cons _ _ _ _ _ (@ps_for _ _ _ _ _ _ _ _ PassesOwn.never rfl (@kpi_tup _ K _ _ _ (@pe_ix _ _ _ _ _ _ _ (@kix_seq _ K (by rfl)) (@pv _ 0 _ _ (by rfl) (by first | exact Or.inl rfl | exact Or.inr (Or.inl rfl) | exact Or.inr (Or.inr rfl)) (by decide) (by decide)) (@pe_int _ _ _ _) (fun _ _ => rfl)) (by rfl)) (@kpg_tup _ K _ _ _ _ 3 rfl (@pgs_cons _ _ _ _ _ (@pg_name _ _ 2 _ sc_show_table.nd rfl (Or.inl rfl) (by first | exact .inl rfl | exact .inr rfl | assumption)) (@pgs_cons _ _ _ _ _ (@pg_name _ _ 3 _ sc_show_table.nd rfl (Or.inl rfl) (by first | exact .inl rfl | exact .inr rfl | assumption)) (@pgs_cons _ _ _ _ _ (@pg_name _ _ 4 _ sc_show_table.nd rfl (Or.inl rfl) (by first | exact .inl rfl | exact .inr rfl | assumption)) (@pgs_nil _) (by rfl)) (by rfl)) (by rfl)) (by rfl) (by rfl) (by rfl)) (@pss_one _ _ _ (@ps_expr _ _ _ _ (@kpe_bm _ K _ _ _ _ _ _ _ _ _ _ _ PySem.F.plainAttrs_list PySem.F.slot_list_append PySem.F.type_list_append (@mt_append _) (@pv _ 1 _ _ (by rfl) (by first | exact Or.inl rfl | exact Or.inr (Or.inl rfl) | exact Or.inr (Or.inr rfl)) (by decide) (by decide)) (@pa_cons _ _ _ _ _ (@pe_def _ _ _ _ _ _ _ _ _ _ _ d_part_text hr (by omega) rfl (@pa_cons _ _ _ _ _ (@pv _ 2 _ _ (by rfl) (by first | exact Or.inl rfl | exact Or.inr (Or.inl rfl) | exact Or.inr (Or.inr rfl)) (by decide) (by decide)) (@pa_cons _ _ _ _ _ (@pe_op _ _ _ _ _ _ _ _ (@kop_catT _ K (by rfl)) (@pe_tup _ _ _ _ _ (@pa_cons _ _ _ _ _ (@pv _ 3 _ _ (by rfl) (by first | exact Or.inl rfl | exact Or.inr (Or.inl rfl) | exact Or.inr (Or.inr rfl)) (by decide) (by decide)) (@pa_nil _) (by rfl))) (@pv _ 4 _ _ (by rfl) (by first | exact Or.inl rfl | exact Or.inr (Or.inl rfl) | exact Or.inr (Or.inr rfl)) (by decide) (by decide))) (@pa_nil _) (by rfl)) (by rfl)) (by decide) (by rfl) (by rfl)) (@pa_nil _) (by rfl)) (by rfl) (by rfl) (by rfl) (by rfl) (by rfl) (by rfl)) (by rfl))) (by intro _; rfl)) (@pss_one _ _ _ (@ps_ret _ _ _ _ (@kpe_bm _ K _ _ _ _ _ _ _ _ _ _ _ PySem.F.plainAttrs_str PySem.F.slot_str_join PySem.F.type_str_join (@kmt_join _ K (by rfl)) (@pe_str _ _ _ _) (@pa_cons _ _ _ _ _ (@pv _ 1 _ _ (by rfl) (by first | exact Or.inl rfl | exact Or.inr (Or.inl rfl) | exact Or.inr (Or.inr rfl)) (by decide) (by decide)) (@pa_nil _) (by rfl)) (by rfl) (by rfl) (by rfl) (by rfl) (by rfl) (by rfl)))))), ?_⟩
  have fm : ∀ i ∈ [T.m], Fig i := fun i hi => by
    rw [List.mem_singleton.mp hi]
    exact ⟨by have := g.m1; omega, g.m9⟩
  have fw : ∀ i ∈ T.ws, Fig i := fun i hi => by
    have k1 := g.ws i hi
    have k2 := g.m9
    exact ⟨k1.1, by omega⟩
  refine ⟨_, rfl, .inr (.inl ⟨a, _, 0, _, rfl, rfl, SqT.of h1, rfl, small9 (by show 1 ≤ 1000; decide), fun p hp => ?_⟩)⟩
  refine ⟨_, p, [T.m], rfl, upd_same, name_words.1, fm, by show 1 ≤ 82; decide, fun H1 s1 => ?_⟩
  have s01 : Same H H1 := fun b o qb => s1 _ _ (by rw [upd_ne (ne_of_none qb hp)]; exact qb)
  refine ⟨_, rfl, .inr (.inl ⟨a, _, 1, _, rfl, rfl, SqT.of (s01 _ _ h1), rfl, _, w1, T.ws, rfl, s01 _ _ h2, name_words.2, fw, by have := g.wl; omega, fun H2 s2 => ?_⟩)⟩
  have s02 : Same H H2 := fun b o qb => s2 _ _ (s01 _ _ qb)
  refine ⟨small9 (by show 2 ≤ 1000; decide), fun l hl => ?_⟩
  have s03 : Same H (upd H2 l (.lst [.str (partOf (Str.ofString "grades") [T.m]), .str (partOf (Str.ofString "wished") T.ws)])) := fun b o qb => same_new hl _ _ _ (s02 _ _ qb)
  have hl0 : H l = none := by
    cases e : H l with
    | none => rfl
    | some o => rw [s02 _ _ e] at hl; cases hl
  have hlen := h4.len
  refine ⟨_, rfl, .inr (.inl ⟨a, _, 2, _, rfl, rfl, SqT.of (s03 _ _ h1), rfl, c, rfl, ⟨_, SqT.of (s03 _ _ h3)⟩, ?_⟩)⟩
  refine for_tup (xs := xs) (fun j σ H' => ∃ x2 x3 x4 : Option V, σ = [some (.ref a), some (.ref l), x2, x3, x4] ∧ Same H H' ∧ H' l = some (.lst ((partOf (Str.ofString "grades") [T.m] :: partOf (Str.ofString "wished") T.ws :: (T.cs.take j).map partC).map V.str))) ⟨none, none, none, rfl, s03, upd_same⟩ (fun j σ H' _ hh => by obtain ⟨_, _, _, _, ss, _⟩ := hh; exact SqT.of (ss _ _ h3)) ?_ ?_
  · rintro j x σ H' hxj ⟨x2, x3, x4, rfl, ss, hl'⟩
    have hj : j < xs.length := (List.getElem?_eq_some_iff.mp hxj).1
    have hcj : T.cs[j]? = some (T.cs.getD j ⟨"", 0, []⟩) := by simp [List.getD, show j < T.cs.length by omega]
    generalize hcn : T.cs.getD j ⟨"", 0, []⟩ = cn at hcj
    obtain ⟨t, uu, e1, e2, e3⟩ := h4.get hcj
    rw [hxj] at e1
    cases e1
    have gc := g.each cn (List.mem_of_getElem? hcj)
    have fu' := fu cn (List.mem_of_getElem? hcj)
    obtain ⟨fg, gl⟩ := conn_figs g.m1 g.m9 gc
    refine ⟨t, _, rfl, SqT.of (ss _ _ e2), rfl, _, _, rfl, _, _, rfl, _, _, rfl, rfl, ?_⟩
    refine ⟨_, rfl, .inl ⟨rfl, _, SqL.of hl'⟩, _, rfl, _, rfl, small9 (by show 1 ≤ 1000; decide), fun p2 hp2 => ?_⟩
    have fin : ∀ (p3 : Addr) (H3 : Hp), Same H' H3 → H3 p3 = some (.tup ((cn.pl :: gsOf cn).map V.int)) → spPart [.str cn.nm, .ref p3] H3 (fun v H4 => rAppend (.ref l) [v] H4 fun _ H5 => ∃ x2 x3 x4 : Option V, [some (V.ref a), some (.ref l), some (.str cn.nm), some (.int cn.pl), some (.ref uu)] = [some (.ref a), some (.ref l), x2, x3, x4] ∧ Same H H5 ∧ H5 l = some (.lst ((partOf (Str.ofString "grades") [T.m] :: partOf (Str.ofString "wished") T.ws :: (T.cs.take (j + 1)).map partC).map V.str))) E0 := fun p3 H3 s3 hp3 => by
      refine ⟨_, p3, cn.pl :: gsOf cn, rfl, hp3, gc.nm, ?_, by rw [List.length_cons]; omega, fun H4 s4 => ?_⟩
      · intro i hi
        rcases List.mem_cons.mp hi with rfl | hi
        · exact ⟨gc.p0, by have := gc.p2; omega⟩
        · exact fg i hi
      · have hl4 := s4 _ _ (s3 _ _ hl')
        refine ⟨l, _, _, rfl, rfl, hl4, ?_, _, _, _, rfl, fun b o qb => ?_, ?_⟩
        · rw [List.length_map, List.length_cons, List.length_cons, List.length_map, List.length_take]
          exact small1000 (by have := g.few; omega)
        · rw [upd_ne (ne_of_none qb hl0)]
          exact s4 _ _ (s3 _ _ (ss _ _ qb))
        · rw [upd_same, take_snoc hcj]
          simp [partC]
    have ef : (gsOf cn).map V.int = cn.cs.map cellV := (full_cells fu').symm
    have u2 : (upd H' p2 (.tup [.int cn.pl])) uu = some (.tup (cn.cs.map cellV)) := by rw [upd_ne (ne_of_none (ss _ _ e3) hp2)]; exact ss _ _ e3
    refine ⟨_, rfl, p2, uu, _, _, rfl, rfl, SqT.of upd_same, SqT.of u2, by simp, ?_, fun em => ?_, fun em p4 hp4 => ?_⟩
    · rw [← ef, List.length_map]
      exact small9 (by show 1 + (gsOf cn).length ≤ 1000; omega)
    · refine fin p2 _ (same_new hp2 _) ?_
      rw [upd_same, List.map_cons, ef, em]
    · refine fin p4 _ (fun b o qb => ?_) ?_
      · have := same_new hp2 (.tup [.int cn.pl]) _ _ qb
        rw [upd_ne (ne_of_none this hp4)]
        exact this
      · rw [upd_same, List.map_cons, ef]
        rfl
  · rintro σ H' ⟨x2, x3, x4, rfl, ss, hl'⟩
    rw [hlen, List.take_length, ← parts_eq] at hl'
    refine ⟨rfl, _, rfl, sp2, l, partsT T, rfl, rfl, SqL.of hl', ?_, q _ ss⟩
    have := (text_len g).1
    omega

abbrev s_law_part : Stmt := top 32
theorem sc_law_part : FnScope ["_law_pool_here", "_law_many", "_law_name", "_law_places", "_law_cells"] ["_law_pool_here", "_law_many"] (defScope s_law_part) := ⟨rfl, rfl, rfl, by decide +kernel, rfl, by decide +kernel, by decide +kernel⟩
theorem ok_law_part {P : Program} {w : World} {K : PySem.W.Frag} {mg : Str → Option Value} {base : Heap} {f : Addr} {fd : FuncData} (F : Fun K "_law_part" "_law_part" s_law_part f fd) (gb : Gb mg) {c : Nat → Addr} (cl : Cl K mg c) (d_law_draw : Def P w K mg base 1 "_law_draw" ["_law_pool_here", "_law_many"] spDraw) : FnOk P w K mg base CX0 2 f fd ["_law_pool_here", "_law_many"] spPart7 := by
  refine F.ok sc_law_part (fun vs H Q E h => ?_) (fun cdv A outer s H vs Q E hr h => ?_)
  · obtain ⟨p, m, rfl, _⟩ := h
    rfl
  obtain ⟨p, m, rfl, hp, m1, m3, q⟩ := h
  have nd0 : (["_law_k", "_law_pool_here", "_law_many"] : List Str).Nodup := by decide +kernel
  refine ⟨_, (@pss_cons _ _ _ _ _ (@ps_set _ _ 2 _ _ _ _ sc_law_part.nd rfl (Or.inl rfl) (@pe_ix _ _ _ _ _ _ _ (@kix_seq _ K (by rfl)) (@pe_lst _ _ _ _ (@pa_cons _ _ _ _ _ (@pe_str _ _ _ _) (@pa_cons _ _ _ _ _ (@pe_str _ _ _ _) (@pa_cons _ _ _ _ _ (@pe_str _ _ _ _) (@pa_cons _ _ _ _ _ (@pe_str _ _ _ _) (@pa_cons _ _ _ _ _ (@pe_str _ _ _ _) (@pa_cons _ _ _ _ _ (@pe_str _ _ _ _) (@pa_nil _) (by rfl)) (by rfl)) (by rfl)) (by rfl)) (by rfl)) (by rfl))) (@pe_def _ _ _ _ _ _ _ _ _ _ _ d_law_draw hr (by omega) rfl (@pa_cons _ _ _ _ _ (@pv _ 0 _ _ (by rfl) (by first | exact Or.inl rfl | exact Or.inr (Or.inl rfl) | exact Or.inr (Or.inr rfl)) (by decide) (by decide)) (@pa_cons _ _ _ _ _ (@pe_int _ _ _ _) (@pa_nil _) (by rfl)) (by rfl)) (by decide) (by rfl) (by rfl)) (fun _ _ => rfl)) (by rfl) (by first | exact .inl rfl | exact .inr rfl | assumption)) (@pss_cons _ _ _ _ _ (@ps_set _ _ 3 _ _ _ _ sc_law_part.nd rfl (Or.inl rfl) (@pe_def _ _ _ _ _ _ _ _ _ _ _ d_law_draw hr (by omega) rfl (@pa_cons _ _ _ _ _ (@pv _ 0 _ _ (by rfl) (by first | exact Or.inl rfl | exact Or.inr (Or.inl rfl) | exact Or.inr (Or.inr rfl)) (by decide) (by decide)) (@pa_cons _ _ _ _ _ (@pe_int _ _ _ _) (@pa_nil _) (by rfl)) (by rfl)) (by decide) (by rfl) (by rfl)) (by rfl) (by first | exact .inl rfl | exact .inr rfl | assumption)) (@pss_cons _ _ _ _ _ (@ps_setComp _ ["_law_k", "_law_pool_here", "_law_many"] [none, some 0, some 1] _ 4 _ _ _ _ _ _ _ _ _ _ _ _ (by exact (show CompOk ["_law_pool_here", "_law_many", "_law_name", "_law_places", "_law_cells"] (defScope s_law_part) ["_law_k", "_law_pool_here", "_law_many"] [none, some 0, some 1] _ from ⟨rfl, by decide +kernel, by decide +kernel, by decide +kernel, by decide +kernel, rfl, by decide +kernel⟩)) rfl (@pi_range1 _ _ _ _ _ _ rfl gb.range (@pa_cons _ _ _ _ _ (@pe_ix _ _ _ _ _ _ _ (@kix_seq _ K (by rfl)) (@pe_lst _ _ _ _ (@pa_cons _ _ _ _ _ (@pe_int _ _ _ _) (@pa_cons _ _ _ _ _ (@pv _ 1 _ _ (by rfl) (by first | exact Or.inl rfl | exact Or.inr (Or.inl rfl) | exact Or.inr (Or.inr rfl)) (by decide) (by decide)) (@pa_cons _ _ _ _ _ (@pe_op _ _ _ _ _ _ _ _ (@op_mul _) (@pv _ 1 _ _ (by rfl) (by first | exact Or.inl rfl | exact Or.inr (Or.inl rfl) | exact Or.inr (Or.inr rfl)) (by decide) (by decide)) (@pv _ 1 _ _ (by rfl) (by first | exact Or.inl rfl | exact Or.inr (Or.inl rfl) | exact Or.inr (Or.inr rfl)) (by decide) (by decide))) (@pa_nil _) (by rfl)) (by rfl)) (by rfl))) (@pv _ 3 _ _ (by rfl) (by first | exact Or.inl rfl | exact Or.inr (Or.inl rfl) | exact Or.inr (Or.inr rfl)) (by decide) (by decide)) (fun _ _ => rfl)) (@pa_nil _) (by rfl)) (by rfl)) (fun _ _ _ _ => (@pg_name _ _ 0 _ nd0 rfl (Or.inl rfl) (by first | exact .inl rfl | exact .inr rfl | assumption))) (fun _ _ _ _ => (@pf_nil _)) (fun _ _ _ _ => (@pe_callTy _ _ _ _ _ _ _ _ _ (@call_str_int _) rfl gb.str bt_str (@pa_cons _ _ _ _ _ (@pe_def _ _ _ _ _ _ _ _ _ _ _ d_law_draw hr (by omega) rfl (@pa_cons _ _ _ _ _ (@pv _ 1 _ _ (by rfl) (by first | exact Or.inl rfl | exact Or.inr (Or.inl rfl) | exact Or.inr (Or.inr rfl)) (by decide) (by decide)) (@pa_cons _ _ _ _ _ (@pv _ 2 _ _ (by rfl) (by first | exact Or.inl rfl | exact Or.inr (Or.inl rfl) | exact Or.inr (Or.inr rfl)) (by decide) (by decide)) (@pa_nil _) (by rfl)) (by rfl)) (by decide) (by rfl) (by rfl)) (@pa_nil _) (by rfl)) (by decide) (by decide) (by rfl) (by rfl))) sc_law_part.nd rfl rfl rfl (by intro _; rfl)) (@pss_one _ _ _ (@ps_ret _ _ _ _ (@pe_op _ _ _ _ _ _ _ _ (@op_cat _) (@pe_lst _ _ _ _ (@pa_cons _ _ _ _ _ (@pv _ 2 _ _ (by rfl) (by first | exact Or.inl rfl | exact Or.inr (Or.inl rfl) | exact Or.inr (Or.inr rfl)) (by decide) (by decide)) (@pa_cons _ _ _ _ _ (@pe_callTy _ _ _ _ _ _ _ _ _ (@call_str_int _) rfl gb.str bt_str (@pa_cons _ _ _ _ _ (@pv _ 3 _ _ (by rfl) (by first | exact Or.inl rfl | exact Or.inr (Or.inl rfl) | exact Or.inr (Or.inr rfl)) (by decide) (by decide)) (@pa_nil _) (by rfl)) (by decide) (by decide) (by rfl) (by rfl)) (@pa_nil _) (by rfl)) (by rfl))) (@pv _ 4 _ _ (by rfl) (by first | exact Or.inl rfl | exact Or.inr (Or.inl rfl) | exact Or.inr (Or.inr rfl)) (by decide) (by decide)))))))), ?_⟩
  refine ⟨small9 (by show 6 ≤ 1000; decide), fun g hg => ⟨_, rfl, p, 6, rfl, hp.new hg, by decide, by decide, fun v H1 v0 v1 o1 p1 => ?_⟩⟩
  have gp := pool_ne hp hg
  obtain ⟨nm, hnm, hat⟩ := strs_pick (L := nms7) v0 (by show v < 6; exact v1)
  refine .inl ⟨g, _, v, _, rfl, rfl, SqL.of (o1 _ _ gp upd_same), hat, ?_⟩
  refine ⟨_, rfl, p, 3, rfl, p1, by decide, by decide, fun pl H2 l0 l1 o2 p2 => ?_⟩
  obtain ⟨n, hat2, n0, n9⟩ := cells3 m1 m3 l0 (by omega)
  refine ⟨_, rfl, _, rfl, _, rfl, _, _, rfl, rfl, .inr ⟨by omega, by omega⟩, small9 (by show 3 ≤ 1000; decide), fun g2 hg2 => ?_⟩
  refine ⟨_, rfl, .inl ⟨g2, _, pl, _, rfl, rfl, SqL.of upd_same, hat2, _, rfl, by omega, by omega, fun D hD => ?_⟩⟩
  have p3 := p2.new (o := .lst [.int 1, .int m, .int (m * m)]) hg2
  have pnD := pool_ne p3 hD
  have o03 : Off p H (upd H2 g2 (.lst [.int 1, .int m, .int (m * m)])) := (((Off.new hg).trans o1).trans o2).trans (Off.new hg2)
  refine comp_range (fun i ys H' => Off p (upd H2 g2 (.lst [.int 1, .int m, .int (m * m)])) H' ∧ Pool H' p ∧ ∃ cs : List Int, ys = (cs.map fig).map V.str ∧ cs.length = i ∧ ∀ d ∈ cs, Fig d) ⟨Off.new hD, p3.new hD, [], rfl, rfl, by simp⟩ ?_ ?_
  · rintro i ys H4 hi ⟨o4, p4, cs, rfl, hc, hs⟩ hD4
    refine yes ?_
    refine ⟨_, rfl, _, rfl, p, m, rfl, p4, by omega, by omega, fun u H5 u0 u1 o5 p5 => ?_⟩
    have hu : Fig u := ⟨u0, by omega⟩
    refine ⟨u, rfl, log_fig hu, ?_⟩
    refine cyes hi rset1 (o5 _ _ pnD hD4) (by rw [List.length_map, List.length_map, hc]; exact small1000 (by omega)) ⟨(o4.trans o5).fresh hD, p5.off (Ne.symm pnD), cs ++ [u], by rw [List.map_append, List.map_append]; rfl, by rw [List.length_append, hc]; rfl, fun d hd => ?_⟩
    rcases List.mem_append.mp hd with hd | hd
    · exact hs d hd
    · rw [List.mem_singleton.mp hd]
      exact hu
  · rintro ys H4 ⟨o4, p4, cs, rfl, hc, hs⟩ hD4
    have hpl : Fig pl := ⟨l0, by omega⟩
    refine ⟨_, rfl, _, rfl, pl, rfl, log_fig hpl, small9 (by show 2 ≤ 1000; decide), fun e he => ⟨_, rfl, e, D, _, _, rfl, rfl, upd_same, same_new he _ _ _ hD4, ?_, fun r hr' => ?_⟩⟩
    · rw [List.length_map, List.length_map, hc]
      exact small9 (by show 2 + n.toNat ≤ 1000; omega)
    have o4e : Off p H (upd H4 e (.lst [.str nm, .str (fig pl)])) := (o03.trans o4).trans (Off.new he)
    have pe := p4.new (o := .lst [.str nm, .str (fig pl)]) he
    refine q r (nm :: fig pl :: cs.map fig) _ (o4e.trans (Off.new hr')) (pe.new hr') upd_same (by rw [List.length_cons]; omega) (by rw [List.length_cons, List.length_cons, List.length_map]; omega) (fun w hw => ?_) (off_none o4e hr' (pool_ne pe hr'))
    rcases List.mem_cons.mp hw with rfl | hw
    · exact nms7_len _ hnm
    rcases List.mem_cons.mp hw with rfl | hw
    · exact fig_len9 hpl
    obtain ⟨d, hd, rfl⟩ := List.mem_map.mp hw
    exact fig_len9 (hs d hd)

abbrev s_law_bent : Stmt := top 33
theorem sc_law_bent : FnScope ["_law_pool_here", "_law_words", "_law_odd", "_law_way", "_law_at", "_law_word"] ["_law_pool_here", "_law_words"] (defScope s_law_bent) := ⟨rfl, rfl, rfl, by decide +kernel, rfl, by decide +kernel, by decide +kernel⟩
theorem ok_law_bent {P : Program} {w : World} {K : PySem.W.Frag} {mg : Str → Option Value} {base : Heap} {f : Addr} {fd : FuncData} (F : Fun K "_law_bent" "_law_bent" s_law_bent f fd) (gb : Gb mg) {c : Nat → Addr} (cl : Cl K mg c) (d_law_draw : Def P w K mg base 1 "_law_draw" ["_law_pool_here", "_law_many"] spDraw) : FnOk P w K mg base CX0 2 f fd ["_law_pool_here", "_law_words"] spBent7 := by
  refine F.ok sc_law_bent (fun vs H Q E h => ?_) (fun cdv A outer s H vs Q E hr h => ?_)
  · obtain ⟨p, l, ws, rfl, _⟩ := h
    rfl
  obtain ⟨p, l, ws, rfl, hp, hl, w1, w11, hw, q⟩ := h
  refine ⟨_, (@pss_cons _ _ _ _ _ (@ps_set _ _ 2 _ _ _ _ sc_law_bent.nd rfl (Or.inl rfl) (@pe_lst _ _ _ _ (@pa_cons _ _ _ _ _ (@pe_str _ _ _ _) (@pa_cons _ _ _ _ _ (@pe_str _ _ _ _) (@pa_cons _ _ _ _ _ (@pe_str _ _ _ _) (@pa_cons _ _ _ _ _ (@pe_str _ _ _ _) (@pa_cons _ _ _ _ _ (@pe_str _ _ _ _) (@pa_cons _ _ _ _ _ (@pe_str _ _ _ _) (@pa_cons _ _ _ _ _ (@pe_str _ _ _ _) (@pa_cons _ _ _ _ _ (@pe_str _ _ _ _) (@pa_cons _ _ _ _ _ (@pe_str _ _ _ _) (@pa_cons _ _ _ _ _ (@pe_str _ _ _ _) (@pa_cons _ _ _ _ _ (@pe_str _ _ _ _) (@pa_cons _ _ _ _ _ (@pe_str _ _ _ _) (@pa_cons _ _ _ _ _ (@pe_str _ _ _ _) (@pa_cons _ _ _ _ _ (@pe_str _ _ _ _) (@pa_cons _ _ _ _ _ (@pe_str _ _ _ _) (@pa_cons _ _ _ _ _ (@pe_str _ _ _ _) (@pa_nil _) (by rfl)) (by rfl)) (by rfl)) (by rfl)) (by rfl)) (by rfl)) (by rfl)) (by rfl)) (by rfl)) (by rfl)) (by rfl)) (by rfl)) (by rfl)) (by rfl)) (by rfl)) (by rfl))) (by rfl) (by first | exact .inl rfl | exact .inr rfl | assumption)) (@pss_cons _ _ _ _ _ (@ps_set _ _ 2 _ _ _ _ sc_law_bent.nd rfl (Or.inl rfl) (@pe_op _ _ _ _ _ _ _ _ (@op_cat _) (@pv _ 2 _ _ (by rfl) (by first | exact Or.inl rfl | exact Or.inr (Or.inl rfl) | exact Or.inr (Or.inr rfl)) (by decide) (by decide)) (@pe_lst _ _ _ _ (@pa_cons _ _ _ _ _ (@pe_str _ _ _ _) (@pa_cons _ _ _ _ _ (@pe_str _ _ _ _) (@pa_nil _) (by rfl)) (by rfl)))) (by rfl) (by first | exact .inl rfl | exact .inr rfl | assumption)) (@pss_cons _ _ _ _ _ (@ps_set _ _ 3 _ _ _ _ sc_law_bent.nd rfl (Or.inl rfl) (@pe_def _ _ _ _ _ _ _ _ _ _ _ d_law_draw hr (by omega) rfl (@pa_cons _ _ _ _ _ (@pv _ 0 _ _ (by rfl) (by first | exact Or.inl rfl | exact Or.inr (Or.inl rfl) | exact Or.inr (Or.inr rfl)) (by decide) (by decide)) (@pa_cons _ _ _ _ _ (@pe_int _ _ _ _) (@pa_nil _) (by rfl)) (by rfl)) (by decide) (by rfl) (by rfl)) (by rfl) (by first | exact .inl rfl | exact .inr rfl | assumption)) (@pss_cons _ _ _ _ _ (@ps_set _ _ 4 _ _ _ _ sc_law_bent.nd rfl (Or.inl rfl) (@pe_def _ _ _ _ _ _ _ _ _ _ _ d_law_draw hr (by omega) rfl (@pa_cons _ _ _ _ _ (@pv _ 0 _ _ (by rfl) (by first | exact Or.inl rfl | exact Or.inr (Or.inl rfl) | exact Or.inr (Or.inr rfl)) (by decide) (by decide)) (@pa_cons _ _ _ _ _ (@pe_callB _ _ _ _ _ _ _ _ _ (@kcall_len _ K (by rfl)) rfl gb.len bt_len (@pa_cons _ _ _ _ _ (@pv _ 1 _ _ (by rfl) (by first | exact Or.inl rfl | exact Or.inr (Or.inl rfl) | exact Or.inr (Or.inr rfl)) (by decide) (by decide)) (@pa_nil _) (by rfl)) (by decide) (by decide) (by rfl) (by rfl)) (@pa_nil _) (by rfl)) (by rfl)) (by decide) (by rfl) (by rfl)) (by rfl) (by first | exact .inl rfl | exact .inr rfl | assumption)) (@pss_cons _ _ _ _ _ (@ps_set _ _ 5 _ _ _ _ sc_law_bent.nd rfl (Or.inl rfl) (@pe_ix _ _ _ _ _ _ _ (@kix_seq _ K (by rfl)) (@pv _ 2 _ _ (by rfl) (by first | exact Or.inl rfl | exact Or.inr (Or.inl rfl) | exact Or.inr (Or.inr rfl)) (by decide) (by decide)) (@pe_def _ _ _ _ _ _ _ _ _ _ _ d_law_draw hr (by omega) rfl (@pa_cons _ _ _ _ _ (@pv _ 0 _ _ (by rfl) (by first | exact Or.inl rfl | exact Or.inr (Or.inl rfl) | exact Or.inr (Or.inr rfl)) (by decide) (by decide)) (@pa_cons _ _ _ _ _ (@pe_callB _ _ _ _ _ _ _ _ _ (@kcall_len _ K (by rfl)) rfl gb.len bt_len (@pa_cons _ _ _ _ _ (@pv _ 2 _ _ (by rfl) (by first | exact Or.inl rfl | exact Or.inr (Or.inl rfl) | exact Or.inr (Or.inr rfl)) (by decide) (by decide)) (@pa_nil _) (by rfl)) (by decide) (by decide) (by rfl) (by rfl)) (@pa_nil _) (by rfl)) (by rfl)) (by decide) (by rfl) (by rfl)) (fun _ _ => rfl)) (by rfl) (by first | exact .inl rfl | exact .inr rfl | assumption)) (@pss_cons _ _ _ _ _ (@ps_if _ _ _ _ _ _ _ _ (@pt_cmpR _ _ _ _ _ _ _ _ (@op_eq _) (@pv _ 3 _ _ (by rfl) (by first | exact Or.inl rfl | exact Or.inr (Or.inl rfl) | exact Or.inr (Or.inr rfl)) (by decide) (by decide)) (@pe_int _ _ _ _) (@nomark _ _ (by decide) (by decide))) (@pss_one _ _ _ (@ps_ret _ _ _ _ (@pe_op _ _ _ _ _ _ _ _ (@op_cat _) (@pe_op _ _ _ _ _ _ _ _ (@op_cat _) (@pe_slice _ _ _ _ _ _ _ _ _ _ (@ksl_any _ K (by rfl)) (@pv _ 1 _ _ (by rfl) (by first | exact Or.inl rfl | exact Or.inr (Or.inl rfl) | exact Or.inr (Or.inr rfl)) (by decide) (by decide)) (@po_none _) (@po_some _ _ _ (@pv _ 4 _ _ (by rfl) (by first | exact Or.inl rfl | exact Or.inr (Or.inl rfl) | exact Or.inr (Or.inr rfl)) (by decide) (by decide)))) (@pe_lst _ _ _ _ (@pa_cons _ _ _ _ _ (@pv _ 5 _ _ (by rfl) (by first | exact Or.inl rfl | exact Or.inr (Or.inl rfl) | exact Or.inr (Or.inr rfl)) (by decide) (by decide)) (@pa_nil _) (by rfl)))) (@pe_slice _ _ _ _ _ _ _ _ _ _ (@ksl_any _ K (by rfl)) (@pv _ 1 _ _ (by rfl) (by first | exact Or.inl rfl | exact Or.inr (Or.inl rfl) | exact Or.inr (Or.inr rfl)) (by decide) (by decide)) (@po_some _ _ _ (@pv _ 4 _ _ (by rfl) (by first | exact Or.inl rfl | exact Or.inr (Or.inl rfl) | exact Or.inr (Or.inr rfl)) (by decide) (by decide))) (@po_none _))))) (@pss_nil _)) (@pss_cons _ _ _ _ _ (@ps_if _ _ _ _ _ _ _ _ (@pt_cmpR _ _ _ _ _ _ _ _ (@op_eq _) (@pv _ 3 _ _ (by rfl) (by first | exact Or.inl rfl | exact Or.inr (Or.inl rfl) | exact Or.inr (Or.inr rfl)) (by decide) (by decide)) (@pe_int _ _ _ _) (@nomark _ _ (by decide) (by decide))) (@pss_one _ _ _ (@ps_ret _ _ _ _ (@pe_op _ _ _ _ _ _ _ _ (@op_cat _) (@pe_slice _ _ _ _ _ _ _ _ _ _ (@ksl_any _ K (by rfl)) (@pv _ 1 _ _ (by rfl) (by first | exact Or.inl rfl | exact Or.inr (Or.inl rfl) | exact Or.inr (Or.inr rfl)) (by decide) (by decide)) (@po_none _) (@po_some _ _ _ (@pv _ 4 _ _ (by rfl) (by first | exact Or.inl rfl | exact Or.inr (Or.inl rfl) | exact Or.inr (Or.inr rfl)) (by decide) (by decide)))) (@pe_slice _ _ _ _ _ _ _ _ _ _ (@ksl_any _ K (by rfl)) (@pv _ 1 _ _ (by rfl) (by first | exact Or.inl rfl | exact Or.inr (Or.inl rfl) | exact Or.inr (Or.inr rfl)) (by decide) (by decide)) (@po_some _ _ _ (@pe_op _ _ _ _ _ _ _ _ (@op_add _) (@pv _ 4 _ _ (by rfl) (by first | exact Or.inl rfl | exact Or.inr (Or.inl rfl) | exact Or.inr (Or.inr rfl)) (by decide) (by decide)) (@pe_int _ _ _ _))) (@po_none _))))) (@pss_nil _)) (@pss_cons _ _ _ _ _ (@ps_if _ _ _ _ _ _ _ _ (@pt_cmpR _ _ _ _ _ _ _ _ (@op_eq _) (@pv _ 3 _ _ (by rfl) (by first | exact Or.inl rfl | exact Or.inr (Or.inl rfl) | exact Or.inr (Or.inr rfl)) (by decide) (by decide)) (@pe_int _ _ _ _) (@nomark _ _ (by decide) (by decide))) (@pss_one _ _ _ (@ps_ret _ _ _ _ (@pe_op _ _ _ _ _ _ _ _ (@op_cat _) (@pe_op _ _ _ _ _ _ _ _ (@op_cat _) (@pe_slice _ _ _ _ _ _ _ _ _ _ (@ksl_any _ K (by rfl)) (@pv _ 1 _ _ (by rfl) (by first | exact Or.inl rfl | exact Or.inr (Or.inl rfl) | exact Or.inr (Or.inr rfl)) (by decide) (by decide)) (@po_none _) (@po_some _ _ _ (@pv _ 4 _ _ (by rfl) (by first | exact Or.inl rfl | exact Or.inr (Or.inl rfl) | exact Or.inr (Or.inr rfl)) (by decide) (by decide)))) (@pe_lst _ _ _ _ (@pa_cons _ _ _ _ _ (@pv _ 5 _ _ (by rfl) (by first | exact Or.inl rfl | exact Or.inr (Or.inl rfl) | exact Or.inr (Or.inr rfl)) (by decide) (by decide)) (@pa_nil _) (by rfl)))) (@pe_slice _ _ _ _ _ _ _ _ _ _ (@ksl_any _ K (by rfl)) (@pv _ 1 _ _ (by rfl) (by first | exact Or.inl rfl | exact Or.inr (Or.inl rfl) | exact Or.inr (Or.inr rfl)) (by decide) (by decide)) (@po_some _ _ _ (@pe_op _ _ _ _ _ _ _ _ (@op_add _) (@pv _ 4 _ _ (by rfl) (by first | exact Or.inl rfl | exact Or.inr (Or.inl rfl) | exact Or.inr (Or.inr rfl)) (by decide) (by decide)) (@pe_int _ _ _ _))) (@po_none _))))) (@pss_nil _)) (@pss_one _ _ _ (@ps_ret _ _ _ _ (@pv _ 1 _ _ (by rfl) (by first | exact Or.inl rfl | exact Or.inr (Or.inl rfl) | exact Or.inr (Or.inr rfl)) (by decide) (by decide)))))))))))), ?_⟩
  have lp := pool_ne_strs hp hl
  refine ⟨small9 (by show 16 ≤ 1000; decide), fun g1 hg1 => ?_⟩
  refine ⟨_, rfl, small9 (by show 2 ≤ 1000; decide), fun g2 hg2 => ⟨g1, g2, _, _, rfl, rfl, same_new hg2 _ _ _ upd_same, upd_same, small9 (by show 16 + 2 ≤ 1000; decide), fun g3 hg3 => ?_⟩⟩
  have p3 := ((hp.new hg1).new hg2).new (o := .lst (odds7.map V.str)) hg3
  have s3 := ((same_new hg1 _).trans (same_new hg2 _)).trans (same_new hg3 (.lst (odds7.map V.str)))
  have e3 : ∀ {G : Hp}, (upd G g3 (.lst (odds7.map V.str))) g3 = some (.lst (odds7.map V.str)) := upd_same
  have n3 : g3 ≠ p := pool_ne ((hp.new hg1).new hg2) hg3
  refine ⟨_, rfl, p, 12, rfl, p3, by decide, by decide, fun v H4 v0 v1 o4 p4 => ?_⟩
  have o04 : Off p H H4 := (Off.of s3).trans o4
  have hl4 := o04 _ _ lp hl
  have e4 : H4 g3 = some (.lst (odds7.map V.str)) := o4 _ _ n3 e3
  refine ⟨_, rfl, _, rfl, _, ws.length, rfl, .inl ⟨_, SqL.of hl4, by rw [List.length_map]⟩, p, _, rfl, p4, by omega, by omega, fun a H5 a0 a1 o5 p5 => ?_⟩
  have e5 := o5 _ _ n3 e4
  refine ⟨_, rfl, _, rfl, _, rfl, _, 18, rfl, .inl ⟨_, SqL.of e5, rfl⟩, p, _, rfl, p5, by decide, by decide, fun b H6 b0 b1 o6 p6 => ?_⟩
  obtain ⟨wd, hwd, hat⟩ := strs_pick (L := odds7) b0 (by show b < 18; exact b1)
  refine .inl ⟨g3, _, b, _, rfl, rfl, SqL.of (o6 _ _ n3 e5), hat, ?_⟩
  have o06 := (o04.trans o5).trans o6
  have hl6 := o06 _ _ lp hl
  have wd9 := odds7_len _ hwd
  obtain ⟨k, rfl⟩ : ∃ k : Nat, a = (k : Int) := ⟨a.toNat, by omega⟩
  have hk : k < ws.length := by omega
  have cu : cutV (ws.map V.str) none (some (k : Int)) = (ws.take k).map V.str := by rw [cut_upto k (by rw [List.length_map]; omega), List.map_take]
  have cf : cutV (ws.map V.str) (some (k : Int)) none = (ws.drop k).map V.str := by rw [cut_from k (by rw [List.length_map]; omega), List.map_drop]
  have cf1 : cutV (ws.map V.str) (some ((k : Int) + 1)) none = (ws.drop (k + 1)).map V.str := by
    have := cut_from (xs := ws.map V.str) (k + 1) (by rw [List.length_map]; omega)
    rw [← List.map_drop] at this
    exact this
  have fin : ∀ (G : Hp) (r : Addr) (us : List Str), Same H6 G → G r = none → us.length ≤ 12 → (∀ w ∈ us, w ∈ ws ∨ w = wd) → Q (.ref r) (upd G r (.lst (us.map V.str))) := fun G r us sg hr hu hm => by
    have og : Off p H G := o06.trans (Off.of sg)
    have pg := p6.same7 sg
    refine q r us _ (og.trans (Off.new hr)) (pg.new hr) upd_same hu (fun w hw' => ?_) (.inr (off_none og hr (pool_ne pg hr)))
    rcases hm w hw' with h | rfl
    · exact hw w h
    · exact wd9
  refine ⟨_, rfl, rfl, _, rfl, ?_⟩
  refine ite2 (fun _ => ?_) (fun _ => ?_)
  · refine ⟨_, rfl, _, rfl, _, rfl, .inl ⟨l, _, rfl, SqL.of hl6, fun k1 hk1 => ?_⟩⟩
    rw [cu]
    refine ⟨_, rfl, small9 (by show 1 ≤ 1000; decide), fun k2 hk2 => ⟨k1, k2, _, _, rfl, rfl, same_new hk2 _ _ _ upd_same, upd_same, by rw [List.length_map, List.length_take]; exact small9 (by show min k ws.length + 1 ≤ 1000; omega), fun k3 hk3 => ?_⟩⟩
    have t3 := ((same_new hk1 (.lst ((ws.take k).map V.str))).trans (same_new hk2 (.lst [.str wd]))).trans (same_new hk3 (.lst ((ws.take k).map V.str ++ [.str wd])))
    refine ⟨_, rfl, _, rfl, _, rfl, .inl ⟨l, _, rfl, SqL.of (t3 _ _ hl6), fun k4 hk4 => ?_⟩⟩
    rw [cf]
    refine ⟨k3, k4, _, _, rfl, rfl, same_new hk4 _ _ _ upd_same, upd_same, ?_, fun k5 hk5 => ?_⟩
    · rw [List.length_append, List.length_map, List.length_map, List.length_take, List.length_drop]
      exact small9 (by show min k ws.length + 1 + (ws.length - k) ≤ 1000; omega)
    have ee : (ws.take k).map V.str ++ [.str wd] ++ (ws.drop k).map V.str = (ws.take k ++ [wd] ++ ws.drop k).map V.str := by
      rw [List.map_append, List.map_append]
      rfl
    rw [ee]
    refine fin _ k5 _ (t3.trans (same_new hk4 _)) hk5 (by rw [List.length_append, List.length_append, List.length_take, List.length_drop, List.length_singleton]; omega) fun w hw' => ?_
    rcases List.mem_append.mp hw' with h | h
    · rcases List.mem_append.mp h with h | h
      · exact .inl (List.mem_of_mem_take h)
      · exact .inr (List.mem_singleton.mp h)
    · exact .inl (List.mem_of_mem_drop h)
  refine ⟨_, rfl, rfl, _, rfl, ?_⟩
  refine ite2 (fun _ => ?_) (fun _ => ?_)
  · refine ⟨_, rfl, _, rfl, _, rfl, .inl ⟨l, _, rfl, SqL.of hl6, fun k1 hk1 => ?_⟩⟩
    rw [cu]
    have t3 := same_new hk1 (.lst ((ws.take k).map V.str))
    refine ⟨_, rfl, _, rfl, _, _, rfl, rfl, _, rfl, .inl ⟨l, _, rfl, SqL.of (t3 _ _ hl6), fun k4 hk4 => ?_⟩⟩
    rw [cf1]
    refine ⟨k1, k4, _, _, rfl, rfl, same_new hk4 _ _ _ upd_same, upd_same, ?_, fun k5 hk5 => ?_⟩
    · rw [List.length_map, List.length_map, List.length_take, List.length_drop]
      exact small9 (by show min k ws.length + (ws.length - (k + 1)) ≤ 1000; omega)
    rw [← List.map_append]
    refine fin _ k5 _ (t3.trans (same_new hk4 _)) hk5 (by rw [List.length_append, List.length_take, List.length_drop]; omega) fun w hw' => ?_
    rcases List.mem_append.mp hw' with h | h
    · exact .inl (List.mem_of_mem_take h)
    · exact .inl (List.mem_of_mem_drop h)
  refine ⟨_, rfl, rfl, _, rfl, ?_⟩
  refine ite2 (fun _ => ?_) (fun _ => ?_)
  · refine ⟨_, rfl, _, rfl, _, rfl, .inl ⟨l, _, rfl, SqL.of hl6, fun k1 hk1 => ?_⟩⟩
    rw [cu]
    refine ⟨_, rfl, small9 (by show 1 ≤ 1000; decide), fun k2 hk2 => ⟨k1, k2, _, _, rfl, rfl, same_new hk2 _ _ _ upd_same, upd_same, by rw [List.length_map, List.length_take]; exact small9 (by show min k ws.length + 1 ≤ 1000; omega), fun k3 hk3 => ?_⟩⟩
    have t3 := ((same_new hk1 (.lst ((ws.take k).map V.str))).trans (same_new hk2 (.lst [.str wd]))).trans (same_new hk3 (.lst ((ws.take k).map V.str ++ [.str wd])))
    refine ⟨_, rfl, _, rfl, _, _, rfl, rfl, _, rfl, .inl ⟨l, _, rfl, SqL.of (t3 _ _ hl6), fun k4 hk4 => ?_⟩⟩
    rw [cf1]
    refine ⟨k3, k4, _, _, rfl, rfl, same_new hk4 _ _ _ upd_same, upd_same, ?_, fun k5 hk5 => ?_⟩
    · rw [List.length_append, List.length_map, List.length_map, List.length_take, List.length_drop]
      exact small9 (by show min k ws.length + 1 + (ws.length - (k + 1)) ≤ 1000; omega)
    have ee : (ws.take k).map V.str ++ [.str wd] ++ (ws.drop (k + 1)).map V.str = (ws.take k ++ [wd] ++ ws.drop (k + 1)).map V.str := by
      rw [List.map_append, List.map_append]
      rfl
    rw [ee]
    refine fin _ k5 _ (t3.trans (same_new hk4 _)) hk5 (by rw [List.length_append, List.length_append, List.length_take, List.length_drop, List.length_singleton]; omega) fun w hw' => ?_
    rcases List.mem_append.mp hw' with h | h
    · rcases List.mem_append.mp h with h | h
      · exact .inl (List.mem_of_mem_take h)
      · exact .inr (List.mem_singleton.mp h)
    · exact .inl (List.mem_of_mem_drop h)
  exact ⟨_, rfl, q l ws _ o06 p6 hl6 (by omega) hw (.inl rfl)⟩

abbrev s_law_text : Stmt := top 34
theorem sc_law_text : FnScope ["_law_cell", "_law_pool_here", "_law_many", "_law_wished", "_law_parts", "_law_k", "_law_sign"] ["_law_cell"] (defScope s_law_text) := ⟨rfl, rfl, rfl, by decide +kernel, rfl, by decide +kernel, by decide +kernel⟩
theorem ok_law_text {P : Program} {w : World} {K : PySem.W.Frag} {mg : Str → Option Value} {base : Heap} {f : Addr} {fd : FuncData} (F : Fun K "_law_text" "_law_text" s_law_text f fd) (gb : Gb mg) {c : Nat → Addr} (cl : Cl K mg c) (d_law_pool : Def P w K mg base 1 "_law_pool" ["_law_cell"] spPool) (d_law_draw : Def P w K mg base 1 "_law_draw" ["_law_pool_here", "_law_many"] spDraw) (d_law_part : Def P w K mg base 2 "_law_part" ["_law_pool_here", "_law_many"] spPart7) (d_law_bent : Def P w K mg base 2 "_law_bent" ["_law_pool_here", "_law_words"] spBent7) : FnOk P w K mg base CX0 3 f fd ["_law_cell"] spText7 := by
  refine F.ok sc_law_text (fun vs H Q E h => ?_) (fun cdv A outer s H vs Q E hr h => ?_)
  · obtain ⟨c, rfl, _⟩ := h
    rfl
  obtain ⟨c, rfl, q⟩ := h
  have nd0 : (["_law_one", "_law_pool_here"] : List Str).Nodup := by decide +kernel
  have nd1 : (["_law_words", "_law_pool_here"] : List Str).Nodup := by decide +kernel
  have nd2 : (["_law_words"] : List Str).Nodup := by decide +kernel
  refine ⟨_, (@pss_cons _ _ _ _ _ (@ps_set _ _ 1 _ _ _ _ sc_law_text.nd rfl (Or.inr rfl) (@pe_def _ _ _ _ _ _ _ _ _ _ _ d_law_pool hr (by omega) rfl (@pa_cons _ _ _ _ _ (@pv _ 0 _ _ (by rfl) (by first | exact Or.inl rfl | exact Or.inr (Or.inl rfl) | exact Or.inr (Or.inr rfl)) (by decide) (by decide)) (@pa_nil _) (by rfl)) (by decide) (by rfl) (by rfl)) (by rfl) (by first | exact .inl rfl | exact .inr rfl | assumption)) (@pss_cons _ _ _ _ _ (@ps_set _ _ 2 _ _ _ _ sc_law_text.nd rfl (Or.inl rfl) (@pe_op _ _ _ _ _ _ _ _ (@op_add _) (@pe_int _ _ _ _) (@pe_def _ _ _ _ _ _ _ _ _ _ _ d_law_draw hr (by omega) rfl (@pa_cons _ _ _ _ _ (@pv _ 1 _ _ (by rfl) (by first | exact Or.inl rfl | exact Or.inr (Or.inl rfl) | exact Or.inr (Or.inr rfl)) (by decide) (by decide)) (@pa_cons _ _ _ _ _ (@pe_int _ _ _ _) (@pa_nil _) (by rfl)) (by rfl)) (by decide) (by rfl) (by rfl))) (by rfl) (by first | exact .inl rfl | exact .inr rfl | assumption)) (@pss_cons _ _ _ _ _ (@ps_setComp _ ["_law_one", "_law_pool_here"] [none, some 1] _ 3 _ _ _ _ _ _ _ _ _ _ _ _ (by exact (show CompOk ["_law_cell", "_law_pool_here", "_law_many", "_law_wished", "_law_parts", "_law_k", "_law_sign"] (defScope s_law_text) ["_law_one", "_law_pool_here"] [none, some 1] _ from ⟨rfl, by decide +kernel, by decide +kernel, by decide +kernel, by decide +kernel, rfl, by decide +kernel⟩)) rfl (@pi_range1 _ _ _ _ _ _ rfl gb.range (@pa_cons _ _ _ _ _ (@pv _ 2 _ _ (by rfl) (by first | exact Or.inl rfl | exact Or.inr (Or.inl rfl) | exact Or.inr (Or.inr rfl)) (by decide) (by decide)) (@pa_nil _) (by rfl)) (by rfl)) (fun _ _ _ _ => (@pg_name _ _ 0 _ nd0 rfl (Or.inl rfl) (by first | exact .inl rfl | exact .inr rfl | assumption))) (fun _ _ _ _ => (@pf_one _ _ _ (@pt_cmpR _ _ _ _ _ _ _ _ (@op_eq _) (@pe_def _ _ _ _ _ _ _ _ _ _ _ d_law_draw hr (by omega) rfl (@pa_cons _ _ _ _ _ (@pv _ 1 _ _ (by rfl) (by first | exact Or.inl rfl | exact Or.inr (Or.inl rfl) | exact Or.inr (Or.inr rfl)) (by decide) (by decide)) (@pa_cons _ _ _ _ _ (@pe_int _ _ _ _) (@pa_nil _) (by rfl)) (by rfl)) (by decide) (by rfl) (by rfl)) (@pe_int _ _ _ _) (@nomark _ _ (by decide) (by decide))))) (fun _ _ _ _ => (@pe_callTy _ _ _ _ _ _ _ _ _ (@call_str_int _) rfl gb.str bt_str (@pa_cons _ _ _ _ _ (@pv _ 0 _ _ (by rfl) (by first | exact Or.inl rfl | exact Or.inr (Or.inl rfl) | exact Or.inr (Or.inr rfl)) (by decide) (by decide)) (@pa_nil _) (by rfl)) (by decide) (by decide) (by rfl) (by rfl))) sc_law_text.nd rfl rfl rfl (by intro _; rfl)) (@pss_cons _ _ _ _ _ (@ps_set _ _ 4 _ _ _ _ sc_law_text.nd rfl (Or.inl rfl) (@pe_lst _ _ _ _ (@pa_cons _ _ _ _ _ (@pe_lst _ _ _ _ (@pa_cons _ _ _ _ _ (@pe_str _ _ _ _) (@pa_cons _ _ _ _ _ (@pe_callTy _ _ _ _ _ _ _ _ _ (@call_str_int _) rfl gb.str bt_str (@pa_cons _ _ _ _ _ (@pv _ 2 _ _ (by rfl) (by first | exact Or.inl rfl | exact Or.inr (Or.inl rfl) | exact Or.inr (Or.inr rfl)) (by decide) (by decide)) (@pa_nil _) (by rfl)) (by decide) (by decide) (by rfl) (by rfl)) (@pa_nil _) (by rfl)) (by rfl))) (@pa_cons _ _ _ _ _ (@pe_op _ _ _ _ _ _ _ _ (@op_cat _) (@pe_lst _ _ _ _ (@pa_cons _ _ _ _ _ (@pe_str _ _ _ _) (@pa_nil _) (by rfl))) (@pv _ 3 _ _ (by rfl) (by first | exact Or.inl rfl | exact Or.inr (Or.inl rfl) | exact Or.inr (Or.inr rfl)) (by decide) (by decide))) (@pa_nil _) (by rfl)) (by rfl))) (by rfl) (by first | exact .inl rfl | exact .inr rfl | assumption)) (@pss_cons _ _ _ _ _ (@ps_for _ _ _ _ _ _ _ _ PassesOwn.never rfl (@pi_range1 _ _ _ _ _ _ rfl gb.range (@pa_cons _ _ _ _ _ (@pe_def _ _ _ _ _ _ _ _ _ _ _ d_law_draw hr (by omega) rfl (@pa_cons _ _ _ _ _ (@pv _ 1 _ _ (by rfl) (by first | exact Or.inl rfl | exact Or.inr (Or.inl rfl) | exact Or.inr (Or.inr rfl)) (by decide) (by decide)) (@pa_cons _ _ _ _ _ (@pe_int _ _ _ _) (@pa_nil _) (by rfl)) (by rfl)) (by decide) (by rfl) (by rfl)) (@pa_nil _) (by rfl)) (by rfl)) (@pg_name _ _ 5 _ sc_law_text.nd rfl (Or.inl rfl) (by first | exact .inl rfl | exact .inr rfl | assumption)) (@pss_one _ _ _ (@ps_expr _ _ _ _ (@kpe_bm _ K _ _ _ _ _ _ _ _ _ _ _ PySem.F.plainAttrs_list PySem.F.slot_list_append PySem.F.type_list_append (@mt_append _) (@pv _ 4 _ _ (by rfl) (by first | exact Or.inl rfl | exact Or.inr (Or.inl rfl) | exact Or.inr (Or.inr rfl)) (by decide) (by decide)) (@pa_cons _ _ _ _ _ (@pe_def _ _ _ _ _ _ _ _ _ _ _ d_law_part hr (by omega) rfl (@pa_cons _ _ _ _ _ (@pv _ 1 _ _ (by rfl) (by first | exact Or.inl rfl | exact Or.inr (Or.inl rfl) | exact Or.inr (Or.inr rfl)) (by decide) (by decide)) (@pa_cons _ _ _ _ _ (@pv _ 2 _ _ (by rfl) (by first | exact Or.inl rfl | exact Or.inr (Or.inl rfl) | exact Or.inr (Or.inr rfl)) (by decide) (by decide)) (@pa_nil _) (by rfl)) (by rfl)) (by decide) (by rfl) (by rfl)) (@pa_nil _) (by rfl)) (by rfl) (by rfl) (by rfl) (by rfl) (by rfl) (by rfl)) (by rfl))) (by intro _; rfl)) (@pss_cons _ _ _ _ _ (@ps_setComp _ ["_law_words", "_law_pool_here"] [none, some 1] _ 4 _ _ _ _ _ _ _ _ _ _ _ _ (by exact (show CompOk ["_law_cell", "_law_pool_here", "_law_many", "_law_wished", "_law_parts", "_law_k", "_law_sign"] (defScope s_law_text) ["_law_words", "_law_pool_here"] [none, some 1] _ from ⟨rfl, by decide +kernel, by decide +kernel, by decide +kernel, by decide +kernel, rfl, by decide +kernel⟩)) rfl (@kpi_list _ K _ _ _ (@pv _ 4 _ _ (by rfl) (by first | exact Or.inl rfl | exact Or.inr (Or.inl rfl) | exact Or.inr (Or.inr rfl)) (by decide) (by decide)) (by rfl)) (fun _ _ _ _ => (@pg_name _ _ 0 _ nd1 rfl (Or.inl rfl) (by first | exact .inl rfl | exact .inr rfl | assumption))) (fun _ _ _ _ => (@pf_nil _)) (fun _ _ _ _ => (@pe_def _ _ _ _ _ _ _ _ _ _ _ d_law_bent hr (by omega) rfl (@pa_cons _ _ _ _ _ (@pv _ 1 _ _ (by rfl) (by first | exact Or.inl rfl | exact Or.inr (Or.inl rfl) | exact Or.inr (Or.inr rfl)) (by decide) (by decide)) (@pa_cons _ _ _ _ _ (@pv _ 0 _ _ (by rfl) (by first | exact Or.inl rfl | exact Or.inr (Or.inl rfl) | exact Or.inr (Or.inr rfl)) (by decide) (by decide)) (@pa_nil _) (by rfl)) (by rfl)) (by decide) (by rfl) (by rfl))) sc_law_text.nd rfl rfl rfl (by intro _; rfl)) (@pss_cons _ _ _ _ _ (@ps_set _ _ 6 _ _ _ _ sc_law_text.nd rfl (Or.inl rfl) (@pe_ix _ _ _ _ _ _ _ (@kix_seq _ K (by rfl)) (@pe_lst _ _ _ _ (@pa_cons _ _ _ _ _ (@pe_str _ _ _ _) (@pa_cons _ _ _ _ _ (@pe_str _ _ _ _) (@pa_cons _ _ _ _ _ (@pe_str _ _ _ _) (@pa_cons _ _ _ _ _ (@pe_str _ _ _ _) (@pa_cons _ _ _ _ _ (@pe_str _ _ _ _) (@pa_cons _ _ _ _ _ (@pe_str _ _ _ _) (@pa_cons _ _ _ _ _ (@pe_str _ _ _ _) (@pa_cons _ _ _ _ _ (@pe_str _ _ _ _) (@pa_nil _) (by rfl)) (by rfl)) (by rfl)) (by rfl)) (by rfl)) (by rfl)) (by rfl)) (by rfl))) (@pe_def _ _ _ _ _ _ _ _ _ _ _ d_law_draw hr (by omega) rfl (@pa_cons _ _ _ _ _ (@pv _ 1 _ _ (by rfl) (by first | exact Or.inl rfl | exact Or.inr (Or.inl rfl) | exact Or.inr (Or.inr rfl)) (by decide) (by decide)) (@pa_cons _ _ _ _ _ (@pe_int _ _ _ _) (@pa_nil _) (by rfl)) (by rfl)) (by decide) (by rfl) (by rfl)) (fun _ _ => rfl)) (by rfl) (by first | exact .inl rfl | exact .inr rfl | assumption)) (@pss_one _ _ _ (@ps_ret _ _ _ _ (@kpe_bm _ K _ _ _ _ _ _ _ _ _ _ _ PySem.F.plainAttrs_str PySem.F.slot_str_join PySem.F.type_str_join (@kmt_join _ K (by rfl)) (@pv _ 6 _ _ (by rfl) (by first | exact Or.inl rfl | exact Or.inr (Or.inl rfl) | exact Or.inr (Or.inr rfl)) (by decide) (by decide)) (@pa_cons _ _ _ _ _ (@pe_comp _ ["_law_words"] [none] _ _ _ _ _ _ _ _ _ _ (by exact (show CompOk ["_law_cell", "_law_pool_here", "_law_many", "_law_wished", "_law_parts", "_law_k", "_law_sign"] (defScope s_law_text) ["_law_words"] [none] _ from ⟨rfl, by decide +kernel, by decide +kernel, by decide +kernel, by decide +kernel, rfl, by decide +kernel⟩)) rfl (@kpi_list _ K _ _ _ (@pv _ 4 _ _ (by rfl) (by first | exact Or.inl rfl | exact Or.inr (Or.inl rfl) | exact Or.inr (Or.inr rfl)) (by decide) (by decide)) (by rfl)) (fun _ _ _ _ => (@pg_name _ _ 0 _ nd2 rfl (Or.inl rfl) (by first | exact .inl rfl | exact .inr rfl | assumption))) (fun _ _ _ _ => (@pf_nil _)) (fun _ _ _ _ => (@kpe_bm _ K _ _ _ _ _ _ _ _ _ _ _ PySem.F.plainAttrs_str PySem.F.slot_str_join PySem.F.type_str_join (@kmt_join _ K (by rfl)) (@pe_str _ _ _ _) (@pa_cons _ _ _ _ _ (@pv _ 0 _ _ (by rfl) (by first | exact Or.inl rfl | exact Or.inr (Or.inl rfl) | exact Or.inr (Or.inr rfl)) (by decide) (by decide)) (@pa_nil _) (by rfl)) (by rfl) (by rfl) (by rfl) (by rfl) (by rfl) (by rfl))) (by intro _; rfl)) (@pa_nil _) (by rfl)) (by rfl) (by rfl) (by rfl) (by rfl) (by rfl) (by rfl))))))))))), ?_⟩
  refine ⟨_, rfl, c, rfl, fun p r0 a0 b0 hp => ?_⟩
  have p0 : Pool (upd H p (.lst [.int r0, .int a0, .int b0])) p := Pool.put
  generalize hH0 : upd H p (.lst [.int r0, .int a0, .int b0]) = H0 at p0
  have s0 : Same H H0 := by rw [← hH0]; exact same_new hp _
  have back : ∀ {H' : Hp}, Off p H0 H' → Same H H' := fun o b u e => o b u (ne_of_none e hp) (s0 _ _ e)
  refine ⟨_, rfl, p, 3, rfl, p0, by decide, by decide, fun v H1 v0 v1 o1 p1 => ?_⟩
  refine ⟨_, _, rfl, rfl, ?_⟩
  refine ⟨_, rfl, _, rfl, by omega, by omega, fun D hD => ?_⟩
  have pnD := pool_ne p1 hD
  refine comp_range (fun i ys H' => Off p H1 H' ∧ Pool H' p ∧ ∃ ws : List Str, ys = ws.map V.str ∧ ws.length ≤ i ∧ ∀ w ∈ ws, w.length ≤ 9) ⟨Off.new hD, p1.new hD, [], rfl, Nat.le_refl _, by simp⟩ ?_ ?_
  · rintro i ys H2 hi ⟨o2, p2, ws, rfl, hc, hs⟩ hD2
    refine ⟨_, rfl, p, 2, rfl, p2, by decide, by decide, fun u H3 u0 u1 o3 p3 => ⟨rfl, _, rfl, ?_⟩⟩
    refine ite2 (fun _ => ?_) (fun _ => ?_)
    · have hf : Fig (0 + (i : Int)) := ⟨by omega, by omega⟩
      refine ⟨_, rfl, _, rfl, log_fig hf, cyes hi rset1 (o3 _ _ pnD hD2) (by rw [List.length_map]; exact small1000 (by omega)) ⟨(o2.trans o3).fresh hD, p3.off (Ne.symm pnD), ws ++ [fig (0 + (i : Int))], by rw [List.map_append]; rfl, by rw [List.length_append, List.length_singleton]; omega, fun w hw => ?_⟩⟩
      rcases List.mem_append.mp hw with hw | hw
      · exact hs w hw
      · rw [List.mem_singleton.mp hw]
        exact fig_len9 hf
    · exact cno hi rset1 (o3 _ _ pnD hD2) ⟨o2.trans o3, p3, ws, rfl, by omega, hs⟩
  · rintro ys H2 ⟨o2, p2, ws, rfl, hc, hs⟩ hD2
    have hm : Fig (1 + v) := ⟨by omega, by omega⟩
    refine ⟨_, rfl, _, rfl, log_fig hm, small9 (by show 2 ≤ 1000; decide), fun g1 hg1 => ?_⟩
    refine ⟨small9 (by show 1 ≤ 1000; decide), fun g2 hg2 => ⟨_, rfl, g2, D, _, _, rfl, rfl, upd_same, same_new hg2 _ _ _ (same_new hg1 _ _ _ hD2), by rw [List.length_map]; exact small9 (by show 1 + ws.length ≤ 1000; omega), fun g3 hg3 => ?_⟩⟩
    refine ⟨small9 (by show 2 ≤ 1000; decide), fun f hf => ?_⟩
    have q1 := p2.new (o := .lst [.str (Str.ofString "grades"), .str (fig (1 + v))]) hg1
    have q2 := q1.new (o := .lst [.str (Str.ofString "wished")]) hg2
    have q3 := q2.new (o := .lst ([.str (Str.ofString "wished")] ++ ws.map V.str)) hg3
    have q4 := q3.new (o := .lst [.ref g1, .ref g3]) hf
    have n1 := pool_ne p2 hg1
    have n3 := pool_ne q2 hg3
    have nf := pool_ne q3 hf
    have h1f := same_new hg3 (.lst ([.str (Str.ofString "wished")] ++ ws.map V.str)) _ _ (same_new hg2 (.lst [.str (Str.ofString "wished")]) _ _ (upd_same (H := H2) (a := g1) (o := .lst [.str (Str.ofString "grades"), .str (fig (1 + v))])))
    have h3f : (upd (upd (upd H2 g1 (.lst [.str (Str.ofString "grades"), .str (fig (1 + v))])) g2 (.lst [.str (Str.ofString "wished")])) g3 (.lst ([.str (Str.ofString "wished")] ++ ws.map V.str))) g3 = some (.lst ([.str (Str.ofString "wished")] ++ ws.map V.str)) := upd_same
    have f1 : g1 ≠ f := ne_of_none h1f hf
    have f3 : g3 ≠ f := ne_of_none h3f hf
    have o04 : Off p H0 (upd (upd (upd (upd H2 g1 (.lst [.str (Str.ofString "grades"), .str (fig (1 + v))])) g2 (.lst [.str (Str.ofString "wished")])) g3 (.lst ([.str (Str.ofString "wished")] ++ ws.map V.str))) f (.lst [.ref g1, .ref g3])) := ((((o1.trans o2).trans (Off.new hg1)).trans (Off.new hg2)).trans (Off.new hg3)).trans (Off.new hf)
    have f0 : H0 f = none := off_none ((((o1.trans o2).trans (Off.new hg1)).trans (Off.new hg2)).trans (Off.new hg3)) hf nf
    refine ⟨_, rfl, p, 5, rfl, q4, by decide, by decide, fun nc H5 n0 n5 o5 p5 => ⟨_, rfl, by omega, by omega, ?_⟩⟩
    have w0 : Wdz p f H5 [[Str.ofString "grades", fig (1 + v)], Str.ofString "wished" :: ws] [.ref g1, .ref g3] := by
      refine .cons ⟨g1, rfl, n1, f1, ?_⟩ (.cons ⟨g3, rfl, n3, f3, ?_⟩ .nil)
      · exact o5 _ _ n1 (same_new hf _ _ _ h1f)
      · exact o5 _ _ n3 (same_new hf _ _ _ h3f)
    have wl : (Str.ofString "wished").length ≤ 9 ∧ (Str.ofString "grades").length ≤ 9 := by decide +kernel
    refine for_range (fun i σ H' => ∃ (pss : List (List Str)) (xs : List V) (x5 : Option V), σ = [some (.int c), some (.ref p), some (.int (1 + v)), some (.ref D), some (.ref f), x5, none] ∧ Off p H0 H' ∧ Pool H' p ∧ H' f = some (.lst xs) ∧ Wdz p f H' pss xs ∧ pss.length = 2 + i ∧ ∀ us ∈ pss, 1 ≤ us.length ∧ us.length ≤ 11 ∧ ∀ w ∈ us, w.length ≤ 9) ⟨_, _, none, rfl, o04.trans o5, p5, o5 _ _ nf upd_same, w0, rfl, fun us hu => ?_⟩ ?_ ?_
    · rcases List.mem_cons.mp hu with rfl | hu
      · refine ⟨by show 1 ≤ 2; decide, by show 2 ≤ 11; decide, fun w hw => ?_⟩
        rcases List.mem_cons.mp hw with rfl | hw
        · exact wl.2
        · rw [List.mem_singleton.mp hw]
          exact fig_len9 hm
      · rw [List.mem_singleton.mp hu]
        refine ⟨by rw [List.length_cons]; omega, by rw [List.length_cons]; omega, fun w hw => ?_⟩
        rcases List.mem_cons.mp hw with rfl | hw
        · exact wl.1
        · exact hs w hw
    · rintro i σ H6 hi ⟨pss, xs, x5, rfl, o6, p6, hf6, hW, hl, hb⟩
      have hxl := hW.len
      refine ⟨_, rfl, .inl ⟨rfl, _, SqL.of hf6⟩, _, rfl, _, rfl, p, _, rfl, p6, by omega, by omega, fun l us H7 o7 p7 hl7 h1 h11 hw fr => ?_⟩
      have hf7 := o7 _ _ nf hf6
      have lf : l ≠ f := fun z => by rw [z, hf6] at fr; cases fr
      refine ⟨f, xs, _, rfl, rfl, hf7, small1000 (by omega), ?_⟩
      refine ⟨pss ++ [us], xs ++ [.ref l], _, rfl, (o6.trans o7).fresh f0, p7.off (Ne.symm nf), upd_same, ((hW.off o7).put).snoc (pool_ne_strs p7 hl7) lf (by rw [upd_ne lf]; exact hl7), by rw [List.length_append, hl]; rfl, fun vs hv => ?_⟩
      rcases List.mem_append.mp hv with hv | hv
      · exact hb vs hv
      · rw [List.mem_singleton.mp hv]
        exact ⟨h1, h11, hw⟩
    · rintro σ H6 ⟨pss, xs, x5, rfl, o6, p6, hf6, hW, hl, hb⟩
      have hxl := hW.len
      have hp6 : pss.length ≤ 6 := by omega
      refine ⟨_, rfl, f, rfl, ⟨_, SqL.of hf6⟩, fun D2 hD2 => ?_⟩
      have nD2 := pool_ne p6 hD2
      refine comp_list (xs := xs) (fun i ys H' => Off p H6 H' ∧ Pool H' p ∧ ∃ qss, Wdz p D2 H' qss ys ∧ qss.length = i ∧ ∀ us ∈ qss, us.length ≤ 12 ∧ ∀ w ∈ us, w.length ≤ 9) ⟨Off.new hD2, p6.new hD2, [], .nil, rfl, by simp⟩ (fun i ys H' hh _ => SqL.of (hh.1 _ _ nf hf6)) ?_ ?_
      · rintro i ys H7 x hx ⟨o7, p7, qss, hQ, hql, hqb⟩ hD7
        have hi : i < xs.length := (List.getElem?_eq_some_iff.mp hx).1
        obtain ⟨us, a, hus, rfl, ap, af, ha⟩ := hW.get hx
        obtain ⟨b1, b2, b3⟩ := hb us (List.mem_of_getElem? hus)
        have hyl := hQ.len
        refine yes ⟨_, rfl, _, rfl, p, a, us, rfl, p7, o7 _ _ ap ha, b1, b2, b3, fun l' us' H8 o8 p8 hl8 h12 hw8 hor => ?_⟩
        have hD8 := o8 _ _ nD2 hD7
        have lD : l' ≠ D2 := by
          rcases hor with rfl | h
          · exact ne_of_none ha hD2
          · intro z
            rw [z, hD7] at h
            cases h
        refine cyes hi rset1 hD8 (small1000 (by omega)) ⟨(o7.trans o8).fresh hD2, p8.off (Ne.symm nD2), qss ++ [us'], ((hQ.off o8).put).snoc (pool_ne_strs p8 hl8) lD (by rw [upd_ne lD]; exact hl8), by rw [List.length_append, hql]; rfl, fun vs hv => ?_⟩
        rcases List.mem_append.mp hv with hv | hv
        · exact hqb vs hv
        · rw [List.mem_singleton.mp hv]
          exact ⟨h12, hw8⟩
      · rintro ys H7 ⟨o7, p7, qss, hQ, hql, hqb⟩ hD7
        have hyl := hQ.len
        refine ⟨small9 (by show 8 ≤ 1000; decide), fun g hg => ⟨_, rfl, p, 8, rfl, p7.new hg, by decide, by decide, fun b H8 b0 b1 o8 p8 => ?_⟩⟩
        have gp := pool_ne p7 hg
        obtain ⟨sg, hsg, hat⟩ := strs_pick (L := signs7) b0 (by show b < 8; exact b1)
        refine .inl ⟨g, _, b, _, rfl, rfl, SqL.of (o8 _ _ gp upd_same), hat, ?_⟩
        have hQ8 := hQ.off ((Off.new (o := .lst (signs7.map V.str)) hg).trans o8)
        have hD8 := o8 _ _ nD2 (same_new hg _ _ _ hD7)
        have s8 : Same H H8 := back ((o6.trans o7).trans ((Off.new hg).trans o8))
        have sg2 := signs7_len _ hsg
        refine ⟨_, rfl, rfl, _, rfl, D2, rfl, ⟨_, SqL.of hD8⟩, fun D3 hD3 => ?_⟩
        have j1 : ∀ us ∈ qss, (PySem.Txt.join sp1 us).length ≤ 120 := fun us hu => by
          have h1 := tjoin_le sp1 (b := 9) (hqb us hu).2
          have h2 := (hqb us hu).1
          have h3 : sp1.length = 1 := by decide +kernel
          rw [h3] at h1
          omega
        refine comp_list (xs := ys) (fun i zs H' => Same H8 H' ∧ zs = ((qss.take i).map (PySem.Txt.join sp1)).map V.str) ⟨same_new hD3 _, rfl⟩ (fun i zs H' hh _ => SqL.of (hh.1 _ _ hD8)) ?_ ?_
        · rintro i zs H9 x hx ⟨s9, rfl⟩ hD9
          have hi : i < ys.length := (List.getElem?_eq_some_iff.mp hx).1
          obtain ⟨us, a, hus, rfl, ap, aD, ha⟩ := hQ8.get hx
          obtain ⟨b12, b9⟩ := hqb us (List.mem_of_getElem? hus)
          refine yes ⟨rfl, _, rfl, sp1, a, us, rfl, rfl, SqL.of (s9 _ _ ha), ?_, ?_⟩
          · have h1 := sum_le7 b9
            have h3 : sp1.length = 1 := by decide +kernel
            rw [h3]
            omega
          refine cyes hi rset1 hD9 (by rw [List.length_map, List.length_map, List.length_take]; exact small1000 (by omega)) ⟨fun c' o' qb => ?_, ?_⟩
          · rw [upd_ne (ne_of_none qb hD3)]
            exact s9 _ _ qb
          · rw [take_snoc hus, List.map_append, List.map_append]
            rfl
        · rintro zs H9 ⟨s9, rfl⟩ hD9
          rw [List.take_of_length_le (by omega)] at hD9
          have jl : ∀ y ∈ qss.map (PySem.Txt.join sp1), y.length ≤ 120 := fun y hy => by
            obtain ⟨us, hu, rfl⟩ := List.mem_map.mp hy
            exact j1 us hu
          have ql : (qss.map (PySem.Txt.join sp1)).length ≤ 6 := by rw [List.length_map]; omega
          have t1 := sum_le7 jl
          have t2 := tjoin_le sg jl
          have t3 : (qss.map (PySem.Txt.join sp1)).length * sg.length ≤ 6 * 2 := Nat.mul_le_mul ql sg2
          have t4 : (qss.map (PySem.Txt.join sp1)).length * (120 + sg.length) ≤ 6 * 122 := Nat.mul_le_mul ql (by omega)
          refine ⟨sg, D3, qss.map (PySem.Txt.join sp1), rfl, rfl, SqL.of hD9, by omega, q _ _ (s8.trans s9) (by omega)⟩

abbrev s_law_number : Stmt := top 35
theorem sc_law_number : FnScope ["_law_word"] ["_law_word"] (defScope s_law_number) := ⟨rfl, rfl, rfl, by decide +kernel, rfl, by decide +kernel, by decide +kernel⟩
theorem ok_law_number {P : Program} {w : World} {K : PySem.W.Frag} {mg : Str → Option Value} {base : Heap} {f : Addr} {fd : FuncData} (F : Fun K "_law_number" "_law_number" s_law_number f fd) (gb : Gb mg) {c : Nat → Addr} (cl : Cl K mg c) : FnOk P w K mg base CX0 1 f fd ["_law_word"] spNumber7 := by
  refine F.ok sc_law_number (fun vs H Q E h => ?_) (fun cdv A outer s H vs Q E hr h => ?_)
  · obtain ⟨x, rfl, _⟩ := h
    rfl
  obtain ⟨x, rfl, hx, q⟩ := h
  refine ⟨_, (@pss_cons _ _ _ _ _ (@ps_if _ _ _ _ _ _ _ _ (@PW.pt _ _ _ (@pw_and _ _ _ _ _ _ _ (@pt_cmpR _ _ _ _ _ _ _ _ (@op_eq _) (@pe_callB _ _ _ _ _ _ _ _ _ (@kcall_len _ K (by rfl)) rfl gb.len bt_len (@pa_cons _ _ _ _ _ (@pv _ 0 _ _ (by rfl) (by first | exact Or.inl rfl | exact Or.inr (Or.inl rfl) | exact Or.inr (Or.inr rfl)) (by decide) (by decide)) (@pa_nil _) (by rfl)) (by decide) (by decide) (by rfl) (by rfl)) (@pe_int _ _ _ _) (@nomark _ _ (by decide) (by decide))) (@pw_and1 _ _ _ _ (@pt_cmpR _ _ _ _ _ _ _ _ (@op_in_str _) (@pv _ 0 _ _ (by rfl) (by first | exact Or.inl rfl | exact Or.inr (Or.inl rfl) | exact Or.inr (Or.inr rfl)) (by decide) (by decide)) (@pe_str _ _ _ _) (by with_unfolding_all rfl))))) (@pss_one _ _ _ (@ps_ret _ _ _ _ (@kpe_bm _ K _ _ _ _ _ _ _ _ _ _ _ PySem.F.plainAttrs_str PySem.F.slot_str_index PySem.F.type_str_index (@mt_indexS _) (@pe_str _ _ _ _) (@pa_cons _ _ _ _ _ (@pv _ 0 _ _ (by rfl) (by first | exact Or.inl rfl | exact Or.inr (Or.inl rfl) | exact Or.inr (Or.inr rfl)) (by decide) (by decide)) (@pa_nil _) (by rfl)) (by rfl) (by rfl) (by rfl) (by rfl) (by rfl) (by rfl)))) (@pss_nil _)) (@pss_one _ _ _ (@ps_ret _ _ _ _ (@pe_non _ _ _)))), ?_⟩
  refine ⟨_, rfl, _, x.length, rfl, ⟨small9k hx, rfl⟩, rfl, _, rfl, ?_⟩
  refine ite2 (fun c => ?_) (fun c => ?_)
  · have h1 : x.length = 1 := by
      have := of_decide_eq_true c
      injection this with e
      omega
    refine ⟨_, rfl, _, _, rfl, rfl, _, rfl, ?_⟩
    rcases word_num x with ⟨_, ⟨i, rest, ho, hn⟩, hf, he⟩ | ⟨ho, hn⟩
    · have ho' : Builtin.Str.occurrences (Str.ofString "0123456789") x 0 (Str.ofString "0123456789").length 1 = i :: rest := ho
      refine ite2 (fun _ => ?_) (fun z => absurd (by rw [ho']; rfl) z)
      refine ⟨rfl, _, rfl, _, _, i, rest, rfl, rfl, ho', ?_⟩
      have e : numV x = .int (i : Int) := by
        rw [← hn]
        exact numV_int (by omega)
      rw [e] at q
      exact q
    · have ho' : Builtin.Str.occurrences (Str.ofString "0123456789") x 0 (Str.ofString "0123456789").length 1 = [] := ho h1
      refine ite2 (fun z => absurd z (by rw [ho']; decide)) (fun _ => ?_)
      have e : numV x = .non := numV_non (by omega)
      rw [e] at q
      exact q
  · have h1 : ¬ x.length = 1 := fun z => c (decide_eq_true (by rw [z]; rfl))
    have hn : numW x = -1 := if_neg h1
    have e : numV x = .non := numV_non (by omega)
    rw [e] at q
    exact q

abbrev s_law_connective : Stmt := top 36
theorem sc_law_connective : FnScope ["_law_words", "_law_many", "_law_places", "_law_cells"] ["_law_words", "_law_many"] (defScope s_law_connective) := ⟨rfl, rfl, rfl, by decide +kernel, rfl, by decide +kernel, by decide +kernel⟩
theorem ok_law_connective {P : Program} {w : World} {K : PySem.W.Frag} {mg : Str → Option Value} {base : Heap} {f : Addr} {fd : FuncData} (F : Fun K "_law_connective" "_law_connective" s_law_connective f fd) (gb : Gb mg) {c : Nat → Addr} (cl : Cl K mg c) (d_law_number : Def P w K mg base 1 "_law_number" ["_law_word"] spNumber7) : FnOk P w K mg base CX0 2 f fd ["_law_words", "_law_many"] spConn7 := by
  refine F.ok sc_law_connective (fun vs H Q E h => ?_) (fun cdv A outer s H vs Q E hr h => ?_)
  · obtain ⟨l, m, ws, rfl, _⟩ := h
    rfl
  obtain ⟨l, m, ws, rfl, hl, hn, hw, m1, m9, q⟩ := h
  have nd0 : (["_law_sign"] : List Str).Nodup := by decide +kernel
  have nd1 : (["_law_word"] : List Str).Nodup := by decide +kernel
  have nd2 : (["_law_one", "_law_many"] : List Str).Nodup := by decide +kernel
  refine ⟨_, (@pss_cons _ _ _ _ _ (@ps_if _ _ _ _ _ _ _ _ (@PW.pt _ _ _ (@pw_or _ _ _ _ _ _ _ (@pt_cmpR _ _ _ _ _ _ _ _ (@op_lt _) (@pe_callB _ _ _ _ _ _ _ _ _ (@kcall_len _ K (by rfl)) rfl gb.len bt_len (@pa_cons _ _ _ _ _ (@pv _ 0 _ _ (by rfl) (by first | exact Or.inl rfl | exact Or.inr (Or.inl rfl) | exact Or.inr (Or.inr rfl)) (by decide) (by decide)) (@pa_nil _) (by rfl)) (by decide) (by decide) (by rfl) (by rfl)) (@pe_int _ _ _ _) (@nomark _ _ (by decide) (by decide))) (@pw_or1 _ _ _ _ (@pt_not _ _ _ _ (@pt_chain _ _ _ _ _ _ _ _ _ _ _ _ (@op_le _) (@op_le _) (@pe_int _ _ _ _) (@pe_callB _ _ _ _ _ _ _ _ _ (@kcall_len _ K (by rfl)) rfl gb.len bt_len (@pa_cons _ _ _ _ _ (@pe_ix _ _ _ _ _ _ _ (@kix_seq _ K (by rfl)) (@pv _ 0 _ _ (by rfl) (by first | exact Or.inl rfl | exact Or.inr (Or.inl rfl) | exact Or.inr (Or.inr rfl)) (by decide) (by decide)) (@pe_int _ _ _ _) (fun _ _ => rfl)) (@pa_nil _) (by rfl)) (by decide) (by decide) (by rfl) (by rfl)) (@pe_int _ _ _ _) (by with_unfolding_all rfl)))))) (@pss_one _ _ _ (@ps_ret _ _ _ _ (@pe_non _ _ _))) (@pss_nil _)) (@pss_cons _ _ _ _ _ (@ps_if _ _ _ _ _ _ _ _ (@pt_not _ _ _ _ (@pt_val _ _ _ (@pe_callB _ _ _ _ _ _ _ _ _ (@kcall_all _ K rfl (by rfl)) rfl gb.all bt_all (@pa_cons _ _ _ _ _ (@pe_comp _ ["_law_sign"] [none] _ _ _ _ _ _ _ _ _ _ (by exact (show CompOk ["_law_words", "_law_many", "_law_places", "_law_cells"] (defScope s_law_connective) ["_law_sign"] [none] _ from ⟨rfl, by decide +kernel, by decide +kernel, by decide +kernel, by decide +kernel, rfl, by decide +kernel⟩)) rfl (@pi_str _ _ _ _ (@pe_ix _ _ _ _ _ _ _ (@kix_seq _ K (by rfl)) (@pv _ 0 _ _ (by rfl) (by first | exact Or.inl rfl | exact Or.inr (Or.inl rfl) | exact Or.inr (Or.inr rfl)) (by decide) (by decide)) (@pe_int _ _ _ _) (fun _ _ => rfl))) (fun _ _ _ _ => (@pg_name _ _ 0 _ nd0 rfl (Or.inl rfl) (by first | exact .inl rfl | exact .inr rfl | assumption))) (fun _ _ _ _ => (@pf_nil _)) (fun _ _ _ _ => (@pe_cmpR _ _ _ _ _ _ _ _ (@op_in_str _) (@pv _ 0 _ _ (by rfl) (by first | exact Or.inl rfl | exact Or.inr (Or.inl rfl) | exact Or.inr (Or.inr rfl)) (by decide) (by decide)) (@pe_str _ _ _ _) (by with_unfolding_all rfl))) (by intro _; rfl)) (@pa_nil _) (by rfl)) (by decide) (by decide) (by rfl) (by rfl)) (by intro _; rfl))) (@pss_one _ _ _ (@ps_ret _ _ _ _ (@pe_non _ _ _))) (@pss_nil _)) (@pss_cons _ _ _ _ _ (@ps_set _ _ 2 _ _ _ _ sc_law_connective.nd rfl (Or.inl rfl) (@pe_def _ _ _ _ _ _ _ _ _ _ _ d_law_number hr (by omega) rfl (@pa_cons _ _ _ _ _ (@pe_ix _ _ _ _ _ _ _ (@kix_seq _ K (by rfl)) (@pv _ 0 _ _ (by rfl) (by first | exact Or.inl rfl | exact Or.inr (Or.inl rfl) | exact Or.inr (Or.inr rfl)) (by decide) (by decide)) (@pe_int _ _ _ _) (fun _ _ => rfl)) (@pa_nil _) (by rfl)) (by decide) (by rfl) (by rfl)) (by rfl) (by first | exact .inl rfl | exact .inr rfl | assumption)) (@pss_cons _ _ _ _ _ (@ps_setComp _ ["_law_word"] [none] _ 3 _ _ _ _ _ _ _ _ _ _ _ _ (by exact (show CompOk ["_law_words", "_law_many", "_law_places", "_law_cells"] (defScope s_law_connective) ["_law_word"] [none] _ from ⟨rfl, by decide +kernel, by decide +kernel, by decide +kernel, by decide +kernel, rfl, by decide +kernel⟩)) rfl (@kpi_list _ K _ _ _ (@pe_slice _ _ _ _ _ _ _ _ _ _ (@ksl_any _ K (by rfl)) (@pv _ 0 _ _ (by rfl) (by first | exact Or.inl rfl | exact Or.inr (Or.inl rfl) | exact Or.inr (Or.inr rfl)) (by decide) (by decide)) (@po_some _ _ _ (@pe_int _ _ _ _)) (@po_none _)) (by rfl)) (fun _ _ _ _ => (@pg_name _ _ 0 _ nd1 rfl (Or.inl rfl) (by first | exact .inl rfl | exact .inr rfl | assumption))) (fun _ _ _ _ => (@pf_nil _)) (fun _ _ _ _ => (@pe_def _ _ _ _ _ _ _ _ _ _ _ d_law_number hr (by omega) rfl (@pa_cons _ _ _ _ _ (@pv _ 0 _ _ (by rfl) (by first | exact Or.inl rfl | exact Or.inr (Or.inl rfl) | exact Or.inr (Or.inr rfl)) (by decide) (by decide)) (@pa_nil _) (by rfl)) (by decide) (by rfl) (by rfl))) sc_law_connective.nd rfl rfl rfl (by intro _; rfl)) (@pss_cons _ _ _ _ _ (@ps_if _ _ _ _ _ _ _ _ (@PW.pt _ _ _ (@pw_or _ _ _ _ _ _ _ (@pt_cmpR _ _ _ _ _ _ _ _ (@op_isN _) (@pv _ 2 _ _ (by rfl) (by first | exact Or.inl rfl | exact Or.inr (Or.inl rfl) | exact Or.inr (Or.inr rfl)) (by decide) (by decide)) (@pe_non _ _ _) (@nomark _ _ (by decide) (by decide))) (@pw_or _ _ _ _ _ _ _ (@pt_cmpR _ _ _ _ _ _ _ _ (@op_gt _) (@pv _ 2 _ _ (by rfl) (by first | exact Or.inl rfl | exact Or.inr (Or.inl rfl) | exact Or.inr (Or.inr rfl)) (by decide) (by decide)) (@pe_int _ _ _ _) (@nomark _ _ (by decide) (by decide))) (@pw_or1 _ _ _ _ (@pt_cmpR _ _ _ _ _ _ _ _ (@op_ne _) (@pe_callB _ _ _ _ _ _ _ _ _ (@kcall_len _ K (by rfl)) rfl gb.len bt_len (@pa_cons _ _ _ _ _ (@pv _ 3 _ _ (by rfl) (by first | exact Or.inl rfl | exact Or.inr (Or.inl rfl) | exact Or.inr (Or.inr rfl)) (by decide) (by decide)) (@pa_nil _) (by rfl)) (by decide) (by decide) (by rfl) (by rfl)) (@pe_ix _ _ _ _ _ _ _ (@kix_seq _ K (by rfl)) (@pe_lst _ _ _ _ (@pa_cons _ _ _ _ _ (@pe_int _ _ _ _) (@pa_cons _ _ _ _ _ (@pv _ 1 _ _ (by rfl) (by first | exact Or.inl rfl | exact Or.inr (Or.inl rfl) | exact Or.inr (Or.inr rfl)) (by decide) (by decide)) (@pa_cons _ _ _ _ _ (@pe_op _ _ _ _ _ _ _ _ (@op_mul _) (@pv _ 1 _ _ (by rfl) (by first | exact Or.inl rfl | exact Or.inr (Or.inl rfl) | exact Or.inr (Or.inr rfl)) (by decide) (by decide)) (@pv _ 1 _ _ (by rfl) (by first | exact Or.inl rfl | exact Or.inr (Or.inl rfl) | exact Or.inr (Or.inr rfl)) (by decide) (by decide))) (@pa_nil _) (by rfl)) (by rfl)) (by rfl))) (@pv _ 2 _ _ (by rfl) (by first | exact Or.inl rfl | exact Or.inr (Or.inl rfl) | exact Or.inr (Or.inr rfl)) (by decide) (by decide)) (fun _ _ => rfl)) (@nomark _ _ (by decide) (by decide))))))) (@pss_one _ _ _ (@ps_ret _ _ _ _ (@pe_non _ _ _))) (@pss_nil _)) (@pss_cons _ _ _ _ _ (@ps_if _ _ _ _ _ _ _ _ (@pt_not _ _ _ _ (@pt_val _ _ _ (@pe_callB _ _ _ _ _ _ _ _ _ (@kcall_all _ K rfl (by rfl)) rfl gb.all bt_all (@pa_cons _ _ _ _ _ (@pe_comp _ ["_law_one", "_law_many"] [none, some 1] _ _ _ _ _ _ _ _ _ _ (by exact (show CompOk ["_law_words", "_law_many", "_law_places", "_law_cells"] (defScope s_law_connective) ["_law_one", "_law_many"] [none, some 1] _ from ⟨rfl, by decide +kernel, by decide +kernel, by decide +kernel, by decide +kernel, rfl, by decide +kernel⟩)) rfl (@kpi_list _ K _ _ _ (@pv _ 3 _ _ (by rfl) (by first | exact Or.inl rfl | exact Or.inr (Or.inl rfl) | exact Or.inr (Or.inr rfl)) (by decide) (by decide)) (by rfl)) (fun _ _ _ _ => (@pg_name _ _ 0 _ nd2 rfl (Or.inl rfl) (by first | exact .inl rfl | exact .inr rfl | assumption))) (fun _ _ _ _ => (@pf_nil _)) (fun _ _ _ _ => (@pe_and _ _ _ _ _ _ _ (@pe_cmpR _ _ _ _ _ _ _ _ (@op_notN _) (@pv _ 0 _ _ (by rfl) (by first | exact Or.inl rfl | exact Or.inr (Or.inl rfl) | exact Or.inr (Or.inr rfl)) (by decide) (by decide)) (@pe_non _ _ _) (@nomark _ _ (by decide) (by decide))) (@pe_one _ _ _ _ _ (@pe_cmpR _ _ _ _ _ _ _ _ (@op_lt _) (@pv _ 0 _ _ (by rfl) (by first | exact Or.inl rfl | exact Or.inr (Or.inl rfl) | exact Or.inr (Or.inr rfl)) (by decide) (by decide)) (@pv _ 1 _ _ (by rfl) (by first | exact Or.inl rfl | exact Or.inr (Or.inl rfl) | exact Or.inr (Or.inr rfl)) (by decide) (by decide)) (@nomark _ _ (by decide) (by decide)))))) (by intro _; rfl)) (@pa_nil _) (by rfl)) (by decide) (by decide) (by rfl) (by rfl)) (by intro _; rfl))) (@pss_one _ _ _ (@ps_ret _ _ _ _ (@pe_non _ _ _))) (@pss_nil _)) (@pss_one _ _ _ (@ps_ret _ _ _ _ (@pe_tup _ _ _ _ _ (@pa_cons _ _ _ _ _ (@pe_ix _ _ _ _ _ _ _ (@kix_seq _ K (by rfl)) (@pv _ 0 _ _ (by rfl) (by first | exact Or.inl rfl | exact Or.inr (Or.inl rfl) | exact Or.inr (Or.inr rfl)) (by decide) (by decide)) (@pe_int _ _ _ _) (fun _ _ => rfl)) (@pa_cons _ _ _ _ _ (@pv _ 2 _ _ (by rfl) (by first | exact Or.inl rfl | exact Or.inr (Or.inl rfl) | exact Or.inr (Or.inr rfl)) (by decide) (by decide)) (@pa_cons _ _ _ _ _ (@pe_callTy _ _ _ _ _ _ _ _ _ (@kcall_tuple_of _ K (by rfl)) rfl gb.tuple bt_tuple (@pa_cons _ _ _ _ _ (@pv _ 3 _ _ (by rfl) (by first | exact Or.inl rfl | exact Or.inr (Or.inl rfl) | exact Or.inr (Or.inr rfl)) (by decide) (by decide)) (@pa_nil _) (by rfl)) (by decide) (by decide) (by rfl) (by rfl)) (@pa_nil _) (by rfl)) (by rfl)) (by rfl))))))))))), ?_⟩
  have bad : ¬ connB m (connTh ws) = true → ∀ H', Same H H' → Q .non H' := fun e H' s => q _ _ s (by rw [dueC_no e]; exact .non)
  have good : connB m (connTh ws) = true → ∀ v H', Same H H' → IsTh H' (connTh ws) v → Q v H' := fun e v H' s h => q _ _ s (by rw [dueC_yes e]; exact h)
  clear q
  refine ⟨_, rfl, _, _, rfl, .inl ⟨_, SqL.of hl, rfl⟩, _, _, rfl, rfl, _, rfl, ?_⟩
  match ws, hl, hn, hw, bad, good with
  | [], hl, hn, hw, bad, good => exact ite2 (fun _ => bad (by intro z; cases z) _ Same.rfl') (fun z => absurd (decide_eq_true (by decide)) z)
  | [w], hl, hn, hw, bad, good => exact ite2 (fun _ => bad (by intro z; cases z) _ Same.rfl') (fun z => absurd (decide_eq_true (by show ((1 : Nat) : Int) < 2; decide)) z)
  | n :: p :: r, hl, hn, hw, bad, good =>
  have hn' : r.length ≤ 998 := by rw [List.length_cons, List.length_cons] at hn; omega
  refine ite2 (fun z => absurd (of_decide_eq_true z) (by rw [List.length_map, List.length_cons, List.length_cons]; omega)) (fun _ => ?_)
  have hn0 := hw n (by simp)
  refine ⟨_, rfl, .inl ⟨l, _, 0, _, rfl, rfl, SqL.of hl, atI_nat (j := 0) rfl, _, n.length, rfl, ⟨small9k hn0, rfl⟩, _, _, rfl, rfl, _, rfl, ?_⟩⟩
  refine ite2 (fun c1 => ?_) (fun c1 => ?_)
  case refine_2 =>
    refine ⟨_, rfl, ?_⟩
    refine bad (fun hb => c1 (decide_eq_true ?_)) _ Same.rfl'
    have := (conn_parts hb).1.1
    omega
  have c1' : (2 : Int) ≤ (n.length : Int) := of_decide_eq_true c1
  refine ⟨_, _, rfl, rfl, _, rfl, ?_⟩
  refine ite2 (fun c2 => ?_) (fun c2 => ?_)
  · refine bad (fun hb => of_decide_eq_false (not_nb c2) ?_) _ Same.rfl'
    have := (conn_parts hb).1.2.1
    omega
  have c2' : (n.length : Int) ≤ 8 := of_decide_eq_true (nb_not c2)
  refine ⟨_, rfl, .inl ⟨l, _, 0, _, rfl, rfl, SqL.of hl, atI_nat (j := 0) rfl, n, rfl, fun D hD => ?_⟩⟩
  refine map_str (h := fun c => .bl (decide (97 ≤ c) && decide (c ≤ 122))) (by omega) hD (fun c hc H' Q' s1 q' => ?_) (fun H1 s1 hD1 => ?_)
  · refine ⟨_, rfl, _, _, rfl, rfl, ?_⟩
    have e : (!(Builtin.Str.occurrences (Str.ofString "abcdefghijklmnopqrstuvwxyz") ⟨#[c]⟩ 0 (Str.ofString "abcdefghijklmnopqrstuvwxyz").length 1).isEmpty) = (decide (97 ≤ c) && decide (c ≤ 122)) := (PySem.StrLaws.found_one _ c).trans (small_az c)
    rw [e]
    exact q' _ Same.rfl'
  refine ⟨D, n.cps.toList.map (fun c => decide (97 ≤ c) && decide (c ≤ 122)), rfl, SqL.of (by rw [List.map_map]; exact hD1), _, rfl, ?_⟩
  have e3 : (n.cps.toList.map (fun c => decide (97 ≤ c) && decide (c ≤ 122))).all id = smallB n := by rw [List.all_map]; rfl
  rw [e3]
  refine ite2 (fun c3 => ?_) (fun c3 => ?_)
  · refine bad (fun hb => ?_) _ s1
    rw [(conn_parts hb).1.2.2] at c3
    cases c3
  have hsm := nb_not c3
  have hl1 := s1 _ _ hl
  refine ⟨_, rfl, .inl ⟨l, _, 1, _, rfl, rfl, SqL.of hl1, atI_nat (j := 1) rfl, p, rfl, hw p (by simp), ?_⟩⟩
  refine ⟨_, rfl, 2, rfl, .inl ⟨l, _, rfl, SqL.of hl1, fun k hk => ?_⟩⟩
  have ec : cutV ((n :: p :: r).map V.str) (some 2) none = r.map V.str := cut_from (xs := (n :: p :: r).map V.str) 2 (by rw [List.length_map, List.length_cons, List.length_cons]; omega)
  rw [ec]
  refine ⟨k, rfl, ⟨_, SqL.of upd_same⟩, fun D2 hD2 => ?_⟩
  refine map_list r V.str numV upd_same (by omega) hD2 (fun z hz H' Q' s q' => ⟨_, rfl, z, rfl, hw z (List.mem_cons_of_mem _ (List.mem_cons_of_mem _ hz)), q' _ Same.rfl'⟩) (fun H2 s2 hDD => ?_)
  have s02 : Same H H2 := fun b o qb => s2 _ _ (same_new hk _ _ _ (s1 _ _ qb))
  refine ⟨_, rfl, rfl, _, rfl, ?_⟩
  by_cases hp0 : 0 ≤ numW p
  case neg =>
    rw [numV_non hp0]
    exact ite2 (fun _ => bad (fun hb => hp0 (conn_parts hb).2.1) _ s02) (fun z => absurd (decide_eq_true rfl) z)
  rw [numV_int hp0]
  refine ite2 (fun z => absurd (of_decide_eq_true z) (by intro e; cases e)) (fun _ => ?_)
  refine ⟨_, rfl, _, _, rfl, rfl, _, rfl, ?_⟩
  refine ite2 (fun c5 => ?_) (fun c5 => ?_)
  · refine bad (fun hb => ?_) _ s02
    have h1 : (2 : Int) < numW p := of_decide_eq_true c5
    have := (conn_parts hb).2.2.1
    omega
  have hp2 : numW p ≤ 2 := by
    have h1 : ¬ (2 : Int) < numW p := fun z => c5 (decide_eq_true z)
    omega
  obtain ⟨nn, hat, _, _, hnm⟩ := cells_many m1 m9 hp0 hp2
  refine ⟨_, rfl, _, r.length, rfl, .inl ⟨_, SqL.of hDD, by rw [List.length_map]⟩, ?_⟩
  refine ⟨_, rfl, _, rfl, _, rfl, _, _, rfl, rfl, .inr ⟨by omega, by omega⟩, small9 (by show 3 ≤ 1000; decide), fun g hg => ?_⟩
  have s23 : Same H2 (upd H2 g (.lst [.int 1, .int m, .int (m * m)])) := same_new hg _
  have s03 := s02.trans s23
  have hD3 := s23 _ _ hDD
  refine ⟨_, rfl, .inl ⟨g, _, numW p, _, rfl, rfl, SqL.of upd_same, hat, rfl, _, rfl, ?_⟩⟩
  refine ite2 (fun c6 => ?_) (fun c6 => ?_)
  · refine bad (fun hb => ne_of_nd c6 ?_) _ s03
    have := (conn_parts hb).2.2.2.1
    omega
  have hlen : (r.length : Int) = m ^ (numW p).toNat := by rw [← hnm]; exact eq_of_nd c6
  refine ⟨_, rfl, D2, rfl, ⟨_, SqL.of hD3⟩, fun D4 hD4 => ?_⟩
  refine map_list r numV (fun w => .bl (decide (0 ≤ numW w ∧ numW w < m))) hD3 (by omega) hD4 (fun w hw' H' Q' s q' => ?_) (fun H4 s4 hD5 => ?_)
  · refine ⟨_, rfl, rfl, _, rfl, ?_⟩
    by_cases h0 : 0 ≤ numW w
    · rw [numV_int h0]
      refine ite2 (fun _ => ?_) (fun z => absurd (by rw [decide_eq_false (fun e => by cases e)]; rfl) z)
      refine ⟨_, rfl, _, rfl, _, _, rfl, rfl, ?_⟩
      have := q' _ Same.rfl'
      rw [show decide (0 ≤ numW w ∧ numW w < m) = decide (numW w < m) by simp [h0]] at this
      exact this
    · rw [numV_non h0]
      refine ite2 (fun z => absurd z (by rw [decide_eq_true rfl]; decide)) (fun _ => ?_)
      have := q' _ Same.rfl'
      rw [show decide (0 ≤ numW w ∧ numW w < m) = false by simp [h0]] at this
      exact this
  refine ⟨D4, r.map (fun w => decide (0 ≤ numW w ∧ numW w < m)), rfl, SqL.of (by rw [List.map_map]; exact hD5), _, rfl, ?_⟩
  have e7 : (r.map (fun w => decide (0 ≤ numW w ∧ numW w < m))).all id = r.all fun w => decide (0 ≤ numW w ∧ numW w < m) := by rw [List.all_map]; rfl
  rw [e7]
  have s04 := s03.trans s4
  refine ite2 (fun c7 => ?_) (fun c7 => ?_)
  · refine bad (fun hb => ?_) _ s04
    have h1 : (r.all fun w => decide (0 ≤ numW w ∧ numW w < m)) = true := by
      rw [List.all_eq_true]
      exact fun w hw' => decide_eq_true ((conn_parts hb).2.2.2.2 w hw')
    rw [h1] at c7
    cases c7
  have hcl : ∀ w ∈ r, 0 ≤ numW w ∧ numW w < m := fun w hw' => of_decide_eq_true (List.all_eq_true.mp (nb_not c7) w hw')
  have hgood : connB m (connTh (n :: p :: r)) = true := conn_mk (by omega) (by omega) hsm hp0 hp2 hlen hcl
  refine ⟨_, rfl, .inl ⟨l, _, 0, _, rfl, rfl, SqL.of (s04 _ _ hl), atI_nat (j := 0) rfl, _, rfl, _, rfl, D2, _, rfl, .inl ⟨SqL.of (s4 _ _ hD3), fun u hu => ?_⟩⟩⟩
  refine ⟨small9 (by show 3 ≤ 1000; decide), fun t ht => ?_⟩
  have s45 : Same H4 (upd H4 u (.tup (r.map numV))) := same_new hu _
  have s56 : Same (upd H4 u (.tup (r.map numV))) (upd (upd H4 u (.tup (r.map numV))) t (.tup [.str n, .int (numW p), .ref u])) := same_new ht _
  refine good hgood _ _ ((s04.trans s45).trans s56) ?_
  refine Ths.tup (vs := [.str n, .int (numW p), .ref u]) (.cons (.str _ hn0) (.cons (.int _) (.cons ?_ .nil))) upd_same (by show 3 ≤ 1000; decide)
  exact Ths.tup (ths_map numT numV r fun w hw' => by rw [numV_int (hcl w hw').1]; exact .int _) (s56 _ _ upd_same) (by rw [List.length_map]; omega)

abbrev s_law_due : Stmt := top 37
theorem sc_law_due : FnScope ["_law_text_here", "_law_parts", "_law_many", "_law_wished", "_law_connectives"] ["_law_text_here"] (defScope s_law_due) := ⟨rfl, rfl, rfl, by decide +kernel, rfl, by decide +kernel, by decide +kernel⟩
theorem ok_law_due {P : Program} {w : World} {K : PySem.W.Frag} {mg : Str → Option Value} {base : Heap} {f : Addr} {fd : FuncData} (F : Fun K "_law_due" "_law_due" s_law_due f fd) (gb : Gb mg) {c : Nat → Addr} (cl : Cl K mg c) (d_law_number : Def P w K mg base 1 "_law_number" ["_law_word"] spNumber7) (d_law_connective : Def P w K mg base 2 "_law_connective" ["_law_words", "_law_many"] spConn7) : FnOk P w K mg base CX0 3 f fd ["_law_text_here"] spDue7 := by
  refine F.ok sc_law_due (fun vs H Q E h => ?_) (fun cdv A outer s H vs Q E hr h => ?_)
  · obtain ⟨x, rfl, _⟩ := h
    rfl
  obtain ⟨x, rfl, hx, q⟩ := h
  have nd0 : (["_law_part_here"] : List Str).Nodup := by decide +kernel
  have nd1 : (["_law_word"] : List Str).Nodup := by decide +kernel
  have nd2 : (["_law_one", "_law_many"] : List Str).Nodup := by decide +kernel
  have nd3 : (["_law_words", "_law_many"] : List Str).Nodup := by decide +kernel
  have nd4 : (["_law_one"] : List Str).Nodup := by decide +kernel
  refine ⟨_, (@pss_cons _ _ _ _ _ (@ps_setComp _ ["_law_part_here"] [none] _ 1 _ _ _ _ _ _ _ _ _ _ _ _ (by exact (show CompOk ["_law_text_here", "_law_parts", "_law_many", "_law_wished", "_law_connectives"] (defScope s_law_due) ["_law_part_here"] [none] _ from ⟨rfl, by decide +kernel, by decide +kernel, by decide +kernel, by decide +kernel, rfl, by decide +kernel⟩)) rfl (@kpi_list _ K _ _ _ (@kpe_bm _ K _ _ _ _ _ _ _ _ _ _ _ PySem.F.plainAttrs_str PySem.F.slot_str_split PySem.F.type_str_split (@mt_split _) (@pv _ 0 _ _ (by rfl) (by first | exact Or.inl rfl | exact Or.inr (Or.inl rfl) | exact Or.inr (Or.inr rfl)) (by decide) (by decide)) (@pa_cons _ _ _ _ _ (@pe_str _ _ _ _) (@pa_nil _) (by rfl)) (by rfl) (by rfl) (by rfl) (by rfl) (by rfl) (by rfl)) (by rfl)) (fun _ _ _ _ => (@pg_name _ _ 0 _ nd0 rfl (Or.inl rfl) (by first | exact .inl rfl | exact .inr rfl | assumption))) (fun _ _ _ _ => (@pf_nil _)) (fun _ _ _ _ => (@kpe_bm _ K _ _ _ _ _ _ _ _ _ _ _ PySem.F.plainAttrs_str PySem.F.slot_str_split PySem.F.type_str_split (@mt_split _) (@pv _ 0 _ _ (by rfl) (by first | exact Or.inl rfl | exact Or.inr (Or.inl rfl) | exact Or.inr (Or.inr rfl)) (by decide) (by decide)) (@pa_cons _ _ _ _ _ (@pe_str _ _ _ _) (@pa_nil _) (by rfl)) (by rfl) (by rfl) (by rfl) (by rfl) (by rfl) (by rfl))) sc_law_due.nd rfl rfl rfl (by intro _; rfl)) (@pss_cons _ _ _ _ _ (@ps_if _ _ _ _ _ _ _ _ (@PW.pt _ _ _ (@pw_or _ _ _ _ _ _ _ (@pt_cmpR _ _ _ _ _ _ _ _ (@op_lt _) (@pe_callB _ _ _ _ _ _ _ _ _ (@kcall_len _ K (by rfl)) rfl gb.len bt_len (@pa_cons _ _ _ _ _ (@pv _ 1 _ _ (by rfl) (by first | exact Or.inl rfl | exact Or.inr (Or.inl rfl) | exact Or.inr (Or.inr rfl)) (by decide) (by decide)) (@pa_nil _) (by rfl)) (by decide) (by decide) (by rfl) (by rfl)) (@pe_int _ _ _ _) (@nomark _ _ (by decide) (by decide))) (@pw_or _ _ _ _ _ _ _ (@pt_cmpR _ _ _ _ _ _ _ _ (@op_gt _) (@pe_callB _ _ _ _ _ _ _ _ _ (@kcall_len _ K (by rfl)) rfl gb.len bt_len (@pa_cons _ _ _ _ _ (@pv _ 1 _ _ (by rfl) (by first | exact Or.inl rfl | exact Or.inr (Or.inl rfl) | exact Or.inr (Or.inr rfl)) (by decide) (by decide)) (@pa_nil _) (by rfl)) (by decide) (by decide) (by rfl) (by rfl)) (@pe_int _ _ _ _) (@nomark _ _ (by decide) (by decide))) (@pw_or _ _ _ _ _ _ _ (@pt_cmpR _ _ _ _ _ _ _ _ (@op_ne _) (@pe_callB _ _ _ _ _ _ _ _ _ (@kcall_len _ K (by rfl)) rfl gb.len bt_len (@pa_cons _ _ _ _ _ (@pe_ix _ _ _ _ _ _ _ (@kix_seq _ K (by rfl)) (@pv _ 1 _ _ (by rfl) (by first | exact Or.inl rfl | exact Or.inr (Or.inl rfl) | exact Or.inr (Or.inr rfl)) (by decide) (by decide)) (@pe_int _ _ _ _) (fun _ _ => rfl)) (@pa_nil _) (by rfl)) (by decide) (by decide) (by rfl) (by rfl)) (@pe_int _ _ _ _) (@nomark _ _ (by decide) (by decide))) (@pw_or _ _ _ _ _ _ _ (@pt_cmpR _ _ _ _ _ _ _ _ (@op_ne _) (@pe_ix _ _ _ _ _ _ _ (@kix_seq _ K (by rfl)) (@pe_ix _ _ _ _ _ _ _ (@kix_seq _ K (by rfl)) (@pv _ 1 _ _ (by rfl) (by first | exact Or.inl rfl | exact Or.inr (Or.inl rfl) | exact Or.inr (Or.inr rfl)) (by decide) (by decide)) (@pe_int _ _ _ _) (fun _ _ => rfl)) (@pe_int _ _ _ _) (fun _ _ => rfl)) (@pe_str _ _ _ _) (@nomark _ _ (by decide) (by decide))) (@pw_or1 _ _ _ _ (@pt_cmpR _ _ _ _ _ _ _ _ (@op_ne _) (@pe_ix _ _ _ _ _ _ _ (@kix_seq _ K (by rfl)) (@pe_ix _ _ _ _ _ _ _ (@kix_seq _ K (by rfl)) (@pv _ 1 _ _ (by rfl) (by first | exact Or.inl rfl | exact Or.inr (Or.inl rfl) | exact Or.inr (Or.inr rfl)) (by decide) (by decide)) (@pe_int _ _ _ _) (fun _ _ => rfl)) (@pe_int _ _ _ _) (fun _ _ => rfl)) (@pe_str _ _ _ _) (@nomark _ _ (by decide) (by decide))))))))) (@pss_one _ _ _ (@ps_ret _ _ _ _ (@pe_non _ _ _))) (@pss_nil _)) (@pss_cons _ _ _ _ _ (@ps_set _ _ 2 _ _ _ _ sc_law_due.nd rfl (Or.inr rfl) (@pe_def _ _ _ _ _ _ _ _ _ _ _ d_law_number hr (by omega) rfl (@pa_cons _ _ _ _ _ (@pe_ix _ _ _ _ _ _ _ (@kix_seq _ K (by rfl)) (@pe_ix _ _ _ _ _ _ _ (@kix_seq _ K (by rfl)) (@pv _ 1 _ _ (by rfl) (by first | exact Or.inl rfl | exact Or.inr (Or.inl rfl) | exact Or.inr (Or.inr rfl)) (by decide) (by decide)) (@pe_int _ _ _ _) (fun _ _ => rfl)) (@pe_int _ _ _ _) (fun _ _ => rfl)) (@pa_nil _) (by rfl)) (by decide) (by rfl) (by rfl)) (by rfl) (by first | exact .inl rfl | exact .inr rfl | assumption)) (@pss_cons _ _ _ _ _ (@ps_setComp _ ["_law_word"] [none] _ 3 _ _ _ _ _ _ _ _ _ _ _ _ (by exact (show CompOk ["_law_text_here", "_law_parts", "_law_many", "_law_wished", "_law_connectives"] (defScope s_law_due) ["_law_word"] [none] _ from ⟨rfl, by decide +kernel, by decide +kernel, by decide +kernel, by decide +kernel, rfl, by decide +kernel⟩)) rfl (@kpi_list _ K _ _ _ (@pe_slice _ _ _ _ _ _ _ _ _ _ (@ksl_any _ K (by rfl)) (@pe_ix _ _ _ _ _ _ _ (@kix_seq _ K (by rfl)) (@pv _ 1 _ _ (by rfl) (by first | exact Or.inl rfl | exact Or.inr (Or.inl rfl) | exact Or.inr (Or.inr rfl)) (by decide) (by decide)) (@pe_int _ _ _ _) (fun _ _ => rfl)) (@po_some _ _ _ (@pe_int _ _ _ _)) (@po_none _)) (by rfl)) (fun _ _ _ _ => (@pg_name _ _ 0 _ nd1 rfl (Or.inl rfl) (by first | exact .inl rfl | exact .inr rfl | assumption))) (fun _ _ _ _ => (@pf_nil _)) (fun _ _ _ _ => (@pe_def _ _ _ _ _ _ _ _ _ _ _ d_law_number hr (by omega) rfl (@pa_cons _ _ _ _ _ (@pv _ 0 _ _ (by rfl) (by first | exact Or.inl rfl | exact Or.inr (Or.inl rfl) | exact Or.inr (Or.inr rfl)) (by decide) (by decide)) (@pa_nil _) (by rfl)) (by decide) (by rfl) (by rfl))) sc_law_due.nd rfl rfl rfl (by intro _; rfl)) (@pss_cons _ _ _ _ _ (@ps_if _ _ _ _ _ _ _ _ (@PW.pt _ _ _ (@pw_or _ _ _ _ _ _ _ (@pt_cmpR _ _ _ _ _ _ _ _ (@op_isN _) (@pv _ 2 _ _ (by rfl) (by first | exact Or.inl rfl | exact Or.inr (Or.inl rfl) | exact Or.inr (Or.inr rfl)) (by decide) (by decide)) (@pe_non _ _ _) (@nomark _ _ (by decide) (by decide))) (@pw_or _ _ _ _ _ _ _ (@pt_cmpR _ _ _ _ _ _ _ _ (@op_eq _) (@pv _ 2 _ _ (by rfl) (by first | exact Or.inl rfl | exact Or.inr (Or.inl rfl) | exact Or.inr (Or.inr rfl)) (by decide) (by decide)) (@pe_int _ _ _ _) (@nomark _ _ (by decide) (by decide))) (@pw_or1 _ _ _ _ (@pt_not _ _ _ _ (@pt_val _ _ _ (@pe_callB _ _ _ _ _ _ _ _ _ (@kcall_all _ K rfl (by rfl)) rfl gb.all bt_all (@pa_cons _ _ _ _ _ (@pe_comp _ ["_law_one", "_law_many"] [none, some 2] _ _ _ _ _ _ _ _ _ _ (by exact (show CompOk ["_law_text_here", "_law_parts", "_law_many", "_law_wished", "_law_connectives"] (defScope s_law_due) ["_law_one", "_law_many"] [none, some 2] _ from ⟨rfl, by decide +kernel, by decide +kernel, by decide +kernel, by decide +kernel, rfl, by decide +kernel⟩)) rfl (@kpi_list _ K _ _ _ (@pv _ 3 _ _ (by rfl) (by first | exact Or.inl rfl | exact Or.inr (Or.inl rfl) | exact Or.inr (Or.inr rfl)) (by decide) (by decide)) (by rfl)) (fun _ _ _ _ => (@pg_name _ _ 0 _ nd2 rfl (Or.inl rfl) (by first | exact .inl rfl | exact .inr rfl | assumption))) (fun _ _ _ _ => (@pf_nil _)) (fun _ _ _ _ => (@pe_and _ _ _ _ _ _ _ (@pe_cmpR _ _ _ _ _ _ _ _ (@op_notN _) (@pv _ 0 _ _ (by rfl) (by first | exact Or.inl rfl | exact Or.inr (Or.inl rfl) | exact Or.inr (Or.inr rfl)) (by decide) (by decide)) (@pe_non _ _ _) (@nomark _ _ (by decide) (by decide))) (@pe_one _ _ _ _ _ (@pe_cmpR _ _ _ _ _ _ _ _ (@op_lt _) (@pv _ 0 _ _ (by rfl) (by first | exact Or.inl rfl | exact Or.inr (Or.inl rfl) | exact Or.inr (Or.inr rfl)) (by decide) (by decide)) (@pv _ 1 _ _ (by rfl) (by first | exact Or.inl rfl | exact Or.inr (Or.inl rfl) | exact Or.inr (Or.inr rfl)) (by decide) (by decide)) (@nomark _ _ (by decide) (by decide)))))) (by intro _; rfl)) (@pa_nil _) (by rfl)) (by decide) (by decide) (by rfl) (by rfl)) (by intro _; rfl))))))) (@pss_one _ _ _ (@ps_ret _ _ _ _ (@pe_non _ _ _))) (@pss_nil _)) (@pss_cons _ _ _ _ _ (@ps_if _ _ _ _ _ _ _ _ (@pt_cmpR _ _ _ _ _ _ _ _ (@op_neLL _ K _ hr (by rfl)) (@pv _ 3 _ _ (by rfl) (by first | exact Or.inl rfl | exact Or.inr (Or.inl rfl) | exact Or.inr (Or.inr rfl)) (by decide) (by decide)) (@pe_callB _ _ _ _ _ _ _ _ _ (@kcall_sortedD _ rfl) rfl gb.sorted bt_sorted (@pa_cons _ _ _ _ _ (@pe_callTy _ _ _ _ _ _ _ _ _ (@kcall_setD _ K rfl (by rfl)) rfl gb.set bt_set (@pa_cons _ _ _ _ _ (@pv _ 3 _ _ (by rfl) (by first | exact Or.inl rfl | exact Or.inr (Or.inl rfl) | exact Or.inr (Or.inr rfl)) (by decide) (by decide)) (@pa_nil _) (by rfl)) (by decide) (by decide) (by rfl) (by rfl)) (@pa_nil _) (by rfl)) (by decide) (by decide) (by rfl) (by rfl)) (@nomark _ _ (by decide) (by decide))) (@pss_one _ _ _ (@ps_ret _ _ _ _ (@pe_non _ _ _))) (@pss_nil _)) (@pss_cons _ _ _ _ _ (@ps_setComp _ ["_law_words", "_law_many"] [none, some 2] _ 4 _ _ _ _ _ _ _ _ _ _ _ _ (by exact (show CompOk ["_law_text_here", "_law_parts", "_law_many", "_law_wished", "_law_connectives"] (defScope s_law_due) ["_law_words", "_law_many"] [none, some 2] _ from ⟨rfl, by decide +kernel, by decide +kernel, by decide +kernel, by decide +kernel, rfl, by decide +kernel⟩)) rfl (@kpi_list _ K _ _ _ (@pe_slice _ _ _ _ _ _ _ _ _ _ (@ksl_any _ K (by rfl)) (@pv _ 1 _ _ (by rfl) (by first | exact Or.inl rfl | exact Or.inr (Or.inl rfl) | exact Or.inr (Or.inr rfl)) (by decide) (by decide)) (@po_some _ _ _ (@pe_int _ _ _ _)) (@po_none _)) (by rfl)) (fun _ _ _ _ => (@pg_name _ _ 0 _ nd3 rfl (Or.inl rfl) (by first | exact .inl rfl | exact .inr rfl | assumption))) (fun _ _ _ _ => (@pf_nil _)) (fun _ _ _ _ => (@pe_def _ _ _ _ _ _ _ _ _ _ _ d_law_connective hr (by omega) rfl (@pa_cons _ _ _ _ _ (@pv _ 0 _ _ (by rfl) (by first | exact Or.inl rfl | exact Or.inr (Or.inl rfl) | exact Or.inr (Or.inr rfl)) (by decide) (by decide)) (@pa_cons _ _ _ _ _ (@pv _ 1 _ _ (by rfl) (by first | exact Or.inl rfl | exact Or.inr (Or.inl rfl) | exact Or.inr (Or.inr rfl)) (by decide) (by decide)) (@pa_nil _) (by rfl)) (by rfl)) (by decide) (by rfl) (by rfl))) sc_law_due.nd rfl rfl rfl (by intro _; rfl)) (@pss_cons _ _ _ _ _ (@ps_if _ _ _ _ _ _ _ _ (@PW.pt _ _ _ (@pw_or _ _ _ _ _ _ _ (@pt_cmpR _ _ _ _ _ _ _ _ (@op_inN _ K _ hr (by rfl)) (@pe_non _ _ _) (@pv _ 4 _ _ (by rfl) (by first | exact Or.inl rfl | exact Or.inr (Or.inl rfl) | exact Or.inr (Or.inr rfl)) (by decide) (by decide)) (by with_unfolding_all rfl)) (@pw_or1 _ _ _ _ (@pt_cmpR _ _ _ _ _ _ _ _ (@op_ne _) (@pe_callB _ _ _ _ _ _ _ _ _ (@call_lenS _) rfl gb.len bt_len (@pa_cons _ _ _ _ _ (@pe_callTy _ _ _ _ _ _ _ _ _ (@kcall_setS _ K rfl (by rfl)) rfl gb.set bt_set (@pa_cons _ _ _ _ _ (@pe_comp _ ["_law_one"] [none] _ _ _ _ _ _ _ _ _ _ (by exact (show CompOk ["_law_text_here", "_law_parts", "_law_many", "_law_wished", "_law_connectives"] (defScope s_law_due) ["_law_one"] [none] _ from ⟨rfl, by decide +kernel, by decide +kernel, by decide +kernel, by decide +kernel, rfl, by decide +kernel⟩)) rfl (@kpi_list _ K _ _ _ (@pv _ 4 _ _ (by rfl) (by first | exact Or.inl rfl | exact Or.inr (Or.inl rfl) | exact Or.inr (Or.inr rfl)) (by decide) (by decide)) (by rfl)) (fun _ _ _ _ => (@pg_name _ _ 0 _ nd4 rfl (Or.inl rfl) (by first | exact .inl rfl | exact .inr rfl | assumption))) (fun _ _ _ _ => (@pf_nil _)) (fun _ _ _ _ => (@pe_ix _ _ _ _ _ _ _ (@kix_seq _ K (by rfl)) (@pv _ 0 _ _ (by rfl) (by first | exact Or.inl rfl | exact Or.inr (Or.inl rfl) | exact Or.inr (Or.inr rfl)) (by decide) (by decide)) (@pe_int _ _ _ _) (fun _ _ => rfl))) (by intro _; rfl)) (@pa_nil _) (by rfl)) (by decide) (by decide) (by rfl) (by rfl)) (@pa_nil _) (by rfl)) (by decide) (by decide) (by rfl) (by rfl)) (@pe_callB _ _ _ _ _ _ _ _ _ (@kcall_len _ K (by rfl)) rfl gb.len bt_len (@pa_cons _ _ _ _ _ (@pv _ 4 _ _ (by rfl) (by first | exact Or.inl rfl | exact Or.inr (Or.inl rfl) | exact Or.inr (Or.inr rfl)) (by decide) (by decide)) (@pa_nil _) (by rfl)) (by decide) (by decide) (by rfl) (by rfl)) (@nomark _ _ (by decide) (by decide)))))) (@pss_one _ _ _ (@ps_ret _ _ _ _ (@pe_non _ _ _))) (@pss_nil _)) (@pss_one _ _ _ (@ps_ret _ _ _ _ (@pe_tup _ _ _ _ _ (@pa_cons _ _ _ _ _ (@pv _ 2 _ _ (by rfl) (by first | exact Or.inl rfl | exact Or.inr (Or.inl rfl) | exact Or.inr (Or.inr rfl)) (by decide) (by decide)) (@pa_cons _ _ _ _ _ (@pe_callTy _ _ _ _ _ _ _ _ _ (@kcall_tuple_of _ K (by rfl)) rfl gb.tuple bt_tuple (@pa_cons _ _ _ _ _ (@pv _ 3 _ _ (by rfl) (by first | exact Or.inl rfl | exact Or.inr (Or.inl rfl) | exact Or.inr (Or.inr rfl)) (by decide) (by decide)) (@pa_nil _) (by rfl)) (by decide) (by decide) (by rfl) (by rfl)) (@pa_cons _ _ _ _ _ (@pe_callTy _ _ _ _ _ _ _ _ _ (@kcall_tuple_of _ K (by rfl)) rfl gb.tuple bt_tuple (@pa_cons _ _ _ _ _ (@pv _ 4 _ _ (by rfl) (by first | exact Or.inl rfl | exact Or.inr (Or.inl rfl) | exact Or.inr (Or.inr rfl)) (by decide) (by decide)) (@pa_nil _) (by rfl)) (by decide) (by decide) (by rfl) (by rfl)) (@pa_nil _) (by rfl)) (by rfl)) (by rfl))))))))))))), ?_⟩
  have bad : ¬ readB (.str x) = true → ∀ H', Same H H' → Q .non H' := fun e H' s => q _ _ s (by rw [due_no e]; exact .non)
  have good : readB (.str x) = true → ∀ v H', Same H H' → IsTh H' (tableTh (parse x)) v → Q v H' := fun e v H' s h => q _ _ s (by rw [due_yes e]; exact h)
  clear q
  have big : ∀ n, n ≤ 2102 → n ≤ sizeLine := fun n h => Nat.le_trans h (by decide +kernel)
  obtain ⟨pn, pw⟩ := parse_bounds hx
  have sb := split_bounds (x := x) (y := sp2) (by decide +kernel)
  refine ⟨_, rfl, rfl, x, sp2, rfl, rfl, by decide +kernel, big _ (by omega), fun l hl => ?_⟩
  refine ⟨l, rfl, ⟨_, SqL.of upd_same⟩, fun D hD => ?_⟩
  have sk : Same H (upd H l (.lst ((PySem.Txt.split x sp2).map V.str))) := same_new hl _
  have hpl : (parse x).length = (PySem.Txt.split x sp2).length := by unfold parse; rw [List.length_map]
  refine comp_list (xs := (PySem.Txt.split x sp2).map V.str) (fun i ys H' => ∃ G : Hp, Same (upd H l (.lst ((PySem.Txt.split x sp2).map V.str))) G ∧ Same G H' ∧ G D = none ∧ Wds G ((parse x).take i) ys) ⟨_, Same.rfl', same_new hD _, hD, .nil⟩ (fun i ys H' hh _ => SqL.of (hh.elim fun G k => k.2.1 _ _ (k.1 _ _ upd_same))) ?_ ?_
  · rintro i ys H' z hz ⟨G, g1, g2, gD, hW⟩ hD'
    have hi : i < ((PySem.Txt.split x sp2).map V.str).length := (List.getElem?_eq_some_iff.mp hz).1
    have hi' := hi
    rw [List.length_map] at hi'
    rw [List.getElem?_map] at hz
    obtain ⟨pt, hpt, rfl⟩ := Option.map_eq_some_iff.mp hz
    have hws : (parse x)[i]? = some (PySem.Txt.split pt sp1) := by unfold parse; rw [List.getElem?_map, hpt]; rfl
    have hlp := sb.1 _ (List.mem_of_getElem? hpt)
    have hyl := hW.len
    rw [List.length_take] at hyl
    refine yes ⟨_, rfl, rfl, _, sp1, rfl, rfl, by decide +kernel, big _ (by omega), fun k hk => ?_⟩
    have hD2 := same_new hk (.lst ((PySem.Txt.split pt sp1).map V.str)) _ _ hD'
    have hkD : k ≠ D := fun z => by rw [z, hD'] at hk; cases hk
    have hGk : G k = none := by
      cases e : G k with
      | none => rfl
      | some o => rw [g2 _ _ e] at hk; cases hk
    refine cyes hi rset1 hD2 (small1000 (by omega)) ⟨upd G k (.lst ((PySem.Txt.split pt sp1).map V.str)), fun b o qb => same_new hGk _ _ _ (g1 _ _ qb), fun b o qb => ?_, by rw [upd_ne (Ne.symm hkD)]; exact gD, ?_⟩
    · have hbD : b ≠ D := fun z => by
        rw [z, upd_ne (Ne.symm hkD), gD] at qb
        cases qb
      rw [upd_ne hbD]
      by_cases hb : b = k
      · rw [hb] at qb ⊢
        rw [upd_same] at qb ⊢
        exact qb
      · rw [upd_ne hb] at qb ⊢
        exact g2 _ _ qb
    · rw [take_snoc hws]
      exact (hW.same (same_new hGk _)).snoc upd_same
  rintro ys H1 ⟨G, g1, g2, gD, hWG⟩ hD1
  have hW := hWG.same g2
  have s1 : Same H H1 := fun b o qb => g2 _ _ (g1 _ _ (sk _ _ qb))
  rw [List.length_map, ← hpl, List.take_length] at hW
  clear hWG g1 g2 gD
  have hlen := hW.len
  have no : (∀ n ws cs, parse x = [wGr, n] :: (wWi :: ws) :: cs → Asks n ws cs → False) → ∀ H', Same H H' → Q .non H' := fun h => bad (read_no h)
  generalize hps : parse x = ps at hW hlen no pn pw good
  refine ⟨_, rfl, _, _, rfl, .inl ⟨_, SqL.of hD1, rfl⟩, _, _, rfl, rfl, _, rfl, ?_⟩
  refine ite2 (fun c1 => ?_) (fun c1 => ?_)
  · refine no (fun n ws cs e _ => ?_) _ s1
    have h1 : ((ys.length : Nat) : Int) < 2 := of_decide_eq_true c1
    rw [hlen, e, List.length_cons, List.length_cons] at h1
    omega
  have c1' : 2 ≤ ps.length := by
    have h1 : ¬ ((ys.length : Nat) : Int) < 2 := fun z => c1 (decide_eq_true z)
    omega
  refine ⟨_, rfl, _, _, rfl, .inl ⟨_, SqL.of hD1, rfl⟩, _, _, rfl, rfl, _, rfl, ?_⟩
  refine ite2 (fun c2 => ?_) (fun c2 => ?_)
  · refine no (fun n ws cs e a => ?_) _ s1
    have h1 : (10 : Int) < ((ys.length : Nat) : Int) := of_decide_eq_true c2
    rw [hlen, e, List.length_cons, List.length_cons] at h1
    have := a.few
    omega
  have c2' : ps.length ≤ 10 := by
    have h1 : ¬ (10 : Int) < ((ys.length : Nat) : Int) := fun z => c2 (decide_eq_true z)
    omega
  obtain ⟨p, p', cs, rfl⟩ : ∃ p p' cs, ps = p :: p' :: cs := by
    match ps, c1' with
    | p :: p' :: cs, _ => exact ⟨p, p', cs, rfl⟩
    | [], z => exact absurd z (by decide)
    | [_], z => exact absurd z (by show ¬ 2 ≤ 1; decide)
  have hcl : cs.length ≤ 8 := by rw [List.length_cons, List.length_cons] at c2'; omega
  obtain ⟨a0, x0, h0⟩ := wds_get hW (i := 0) rfl
  obtain ⟨a1, x1, h1⟩ := wds_get hW (i := 1) rfl
  refine ⟨_, rfl, .inl ⟨D, _, 0, _, rfl, rfl, SqL.of hD1, atI_nat (j := 0) x0, _, p.length, rfl, .inl ⟨_, SqL.of h0, by rw [List.length_map]⟩, rfl, _, rfl, ?_⟩⟩
  refine ite2 (fun c3 => ?_) (fun c3 => ?_)
  · refine no (fun n ws cs e _ => ne_of_nd c3 ?_) _ s1
    cases e
    rfl
  have hp2 : p.length = 2 := by have := eq_of_nd c3; omega
  obtain ⟨gg, nn, rfl⟩ : ∃ gg nn, p = [gg, nn] := by
    match p, hp2 with
    | [gg, nn], _ => exact ⟨gg, nn, rfl⟩
  obtain ⟨w, ws, rfl⟩ : ∃ w ws, p' = w :: ws := by
    match p', (pw p' (by simp)).1 with
    | w :: ws, _ => exact ⟨w, ws, rfl⟩
    | [], z => exact absurd rfl z
  have hw0 := pw [gg, nn] (by simp)
  have hw1 := pw (w :: ws) (by simp)
  refine ⟨_, rfl, .inl ⟨D, _, 0, _, rfl, rfl, SqL.of hD1, atI_nat (j := 0) x0, .inl ⟨a0, _, 0, _, rfl, rfl, SqL.of h0, atI_nat (j := 0) rfl, rfl, _, rfl, ?_⟩⟩⟩
  refine ite2 (fun c4 => ?_) (fun c4 => ?_)
  · refine no (fun n ws cs e _ => sne_of_nd c4 ?_) _ s1
    cases e
    rfl
  have hg : gg = wGr := seq_of_nd c4
  subst hg
  refine ⟨_, rfl, .inl ⟨D, _, 1, _, rfl, rfl, SqL.of hD1, atI_nat (j := 1) x1, .inl ⟨a1, _, 0, _, rfl, rfl, SqL.of h1, atI_nat (j := 0) rfl, rfl, _, rfl, ?_⟩⟩⟩
  refine ite2 (fun c5 => ?_) (fun c5 => ?_)
  · refine no (fun n ws cs e _ => sne_of_nd c5 ?_) _ s1
    cases e
    rfl
  have hwi : w = wWi := seq_of_nd c5
  subst hwi
  have noA : (Asks nn ws cs → False) → ∀ H', Same H H' → Q .non H' := fun h => no fun n' ws' cs' e a => by
    cases e
    exact h a
  clear no bad
  refine ⟨_, rfl, .inl ⟨D, _, 0, _, rfl, rfl, SqL.of hD1, atI_nat (j := 0) x0, .inl ⟨a0, _, 1, _, rfl, rfl, SqL.of h0, atI_nat (j := 1) rfl, nn, rfl, hw0.2.2 nn (by simp), ?_⟩⟩⟩
  refine ⟨_, rfl, .inl ⟨D, _, 1, _, rfl, rfl, SqL.of hD1, atI_nat (j := 1) x1, 1, rfl, .inl ⟨a1, _, rfl, SqL.of h1, fun k2 hk2 => ?_⟩⟩⟩
  have ec2 : cutV ((wWi :: ws).map V.str) (some 1) none = ws.map V.str := cut_from (xs := (wWi :: ws).map V.str) 1 (by rw [List.length_map, List.length_cons]; omega)
  rw [ec2]
  have hwl : ws.length ≤ 999 := by have := hw1.2.1; rw [List.length_cons] at this; omega
  refine ⟨k2, rfl, ⟨_, SqL.of upd_same⟩, fun D2 hD2 => ?_⟩
  refine map_list ws V.str numV upd_same (by omega) hD2 (fun z hz H' Q' s q' => ⟨_, rfl, z, rfl, hw1.2.2 z (List.mem_cons_of_mem _ hz), q' _ Same.rfl'⟩) (fun H2 s2 hDD => ?_)
  have s12 : Same H1 H2 := fun b o qb => s2 _ _ (same_new hk2 _ _ _ qb)
  have s02 := s1.trans s12
  refine ⟨_, rfl, rfl, _, rfl, ?_⟩
  by_cases hm0 : 0 ≤ numW nn
  case neg =>
    rw [numV_non hm0]
    exact ite2 (fun _ => noA (fun a => hm0 (by have := a.n1; omega)) _ s02) (fun z => absurd (decide_eq_true rfl) z)
  rw [numV_int hm0]
  refine ite2 (fun z => absurd (of_decide_eq_true z) (by intro e; cases e)) (fun _ => ?_)
  refine ⟨_, rfl, rfl, _, rfl, ?_⟩
  refine ite2 (fun c6 => ?_) (fun c6 => ?_)
  · refine noA (fun a => ?_) _ s02
    have h1 : V.int (numW nn) = V.int 0 := of_decide_eq_true c6
    injection h1 with h1
    have := a.n1
    omega
  have m1 : 1 ≤ numW nn := by
    have h1 : numW nn ≠ 0 := fun e => c6 (decide_eq_true (by rw [e]))
    omega
  have m9 := (num_fig hm0).1.2
  refine ⟨_, rfl, D2, rfl, ⟨_, SqL.of hDD⟩, fun D4 hD4 => ?_⟩
  refine map_list ws numV (fun w => .bl (decide (0 ≤ numW w ∧ numW w < numW nn))) hDD (by omega) hD4 (fun w hw' H' Q' s q' => ?_) (fun H4 s4 hD5 => ?_)
  · refine ⟨_, rfl, rfl, _, rfl, ?_⟩
    by_cases h0 : 0 ≤ numW w
    · rw [numV_int h0]
      refine ite2 (fun _ => ?_) (fun z => absurd (by rw [decide_eq_false (fun e => by cases e)]; rfl) z)
      refine ⟨_, rfl, _, rfl, _, _, rfl, rfl, ?_⟩
      have := q' _ Same.rfl'
      rw [show decide (0 ≤ numW w ∧ numW w < numW nn) = decide (numW w < numW nn) by simp [h0]] at this
      exact this
    · rw [numV_non h0]
      refine ite2 (fun z => absurd z (by rw [decide_eq_true rfl]; decide)) (fun _ => ?_)
      have := q' _ Same.rfl'
      rw [show decide (0 ≤ numW w ∧ numW w < numW nn) = false by simp [h0]] at this
      exact this
  refine ⟨D4, ws.map (fun w => decide (0 ≤ numW w ∧ numW w < numW nn)), rfl, SqL.of (by rw [List.map_map]; exact hD5), _, rfl, ?_⟩
  have e7 : (ws.map (fun w => decide (0 ≤ numW w ∧ numW w < numW nn))).all id = ws.all fun w => decide (0 ≤ numW w ∧ numW w < numW nn) := by rw [List.all_map]; rfl
  rw [e7]
  have s04 := s02.trans s4
  refine ite2 (fun c7 => ?_) (fun c7 => ?_)
  · refine noA (fun a => ?_) _ s04
    have h1 : (ws.all fun w => decide (0 ≤ numW w ∧ numW w < numW nn)) = true := by
      rw [List.all_eq_true]
      exact fun w hw' => decide_eq_true (a.wl w hw')
    rw [h1] at c7
    cases c7
  have hwm : ∀ w ∈ ws, 0 ≤ numW w ∧ numW w < numW nn := fun w hw' => of_decide_eq_true (List.all_eq_true.mp (nb_not c7) w hw')
  have hD4' := s4 _ _ hDD
  rw [nums_nI hwm] at hD4'
  refine ⟨_, rfl, _, rfl, D2, ws.map (fun w => (numW w).toNat), rfl, SqL.of hD4', fun y hy => ?_, fun sa ds hsa nd hmm => ?_⟩
  · obtain ⟨w, hw', rfl⟩ := List.mem_map.mp hy
    have := hwm w hw'
    omega
  refine ⟨sa, ds, rfl, upd_same, fun l2 ms hl2 pm so => ?_⟩
  refine ⟨D2, l2, _, _, rfl, rfl, SqL.of (same_new hl2 _ _ _ (same_new hsa _ _ _ hD4')), SqL.of upd_same, flat_nI _, flat_nI _, _, rfl, ?_⟩
  rw [eqVs_nI]
  have ss := (sorted_set nd hmm pm so).trans (rise_nats hwm)
  have s46 := (same_new hsa (DSet w sa ds)).trans (same_new hl2 (.lst (ms.map nI)))
  have s06 := s04.trans s46
  refine ite2 (fun c8 => ?_) (fun c8 => ?_)
  · exact noA (fun a => of_decide_eq_false (not_nb c8) (ss.mpr a.ris)) _ s06
  have hris := ss.mp (of_decide_eq_true (nb_not c8))
  have s16 := (s12.trans s4).trans s46
  refine ⟨_, rfl, 2, rfl, .inl ⟨D, _, rfl, SqL.of (s16 _ _ hD1), fun k hk => ?_⟩⟩
  have ec : cutV ys (some 2) none = ys.drop 2 := cut_from (xs := ys) 2 (by rw [hlen, List.length_cons, List.length_cons]; omega)
  rw [ec]
  have s67 := same_new hk (.lst (ys.drop 2))
  refine ⟨k, rfl, ⟨_, SqL.of upd_same⟩, fun D6 hD6 => ?_⟩
  have hrl : (ys.drop 2).length = cs.length := by rw [List.length_drop, hlen, List.length_cons, List.length_cons]; omega
  refine comp_list (xs := ys.drop 2) (fun i zs H' => Same (upd (upd (upd H4 sa (DSet w sa ds)) l2 (.lst (ms.map nI))) k (.lst (ys.drop 2))) H' ∧ Ths H' ((cs.take i).map (dueC (numW nn))) zs) ⟨same_new hD6 _, .nil⟩ (fun i zs H' hh _ => SqL.of (hh.1 _ _ upd_same)) ?_ ?_
  · rintro i zs H' z hz ⟨t1, hT⟩ hD'
    have hi : i < (ys.drop 2).length := (List.getElem?_eq_some_iff.mp hz).1
    have hci : cs[i]? = some (cs.getD i []) := by simp [List.getD, show i < cs.length by omega]
    obtain ⟨ac, xc, hc⟩ := wds_get hW (i := i + 2) (ws := cs.getD i []) (by rw [← hci]; rfl)
    rw [List.getElem?_drop, show 2 + i = i + 2 by omega, xc] at hz
    cases hz
    have hwc := pw (cs.getD i []) (List.mem_cons_of_mem _ (List.mem_cons_of_mem _ (List.mem_of_getElem? hci)))
    have hyl := hT.len
    rw [List.length_map, List.length_take] at hyl
    refine yes ⟨_, rfl, _, rfl, ac, numW nn, cs.getD i [], rfl, t1 _ _ (s67 _ _ (s16 _ _ hc)), hwc.2.1, hwc.2.2, m1, m9, fun v H8 t2 hv => ?_⟩
    have hD8 := t2 _ _ hD'
    have tk2 : Tk H8 (upd H8 D6 (.lst (zs ++ [v]))) := Tk.put hD8
    refine cyes hi rset1 hD8 (small1000 (by omega)) ⟨fun b o qb => ?_, ?_⟩
    · rw [upd_ne (ne_of_none qb hD6)]
      exact t2 _ _ (t1 _ _ qb)
    · rw [take_snoc hci, List.map_append]
      exact ths_snoc (ths_due tk2 (hT.same t2)) (dueC_tk tk2 (conn_tk tk2) hv)
  rintro zs H7 ⟨t1, hT⟩ hD7
  rw [hrl, List.take_length] at hT
  have hzl := hT.len
  rw [List.length_map] at hzl
  have s07 : Same H H7 := s06.trans (s67.trans t1)
  have hT' : ∀ (i : Nat) (cw : List Str), cs[i]? = some cw → ∃ z, zs[i]? = some z ∧ IsTh H7 (dueC (numW nn) cw) z := fun i cw hc => by
    have hi : i < cs.length := (List.getElem?_eq_some_iff.mp hc).1
    have hz : zs[i]? = some (zs.getD i .non) := by simp [List.getD, show i < zs.length by omega]
    exact ⟨_, hz, ths_get hT (by rw [List.getElem?_map, hc]; rfl) hz⟩
  refine ⟨_, rfl, D6, zs, rfl, rfl, SqL.of hD7, fun z hz => ?_, _, rfl, ?_⟩
  · obtain ⟨i, hi⟩ := List.getElem?_of_mem hz
    have hil : i < zs.length := (List.getElem?_eq_some_iff.mp hi).1
    have hci : cs[i]? = some (cs.getD i []) := by simp [List.getD, show i < cs.length by omega]
    obtain ⟨z', hz', ht⟩ := hT' i _ hci
    rw [hi] at hz'
    cases hz'
    by_cases e : connB (numW nn) (connTh (cs.getD i [])) = true
    · rw [dueC_yes e] at ht
      obtain ⟨n', p', r', _, e2⟩ := conn_tup e
      rw [e2] at ht
      obtain ⟨a, us, rfl, ea, _⟩ := ths_in ht
      exact .inr ⟨a, us, rfl, ea⟩
    · rw [dueC_no e] at ht
      cases ht
      exact .inl rfl
  refine ite2 (fun c9 => ?_) (fun c9 => ?_)
  · refine noA (fun a => ?_) _ s07
    obtain ⟨z, hz, ez⟩ := List.any_eq_true.mp c9
    obtain ⟨i, hi⟩ := List.getElem?_of_mem hz
    have hil : i < zs.length := (List.getElem?_eq_some_iff.mp hi).1
    have hci : cs[i]? = some (cs.getD i []) := by simp [List.getD, show i < cs.length by omega]
    obtain ⟨z', hz', ht⟩ := hT' i _ hci
    rw [hi] at hz'
    cases hz'
    have e := a.each _ (List.mem_of_getElem? hci)
    rw [dueC_yes e] at ht
    obtain ⟨n', p', r', _, e2⟩ := conn_tup e
    rw [e2] at ht
    obtain ⟨b, us, rfl, ea, _⟩ := ths_in ht
    cases ez
  have hall : ∀ cw ∈ cs, connB (numW nn) (connTh cw) = true := fun cw hc => by
    obtain ⟨i, hi⟩ := List.getElem?_of_mem hc
    obtain ⟨z, hz, ht⟩ := hT' i _ hi
    refine Classical.byContradiction fun e => c9 (List.any_eq_true.mpr ⟨z, List.mem_of_getElem? hz, ?_⟩)
    rw [dueC_no e] at ht
    cases ht
    rfl
  refine ⟨_, rfl, D6, rfl, ⟨_, SqL.of hD7⟩, fun D8 hD8 => ?_⟩
  refine comp_list (xs := zs) (fun i us H' => Same H7 H' ∧ us = ((cs.take i).map fun cw => cw.headD "").map V.str) ⟨same_new hD8 _, rfl⟩ (fun i us H' hh _ => SqL.of (hh.1 _ _ hD7)) ?_ ?_
  · rintro i us H' z hz ⟨t2, rfl⟩ hD'
    have hi : i < zs.length := (List.getElem?_eq_some_iff.mp hz).1
    have hci : cs[i]? = some (cs.getD i []) := by simp [List.getD, show i < cs.length by omega]
    obtain ⟨z', hz', ht⟩ := hT' i _ hci
    rw [hz] at hz'
    cases hz'
    have e := hall _ (List.mem_of_getElem? hci)
    rw [dueC_yes e] at ht
    obtain ⟨n', p', r', en, e2⟩ := conn_tup e
    rw [e2] at ht
    obtain ⟨b, vs, rfl, eb, hv⟩ := ths_in ht
    cases hv with
    | cons r0 hv =>
    cases r0
    refine yes ⟨_, rfl, .inr (.inl ⟨b, _, 0, _, rfl, rfl, SqT.of (t2 _ _ eb), atI_nat (j := 0) rfl, ?_⟩)⟩
    refine cyes hi rset1 hD' (by rw [List.length_map, List.length_map, List.length_take]; exact small1000 (by omega)) ⟨fun b o qb => ?_, ?_⟩
    · rw [upd_ne (ne_of_none qb hD8)]
      exact t2 _ _ qb
    · rw [take_snoc hci, List.map_append, List.map_append, en]
      rfl
  rintro us H8 ⟨t2, rfl⟩ hD9
  rw [← hzl, List.take_length] at hD9
  refine ⟨D8, cs.map (fun cw => cw.headD ""), rfl, SqL.of hD9, by rw [List.length_map]; omega, fun S hS => ?_⟩
  have t3 := t2.trans (same_new hS (StrSet P w S (dedK (cs.map fun cw => cw.headD ""))))
  refine ⟨S, _, rfl, upd_same, ?_⟩
  refine ⟨_, rfl, _, zs.length, rfl, .inl ⟨_, SqL.of (t3 _ _ hD7), rfl⟩, rfl, _, rfl, ?_⟩
  have s09 := s07.trans t3
  refine ite2 (fun c10 => ?_) (fun c10 => ?_)
  · refine noA (fun a => ne_of_nd c10 ?_) _ s09
    rw [dedK_nodup a.nd, List.length_map, hzl]
  have hnd : (cs.map fun cw => cw.headD "").Nodup := by
    rw [← dedK_iff, List.length_map]
    have := eq_of_nd c10
    omega
  have asks : Asks nn ws cs := ⟨hcl, m1, hwm, hris, hall, hnd⟩
  have hread := read_of hps asks
  have hD2' := (s46.trans (s67.trans (t1.trans t3))) _ _ hD4'
  rw [← nums_nI hwm] at hD2'
  refine ⟨_, rfl, _, rfl, D2, _, rfl, .inl ⟨SqL.of hD2', fun wt hwt => ?_⟩⟩
  have u1 := same_new hwt (.tup (ws.map numV))
  refine ⟨_, rfl, D6, _, rfl, .inl ⟨SqL.of (u1 _ _ (t3 _ _ hD7)), fun ct hct => ?_⟩⟩
  have u2 := same_new hct (.tup zs)
  refine ⟨small9 (by show 3 ≤ 1000; decide), fun tt htt => ?_⟩
  have u3 := same_new htt (.tup [.int (numW nn), .ref wt, .ref ct])
  refine good hread _ _ (s09.trans (u1.trans (u2.trans u3))) ?_
  rw [tbl_of]
  refine Ths.tup (vs := [.int (numW nn), .ref wt, .ref ct]) (.cons (.int _) (.cons ?_ (.cons ?_ .nil))) upd_same (by show 3 ≤ 1000; decide)
  · exact Ths.tup (ths_map numT numV ws fun w hw' => by rw [numV_int (hwm w hw').1]; exact .int _) (u3 _ _ (u2 _ _ upd_same)) (by rw [List.length_map]; omega)
  · have ed : cs.map (dueC (numW nn)) = cs.map connTh := List.map_congr_left fun cw hc => dueC_yes (hall cw hc)
    rw [ed] at hT
    exact Ths.tup (hT.same (t3.trans (u1.trans (u2.trans u3)))) (u3 _ _ upd_same) (by rw [List.length_map]; omega)

abbrev s_law_right : Stmt := top 38
theorem sc_law_right : FnScope ["_law_text_here", "_law_found", "_law_due_here"] ["_law_text_here"] (defScope s_law_right) := ⟨rfl, rfl, rfl, by decide +kernel, rfl, by decide +kernel, by decide +kernel⟩
theorem ok_law_right {P : Program} {w : World} {K : PySem.W.Frag} {mg : Str → Option Value} {base : Heap} {f : Addr} {fd : FuncData} (F : Fun K "_law_right" "_law_right" s_law_right f fd) (gb : Gb mg) {c : Nat → Addr} (cl : Cl K mg c) (d_read_table : Def1 P w K mg base 8 "read_table" ["text"] (spReadW (c 1))) (d_law_due : Def P w K mg base 3 "_law_due" ["_law_text_here"] spDue7) (d_show_table : Def P w K mg base 2 "show_table" ["T"] spShow) : FnOk P w K mg base CX0 9 f fd ["_law_text_here"] spRight7 := by
  refine F.ok sc_law_right (fun vs H Q E h => ?_) (fun cdv A outer s H vs Q E hr h => ?_)
  · obtain ⟨x, rfl, _⟩ := h
    rfl
  obtain ⟨x, rfl, hx, q⟩ := h
  refine ⟨_, (@pss_cons _ _ _ _ _ (@ps_set _ _ 1 _ _ _ _ sc_law_right.nd rfl (Or.inl rfl) (@pe_non _ _ _) (by rfl) (by first | exact .inl rfl | exact .inr rfl | assumption)) (@pss_cons _ _ _ _ _ (@ps_try _ _ _ _ _ _ _ _ _ _ _ rfl rfl rfl cl.g_NoTable (@psx_set _ 1 _ _ _ _ _ sc_law_right.nd rfl (Or.inl rfl) (@pex_def _ _ _ _ _ _ _ _ _ _ _ d_read_table hr (by omega) rfl (@pa_cons _ _ _ _ _ (@pv _ 0 _ _ (by rfl) (by first | exact Or.inl rfl | exact Or.inr (Or.inl rfl) | exact Or.inr (Or.inr rfl)) (by decide) (by decide)) (@pa_nil _) (by rfl)) (by decide) (by rfl) (by rfl)) (by rfl) (by first | exact .inl rfl | exact .inr rfl | assumption)) (fun _ => (@pss_one _ _ _ (@ps_set _ _ 1 _ _ _ _ sc_law_right.nd rfl (Or.inl rfl) (@pe_non _ _ _) (by rfl) (by first | exact .inl rfl | exact .inr rfl | assumption)))) (by decide)) (@pss_cons _ _ _ _ _ (@ps_set _ _ 2 _ _ _ _ sc_law_right.nd rfl (Or.inl rfl) (@pe_def _ _ _ _ _ _ _ _ _ _ _ d_law_due hr (by omega) rfl (@pa_cons _ _ _ _ _ (@pv _ 0 _ _ (by rfl) (by first | exact Or.inl rfl | exact Or.inr (Or.inl rfl) | exact Or.inr (Or.inr rfl)) (by decide) (by decide)) (@pa_nil _) (by rfl)) (by decide) (by rfl) (by rfl)) (by rfl) (by first | exact .inl rfl | exact .inr rfl | assumption)) (@pss_one _ _ _ (@ps_ret _ _ _ _ (@pe_and _ _ _ _ _ _ _ (@pe_cmpR _ _ _ _ _ _ _ _ (@op_eqN _ 3 _ hr (by decide)) (@pv _ 1 _ _ (by rfl) (by first | exact Or.inl rfl | exact Or.inr (Or.inl rfl) | exact Or.inr (Or.inr rfl)) (by decide) (by decide)) (@pv _ 2 _ _ (by rfl) (by first | exact Or.inl rfl | exact Or.inr (Or.inl rfl) | exact Or.inr (Or.inr rfl)) (by decide) (by decide)) (@nomark _ _ (by decide) (by decide))) (@pe_one _ _ _ _ _ (@pe_or _ _ _ _ _ _ _ (@pe_cmpR _ _ _ _ _ _ _ _ (@op_isN _) (@pv _ 2 _ _ (by rfl) (by first | exact Or.inl rfl | exact Or.inr (Or.inl rfl) | exact Or.inr (Or.inr rfl)) (by decide) (by decide)) (@pe_non _ _ _) (@nomark _ _ (by decide) (by decide))) (@pe_one _ _ _ _ _ (@pe_cmpR _ _ _ _ _ _ _ _ (@op_eq _) (@pe_def _ _ _ _ _ _ _ _ _ _ _ d_show_table hr (by omega) rfl (@pa_cons _ _ _ _ _ (@pv _ 1 _ _ (by rfl) (by first | exact Or.inl rfl | exact Or.inr (Or.inl rfl) | exact Or.inr (Or.inr rfl)) (by decide) (by decide)) (@pa_nil _) (by rfl)) (by decide) (by rfl) (by rfl)) (@pv _ 0 _ _ (by rfl) (by first | exact Or.inl rfl | exact Or.inr (Or.inl rfl) | exact Or.inr (Or.inr rfl)) (by decide) (by decide)) (@nomark _ _ (by decide) (by decide)))))))))))), ?_⟩
  refine ⟨_, rfl, .str x, _, rfl, .str _ (by omega), (fun y e => by cases e; exact hx), fun hb H1 s1 => ⟨cl.m_NoTable, ?_⟩, fun hb H1 v s1 hv => ?_⟩
  · refine ⟨_, rfl, x, rfl, hx, fun v H2 s2 hv => ?_⟩
    rw [due_no (by rw [hb]; decide)] at hv
    cases hv
    refine ⟨_, rfl, _, rfl, .inl ⟨rfl, rfl, _, rfl, ?_⟩⟩
    refine iteT ?_
    refine ⟨_, rfl, rfl, _, rfl, ?_⟩
    exact ite2 (fun _ => q _ (s1.trans s2)) (fun z => absurd (decide_eq_true rfl) z)
  · refine ⟨_, rfl, x, rfl, hx, fun v' H2 s2 hv' => ?_⟩
    rw [due_yes hb] at hv'
    obtain ⟨T, g, fu, eP, eT⟩ := read_T hb
    have e7 : tableTh (parse (strTh (.str x))) = thT T := by show tableTh (parse x) = _; rw [eP, table_text g fu]
    rw [e7] at hv
    have e8 : tableTh (parse x) = thT T := e7
    rw [e8] at hv'
    have hv2 := hv.same s2
    have al := alike_th 4 (ok_table T) hv2 hv'
    rcases al with ⟨e0, z⟩ | ⟨a', b', xs', ys', rfl, rfl, k1, k2, pr⟩
    · obtain ⟨a', xs', rfl, _⟩ := ths_in hv2
      cases z
    refine ⟨_, rfl, _, rfl, .inr ⟨a', b', xs', ys', rfl, rfl, k1, k2, pr, _, rfl, ?_⟩⟩
    refine iteT ?_
    refine ⟨_, rfl, rfl, _, rfl, ?_⟩
    refine ite2 (fun z => absurd (of_decide_eq_true z) (by intro e; cases e)) (fun _ => ?_)
    refine ⟨_, rfl, _, T, rfl, half_in hv2, g, fu, fun H3 s3 => ⟨_, rfl, rfl, ?_⟩⟩
    rw [eT, decide_eq_true rfl]
    exact q _ ((s1.trans s2).trans s3)

abbrev s_law : Stmt := top 39
theorem sc_law : FnScope ["_law_script"] ["_law_script"] (defScope s_law) := ⟨rfl, rfl, rfl, by decide +kernel, rfl, by decide +kernel, by decide +kernel⟩
theorem ok_law {P : Program} {w : World} {K : PySem.W.Frag} {mg : Str → Option Value} {base : Heap} {f : Addr} {fd : FuncData} (F : Fun K "law" "law" s_law f fd) (gb : Gb mg) {c : Nat → Addr} (cl : Cl K mg c) (d_law_text : Def P w K mg base 3 "_law_text" ["_law_cell"] spText7) (d_law_right : Def P w K mg base 9 "_law_right" ["_law_text_here"] spRight7) : FnOk P w K mg base CX0 10 f fd ["_law_script"] (spLaw K) := by
  refine F.ok sc_law (fun vs H Q E h => ?_) (fun cdv A outer s H vs Q E hr h => ?_)
  · obtain ⟨a, ns, rfl, _⟩ := h
    rfl
  obtain ⟨a, ns, rfl, hS, h63, q⟩ := h
  have nd0 : (["_law_cell"] : List Str).Nodup := by decide +kernel
  refine ⟨_, (@pss_one _ _ _ (@ps_ret _ _ _ _ (@pe_callB _ _ _ _ _ _ _ _ _ (@kcall_all _ K rfl (by rfl)) rfl gb.all bt_all (@pa_cons _ _ _ _ _ (@pe_comp _ ["_law_cell"] [none] _ _ _ _ _ _ _ _ _ _ (by exact (show CompOk ["_law_script"] (defScope s_law) ["_law_cell"] [none] _ from ⟨rfl, by decide +kernel, by decide +kernel, by decide +kernel, by decide +kernel, rfl, by decide +kernel⟩)) rfl (@kpi_list _ K _ _ _ (@pe_op _ _ _ _ _ _ _ _ (@op_catQ _ K (by rfl)) (@pe_lst _ _ _ _ (@pa_cons _ _ _ _ _ (@pe_int _ _ _ _) (@pa_nil _) (by rfl))) (@pv _ 0 _ _ (by rfl) (by first | exact Or.inl rfl | exact Or.inr (Or.inl rfl) | exact Or.inr (Or.inr rfl)) (by decide) (by decide))) (by rfl)) (fun _ _ _ _ => (@pg_name _ _ 0 _ nd0 rfl (Or.inl rfl) (by first | exact .inl rfl | exact .inr rfl | assumption))) (fun _ _ _ _ => (@pf_nil _)) (fun _ _ _ _ => (@pe_def _ _ _ _ _ _ _ _ _ _ _ d_law_right hr (by omega) rfl (@pa_cons _ _ _ _ _ (@pe_def _ _ _ _ _ _ _ _ _ _ _ d_law_text hr (by omega) rfl (@pa_cons _ _ _ _ _ (@pv _ 0 _ _ (by rfl) (by first | exact Or.inl rfl | exact Or.inr (Or.inl rfl) | exact Or.inr (Or.inr rfl)) (by decide) (by decide)) (@pa_nil _) (by rfl)) (by decide) (by rfl) (by rfl)) (@pa_nil _) (by rfl)) (by decide) (by rfl) (by rfl))) (by intro _; rfl)) (@pa_nil _) (by rfl)) (by decide) (by decide) (by rfl) (by rfl)))), ?_⟩
  refine ⟨small9 (by show 1 ≤ 1000; decide), fun z hz => ?_⟩
  have hS1 : SqL K (upd H z (.lst [.int 0])) a (ns.map V.int) := (same_new hz _).seq hS
  refine ⟨_, rfl, z, a, _, _, rfl, rfl, SqL.of upd_same, hS1, by rw [List.length_map]; exact small9 (by show 1 + ns.length ≤ 1000; omega), fun l hl => ?_⟩
  rw [cat_ints]
  refine ⟨l, rfl, ⟨_, SqL.of upd_same⟩, fun D hD => ?_⟩
  refine map_list (0 :: ns) V.int (fun _ => .bl true) upd_same (by rw [List.length_cons]; omega) hD (fun c hc H' Q' s q' => ?_) (fun H' s hD' => ?_)
  · exact ⟨_, rfl, c, rfl, fun x H2 s2 hx => ⟨x, rfl, hx, fun H3 s3 => q' _ (s2.trans s3)⟩⟩
  rw [trues] at hD'
  refine ⟨D, _, rfl, SqL.of hD', ?_⟩
  rw [all_trues]
  exact q _

theorem lenK1 {α : Type} : ∀ {us : List α}, us.length = 1 → ∃ x0, us = [x0]
  | [x0], _ => ⟨x0, rfl⟩
theorem lenK2 {α : Type} : ∀ {us : List α}, us.length = 2 → ∃ x0 x1, us = [x0, x1]
  | [x0, x1], _ => ⟨x0, x1, rfl⟩
theorem lenK3 {α : Type} : ∀ {us : List α}, us.length = 3 → ∃ x0 x1 x2, us = [x0, x1, x2]
  | [x0, x1, x2], _ => ⟨x0, x1, x2, rfl⟩
theorem all_mk {l : PySem.W.OpenLaw} {w : World} {K : PySem.W.Frag} {h : Heap} {mg : Str → Option Value} {fa f0 f1 f2 f3 f4 f5 f6 f7 f8 f9 f10 f11 f12 f13 f14 f15 f16 f17 f18 f19 f20 f21 f22 f23 f24 f25 f26 f27 f28 : Addr} (X : K.In h) (G : h.Ns mainGlobals mg) (hfa : mg "law" = some (.ref fa))
    {od0 an0 od1 an1 od2 an2 od3 an3 od4 an4 od5 an5 od6 an6 od7 an7 od8 an8 od9 an9 od10 an10 od11 an11 od12 an12 od13 an13 od14 an14 od15 an15 od16 an16 od17 an17 od18 an18 od19 an19 od20 an20 od21 an21 od22 an22 od23 an23 od24 an24 od25 an25 od26 an26 od27 an27 od28 an28 : Option Addr} {sl0 sl1 sl2 sl3 sl4 sl5 sl6 sl7 sl8 sl9 sl10 sl11 sl12 sl13 sl14 sl15 sl16 sl17 sl18 sl19 sl20 sl21 sl22 sl23 sl24 sl25 sl26 sl27 sl28 : Array (Option Value)} {oc0 kV0 dc0 pm0 cd0 ct0 oc1 kV1 dc1 pm1 cd1 ct1 oc2 kV2 dc2 pm2 cd2 ct2 oc3 kV3 dc3 pm3 cd3 ct3 oc4 kV4 dc4 pm4 cd4 ct4 oc5 kV5 dc5 pm5 cd5 ct5 oc6 kV6 dc6 pm6 cd6 ct6 oc7 kV7 dc7 pm7 cd7 ct7 oc8 kV8 dc8 pm8 cd8 ct8 oc9 kV9 dc9 pm9 cd9 ct9 oc10 kV10 dc10 pm10 cd10 ct10 oc11 kV11 dc11 pm11 cd11 ct11 oc12 kV12 dc12 pm12 cd12 ct12 oc13 kV13 dc13 pm13 cd13 ct13 oc14 kV14 dc14 pm14 cd14 ct14 oc15 kV15 dc15 pm15 cd15 ct15 oc16 kV16 dc16 pm16 cd16 ct16 oc17 kV17 dc17 pm17 cd17 ct17 oc18 kV18 dc18 pm18 cd18 ct18 oc19 kV19 dc19 pm19 cd19 ct19 oc20 kV20 dc20 pm20 cd20 ct20 oc21 kV21 dc21 pm21 cd21 ct21 oc22 kV22 dc22 pm22 cd22 ct22 oc23 kV23 dc23 pm23 cd23 ct23 oc24 kV24 dc24 pm24 cd24 ct24 oc25 kV25 dc25 pm25 cd25 ct25 oc26 kV26 dc26 pm26 cd26 ct26 oc27 kV27 dc27 pm27 cd27 ct27 oc28 kV28 dc28 pm28 cd28 ct28 : Value}
    (a0 : PySem.W.nsIn K mainGlobals "_law_draw" = some (some (.ref f0))) (l0 : K.lookup f0 = some ⟨oc0, od0, .func (PySem.W.fnOf "_law_draw" "_law_draw" (defArgs s_law_draw) (defBody s_law_draw) (defScope s_law_draw) .none kV0 dc0 pm0 an0 cd0 ct0), sl0⟩) (c0 : PySem.W.codeIn K cd0 "_law_draw" = true) (k0 : PySem.W.keepIn K (.ref f0) = true)
    (a1 : PySem.W.nsIn K mainGlobals "_law_pool" = some (some (.ref f1))) (l1 : K.lookup f1 = some ⟨oc1, od1, .func (PySem.W.fnOf "_law_pool" "_law_pool" (defArgs s_law_pool) (defBody s_law_pool) (defScope s_law_pool) .none kV1 dc1 pm1 an1 cd1 ct1), sl1⟩) (c1 : PySem.W.codeIn K cd1 "_law_pool" = true) (k1 : PySem.W.keepIn K (.ref f1) = true)
    (a2 : PySem.W.nsIn K mainGlobals "power" = some (some (.ref f2))) (l2 : K.lookup f2 = some ⟨oc2, od2, .func (PySem.W.fnOf "power" "power" (defArgs s_power) (defBody s_power) (defScope s_power) .none kV2 dc2 pm2 an2 cd2 ct2), sl2⟩) (c2 : PySem.W.codeIn K cd2 "power" = true) (k2 : PySem.W.keepIn K (.ref f2) = true)
    (a3 : PySem.W.nsIn K mainGlobals "count_nones" = some (some (.ref f3))) (l3 : K.lookup f3 = some ⟨oc3, od3, .func (PySem.W.fnOf "count_nones" "count_nones" (defArgs s_count_nones) (defBody s_count_nones) (defScope s_count_nones) .none kV3 dc3 pm3 an3 cd3 ct3), sl3⟩) (c3 : PySem.W.codeIn K cd3 "count_nones" = true) (k3 : PySem.W.keepIn K (.ref f3) = true)
    (a4 : PySem.W.nsIn K mainGlobals "is_whole" = some (some (.ref f4))) (l4 : K.lookup f4 = some ⟨oc4, od4, .func (PySem.W.fnOf "is_whole" "is_whole" (defArgs s_is_whole) (defBody s_is_whole) (defScope s_is_whole) .none kV4 dc4 pm4 an4 cd4 ct4), sl4⟩) (c4 : PySem.W.codeIn K cd4 "is_whole" = true) (k4 : PySem.W.keepIn K (.ref f4) = true)
    (a5 : PySem.W.nsIn K mainGlobals "has_small_letters_alone" = some (some (.ref f5))) (l5 : K.lookup f5 = some ⟨oc5, od5, .func (PySem.W.fnOf "has_small_letters_alone" "has_small_letters_alone" (defArgs s_has_small_letters_alone) (defBody s_has_small_letters_alone) (defScope s_has_small_letters_alone) .none kV5 dc5 pm5 an5 cd5 ct5), sl5⟩) (c5 : PySem.W.codeIn K cd5 "has_small_letters_alone" = true) (k5 : PySem.W.keepIn K (.ref f5) = true)
    (a6 : PySem.W.nsIn K mainGlobals "is_name" = some (some (.ref f6))) (l6 : K.lookup f6 = some ⟨oc6, od6, .func (PySem.W.fnOf "is_name" "is_name" (defArgs s_is_name) (defBody s_is_name) (defScope s_is_name) .none kV6 dc6 pm6 an6 cd6 ct6), sl6⟩) (c6 : PySem.W.codeIn K cd6 "is_name" = true) (k6 : PySem.W.keepIn K (.ref f6) = true)
    (a7 : PySem.W.nsIn K mainGlobals "is_grade" = some (some (.ref f7))) (l7 : K.lookup f7 = some ⟨oc7, od7, .func (PySem.W.fnOf "is_grade" "is_grade" (defArgs s_is_grade) (defBody s_is_grade) (defScope s_is_grade) .none kV7 dc7 pm7 an7 cd7 ct7), sl7⟩) (c7 : PySem.W.codeIn K cd7 "is_grade" = true) (k7 : PySem.W.keepIn K (.ref f7) = true)
    (a8 : PySem.W.nsIn K mainGlobals "are_rising_grades" = some (some (.ref f8))) (l8 : K.lookup f8 = some ⟨oc8, od8, .func (PySem.W.fnOf "are_rising_grades" "are_rising_grades" (defArgs s_are_rising_grades) (defBody s_are_rising_grades) (defScope s_are_rising_grades) .none kV8 dc8 pm8 an8 cd8 ct8), sl8⟩) (c8 : PySem.W.codeIn K cd8 "are_rising_grades" = true) (k8 : PySem.W.keepIn K (.ref f8) = true)
    (a9 : PySem.W.nsIn K mainGlobals "are_cells" = some (some (.ref f9))) (l9 : K.lookup f9 = some ⟨oc9, od9, .func (PySem.W.fnOf "are_cells" "are_cells" (defArgs s_are_cells) (defBody s_are_cells) (defScope s_are_cells) .none kV9 dc9 pm9 an9 cd9 ct9), sl9⟩) (c9 : PySem.W.codeIn K cd9 "are_cells" = true) (k9 : PySem.W.keepIn K (.ref f9) = true)
    (a10 : PySem.W.nsIn K mainGlobals "is_connective" = some (some (.ref f10))) (l10 : K.lookup f10 = some ⟨oc10, od10, .func (PySem.W.fnOf "is_connective" "is_connective" (defArgs s_is_connective) (defBody s_is_connective) (defScope s_is_connective) .none kV10 dc10 pm10 an10 cd10 ct10), sl10⟩) (c10 : PySem.W.codeIn K cd10 "is_connective" = true) (k10 : PySem.W.keepIn K (.ref f10) = true)
    (a11 : PySem.W.nsIn K mainGlobals "are_connectives" = some (some (.ref f11))) (l11 : K.lookup f11 = some ⟨oc11, od11, .func (PySem.W.fnOf "are_connectives" "are_connectives" (defArgs s_are_connectives) (defBody s_are_connectives) (defScope s_are_connectives) .none kV11 dc11 pm11 an11 cd11 ct11), sl11⟩) (c11 : PySem.W.codeIn K cd11 "are_connectives" = true) (k11 : PySem.W.keepIn K (.ref f11) = true)
    (a12 : PySem.W.nsIn K mainGlobals "is_half" = some (some (.ref f12))) (l12 : K.lookup f12 = some ⟨oc12, od12, .func (PySem.W.fnOf "is_half" "is_half" (defArgs s_is_half) (defBody s_is_half) (defScope s_is_half) .none kV12 dc12 pm12 an12 cd12 ct12), sl12⟩) (c12 : PySem.W.codeIn K cd12 "is_half" = true) (k12 : PySem.W.keepIn K (.ref f12) = true)
    (a13 : PySem.W.nsIn K mainGlobals "is_table" = some (some (.ref f13))) (l13 : K.lookup f13 = some ⟨oc13, od13, .func (PySem.W.fnOf "is_table" "is_table" (defArgs s_is_table) (defBody s_is_table) (defScope s_is_table) .none kV13 dc13 pm13 an13 cd13 ct13), sl13⟩) (c13 : PySem.W.codeIn K cd13 "is_table" = true) (k13 : PySem.W.keepIn K (.ref f13) = true)
    (a14 : PySem.W.nsIn K mainGlobals "number_of" = some (some (.ref f14))) (l14 : K.lookup f14 = some ⟨oc14, od14, .func (PySem.W.fnOf "number_of" "number_of" (defArgs s_number_of) (defBody s_number_of) (defScope s_number_of) .none kV14 dc14 pm14 an14 cd14 ct14), sl14⟩) (c14 : PySem.W.codeIn K cd14 "number_of" = true) (k14 : PySem.W.keepIn K (.ref f14) = true)
    (a15 : PySem.W.nsIn K mainGlobals "numbers_of" = some (some (.ref f15))) (l15 : K.lookup f15 = some ⟨oc15, od15, .func (PySem.W.fnOf "numbers_of" "numbers_of" (defArgs s_numbers_of) (defBody s_numbers_of) (defScope s_numbers_of) .none kV15 dc15 pm15 an15 cd15 ct15), sl15⟩) (c15 : PySem.W.codeIn K cd15 "numbers_of" = true) (k15 : PySem.W.keepIn K (.ref f15) = true)
    (a16 : PySem.W.nsIn K mainGlobals "connective_of" = some (some (.ref f16))) (l16 : K.lookup f16 = some ⟨oc16, od16, .func (PySem.W.fnOf "connective_of" "connective_of" (defArgs s_connective_of) (defBody s_connective_of) (defScope s_connective_of) .none kV16 dc16 pm16 an16 cd16 ct16), sl16⟩) (c16 : PySem.W.codeIn K cd16 "connective_of" = true) (k16 : PySem.W.keepIn K (.ref f16) = true)
    (a17 : PySem.W.nsIn K mainGlobals "table_of" = some (some (.ref f17))) (l17 : K.lookup f17 = some ⟨oc17, od17, .func (PySem.W.fnOf "table_of" "table_of" (defArgs s_table_of) (defBody s_table_of) (defScope s_table_of) .none kV17 dc17 pm17 an17 cd17 ct17), sl17⟩) (c17 : PySem.W.codeIn K cd17 "table_of" = true) (k17 : PySem.W.keepIn K (.ref f17) = true)
    (a18 : PySem.W.nsIn K mainGlobals "read_table" = some (some (.ref f18))) (l18 : K.lookup f18 = some ⟨oc18, od18, .func (PySem.W.fnOf "read_table" "read_table" (defArgs s_read_table) (defBody s_read_table) (defScope s_read_table) .none kV18 dc18 pm18 an18 cd18 ct18), sl18⟩) (c18 : PySem.W.codeIn K cd18 "read_table" = true) (k18 : PySem.W.keepIn K (.ref f18) = true)
    (a19 : PySem.W.nsIn K mainGlobals "part_text" = some (some (.ref f19))) (l19 : K.lookup f19 = some ⟨oc19, od19, .func (PySem.W.fnOf "part_text" "part_text" (defArgs s_part_text) (defBody s_part_text) (defScope s_part_text) .none kV19 dc19 pm19 an19 cd19 ct19), sl19⟩) (c19 : PySem.W.codeIn K cd19 "part_text" = true) (k19 : PySem.W.keepIn K (.ref f19) = true)
    (a20 : PySem.W.nsIn K mainGlobals "show_table" = some (some (.ref f20))) (l20 : K.lookup f20 = some ⟨oc20, od20, .func (PySem.W.fnOf "show_table" "show_table" (defArgs s_show_table) (defBody s_show_table) (defScope s_show_table) .none kV20 dc20 pm20 an20 cd20 ct20), sl20⟩) (c20 : PySem.W.codeIn K cd20 "show_table" = true) (k20 : PySem.W.keepIn K (.ref f20) = true)
    (a21 : PySem.W.nsIn K mainGlobals "_law_part" = some (some (.ref f21))) (l21 : K.lookup f21 = some ⟨oc21, od21, .func (PySem.W.fnOf "_law_part" "_law_part" (defArgs s_law_part) (defBody s_law_part) (defScope s_law_part) .none kV21 dc21 pm21 an21 cd21 ct21), sl21⟩) (c21 : PySem.W.codeIn K cd21 "_law_part" = true) (k21 : PySem.W.keepIn K (.ref f21) = true)
    (a22 : PySem.W.nsIn K mainGlobals "_law_bent" = some (some (.ref f22))) (l22 : K.lookup f22 = some ⟨oc22, od22, .func (PySem.W.fnOf "_law_bent" "_law_bent" (defArgs s_law_bent) (defBody s_law_bent) (defScope s_law_bent) .none kV22 dc22 pm22 an22 cd22 ct22), sl22⟩) (c22 : PySem.W.codeIn K cd22 "_law_bent" = true) (k22 : PySem.W.keepIn K (.ref f22) = true)
    (a23 : PySem.W.nsIn K mainGlobals "_law_text" = some (some (.ref f23))) (l23 : K.lookup f23 = some ⟨oc23, od23, .func (PySem.W.fnOf "_law_text" "_law_text" (defArgs s_law_text) (defBody s_law_text) (defScope s_law_text) .none kV23 dc23 pm23 an23 cd23 ct23), sl23⟩) (c23 : PySem.W.codeIn K cd23 "_law_text" = true) (k23 : PySem.W.keepIn K (.ref f23) = true)
    (a24 : PySem.W.nsIn K mainGlobals "_law_number" = some (some (.ref f24))) (l24 : K.lookup f24 = some ⟨oc24, od24, .func (PySem.W.fnOf "_law_number" "_law_number" (defArgs s_law_number) (defBody s_law_number) (defScope s_law_number) .none kV24 dc24 pm24 an24 cd24 ct24), sl24⟩) (c24 : PySem.W.codeIn K cd24 "_law_number" = true) (k24 : PySem.W.keepIn K (.ref f24) = true)
    (a25 : PySem.W.nsIn K mainGlobals "_law_connective" = some (some (.ref f25))) (l25 : K.lookup f25 = some ⟨oc25, od25, .func (PySem.W.fnOf "_law_connective" "_law_connective" (defArgs s_law_connective) (defBody s_law_connective) (defScope s_law_connective) .none kV25 dc25 pm25 an25 cd25 ct25), sl25⟩) (c25 : PySem.W.codeIn K cd25 "_law_connective" = true) (k25 : PySem.W.keepIn K (.ref f25) = true)
    (a26 : PySem.W.nsIn K mainGlobals "_law_due" = some (some (.ref f26))) (l26 : K.lookup f26 = some ⟨oc26, od26, .func (PySem.W.fnOf "_law_due" "_law_due" (defArgs s_law_due) (defBody s_law_due) (defScope s_law_due) .none kV26 dc26 pm26 an26 cd26 ct26), sl26⟩) (c26 : PySem.W.codeIn K cd26 "_law_due" = true) (k26 : PySem.W.keepIn K (.ref f26) = true)
    (a27 : PySem.W.nsIn K mainGlobals "_law_right" = some (some (.ref f27))) (l27 : K.lookup f27 = some ⟨oc27, od27, .func (PySem.W.fnOf "_law_right" "_law_right" (defArgs s_law_right) (defBody s_law_right) (defScope s_law_right) .none kV27 dc27 pm27 an27 cd27 ct27), sl27⟩) (c27 : PySem.W.codeIn K cd27 "_law_right" = true) (k27 : PySem.W.keepIn K (.ref f27) = true)
    (a28 : PySem.W.nsIn K mainGlobals "law" = some (some (.ref f28))) (l28 : K.lookup f28 = some ⟨oc28, od28, .func (PySem.W.fnOf "law" "law" (defArgs s_law) (defBody s_law) (defScope s_law) .none kV28 dc28 pm28 an28 cd28 ct28), sl28⟩) (c28 : PySem.W.codeIn K cd28 "law" = true) (k28 : PySem.W.keepIn K (.ref f28) = true)
    (z0 : PySem.W.nsIn K mainGlobals "abs" = some none)
    (z1 : PySem.W.nsIn K mainGlobals "range" = some none)
    (z2 : PySem.W.nsIn K mainGlobals "tuple" = some none)
    (z3 : PySem.W.nsIn K mainGlobals "sum" = some none)
    (z4 : PySem.W.nsIn K mainGlobals "isinstance" = some none)
    (z5 : PySem.W.nsIn K mainGlobals "int" = some none)
    (z6 : PySem.W.nsIn K mainGlobals "bool" = some none)
    (z7 : PySem.W.nsIn K mainGlobals "str" = some none)
    (z8 : PySem.W.nsIn K mainGlobals "len" = some none)
    (z9 : PySem.W.nsIn K mainGlobals "all" = some none)
    (z10 : PySem.W.nsIn K mainGlobals "zip" = some none)
    (z11 : PySem.W.nsIn K mainGlobals "set" = some none)
    (z12 : PySem.W.nsIn K mainGlobals "sorted" = some none)
    {yt0 : Tok} (y0 : PySem.W.nsIn K mainGlobals "MOST_GRADES" = some (some (.int 9 yt0)))
    {yt1 : Tok} (y1 : PySem.W.nsIn K mainGlobals "MOST_PLACES" = some (some (.int 2 yt1)))
    {yt2 : Tok} (y2 : PySem.W.nsIn K mainGlobals "MOST_CONNECTIVES" = some (some (.int 8 yt2)))
    {yt3 : Tok} (y3 : PySem.W.nsIn K mainGlobals "FIGURES" = some (some (.str figures yt3)))
    (g0 : PySem.W.nsIn K mainGlobals "GradeError" = some (some (.ref cc0)))
    (g1 : PySem.W.nsIn K mainGlobals "NoTable" = some (some (.ref cc1)))
    (w0 : PySem.W.excIn K cc1 [.type "ValueError", .type "Exception", .type "BaseException", .type "object"] "ValueError.__new__" = true)
    (w1 : PySem.W.exmOne K (.ref cc1) (.ref cc1) = some true)
    : ∃ fd : FuncData, (∀ (s : Shared) (v : Value), BindsTo s fd ⟨[v], []⟩ [("_law_script", v)]) ∧ ∀ base : Heap, K.In base → base.Ns mainGlobals mg → FnOk l.prog w K mg base CX0 10 fa fd ["_law_script"] (spLaw K) := by
  have e := hfa.symm.trans (PySem.W.mg_of X G a28)
  cases e
  have F0 := fun_mk (st := s_law_draw) l0 c0 k0
  have b0 := F0.binds (ps := ["_law_pool_here", "_law_many"]) fun _ _ _ _ _ _ us hl => by obtain ⟨z0_, z1_, rfl⟩ := lenK2 hl; rfl
  have F1 := fun_mk (st := s_law_pool) l1 c1 k1
  have b1 := F1.binds (ps := ["_law_cell"]) fun _ _ _ _ _ _ us hl => by obtain ⟨z0_, rfl⟩ := lenK1 hl; rfl
  have F2 := fun_mk (st := s_power) l2 c2 k2
  have b2 := F2.binds (ps := ["base", "exponent"]) fun _ _ _ _ _ _ us hl => by obtain ⟨z0_, z1_, rfl⟩ := lenK2 hl; rfl
  have F3 := fun_mk (st := s_count_nones) l3 c3 k3
  have b3 := F3.binds (ps := ["H"]) fun _ _ _ _ _ _ us hl => by obtain ⟨z0_, rfl⟩ := lenK1 hl; rfl
  have F4 := fun_mk (st := s_is_whole) l4 c4 k4
  have b4 := F4.binds (ps := ["thing"]) fun _ _ _ _ _ _ us hl => by obtain ⟨z0_, rfl⟩ := lenK1 hl; rfl
  have F5 := fun_mk (st := s_has_small_letters_alone) l5 c5 k5
  have b5 := F5.binds (ps := ["text"]) fun _ _ _ _ _ _ us hl => by obtain ⟨z0_, rfl⟩ := lenK1 hl; rfl
  have F6 := fun_mk (st := s_is_name) l6 c6 k6
  have b6 := F6.binds (ps := ["thing"]) fun _ _ _ _ _ _ us hl => by obtain ⟨z0_, rfl⟩ := lenK1 hl; rfl
  have F7 := fun_mk (st := s_is_grade) l7 c7 k7
  have b7 := F7.binds (ps := ["thing", "many"]) fun _ _ _ _ _ _ us hl => by obtain ⟨z0_, z1_, rfl⟩ := lenK2 hl; rfl
  have F8 := fun_mk (st := s_are_rising_grades) l8 c8 k8
  have b8 := F8.binds (ps := ["thing", "many"]) fun _ _ _ _ _ _ us hl => by obtain ⟨z0_, z1_, rfl⟩ := lenK2 hl; rfl
  have F9 := fun_mk (st := s_are_cells) l9 c9 k9
  have b9 := F9.binds (ps := ["thing", "many", "length"]) fun _ _ _ _ _ _ us hl => by obtain ⟨z0_, z1_, z2_, rfl⟩ := lenK3 hl; rfl
  have F10 := fun_mk (st := s_is_connective) l10 c10 k10
  have b10 := F10.binds (ps := ["thing", "many"]) fun _ _ _ _ _ _ us hl => by obtain ⟨z0_, z1_, rfl⟩ := lenK2 hl; rfl
  have F11 := fun_mk (st := s_are_connectives) l11 c11 k11
  have b11 := F11.binds (ps := ["thing", "many"]) fun _ _ _ _ _ _ us hl => by obtain ⟨z0_, z1_, rfl⟩ := lenK2 hl; rfl
  have F12 := fun_mk (st := s_is_half) l12 c12 k12
  have b12 := F12.binds (ps := ["thing"]) fun _ _ _ _ _ _ us hl => by obtain ⟨z0_, rfl⟩ := lenK1 hl; rfl
  have F13 := fun_mk (st := s_is_table) l13 c13 k13
  have b13 := F13.binds (ps := ["thing"]) fun _ _ _ _ _ _ us hl => by obtain ⟨z0_, rfl⟩ := lenK1 hl; rfl
  have F14 := fun_mk (st := s_number_of) l14 c14 k14
  have b14 := F14.binds (ps := ["word"]) fun _ _ _ _ _ _ us hl => by obtain ⟨z0_, rfl⟩ := lenK1 hl; rfl
  have F15 := fun_mk (st := s_numbers_of) l15 c15 k15
  have b15 := F15.binds (ps := ["words"]) fun _ _ _ _ _ _ us hl => by obtain ⟨z0_, rfl⟩ := lenK1 hl; rfl
  have F16 := fun_mk (st := s_connective_of) l16 c16 k16
  have b16 := F16.binds (ps := ["words"]) fun _ _ _ _ _ _ us hl => by obtain ⟨z0_, rfl⟩ := lenK1 hl; rfl
  have F17 := fun_mk (st := s_table_of) l17 c17 k17
  have b17 := F17.binds (ps := ["parts"]) fun _ _ _ _ _ _ us hl => by obtain ⟨z0_, rfl⟩ := lenK1 hl; rfl
  have F18 := fun_mk (st := s_read_table) l18 c18 k18
  have b18 := F18.binds (ps := ["text"]) fun _ _ _ _ _ _ us hl => by obtain ⟨z0_, rfl⟩ := lenK1 hl; rfl
  have F19 := fun_mk (st := s_part_text) l19 c19 k19
  have b19 := F19.binds (ps := ["word", "numbers"]) fun _ _ _ _ _ _ us hl => by obtain ⟨z0_, z1_, rfl⟩ := lenK2 hl; rfl
  have F20 := fun_mk (st := s_show_table) l20 c20 k20
  have b20 := F20.binds (ps := ["T"]) fun _ _ _ _ _ _ us hl => by obtain ⟨z0_, rfl⟩ := lenK1 hl; rfl
  have F21 := fun_mk (st := s_law_part) l21 c21 k21
  have b21 := F21.binds (ps := ["_law_pool_here", "_law_many"]) fun _ _ _ _ _ _ us hl => by obtain ⟨z0_, z1_, rfl⟩ := lenK2 hl; rfl
  have F22 := fun_mk (st := s_law_bent) l22 c22 k22
  have b22 := F22.binds (ps := ["_law_pool_here", "_law_words"]) fun _ _ _ _ _ _ us hl => by obtain ⟨z0_, z1_, rfl⟩ := lenK2 hl; rfl
  have F23 := fun_mk (st := s_law_text) l23 c23 k23
  have b23 := F23.binds (ps := ["_law_cell"]) fun _ _ _ _ _ _ us hl => by obtain ⟨z0_, rfl⟩ := lenK1 hl; rfl
  have F24 := fun_mk (st := s_law_number) l24 c24 k24
  have b24 := F24.binds (ps := ["_law_word"]) fun _ _ _ _ _ _ us hl => by obtain ⟨z0_, rfl⟩ := lenK1 hl; rfl
  have F25 := fun_mk (st := s_law_connective) l25 c25 k25
  have b25 := F25.binds (ps := ["_law_words", "_law_many"]) fun _ _ _ _ _ _ us hl => by obtain ⟨z0_, z1_, rfl⟩ := lenK2 hl; rfl
  have F26 := fun_mk (st := s_law_due) l26 c26 k26
  have b26 := F26.binds (ps := ["_law_text_here"]) fun _ _ _ _ _ _ us hl => by obtain ⟨z0_, rfl⟩ := lenK1 hl; rfl
  have F27 := fun_mk (st := s_law_right) l27 c27 k27
  have b27 := F27.binds (ps := ["_law_text_here"]) fun _ _ _ _ _ _ us hl => by obtain ⟨z0_, rfl⟩ := lenK1 hl; rfl
  have F28 := fun_mk (st := s_law) l28 c28 k28
  have b28 := F28.binds (ps := ["_law_script"]) fun _ _ _ _ _ _ us hl => by obtain ⟨z0_, rfl⟩ := lenK1 hl; rfl
  have gb : Gb mg := ⟨PySem.W.mg_none_of X G z0, PySem.W.mg_none_of X G z1, PySem.W.mg_none_of X G z2, PySem.W.mg_none_of X G z3, PySem.W.mg_none_of X G z4, PySem.W.mg_none_of X G z5, PySem.W.mg_none_of X G z6, PySem.W.mg_none_of X G z7, PySem.W.mg_none_of X G z8, PySem.W.mg_none_of X G z9, PySem.W.mg_none_of X G z10, PySem.W.mg_none_of X G z11, PySem.W.mg_none_of X G z12, ⟨_, PySem.W.mg_of X G y0, _, rfl⟩, ⟨_, PySem.W.mg_of X G y1, _, rfl⟩, ⟨_, PySem.W.mg_of X G y2, _, rfl⟩, ⟨_, PySem.W.mg_of X G y3, _, rfl⟩⟩
  obtain ⟨c, cl⟩ : ∃ c : Nat → Addr, Cl K mg c := ⟨fun i => [cc0, cc1].getD i 0, ⟨PySem.W.mg_of X G g0, PySem.W.mg_of X G g1, w0, w1⟩⟩
  refine ⟨PySem.W.fnOf "law" "law" (defArgs s_law) (defBody s_law) (defScope s_law) .none kV28 dc28 pm28 an28 cd28 ct28, fun s v => .of_eq rfl, fun base _ _ => ?_⟩
  have d_law_draw : Def l.prog w K mg base 1 "_law_draw" ["_law_pool_here", "_law_many"] spDraw := ⟨f0, _, ok_law_draw F0 gb cl, PySem.W.mg_of X G a0, k0, b0⟩
  have d_law_pool : Def l.prog w K mg base 1 "_law_pool" ["_law_cell"] spPool := ⟨f1, _, ok_law_pool F1 gb cl, PySem.W.mg_of X G a1, k1, b1⟩
  have d_power : Def l.prog w K mg base 1 "power" ["base", "exponent"] spPower := ⟨f2, _, ok_power F2 gb cl, PySem.W.mg_of X G a2, k2, b2⟩
  have d_count_nones : Def l.prog w K mg base 1 "count_nones" ["H"] spNones := ⟨f3, _, ok_count_nones F3 gb cl, PySem.W.mg_of X G a3, k3, b3⟩
  have d_is_whole : Def l.prog w K mg base 1 "is_whole" ["thing"] spWholeT := ⟨f4, _, ok_is_whole F4 gb cl, PySem.W.mg_of X G a4, k4, b4⟩
  have d_has_small_letters_alone : Def l.prog w K mg base 1 "has_small_letters_alone" ["text"] spSmallT := ⟨f5, _, ok_has_small_letters_alone F5 gb cl, PySem.W.mg_of X G a5, k5, b5⟩
  have d_is_name : Def l.prog w K mg base 2 "is_name" ["thing"] spNameT := ⟨f6, _, ok_is_name F6 gb cl d_has_small_letters_alone, PySem.W.mg_of X G a6, k6, b6⟩
  have d_is_grade : Def l.prog w K mg base 2 "is_grade" ["thing", "many"] spGradeT := ⟨f7, _, ok_is_grade F7 gb cl d_is_whole, PySem.W.mg_of X G a7, k7, b7⟩
  have d_are_rising_grades : Def l.prog w K mg base 3 "are_rising_grades" ["thing", "many"] spRisingT := ⟨f8, _, ok_are_rising_grades F8 gb cl d_is_grade, PySem.W.mg_of X G a8, k8, b8⟩
  have d_are_cells : Def l.prog w K mg base 3 "are_cells" ["thing", "many", "length"] spCellsT := ⟨f9, _, ok_are_cells F9 gb cl d_is_grade, PySem.W.mg_of X G a9, k9, b9⟩
  have d_is_connective : Def l.prog w K mg base 4 "is_connective" ["thing", "many"] spConnT := ⟨f10, _, ok_is_connective F10 gb cl d_is_name d_is_whole d_are_cells d_power, PySem.W.mg_of X G a10, k10, b10⟩
  have d_are_connectives : Def l.prog w K mg base 5 "are_connectives" ["thing", "many"] spConnsT := ⟨f11, _, ok_are_connectives F11 gb cl d_is_connective, PySem.W.mg_of X G a11, k11, b11⟩
  have d_is_half : Def l.prog w K mg base 6 "is_half" ["thing"] spHalfT := ⟨f12, _, ok_is_half F12 gb cl d_is_whole d_are_rising_grades d_are_connectives, PySem.W.mg_of X G a12, k12, b12⟩
  have d_is_table : Def l.prog w K mg base 7 "is_table" ["thing"] spTableT := ⟨f13, _, ok_is_table F13 gb cl d_is_half d_count_nones, PySem.W.mg_of X G a13, k13, b13⟩
  have d_number_of : Def l.prog w K mg base 1 "number_of" ["word"] spNumW := ⟨f14, _, ok_number_of F14 gb cl, PySem.W.mg_of X G a14, k14, b14⟩
  have d_numbers_of : Def l.prog w K mg base 2 "numbers_of" ["words"] spNumsW := ⟨f15, _, ok_numbers_of F15 gb cl d_number_of, PySem.W.mg_of X G a15, k15, b15⟩
  have d_connective_of : Def l.prog w K mg base 3 "connective_of" ["words"] spConnW := ⟨f16, _, ok_connective_of F16 gb cl d_number_of d_numbers_of, PySem.W.mg_of X G a16, k16, b16⟩
  have d_table_of : Def l.prog w K mg base 4 "table_of" ["parts"] spTableW := ⟨f17, _, ok_table_of F17 gb cl d_number_of d_numbers_of d_connective_of, PySem.W.mg_of X G a17, k17, b17⟩
  have d_read_table : Def1 l.prog w K mg base 8 "read_table" ["text"] (spReadW (c 1)) := ⟨f18, _, ok_read_table F18 gb cl d_table_of d_is_table, PySem.W.mg_of X G a18, k18, b18⟩
  have d_part_text : Def l.prog w K mg base 1 "part_text" ["word", "numbers"] spPart := ⟨f19, _, ok_part_text F19 gb cl, PySem.W.mg_of X G a19, k19, b19⟩
  have d_show_table : Def l.prog w K mg base 2 "show_table" ["T"] spShow := ⟨f20, _, ok_show_table F20 gb cl d_part_text, PySem.W.mg_of X G a20, k20, b20⟩
  have d_law_part : Def l.prog w K mg base 2 "_law_part" ["_law_pool_here", "_law_many"] spPart7 := ⟨f21, _, ok_law_part F21 gb cl d_law_draw, PySem.W.mg_of X G a21, k21, b21⟩
  have d_law_bent : Def l.prog w K mg base 2 "_law_bent" ["_law_pool_here", "_law_words"] spBent7 := ⟨f22, _, ok_law_bent F22 gb cl d_law_draw, PySem.W.mg_of X G a22, k22, b22⟩
  have d_law_text : Def l.prog w K mg base 3 "_law_text" ["_law_cell"] spText7 := ⟨f23, _, ok_law_text F23 gb cl d_law_pool d_law_draw d_law_part d_law_bent, PySem.W.mg_of X G a23, k23, b23⟩
  have d_law_number : Def l.prog w K mg base 1 "_law_number" ["_law_word"] spNumber7 := ⟨f24, _, ok_law_number F24 gb cl, PySem.W.mg_of X G a24, k24, b24⟩
  have d_law_connective : Def l.prog w K mg base 2 "_law_connective" ["_law_words", "_law_many"] spConn7 := ⟨f25, _, ok_law_connective F25 gb cl d_law_number, PySem.W.mg_of X G a25, k25, b25⟩
  have d_law_due : Def l.prog w K mg base 3 "_law_due" ["_law_text_here"] spDue7 := ⟨f26, _, ok_law_due F26 gb cl d_law_number d_law_connective, PySem.W.mg_of X G a26, k26, b26⟩
  have d_law_right : Def l.prog w K mg base 9 "_law_right" ["_law_text_here"] spRight7 := ⟨f27, _, ok_law_right F27 gb cl d_read_table d_law_due d_show_table, PySem.W.mg_of X G a27, k27, b27⟩
  exact ok_law F28 gb cl d_law_text d_law_right
theorem walk {l : PySem.W.OpenLaw} {q : Program} {loose : List Str} {XP : (Str → Option Value) → Heap → Prop} {YP : World → Heap → Prop} {d : DefRec} {K : Params → PySem.W.Frag} (hn : l.most = some 63) (hdf : d.params.defaults = [])
    (hY : ∀ (w : World) (h : Heap), YP w h → (K w.params).In h)
    (F : ∀ (w : World) (mg : Str → Option Value) (fa : Addr) (h : Heap), (K w.params).In h → h.Ns mainGlobals mg → mg d.name = some (.ref fa) →
      ∃ fd : FuncData, (∀ (s : Shared) (u : Value), BindsTo s fd ⟨[u], []⟩ [("_law_script", u)]) ∧ ∀ base : Heap, (K w.params).In base → base.Ns mainGlobals mg → FnOk l.prog w (K w.params) mg base CX0 10 fa fd ["_law_script"] (spLaw (K w.params))) :
    PySem.W.WalkO q loose XP YP l.row.toRowW d [] (fun f vs => PySem.call f vs) :=
  L2.walk_of (n := 63) (k := 10) (x := "_law_script") (CX := fun _ => CX0) (sp := fun w => spLaw (K w.params)) hn (by decide) hdf ⟨rfl, by decide, by decide⟩ hY F (fun _ _ a ns hl _ hS => ⟨a, ns, rfl, hS, hl, fun _ => rfl⟩) fun _ _ _ _ _ z => z
end K07
open PySem PySem.W PyProof.Rows
set_option maxRecDepth 100000 in
set_option maxHeartbeats 0 in
theorem PySem.Challenge.cw_truthgrades_k07_whole_texts_of_tables_holds : PySem.Challenge.rw_truthgrades_k07_whole_texts_of_tables.Holds := by
  w_on; o_law; k_head; (case hw => w_witness2)
  k_fill
  refine K07.walk (l := PySem.Challenge.rw_truthgrades_k07_whole_texts_of_tables) rfl rfl (fun w h Y => PySem.W.kIn_of Y) ?F
  case F =>
    intro w mg fa h KX G hmg
    refine' K07.all_mk KX G hmg ?a0 ?l0 ?c0 ?k0 ?a1 ?l1 ?c1 ?k1 ?a2 ?l2 ?c2 ?k2 ?a3 ?l3 ?c3 ?k3 ?a4 ?l4 ?c4 ?k4 ?a5 ?l5 ?c5 ?k5 ?a6 ?l6 ?c6 ?k6 ?a7 ?l7 ?c7 ?k7 ?a8 ?l8 ?c8 ?k8 ?a9 ?l9 ?c9 ?k9 ?a10 ?l10 ?c10 ?k10 ?a11 ?l11 ?c11 ?k11 ?a12 ?l12 ?c12 ?k12 ?a13 ?l13 ?c13 ?k13 ?a14 ?l14 ?c14 ?k14 ?a15 ?l15 ?c15 ?k15 ?a16 ?l16 ?c16 ?k16 ?a17 ?l17 ?c17 ?k17 ?a18 ?l18 ?c18 ?k18 ?a19 ?l19 ?c19 ?k19 ?a20 ?l20 ?c20 ?k20 ?a21 ?l21 ?c21 ?k21 ?a22 ?l22 ?c22 ?k22 ?a23 ?l23 ?c23 ?k23 ?a24 ?l24 ?c24 ?k24 ?a25 ?l25 ?c25 ?k25 ?a26 ?l26 ?c26 ?k26 ?a27 ?l27 ?c27 ?k27 ?a28 ?l28 ?c28 ?k28 ?z0 ?z1 ?z2 ?z3 ?z4 ?z5 ?z6 ?z7 ?z8 ?z9 ?z10 ?z11 ?z12 ?y0 ?y1 ?y2 ?y3 ?gg0 ?gg1 ?ww0 ?ww1
    (case a0 => k_is); (case l0 => k_is); (case c0 => k_is); (case k0 => k_is)
    (case a1 => k_is); (case l1 => k_is); (case c1 => k_is); (case k1 => k_is)
    (case a2 => k_is); (case l2 => k_is); (case c2 => k_is); (case k2 => k_is)
    (case a3 => k_is); (case l3 => k_is); (case c3 => k_is); (case k3 => k_is)
    (case a4 => k_is); (case l4 => k_is); (case c4 => k_is); (case k4 => k_is)
    (case a5 => k_is); (case l5 => k_is); (case c5 => k_is); (case k5 => k_is)
    (case a6 => k_is); (case l6 => k_is); (case c6 => k_is); (case k6 => k_is)
    (case a7 => k_is); (case l7 => k_is); (case c7 => k_is); (case k7 => k_is)
    (case a8 => k_is); (case l8 => k_is); (case c8 => k_is); (case k8 => k_is)
    (case a9 => k_is); (case l9 => k_is); (case c9 => k_is); (case k9 => k_is)
    (case a10 => k_is); (case l10 => k_is); (case c10 => k_is); (case k10 => k_is)
    (case a11 => k_is); (case l11 => k_is); (case c11 => k_is); (case k11 => k_is)
    (case a12 => k_is); (case l12 => k_is); (case c12 => k_is); (case k12 => k_is)
    (case a13 => k_is); (case l13 => k_is); (case c13 => k_is); (case k13 => k_is)
    (case a14 => k_is); (case l14 => k_is); (case c14 => k_is); (case k14 => k_is)
    (case a15 => k_is); (case l15 => k_is); (case c15 => k_is); (case k15 => k_is)
    (case a16 => k_is); (case l16 => k_is); (case c16 => k_is); (case k16 => k_is)
    (case a17 => k_is); (case l17 => k_is); (case c17 => k_is); (case k17 => k_is)
    (case a18 => k_is); (case l18 => k_is); (case c18 => k_is); (case k18 => k_is)
    (case a19 => k_is); (case l19 => k_is); (case c19 => k_is); (case k19 => k_is)
    (case a20 => k_is); (case l20 => k_is); (case c20 => k_is); (case k20 => k_is)
    (case a21 => k_is); (case l21 => k_is); (case c21 => k_is); (case k21 => k_is)
    (case a22 => k_is); (case l22 => k_is); (case c22 => k_is); (case k22 => k_is)
    (case a23 => k_is); (case l23 => k_is); (case c23 => k_is); (case k23 => k_is)
    (case a24 => k_is); (case l24 => k_is); (case c24 => k_is); (case k24 => k_is)
    (case a25 => k_is); (case l25 => k_is); (case c25 => k_is); (case k25 => k_is)
    (case a26 => k_is); (case l26 => k_is); (case c26 => k_is); (case k26 => k_is)
    (case a27 => k_is); (case l27 => k_is); (case c27 => k_is); (case k27 => k_is)
    (case a28 => k_is); (case l28 => k_is); (case c28 => k_is); (case k28 => k_is)
    (case z0 => k_is)
    (case z1 => k_is)
    (case z2 => k_is)
    (case z3 => k_is)
    (case z4 => k_is)
    (case z5 => k_is)
    (case z6 => k_is)
    (case z7 => k_is)
    (case z8 => k_is)
    (case z9 => k_is)
    (case z10 => k_is)
    (case z11 => k_is)
    (case z12 => k_is)
    (case y0 => k_is)
    (case y1 => k_is)
    (case y2 => k_is)
    (case y3 => k_is)
    (case gg0 => k_is)
    (case gg1 => k_is)
    (case ww0 => first | k_is | kit_is | kernel_rfl)
    (case ww1 => first | k_is | kit_is | kernel_rfl)
