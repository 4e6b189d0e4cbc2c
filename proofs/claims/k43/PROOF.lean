import PyProof.Rows.All
import Wide.All
import OpenK.AllK
import Wide.FinOn
import Lean
import PyProof.EqAt
import PyProof.EqKinds
import PyProof.TupleCall
import PySem.Challenge.RW_truthgrades_k43_chain_tables
set_option Elab.async false
set_option linter.all false
set_option maxRecDepth 100000
/-! THE HAND LAYER, for ints, bools, texts, own classes, LISTS and tuples (index, slices, in, append, pop ..), calls, loops. Paste it whole ahead of your own text; what your proof does not reach may be deleted. -/
namespace L2
open PySem PySem.Spec PyProof.Rows

/-- a key: an int or a str -/
abbrev Key := Sum Int Str
def keyIs : Key → Value → Bool
  | .inl k, v => Value.isInt k v
  | .inr x, v => Value.isStrOf x v
def keyH (w : World) : Key → Int
  | .inl k => hashInt k
  | .inr x => hashStr w x
theorem keyIs_shape : ∀ {k : Key} {v : Value}, keyIs k v = true → (∃ i t, k = Sum.inl i ∧ v = Value.int i t) ∨ (∃ x t, k = Sum.inr x ∧ v = Value.str x t)
  | .inl i, v, h => by
    obtain ⟨t, e⟩ := Value.isInt_shape (k := i) (v := v) h
    exact .inl ⟨i, t, rfl, e⟩
  | .inr x, v, h => by
    obtain ⟨t, e⟩ := Value.isStrOf_shape (x := x) (v := v) h
    exact .inr ⟨x, t, rfl, e⟩
theorem key_ll (a b : Int) : decide ((Sum.inl a : Key) = Sum.inl b) = (a == b) := by
  by_cases e : a = b
  · subst e; simp
  · have h : ¬ (Sum.inl a : Key) = Sum.inl b := fun q => e (Sum.inl.inj q)
    rw [decide_eq_false h]
    exact (beq_eq_false_iff_ne.mpr e).symm
theorem key_rr (a b : Str) : decide ((Sum.inr a : Key) = Sum.inr b) = decide (a = b) := by
  by_cases e : a = b
  · subst e; simp
  · have h : ¬ (Sum.inr a : Key) = Sum.inr b := fun q => e (Sum.inr.inj q)
    rw [decide_eq_false h, decide_eq_false e]
theorem key_lr (a : Int) (b : Str) : decide ((Sum.inl a : Key) = Sum.inr b) = false := decide_eq_false (fun q => nomatch q)
theorem key_rl (a : Str) (b : Int) : decide ((Sum.inr a : Key) = Sum.inl b) = false := decide_eq_false (fun q => nomatch q)

def mixKind (prog : Program) (w : World) : PySem.KeyKind prog w Key where
  is := keyIs
  hash := keyH w
  inj := fun v a b ha hb => by
    rcases keyIs_shape ha with ⟨i, t, rfl, rfl⟩ | ⟨x, t, rfl, rfl⟩
    · rcases keyIs_shape hb with ⟨j, u, rfl, e⟩ | ⟨y, u, rfl, e⟩
      · injection e with e1 _; rw [e1]
      · exact nomatch e
    · rcases keyIs_shape hb with ⟨j, u, rfl, e⟩ | ⟨y, u, rfl, e⟩
      · exact nomatch e
      · injection e with e1 _; rw [e1]
  byValue := fun k v h => by
    rcases keyIs_shape h with ⟨i, t, rfl, rfl⟩ | ⟨x, t, rfl, rfl⟩ <;> rfl
  pyHash := fun hv h => by
    rcases keyIs_shape hv with ⟨i, t, rfl, rfl⟩ | ⟨x, t, rfl, rfl⟩
    · exact wpAny_pyHash_int h
    · exact wpAny_pyHash_str h
  eqBool := fun hu hv h => by
    rcases keyIs_shape hu with ⟨i, t, rfl, rfl⟩ | ⟨x, t, rfl, rfl⟩
    · rcases keyIs_shape hv with ⟨j, u, rfl, rfl⟩ | ⟨y, u, rfl, rfl⟩
      · rw [key_ll] at h; exact wpAny_eqBool_int h
      · rw [key_lr] at h; exact SeqAt.EqAt.int_str i t y u _ _ _ _ h
    · rcases keyIs_shape hv with ⟨j, u, rfl, rfl⟩ | ⟨y, u, rfl, rfl⟩
      · rw [key_rl] at h; exact SeqAt.EqAt.str_int x t j u _ _ _ _ h
      · rw [key_rr] at h; exact wpAny_eqBool_str h
  «strs» := fun k x t v h => by
    rcases keyIs_shape h with ⟨i, u, rfl, e⟩ | ⟨y, u, rfl, e⟩
    · exact nomatch e
    · injection e with e1 _
      subst e1
      cases v <;> rfl

end L2

namespace L2
open PySem PySem.Spec PyProof.Rows

/-- a value, without the heap -/
inductive V where
  | non | bl (b : Bool) | int (i : Int) | str (x : Str) | byt (b : Array UInt8) | flt (b : UInt64) | ref (a : Addr) | ty (n : String)
  deriving DecidableEq

def RelV : V → Value → Prop
  | .non, u => u = Value.none
  | .bl b, u => u = Value.bool b
  | .int i, u => ∃ t, u = Value.int i t
  | .str x, u => ∃ t, u = Value.str x t
  | .byt b, u => ∃ t, u = Value.bytes b t
  | .flt b, u => ∃ t, u = Value.float b t
  | .ref a, u => u = Value.ref a
  | .ty n, u => u = Value.type n

abbrev Vals : List V → List Value → Prop := Paired RelV
theorem Vals.length {xs : List V} {us : List Value} (r : Vals xs us) : xs.length = us.length := Paired.length r
theorem Vals.get : ∀ {xs : List V} {us : List Value} {i : Nat} {x : V}, Vals xs us → xs[i]? = some x → ∃ u, us[i]? = some u ∧ RelV x u
  | _, _, _, _, .nil, e => by simp at e
  | _, _, 0, _, .cons r _, e => by simp at e; subst e; exact ⟨_, rfl, r⟩
  | _, _, i + 1, x, .cons _ t, e => by
    obtain ⟨u, h1, h2⟩ := Vals.get (i := i) (x := x) t (by simpa using e)
    exact ⟨u, by simpa using h1, h2⟩
theorem Vals.append : ∀ {xs ys : List V} {us ws : List Value}, Vals xs us → Vals ys ws → Vals (xs ++ ys) (us ++ ws)
  | _, _, _, _, .nil, s => s
  | _, _, _, _, .cons r t, s => .cons r (Vals.append t s)
def RelO : Option V → Option Value → Prop
  | some v, some u => RelV v u
  | none, none => True
  | _, _ => False
def KV {κ : Type} : List (κ × V) → List (κ × Value) → Prop := Paired fun (p : κ × V) (q : κ × Value) => p.1 = q.1 ∧ RelV p.2 q.2

/-- a key of a dict (00_mix): an int or a text -/
def kV : Key → V
  | .inl i => .int i
  | .inr x => .str x

/-- a plain tuple: no dict of its own -/
def PTup (h : Heap) (a : Addr) (items : Array Value) : Prop := ∃ o, h.get? a = some o ∧ o.cls = .type "tuple" ∧ (∃ n, o.data = .seq items n) ∧ o.dict = none
theorem PTup.lt {h : Heap} {a : Addr} {items : Array Value} (x : PTup h a items) : a < h.objs.size := let ⟨_, e, _⟩ := x; Heap.lt_size e
theorem PTup.isTup {h : Heap} {a : Addr} {items : Array Value} (x : PTup h a items) : IsTup h a items := let ⟨o, e, c, n, _⟩ := x; ⟨o, e, c, n⟩
theorem PTup.new (h : Heap) (items : Array Value) : PTup (h.push { cls := .type "tuple", data := .seq items }) h.objs.size items := ⟨_, Heap.get?_push_size _ rfl, rfl, ⟨_, rfl⟩, rfl⟩
/-- what stands at a tracked address -/
inductive HO where
  /-- a list -/
  | lst (xs : List V)
  /-- a tuple (never changes) -/
  | tup (xs : List V)
  /-- a dict whose keys are ints and texts; one whose keys are tuples of ints and texts (the empty one is both) -/
  | dK (kvs : List (Key × V)) | dT (kvs : List (List Key × V))
  /-- a set of ints: its members, its size -/
  | set (S : Int → Bool) (n : Nat)
  /-- an instance of the class at C, its dict at dx, its attributes -/
  | ins (C dx : Addr) (fs : List (Str × V))
  /-- the dict of the instance at x -/
  | own (x : Addr)
  /-- the dict of an exception -/
  | xd (fs : List (Str × V))
  /-- a bound method, f of x -/
  | met (f x : Addr)
  /-- a range object lo, lo + 1, .. below hi -/
  | rng (lo hi : Int)
  /-- a thing that is known to the object (the script; a dict while a loop walks it): read, never written while it is so -/
  | frz (o : Obj) (u : HO)
  /-- a code object's table -/
  | tbl (ps : Array Value)
  /-- any other thing, by what is true of its one object (a def of one's own: SetO a S n := HO.ext fun h => ..) -/
  | ext (φ : Heap → Prop)

abbrev Hp := Addr → Option HO
def upd (H : Hp) (a : Addr) (o : HO) : Hp := fun b => if b = a then some o else H b
theorem upd_same {H : Hp} {a : Addr} {o : HO} : upd H a o a = some o := by unfold upd; rw [if_pos rfl]
theorem upd_ne {H : Hp} {a b : Addr} {o : HO} (h : b ≠ a) : upd H a o b = H b := by unfold upd; rw [if_neg h]
/-- two objects of different content stand apart -/
theorem ne_of {H : Hp} {a b : Addr} {o u : HO} (h : H a = some o) (h' : H b = some u) (d : o ≠ u) : a ≠ b := by
  intro e; subst e; rw [h] at h'; exact d (Option.some.inj h')
theorem ne_of_none {H : Hp} {a b : Addr} {o : HO} (h : H a = some o) (h' : H b = none) : a ≠ b := by
  intro e; subst e; rw [h] at h'; cases h'

section
variable (P : Program) (w : World)
def ObjOk (H : Hp) (h : Heap) (a : Addr) : HO → Prop
  | .lst xs => xs.length ≤ sizeLine ∧ ∃ (its : List Value) (n : Nat), Vals xs its ∧ h.get? a = some { cls := .type "list", data := .seq its.toArray n }
  | .tup xs => xs.length ≤ sizeLine ∧ ∃ its : List Value, Vals xs its ∧ PTup h a its.toArray
  | .dK kvs => kvs.length ≤ sizeLine ∧ (a == sysModules) = false ∧ ∃ vs, KV kvs vs ∧ h.DictOf (mixKind P w) a vs
  | .dT kvs => kvs.length ≤ sizeLine ∧ (a == sysModules) = false ∧ ∃ xs : List (List Key × Addr × Value),
      Paired (fun (p : List Key × V) (q : List Key × Addr × Value) => p.1 = q.1 ∧ H q.2.1 = some (.tup (p.1.map kV)) ∧ RelV p.2 q.2.2) kvs xs ∧
      ∃ o es ep, h.get? a = some o ∧ o.ExactDict ∧ o.data = .dict es ep ∧ es.toList = xs.map (entryOfKey (tupleKind (mixKind P w))) ∧ (xs.map (·.1)).Nodup
  | .set S n => h.SetOf (intKind P w) a S n
  | .ins C dx fs => H dx = some (.own a) ∧ fs.length ≤ 1000 ∧ dx ≠ a ∧ h.get? a = some (PySem.W.instObj C dx) ∧
      ∃ mA, h.Ns1 dx mA ∧ (∀ f, RelO (fs.lookup f) (mA f)) ∧ PySem.Within mA (fs.map (·.1))
  | .own _ => ∃ o, h.get? a = some o
  | .xd fs => ∃ mA, h.Ns1 a mA ∧ ∀ f, RelO (fs.lookup f) (mA f)
  | .rng lo hi => ∃ t u v, h.get? a = some { cls := .type "range", data := .fields #[.int lo t, .int hi u, .int 1 v] }
  | .frz o u => h.get? a = some o ∧ ObjOk H h a u
  | .tbl ps => h.get? a = some { cls := .none, data := .fields ps }
  | .met f x => h.get? a = some (PySem.W.methodObj (.ref f) (.ref x))
  | .ext φ => φ h ∧ (∃ o, h.get? a = some o) ∧ ∀ h1 h2 : Heap, φ h1 → (∀ o, h1.get? a = some o → h2.get? a = some o) → φ h2
/-- the abstract heap is held -/
def HOk (H : Hp) (h : Heap) : Prop := ∀ a o, H a = some o → ObjOk P w H h a o
end

section
variable {P : Program} {w : World} {H H' : Hp} {h h' : Heap} {a : Addr} {o : HO}
theorem ObjOk.lt (x : ObjOk P w H h a o) : a < h.objs.size := by
  cases o with
  | lst xs => obtain ⟨_, _, _, _, e⟩ := x; exact Heap.lt_size e
  | tup xs => obtain ⟨_, _, _, p⟩ := x; exact p.lt
  | dK kvs => obtain ⟨_, _, _, _, o, _, _, e, _⟩ := x; exact Heap.lt_size e
  | dT kvs => obtain ⟨_, _, _, _, o, _, _, e, _⟩ := x; exact Heap.lt_size e
  | set S n => obtain ⟨o, _, _, _, e, _⟩ := x; exact Heap.lt_size e
  | ins C dx fs => obtain ⟨_, _, _, e, _⟩ := x; exact Heap.lt_size e
  | own y => obtain ⟨_, e⟩ := x; exact Heap.lt_size e
  | xd fs => obtain ⟨_, ⟨_, _, _, e, _⟩, _⟩ := x; exact Heap.lt_size e
  | rng lo hi => obtain ⟨_, _, _, e⟩ := x; exact Heap.lt_size e
  | frz ob u => obtain ⟨e, _⟩ := x; exact Heap.lt_size e
  | tbl ps => exact Heap.lt_size (show h.get? a = some _ from x)
  | met f y => exact Heap.lt_size (show h.get? a = some _ from x)
  | ext φ => obtain ⟨_, ⟨_, e⟩, _⟩ := x; exact Heap.lt_size e
theorem Paired.mapP {α β : Type} {F G : α → β → Prop} : ∀ {l₁ : List α} {l₂ : List β}, Paired F l₁ l₂ → (∀ a b, F a b → G a b) → Paired G l₁ l₂
  | _, _, .nil, _ => .nil
  | _, _, .cons r t, f => .cons (f _ _ r) (Paired.mapP t f)
/-- what an object's description leans on: its own object, its own dict, the tuples -/
theorem ObjOk.stay (x : ObjOk P w H h a o) (k : ∀ b u, (b = a ∨ H b = some (.own a)) → h.get? b = some u → h'.get? b = some u)
    (ho : ∀ b, H b = some (.own a) → H' b = some (.own a)) (ht : ∀ b xs, H b = some (.tup xs) → H' b = some (.tup xs)) : ObjOk P w H' h' a o := by
  induction o with
  | lst xs => obtain ⟨z, its, n, r, e⟩ := x; exact ⟨z, its, n, r, k _ _ (.inl rfl) e⟩
  | tup xs => obtain ⟨z, its, r, ob, e, c⟩ := x; exact ⟨z, its, r, ob, k _ _ (.inl rfl) e, c⟩
  | dK kvs => obtain ⟨z, y, vs, r, ob, es, ep, e, c⟩ := x; exact ⟨z, y, vs, r, ob, es, ep, k _ _ (.inl rfl) e, c⟩
  | dT kvs =>
    obtain ⟨z, y, xs, r, ob, es, ep, e, c⟩ := x
    exact ⟨z, y, xs, Paired.mapP r fun p q z => ⟨z.1, ht _ _ z.2.1, z.2.2⟩, ob, es, ep, k _ _ (.inl rfl) e, c⟩
  | set S n => obtain ⟨ob, es, ep, t, e, c⟩ := x; exact ⟨ob, es, ep, t, k _ _ (.inl rfl) e, c⟩
  | ins C dx fs =>
    obtain ⟨d, z, ne, e, mA, ⟨od, es, ep, e2, c⟩, r⟩ := x
    exact ⟨ho _ d, z, ne, k _ _ (.inl rfl) e, mA, ⟨od, es, ep, k _ _ (.inr d) e2, c⟩, r⟩
  | own y => obtain ⟨ob, e⟩ := x; exact ⟨ob, k _ _ (.inl rfl) e⟩
  | xd fs => obtain ⟨mA, ⟨od, es, ep, e, c⟩, r⟩ := x; exact ⟨mA, ⟨od, es, ep, k _ _ (.inl rfl) e, c⟩, r⟩
  | rng lo hi => obtain ⟨t, u, v, e⟩ := x; exact ⟨t, u, v, k _ _ (.inl rfl) e⟩
  | frz ob u ih => obtain ⟨e, q⟩ := x; exact ⟨k _ _ (.inl rfl) e, ih q⟩
  | tbl ps =>
    have e : h.get? a = some { cls := .none, data := .fields ps } := x
    show h'.get? a = some { cls := .none, data := .fields ps }
    exact k a _ (.inl rfl) e
  | met f y =>
    have e : h.get? a = some (PySem.W.methodObj (.ref f) (.ref y)) := x
    show h'.get? a = some (PySem.W.methodObj (.ref f) (.ref y))
    exact k a _ (.inl rfl) e
  | ext φ => obtain ⟨p, ⟨o, e⟩, st⟩ := x; exact ⟨st _ _ p fun o q => k _ _ (.inl rfl) q, ⟨o, k _ _ (.inl rfl) e⟩, st⟩
theorem HOk.lt (x : HOk P w H h) (e : H a = some o) : a < h.objs.size := (x a o e).lt
theorem HOk.fresh (x : HOk P w H h) (e : h.objs.size ≤ a) : H a = none := by
  cases q : H a with
  | none => rfl
  | some u => exact absurd (Nat.lt_of_lt_of_le (x.lt q) e) (Nat.lt_irrefl _)
/-- every object of the heap is kept -/
theorem HOk.kept (x : HOk P w H h) (k : ∀ b u, h.get? b = some u → h'.get? b = some u) : HOk P w H h' := fun a o e =>
  (x a o e).stay (fun b u _ q => k b u q) (fun _ q => q) fun _ _ q => q
/-- a new object is laid and tracked -/
theorem HOk.laid (x : HOk P w H h) (k : ∀ b u, h.get? b = some u → h'.get? b = some u) (hp : h.objs.size ≤ a) (new : ObjOk P w (upd H a o) h' a o) : HOk P w (upd H a o) h' := fun b u e => by
  have hn := x.fresh hp
  by_cases hb : b = a
  · subst hb; rw [upd_same] at e; cases e; exact new
  · rw [upd_ne hb] at e
    exact (x b u e).stay (fun c v _ q => k c v q) (fun c q => by rw [upd_ne (ne_of_none q hn)]; exact q) fun c xs q => by rw [upd_ne (ne_of_none q hn)]; exact q
end

/-- what may be read as u: it is u, or a known u -/
def Rd (H : Hp) (a : Addr) (u : HO) : Prop := H a = some u ∨ ∃ o, H a = some (.frz o u)
theorem Rd.ok {P : Program} {w : World} {H : Hp} {h : Heap} {a : Addr} {u : HO} (r : Rd H a u) (x : HOk P w H h) : ObjOk P w H h a u := by
  rcases r with r | ⟨o, r⟩
  · exact x a u r
  · obtain ⟨_, q⟩ := x a _ r
    exact q
/-- what may be written -/
def Mut : Option HO → Prop
  | some (.lst _) => True
  | some (.dK _) => True
  | some (.dT _) => True
  | some (.set _ _) => True
  | some (.ins _ _ _) => True
  | some (.ext _) => True
  | _ => False
section
variable {P : Program} {w : World} {H : Hp} {h h' : Heap} {x e : Addr} {o' : HO}
/-- the object at e is changed: x itself, or the dict of the instance x -/
theorem HOk.write (ok : HOk P w H h) (mu : Mut (H x)) (he : e = x ∨ H e = some (.own x)) (k : ∀ b u, b ≠ e → h.get? b = some u → h'.get? b = some u) (heo : ∃ u, h'.get? e = some u)
    (new : ObjOk P w (upd H x o') h' x o') : HOk P w (upd H x o') h' := fun b u q => by
  have nown : ∀ c y, H c = some (.own y) → c ≠ x := fun c y r z => by subst z; rw [r] at mu; exact mu
  have ntup : ∀ c xs, H c = some (.tup xs) → c ≠ x := fun c xs r z => by subst z; rw [r] at mu; exact mu
  by_cases hb : b = x
  · subst hb; rw [upd_same] at q; cases q; exact new
  · rw [upd_ne hb] at q
    by_cases hbe : b = e
    · have q' : H b = some (.own x) := by
        rcases he with z | z
        · exact absurd (hbe.trans z) hb
        · rw [hbe]; exact z
      rw [q] at q'; cases q'
      obtain ⟨v, hv⟩ := heo
      exact ⟨v, by rw [hbe]; exact hv⟩
    · refine (ok b u q).stay (fun c v hc r => k c v ?_ r) (fun c r => by rw [upd_ne (nown c b r)]; exact r) fun c xs r => by rw [upd_ne (ntup c xs r)]; exact r
      rcases hc with rfl | hc
      · exact hbe
      · rintro rfl
        rcases he with z | z
        · exact nown c b hc z
        · rw [hc] at z; cases z; exact hb rfl
end

/-! ### kept unless tracked; of the frames at fs (the callers') the slots may change (an exception that passes writes there); of the records at ex (iterators) nothing is said -/
structure Un (fs ex : List Addr) (H H' : Hp) (h h' : Heap) : Prop where
  keep : ∀ b o, h.get? b = some o → H b = none → b ∉ fs → b ∉ ex → h'.get? b = some o
  slot : ∀ b o, h.get? b = some o → H b = none → b ∈ fs → b ∉ ex → ∃ sl, h'.get? b = some { o with slots := sl }
  free : ∀ b o, h.get? b = some o → H b = none → b ∉ ex → H' b = none
  there : ∀ b o, h.get? b = some o → b ∉ ex → ∃ o', h'.get? b = some o'
  tups : ∀ b xs, H b = some (.tup xs) → H' b = some (.tup xs)
  frzs : ∀ b o u, H b = some (.frz o u) → H' b = some (.frz o u)
  tbls : ∀ b ps, H b = some (.tbl ps) → ∃ more, H' b = some (.tbl (ps ++ more))
section
variable {fs fs' ex ex' : List Addr} {H H1 H2 : Hp} {h h1 h2 h' : Heap} {a x e : Addr} {o : HO}
theorem Un.any (u : Un fs ex H H1 h h1) {b : Addr} {ob : Obj} (q : h.get? b = some ob) (n : H b = none) (hx : b ∉ ex) : ∃ sl, h1.get? b = some { ob with slots := sl } := by
  by_cases hb : b ∈ fs
  · exact u.slot b ob q n hb hx
  · exact ⟨ob.slots, u.keep b ob q n hb hx⟩
theorem Un.kept (k : ∀ b u, h.get? b = some u → h'.get? b = some u) : Un fs ex H H h h' :=
  ⟨fun b ob q _ _ _ => k b ob q, fun b ob q _ _ _ => ⟨ob.slots, k b ob q⟩, fun _ _ _ n _ => n, fun b ob q _ => ⟨ob, k b ob q⟩, fun _ _ q => q, fun _ _ _ q => q, fun _ ps q => ⟨#[], by rw [q]; simp⟩⟩
theorem Un.refl : Un fs ex H H h h := Un.kept fun _ _ q => q
theorem Un.laid (k : ∀ b u, h.get? b = some u → h'.get? b = some u) (hp : h.objs.size ≤ a) (hn : H a = none) : Un fs ex H (upd H a o) h h' where
  keep := fun b u q _ _ _ => k b u q
  slot := fun b u q _ _ _ => ⟨u.slots, k b u q⟩
  free := fun b u q n _ => by rw [upd_ne (Nat.ne_of_lt (Nat.lt_of_lt_of_le (Heap.lt_size q) hp))]; exact n
  there := fun b u q _ => ⟨u, k b u q⟩
  tups := fun b xs q => by rw [upd_ne (ne_of_none q hn)]; exact q
  frzs := fun b u xs q => by rw [upd_ne (ne_of_none q hn)]; exact q
  tbls := fun b ps q => ⟨#[], by rw [upd_ne (ne_of_none q hn), q]; simp⟩
theorem Un.write (mu : Mut (H x)) (he : e = x ∨ H e = some (.own x)) (k : ∀ b u, b ≠ e → h.get? b = some u → h'.get? b = some u) (heo : ∃ u, h'.get? e = some u) : Un fs ex H (upd H x o) h h' := by
  have hx : ∀ b, H b = none → b ≠ x := fun b n z => by subst z; rw [n] at mu; exact mu
  have hb : ∀ b, H b = none → b ≠ e := fun b n z => by
    subst z
    rcases he with r | r
    · exact hx b n r
    · rw [n] at r; cases r
  have hm : ∀ b u, H b = some u → ¬ Mut (some u) → b ≠ x := fun b u q nm z => by subst z; rw [q] at mu; exact nm mu
  refine ⟨fun b u q n _ _ => k b u (hb b n) q, fun b u q n _ _ => ⟨u.slots, k b u (hb b n) q⟩, fun b u q n _ => by rw [upd_ne (hx b n)]; exact n, fun b u q _ => ?_,
    fun b xs q => by rw [upd_ne (hm b _ q fun z => z)]; exact q, fun b u xs q => by rw [upd_ne (hm b _ q fun z => z)]; exact q, fun b ps q => ⟨#[], by rw [upd_ne (hm b _ q fun z => z), q]; simp⟩⟩
  by_cases hbe : b = e
  · subst hbe; exact heo
  · exact ⟨u, k b u hbe q⟩
end

/-! ### the heap without what is tracked -/
def trk (h : Heap) (H : Hp) : List Addr := (List.range h.objs.size).filter fun a => (H a).isSome
def hidT (h : Heap) (H : Hp) : Heap := PySem.W.hideAll h (trk h H)
theorem hidT_size (h : Heap) (H : Hp) : (hidT h H).objs.size = h.objs.size := PySem.W.hideAll_size _ _
theorem hidT_get {h : Heap} {H : Hp} {b : Addr} {o : Obj} (e : h.get? b = some o) (n : H b = none) : (hidT h H).get? b = some o :=
  PySem.W.hideAll_get _ e fun hm => by
    have q : (H b).isSome = true := (List.mem_filter.mp hm).2
    rw [n] at q; simp at q
theorem of_hidT {h : Heap} {H : Hp} {b : Addr} {o : Obj} (e : (hidT h H).get? b = some o) : h.get? b = some o ∧ H b = none := by
  have e' : h.get? b = some o := PySem.W.of_hideAll (trk h H) e
  refine ⟨e', ?_⟩
  cases q : H b with
  | none => rfl
  | some x =>
    have hm : b ∈ trk h H := List.mem_filter.mpr ⟨List.mem_range.mpr (Heap.lt_size e'), by simp [q]⟩
    have z : (hidT h H).get? b = none := PySem.W.hideAll_none (trk h H) hm
    rw [z] at e; cases e

/-! ### OpenK's ledger, filled with every new object but one -/
end L2

namespace L2
open PySem PySem.Spec PyProof.Rows

/-- the module's facts, over the base: the heap at the law's entry without what is tracked there -/
structure Mod (K : PySem.W.Frag) (mg : Str → Option Value) (base : Heap) : Prop where
  kin : K.In base
  glob : base.Ns mainGlobals mg
  blt : ∃ mb, base.Ns builtinsNs mb ∧ ∀ x : Str, x ≠ "__name__" → mb x = bootBuiltins x
  nolimit : base.NoLimit

/-- the context: a def's body (or a comprehension's block) running. base: fixed through the whole law; s₀, H₀: the entry; outer: the frames whose slots others may change (a def's callers); stack: all frames that run;
   ex: iterators that were made ahead of the entry and are walked here (a comprehension's); fn: the names whose cells were made at the entry (a def: all; a comprehension's block: its own); calm: not within an except suite; pn: pins that every state bears; xe: what is wanted of an exception that leaves the code -/
structure Cx where
  prog : Program
  w : World
  K : PySem.W.Frag
  mg : Str → Option Value
  base : Heap
  A : Around
  N : List Str
  s₀ : Shared
  H₀ : Hp
  env : Env
  outer : List Env
  stack : List Env
  ex : List Addr
  fn : Str → Bool
  calm : Bool
  pn : List (Addr × Obj)
  xe : Value → Shared → Prop
/-- the callers' frames -/
def frs (l : List Env) : List Addr := l.filterMap (·.frame)
abbrev Cx.fs (X : Cx) : List Addr := frs X.outer

def Vis (sc : Scope) (x : Str) : Prop := sc.names.lookup x = some .local ∨ sc.names.lookup x = some .cell ∨ sc.names.lookup x = some .free
def Loc (sc : Scope) (x : Str) : Prop := sc.names.lookup x = some .local ∨ sc.names.lookup x = some .cell
def Look (env : Env) (h : Heap) (m : Str → Option Value) (x : Str) (u : Value) : Prop :=
  (env.kindOf x = some .local ∧ m x = some u) ∨ ((env.kindOf x = some .cell ∨ env.kindOf x = some .free) ∧ ∃ c, env.cells.lookup x = some c ∧ h.IsCell c (some u))

structure Cx.Ok (X : Cx) : Prop where
  mod : Mod X.K X.mg X.base
  kind : X.env.scope.kind = .function
  glob : X.env.globals = mainGlobals
  blt : X.env.builtins = builtinsNs
  above : X.s₀.heap.objs.size ≤ X.env.locals
  inj : ∀ x y c, X.env.cells.lookup x = some c → X.env.cells.lookup y = some c → x = y
  has : ∀ x, (X.env.kindOf x = some .cell ∨ X.env.kindOf x = some .free) → ∃ c, X.env.cells.lookup x = some c
  cab : ∀ x c, X.fn x = true → X.env.cells.lookup x = some c → X.s₀.heap.objs.size ≤ c
  hd : X.calm = true → X.A.handled = none
  frames : X.A.frames = some X.stack
  stk : X.stack = X.outer ∨ (X.stack = X.env :: X.outer ∧ X.env.frame = some X.env.locals)
  exf : ∀ b ∈ X.ex, b ≠ X.env.locals ∧ ∀ x c, X.env.cells.lookup x = some c → c ≠ b
  bs : ∀ b o, X.base.get? b = some o → X.s₀.heap.get? b = some o ∧ X.H₀ b = none
  bsz : X.base.objs.size ≤ X.s₀.heap.objs.size
  noex : ∀ b o, X.base.get? b = some o → b ∉ X.ex
  exfs : ∀ b ∈ X.ex, b ∉ X.fs
  funs : X.s₀.heap.FunFrames X.base X.outer
  frf : ∀ b ∈ X.fs, X.H₀ b = none

structure Inv (X : Cx) (pins : List (Addr × Obj)) (σ : List (Option V)) (H : Hp) (s : Shared) : Prop where
  ok : X.Ok
  os : s.os = X.s₀.os
  bare : AllBare s.gens
  base : Un X.fs X.ex X.H₀ H X.s₀.heap s.heap
  loc : ∃ m, s.heap.Ns X.env.locals m ∧ ∀ (i : Nat) (x : Str) (v : V), X.N[i]? = some x → σ[i]? = some (some v) → Vis X.env.scope x → ∃ u, RelV v u ∧ Look X.env s.heap m x u
  cell : ∀ x c, X.env.cells.lookup x = some c → ∃ v, s.heap.IsCell c v
  free : H X.env.locals = none
  freeC : ∀ x c, X.env.cells.lookup x = some c → H c = none
  pin : ∀ p ∈ X.pn ++ pins, s.heap.get? p.1 = some p.2 ∧ H p.1 = none ∧ p.1 ≠ X.env.locals ∧ p.1 ∉ X.fs ∧ ∀ v, p.2.data ≠ .cell v
  hok : HOk X.prog X.w H s.heap
  len : σ.length = X.N.length

section
variable {X : Cx} {pins : List (Addr × Obj)} {σ : List (Option V)} {H H' : Hp} {s : Shared} {h' : Heap}

theorem Cx.Ok.nofr (ok : X.Ok) {b : Addr} {o : Obj} (e : X.base.get? b = some o) : b ∉ X.fs := fun hb => by
  have := (ok.funs.mem hb).1
  rw [e] at this; cases this
theorem Inv.bs (I : Inv X pins σ H s) : ∀ b o, X.base.get? b = some o → s.heap.get? b = some o ∧ H b = none := fun b o e =>
  ⟨I.base.keep b o (I.ok.bs b o e).1 (I.ok.bs b o e).2 (I.ok.nofr e) (I.ok.noex b o e), I.base.free b o (I.ok.bs b o e).1 (I.ok.bs b o e).2 (I.ok.noex b o e)⟩
theorem Inv.bk (I : Inv X pins σ H s) : ∀ b o, X.base.get? b = some o → s.heap.get? b = some o := fun b o e => (I.bs b o e).1
theorem Inv.mod (I : Inv X pins σ H s) : Mod X.K X.mg X.base := I.ok.mod
theorem Inv.kIn (I : Inv X pins σ H s) : X.K.In s.heap := I.ok.mod.kin.keeps I.bk
theorem Inv.lt (I : Inv X pins σ H s) : X.env.locals < s.heap.objs.size := let ⟨_, hn, _⟩ := I.loc; hn.lt
theorem Inv.sz (I : Inv X pins σ H s) : X.s₀.heap.objs.size ≤ s.heap.objs.size := Nat.le_trans I.ok.above (Nat.le_of_lt I.lt)
theorem Inv.nofs (I : Inv X pins σ H s) {a : Addr} (h : s.heap.objs.size ≤ a) : a ∉ X.fs := fun hb => by
  obtain ⟨_, o, ho, _⟩ := I.ok.funs.mem hb
  exact absurd (Nat.lt_of_lt_of_le (Heap.lt_size ho) (Nat.le_trans I.sz h)) (Nat.lt_irrefl _)
theorem Inv.cne (I : Inv X pins σ H s) : ∀ x c, X.env.cells.lookup x = some c → c ≠ X.env.locals := fun x c e z => by
  obtain ⟨v, o, ho, hd⟩ := I.cell x c e
  obtain ⟨m, ⟨o', es, ep, ho', hd', _⟩, _⟩ := I.loc
  rw [z, ho'] at ho; cases ho; rw [hd'] at hd; cases hd
theorem Inv.funs (I : Inv X pins σ H s) : s.heap.FunFrames X.base X.outer := by
  have all : ∀ (l : List Env), (∀ b ∈ frs l, b ∈ X.fs) → X.s₀.heap.FunFrames X.base l → s.heap.FunFrames X.base l := by
    intro l
    induction l with
    | nil => intro _ _; trivial
    | cons env r ih =>
      intro hs hl
      obtain ⟨hk, ⟨L, o, hf, hn, ho, hd⟩, hr⟩ := hl
      have hL : L ∈ X.fs := hs L (by unfold frs; rw [List.filterMap_cons, hf]; exact List.mem_cons_self)
      obtain ⟨sl, e⟩ := I.base.slot L o ho (I.ok.frf L hL) hL fun z => I.ok.exfs L z hL
      exact ⟨hk, ⟨L, _, hf, hn, e, hd⟩, ih (fun b hb => hs b (by unfold frs; rw [List.filterMap_cons, hf]; exact List.mem_cons_of_mem _ hb)) hr⟩
  exact all X.outer (fun _ hb => hb) I.ok.funs

/-- the frames that run, for a call -/
theorem Inv.stack (I : Inv X pins σ H s) : s.heap.FunFrames X.base X.stack := by
  rcases I.ok.stk with e | ⟨e, hf⟩
  · rw [e]; exact I.funs
  · rw [e]
    obtain ⟨m, hn, _⟩ := I.loc
    refine .cons (by rw [I.ok.kind]; decide) hf hn ?_ I.funs
    exact Heap.get?_none_of_le (Nat.le_trans I.ok.bsz I.ok.above)
theorem Inv.stkSub (I : Inv X pins σ H s) : ∀ b ∈ frs X.stack, b ∈ X.env.locals :: X.fs := fun b hb => by
  rcases I.ok.stk with e | ⟨e, hf⟩
  · rw [e] at hb; exact List.mem_cons_of_mem _ hb
  · rw [e] at hb
    unfold frs at hb
    rw [List.filterMap_cons, hf] at hb
    exact hb
theorem Inv.stkFree (I : Inv X pins σ H s) : ∀ b ∈ frs X.stack, H b = none := fun b hb => by
  rcases List.mem_cons.mp (I.stkSub b hb) with e | hb
  · rw [e]; exact I.free
  · obtain ⟨_, o, ho, _⟩ := I.ok.funs.mem hb
    exact I.base.free b o ho (I.ok.frf b hb) fun z => I.ok.exfs b z hb

/-- THE STEP: the untracked objects but the frame and the records at ch are kept (the callers' frames up to slots), the frame's map is kept, the new abstract heap is held -/
theorem Inv.step {g' : Array GenState} {t' : Nat} {d' : Drawn} {ch : List Addr} (I : Inv X pins σ H s)
    (hch : ∀ b ∈ ch, (b ∈ X.ex ∨ X.s₀.heap.objs.size ≤ b) ∧ b ≠ X.env.locals ∧ (∀ x c, X.env.cells.lookup x = some c → c ≠ b) ∧ ∀ p ∈ X.pn ++ pins, p.1 ≠ b)
    (keep : ∀ b o, b ≠ X.env.locals → b ∉ X.fs → b ∉ ch → s.heap.get? b = some o → H b = none → h'.get? b = some o)
    (slot : ∀ b o, b ≠ X.env.locals → b ∈ X.fs → b ∉ ch → s.heap.get? b = some o → H b = none → ∃ sl, h'.get? b = some { o with slots := sl }) (free : ∀ b o, b ∉ ch → s.heap.get? b = some o → H b = none → H' b = none)
    (there : ∀ b o, b ∉ ch → s.heap.get? b = some o → ∃ o', h'.get? b = some o')
    (tups : ∀ b xs, H b = some (.tup xs) → H' b = some (.tup xs)) (frzs : ∀ b o u, H b = some (.frz o u) → H' b = some (.frz o u)) (tbls : ∀ b ps, H b = some (.tbl ps) → ∃ more, H' b = some (.tbl (ps ++ more)))
    (ns : ∀ m, s.heap.Ns X.env.locals m → h'.Ns X.env.locals m) (hok : HOk X.prog X.w H' h') (hg : AllBare g') :
    Inv X pins σ H' { s with heap := h', gens := g', drawn := d', toks := t' } := by
  have neL : ∀ b o, X.s₀.heap.get? b = some o → b ≠ X.env.locals := fun b o e => Nat.ne_of_lt (Nat.lt_of_lt_of_le (Heap.lt_size e) I.ok.above)
  have neC : ∀ b o, X.s₀.heap.get? b = some o → b ∉ X.ex → b ∉ ch := fun b o e hx hb => by
    rcases (hch b hb).1 with z | z
    · exact hx z
    · exact absurd (Nat.lt_of_lt_of_le (Heap.lt_size e) z) (Nat.lt_irrefl _)
  have cellK : ∀ x c, X.env.cells.lookup x = some c → ∀ v, s.heap.IsCell c v → h'.IsCell c v := fun x c e v ⟨o, ho, hd⟩ => by
    have nch : c ∉ ch := fun z => (hch c z).2.2.1 x c e rfl
    by_cases hc : c ∈ X.fs
    · obtain ⟨sl, q⟩ := slot c o (I.cne x c e) hc nch ho (I.freeC x c e)
      exact ⟨_, q, hd⟩
    · exact ⟨o, keep c o (I.cne x c e) hc nch ho (I.freeC x c e), hd⟩
  refine ⟨I.ok, I.os, hg, ⟨fun b o e n hb hx => ?_, fun b o e n hb hx => ?_, fun b o e n hx => ?_, fun b o e hx => ?_, fun b xs e => tups b xs (I.base.tups b xs e), fun b o xs e => frzs b o xs (I.base.frzs b o xs e), fun b ps e => ?_⟩, ?_, fun x c e => ?_, ?_, fun x c e => ?_, fun p hp => ?_, hok, I.len⟩
  · exact keep b o (neL b o e) hb (neC b o e hx) (I.base.keep b o e n hb hx) (I.base.free b o e n hx)
  · obtain ⟨sl, e1⟩ := I.base.slot b o e n hb hx
    obtain ⟨sl', e2⟩ := slot b _ (neL b o e) hb (neC b o e hx) e1 (I.base.free b o e n hx)
    exact ⟨sl', e2⟩
  · obtain ⟨o', e1⟩ := I.base.there b o e hx
    exact free b o' (neC b o e hx) e1 (I.base.free b o e n hx)
  · obtain ⟨o', e1⟩ := I.base.there b o e hx
    exact there b o' (neC b o e hx) e1
  · obtain ⟨m1, e1⟩ := I.base.tbls b ps e
    obtain ⟨m2, e2⟩ := tbls b _ e1
    exact ⟨m1 ++ m2, by rw [e2, Array.append_assoc]⟩
  · obtain ⟨m, hn, hl⟩ := I.loc
    refine ⟨m, ns m hn, fun i x v e1 e2 e3 => ?_⟩
    obtain ⟨u, r, l⟩ := hl i x v e1 e2 e3
    refine ⟨u, r, ?_⟩
    rcases l with l | ⟨k, c, e, z⟩
    · exact .inl l
    · exact .inr ⟨k, c, e, cellK x c e _ z⟩
  · obtain ⟨v, z⟩ := I.cell x c e
    exact ⟨v, cellK x c e v z⟩
  · obtain ⟨m, ⟨o, _, _, ho, _⟩, _⟩ := I.loc
    exact free _ o (fun z => (hch _ z).2.1 rfl) ho I.free
  · obtain ⟨v, o, ho, hd⟩ := I.cell x c e
    exact free c o (fun z => (hch c z).2.2.1 x c e rfl) ho (I.freeC x c e)
  · obtain ⟨e, n, ne, nf, d⟩ := I.pin p hp
    have nch : p.1 ∉ ch := fun z => (hch p.1 z).2.2.2 p hp rfl
    exact ⟨keep p.1 p.2 ne nf nch e n, free p.1 p.2 nch e n, ne, nf, d⟩
/-- .. where the frame's own object is kept too -/
theorem Inv.un {t' : Nat} (I : Inv X pins σ H s) (u : Un X.fs [] H H' s.heap h') (hok : HOk X.prog X.w H' h') : Inv X pins σ H' { s with heap := h', toks := t' } := by
  obtain ⟨m, ⟨o, es, ep, ho, r⟩, _⟩ := id I.loc
  obtain ⟨sl, hL⟩ := u.any ho I.free (by simp)
  exact I.step (g' := s.gens) (d' := s.drawn) (ch := []) (fun _ z => nomatch z) (fun b o _ hb _ e n => u.keep b o e n hb (by simp)) (fun b o _ hb _ e n => u.slot b o e n hb (by simp)) (fun b o _ e n => u.free b o e n (by simp)) (fun b o _ e => u.there b o e (by simp)) u.tups u.frzs u.tbls (fun m' hm => by
    obtain ⟨o', es', ep', ho', r'⟩ := hm
    rw [ho] at ho'; cases ho'
    exact ⟨_, es', ep', hL, r'⟩) hok I.bare
/-- behind a call (or a comprehension's block): the slots of this frame may have changed too, the records at ch may have turned -/
theorem Inv.call {g' : Array GenState} {t' : Nat} {d' : Drawn} {ch : List Addr} (I : Inv X pins σ H s) (u : Un (frs X.stack) ch H H' s.heap h') (hok : HOk X.prog X.w H' h') (hg : AllBare g')
    (hch : ∀ b ∈ ch, (b ∈ X.ex ∨ X.s₀.heap.objs.size ≤ b) ∧ b ≠ X.env.locals ∧ (∀ x c, X.env.cells.lookup x = some c → c ≠ b) ∧ ∀ p ∈ X.pn ++ pins, p.1 ≠ b) :
    Inv X pins σ H' { s with heap := h', gens := g', drawn := d', toks := t' } := by
  obtain ⟨m, ⟨o, es, ep, ho, r⟩, _⟩ := id I.loc
  obtain ⟨sl, hL⟩ := u.any ho I.free fun z => (hch _ z).2.1 rfl
  exact I.step (ch := ch) hch (fun b o hL hb hc e n => u.keep b o e n (fun z => (List.mem_cons.mp (I.stkSub b z)).elim hL hb) hc) (fun b o _ _ hc e n => u.any e n hc) (fun b o hc e n => u.free b o e n hc) (fun b o hc e => u.there b o e hc) u.tups u.frzs u.tbls (fun m' hm => by
    obtain ⟨o', es', ep', ho', r'⟩ := hm
    rw [ho] at ho'; cases ho'
    exact ⟨_, es', ep', hL, r'⟩) hok hg
/-- an untracked record of ours (an iterator) has turned -/
theorem Inv.turned {t' : Nat} {it : Addr} (I : Inv X pins σ H s) (k : ∀ b o, b ≠ it → s.heap.get? b = some o → h'.get? b = some o) (hn : H it = none) (hL : it ≠ X.env.locals)
    (h1 : it ∈ X.ex ∨ X.s₀.heap.objs.size ≤ it) (h2 : ∀ x c, X.env.cells.lookup x = some c → c ≠ it) (h3 : ∀ p ∈ X.pn ++ pins, p.1 ≠ it) : Inv X pins σ H { s with heap := h', toks := t' } := by
  have nit : ∀ b u, H b = some u → b ≠ it := fun b u e z => by rw [z, hn] at e; cases e
  refine I.step (g' := s.gens) (d' := s.drawn) (ch := [it]) (fun b hb => ?_) (fun b o _ _ hc e _ => k b o (fun z => hc (by simp [z])) e) (fun b o _ _ hc e _ => ⟨o.slots, k b o (fun z => hc (by simp [z])) e⟩) (fun _ _ _ _ n => n)
    (fun b o hc e => ⟨o, k b o (fun z => hc (by simp [z])) e⟩) (fun _ _ e => e) (fun _ _ _ e => e) (fun b ps e => ⟨#[], by rw [e]; simp⟩) (fun m hm => ?_) (fun b u e => ?_) I.bare
  · have e : b = it := by simpa using hb
    subst e
    exact ⟨h1, hL, h2, h3⟩
  · obtain ⟨o, es, ep, ho, r⟩ := hm
    exact ⟨o, es, ep, k _ o (Ne.symm hL) ho, r⟩
  · refine (I.hok b u e).stay (fun c v hc q => k c v ?_ q) (fun _ q => q) fun _ _ q => q
    rcases hc with z | z
    · rw [z]; exact nit b u e
    · exact nit c _ z
theorem Inv.tok (I : Inv X pins σ H s) (t : Nat) : Inv X pins σ H { s with toks := t } := I.un (h' := s.heap) (t' := t) Un.refl I.hok
/-- all objects kept -/
theorem Inv.kept {t' : Nat} (I : Inv X pins σ H s) (k : ∀ b u, s.heap.get? b = some u → h'.get? b = some u) : Inv X pins σ H { s with heap := h', toks := t' } := I.un (Un.kept k) (I.hok.kept k)
/-- a new object laid and tracked -/
theorem Inv.laid {a : Addr} {o : HO} {t' : Nat} (I : Inv X pins σ H s) (k : ∀ b u, s.heap.get? b = some u → h'.get? b = some u) (hp : s.heap.objs.size ≤ a) (new : ObjOk X.prog X.w (upd H a o) h' a o) :
    Inv X pins σ (upd H a o) { s with heap := h', toks := t' } := I.un (Un.laid k hp (I.hok.fresh hp)) (I.hok.laid k hp new)
/-- an object written -/
theorem Inv.write {x e : Addr} {o : HO} {t' : Nat} (I : Inv X pins σ H s) (mu : Mut (H x)) (he : e = x ∨ H e = some (.own x)) (k : ∀ b u, b ≠ e → s.heap.get? b = some u → h'.get? b = some u) (heo : ∃ u, h'.get? e = some u)
    (new : ObjOk X.prog X.w (upd H x o) h' x o) : Inv X pins σ (upd H x o) { s with heap := h', toks := t' } := I.un (Un.write mu he k heo) (I.hok.write mu he k heo new)
theorem Inv.pins_of {pins' : List (Addr × Obj)} (I : Inv X pins σ H s) (h : ∀ p ∈ pins', s.heap.get? p.1 = some p.2 ∧ H p.1 = none ∧ p.1 ≠ X.env.locals ∧ p.1 ∉ X.fs ∧ ∀ v, p.2.data ≠ .cell v) : Inv X pins' σ H s :=
  ⟨I.ok, I.os, I.bare, I.base, I.loc, I.cell, I.free, I.freeC, fun p hp => (List.mem_append.mp hp).elim (fun z => I.pin p (List.mem_append_left _ z)) (h p), I.hok, I.len⟩

theorem nodup_ix {N : List Str} (hN : N.Nodup) {i j : Nat} {x : Str} (a : N[i]? = some x) (b : N[j]? = some x) : i = j := by
  obtain ⟨h1, e1⟩ := List.getElem?_eq_some_iff.mp a
  obtain ⟨h2, e2⟩ := List.getElem?_eq_some_iff.mp b
  exact (List.getElem_inj hN).mp (e1.trans e2.symm)

/-- a name is stored; what changed -/
theorem store_ok2 {M : Model} {A : Around} {E : Value → Shared → Prop} {i : Nat} {x : Str} {v : V} {u : Value} {Q : Unit → Shared → Prop} (I : Inv X pins σ H s) (hN : X.N.Nodup) (hi : X.N[i]? = some x) (hx : Loc X.env.scope x) (r : RelV v u)
    (h : ∀ s', Inv X pins (σ.set i (some v)) H s' → (∃ a, Heap.SameBut a s.heap s'.heap ∧ (a = X.env.locals ∨ X.env.cells.lookup x = some a)) → Q () s') (hf : X.fn x = true ∨ X.env.scope.names.lookup x = some .local := by first | exact .inl rfl | exact .inr rfl | assumption) : wpAny M A (storeName X.env x u) Q E s := by
  obtain ⟨m, hn, hl⟩ := id I.loc
  have hcls : (X.env.scope.kind == .class || (X.env.scope.kind == .module && X.env.locals != X.env.globals)) = false := by rw [I.ok.kind]; rfl
  have hiσ : i < σ.length := by rw [I.len]; exact (List.getElem?_eq_some_iff.mp hi).1
  have cne := I.cne
  have tracked : ∀ {a : Addr} {h' : Heap}, (∃ o, s.heap.get? a = some o ∧ H a = none) → Heap.SameBut a s.heap h' → HOk X.prog X.w H h' := fun {a h'} ha hs b ob e => by
    obtain ⟨_, _, hfree⟩ := ha
    refine (I.hok b ob e).stay (fun c w' hc q => (hs.2 c ?_).trans q) (fun _ q => q) fun _ _ q => q
    rintro rfl
    rcases hc with rfl | hc
    · rw [hfree] at e; cases e
    · rw [hfree] at hc; cases hc
  rcases hx with hk | hk
  · refine wpAny_storeName_local hk hn (fun h' hn' hs => ?_) hcls
    obtain ⟨oL, _, _, hoL, _⟩ := id hn
    refine h _ ⟨I.ok, I.os, I.bare, ⟨fun b o e n hb hx => ?_, fun b o e n hb hx => ?_, I.base.free, fun b o e hx => ?_, I.base.tups, I.base.frzs, I.base.tbls⟩, ⟨_, hn', fun j y v' e1 e2 e3 => ?_⟩, fun y c e => ?_, I.free, I.freeC, fun p hp => ?_, tracked ⟨oL, hoL, I.free⟩ hs, by simpa using I.len⟩ ⟨_, hs, .inl rfl⟩
    · exact (hs.2 b (Nat.ne_of_lt (Nat.lt_of_lt_of_le (Heap.lt_size e) I.ok.above))).trans (I.base.keep b o e n hb hx)
    · obtain ⟨sl, e1⟩ := I.base.slot b o e n hb hx
      exact ⟨sl, (hs.2 b (Nat.ne_of_lt (Nat.lt_of_lt_of_le (Heap.lt_size e) I.ok.above))).trans e1⟩
    · obtain ⟨o', e1⟩ := I.base.there b o e hx
      exact ⟨o', (hs.2 b (Nat.ne_of_lt (Nat.lt_of_lt_of_le (Heap.lt_size e) I.ok.above))).trans e1⟩
    · by_cases hj : j = i
      · subst hj
        rw [hi] at e1; cases e1
        rw [List.getElem?_set_self hiσ] at e2
        cases e2
        exact ⟨u, r, .inl ⟨hk, by simp⟩⟩
      · rw [List.getElem?_set_ne (Ne.symm hj)] at e2
        obtain ⟨u', r', q⟩ := hl j y v' e1 e2 e3
        refine ⟨u', r', ?_⟩
        rcases q with ⟨k, e⟩ | ⟨k, c, e, z⟩
        · refine .inl ⟨k, ?_⟩
          have : y ≠ x := fun e => hj (nodup_ix hN e1 (e ▸ hi))
          simp [this, e]
        · exact .inr ⟨k, c, e, z.sameBut hs (cne y c e)⟩
    · obtain ⟨w', z⟩ := I.cell y c e
      exact ⟨w', z.sameBut hs (cne y c e)⟩
    · obtain ⟨e, n, ne, nf, d⟩ := I.pin p hp
      exact ⟨(hs.2 p.1 ne).trans e, n, ne, nf, d⟩
  · have hfn : X.fn x = true := by
      rcases hf with z | z
      · exact z
      · rw [z] at hk; cases hk
    obtain ⟨c, hc⟩ := I.ok.has x (.inl hk)
    obtain ⟨w', z⟩ := I.cell x c hc
    refine wpAny_storeName_cell I.ok.kind hk hc z (fun h' hc' hs => ?_)
    obtain ⟨oc, hoc, hocd⟩ := id z
    refine h { s with heap := h' } ⟨I.ok, I.os, I.bare, ⟨fun b o e n hb hx => ?_, fun b o e n hb hx => ?_, I.base.free, fun b o e hx => ?_, I.base.tups, I.base.frzs, I.base.tbls⟩, ⟨m, hn.sameBut hs (Ne.symm (cne x c hc)), fun j y v' e1 e2 e3 => ?_⟩, fun y c' e => ?_, I.free, I.freeC, fun p hp => ?_, tracked ⟨oc, hoc, I.freeC x c hc⟩ hs, by simpa using I.len⟩ ⟨c, hs, .inr hc⟩
    · exact (hs.2 b (Nat.ne_of_lt (Nat.lt_of_lt_of_le (Heap.lt_size e) (I.ok.cab x c hfn hc)))).trans (I.base.keep b o e n hb hx)
    · obtain ⟨sl, e1⟩ := I.base.slot b o e n hb hx
      exact ⟨sl, (hs.2 b (Nat.ne_of_lt (Nat.lt_of_lt_of_le (Heap.lt_size e) (I.ok.cab x c hfn hc)))).trans e1⟩
    · obtain ⟨o', e1⟩ := I.base.there b o e hx
      exact ⟨o', (hs.2 b (Nat.ne_of_lt (Nat.lt_of_lt_of_le (Heap.lt_size e) (I.ok.cab x c hfn hc)))).trans e1⟩
    · by_cases hj : j = i
      · subst hj
        rw [hi] at e1; cases e1
        rw [List.getElem?_set_self hiσ] at e2
        cases e2
        exact ⟨u, r, .inr ⟨.inl hk, c, hc, hc'⟩⟩
      · rw [List.getElem?_set_ne (Ne.symm hj)] at e2
        obtain ⟨u', r', q⟩ := hl j y v' e1 e2 e3
        refine ⟨u', r', ?_⟩
        rcases q with q | ⟨k, c', e, z'⟩
        · exact .inl q
        · refine .inr ⟨k, c', e, z'.sameBut hs ?_⟩
          rintro rfl
          exact hj (nodup_ix hN e1 (I.ok.inj _ _ _ e hc ▸ hi))
    · by_cases hcc : c' = c
      · subst hcc; exact ⟨_, hc'⟩
      · obtain ⟨w2, z2⟩ := I.cell y c' e
        exact ⟨w2, z2.sameBut hs hcc⟩
    · obtain ⟨e, n, ne, nf, d⟩ := I.pin p hp
      refine ⟨(hs.2 p.1 ?_).trans e, n, ne, nf, d⟩
      intro q
      rw [q, hoc] at e
      have q' : oc = p.2 := Option.some.inj e
      exact d w' (by rw [← q']; exact hocd)
theorem store_ok {M : Model} {A : Around} {E : Value → Shared → Prop} {i : Nat} {x : Str} {v : V} {u : Value} {Q : Unit → Shared → Prop} (I : Inv X pins σ H s) (hN : X.N.Nodup) (hi : X.N[i]? = some x) (hx : Loc X.env.scope x) (r : RelV v u)
    (h : ∀ s', Inv X pins (σ.set i (some v)) H s' → Q () s') (hf : X.fn x = true ∨ X.env.scope.names.lookup x = some .local := by first | exact .inl rfl | exact .inr rfl | assumption) : wpAny M A (storeName X.env x u) Q E s :=
  store_ok2 I hN hi hx r (fun s' I' _ => h s' I') hf
/-- behind a call or a block, the state as it is -/
theorem Inv.call' {s' : Shared} {ch : List Addr} (I : Inv X pins σ H s) (ho : s'.os = s.os) (u : Un (frs X.stack) ch H H' s.heap s'.heap) (hok : HOk X.prog X.w H' s'.heap) (hg : AllBare s'.gens)
    (hch : ∀ b ∈ ch, (b ∈ X.ex ∨ X.s₀.heap.objs.size ≤ b) ∧ b ≠ X.env.locals ∧ (∀ x c, X.env.cells.lookup x = some c → c ≠ b) ∧ ∀ p ∈ X.pn ++ pins, p.1 ≠ b) : Inv X pins σ H' s' := by
  obtain ⟨h', g', d', t', o'⟩ := s'
  have e : o' = s.os := ho
  subst e
  exact I.call (g' := g') (t' := t') (d' := d') u hok hg hch
end

/-! ### the judgements -/
/-- an exception: its class, its own dict's address (where it has one), the abstract heap behind it -/
abbrev XK := Value → Option Addr → Hp → Prop
abbrev St := List (Option V)
abbrev VK := V → Hp → Prop
/-- an expression's reading; a test's; an argument list's -/
abbrev TE := St → Hp → VK → Prop
abbrev TT := St → Hp → (Bool → Hp → Prop) → Prop
abbrev TA := St → Hp → (List V → Hp → Prop) → Prop
/-- what is wanted behind a statement -/
structure Ends where
  nx : St → Hp → Prop
  rt : VK
  bk : St → Hp → Prop := fun _ _ => False
  ct : St → Hp → Prop := fun _ _ => False
abbrev TS := Ends → St → Hp → Prop

def EP (X : Cx) (pins : List (Addr × Obj)) (σ : St) (Q : VK) (u : Value) (s' : Shared) : Prop := ∃ v H', Inv X pins σ H' s' ∧ RelV v u ∧ Q v H'
def TP (X : Cx) (pins : List (Addr × Obj)) (σ : St) (Q : Bool → Hp → Prop) (b : Bool) (s' : Shared) : Prop := ∃ H', Inv X pins σ H' s' ∧ Q b H'
def AP (X : Cx) (pins : List (Addr × Obj)) (σ : St) (Q : List V → Hp → Prop) (us : List Value) (s' : Shared) : Prop := ∃ vs H', Inv X pins σ H' s' ∧ Vals vs us ∧ Q vs H'
def SP (X : Cx) (pins : List (Addr × Obj)) (D : Ends) (f : Flow) (s' : Shared) : Prop :=
  match f with
  | .next => ∃ σ' H', Inv X pins σ' H' s' ∧ D.nx σ' H'
  | .brk => ∃ σ' H', Inv X pins σ' H' s' ∧ D.bk σ' H'
  | .cont => ∃ σ' H', Inv X pins σ' H' s' ∧ D.ct σ' H'
  | .ret u => ∃ v σ' H', Inv X pins σ' H' s' ∧ RelV v u ∧ D.rt v H'

def PE (X : Cx) (e : Expr) (t : TE) : Prop :=
  ∀ (pins : List (Addr × Obj)) (s : Shared) (σ : St) (H : Hp) (Q : VK), Inv X pins σ H s → t σ H Q → wpAny (model X.prog X.w) X.A (eval e X.env) (EP X pins σ Q) X.xe s
def PT (X : Cx) (e : Expr) (t : TT) : Prop :=
  ∀ (pins : List (Addr × Obj)) (s : Shared) (σ : St) (H : Hp) (Q : Bool → Hp → Prop), Inv X pins σ H s → t σ H Q → wpAny (model X.prog X.w) X.A (isTrue e X.env (eval e X.env)) (TP X pins σ Q) X.xe s
/-- a test whatever its 'whole' is (and, or) -/
def PW (X : Cx) (e : Expr) (t : TT) : Prop :=
  ∀ (whole : Sem Value) (pins : List (Addr × Obj)) (s : Shared) (σ : St) (H : Hp) (Q : Bool → Hp → Prop), Inv X pins σ H s → t σ H Q → wpAny (model X.prog X.w) X.A (isTrue e X.env whole) (TP X pins σ Q) X.xe s
theorem PW.pt {X : Cx} {e : Expr} {t : TT} (h : PW X e t) : PT X e t := h _
/-- an argument list (no star), from the left -/
def PA (X : Cx) (es : List Expr) (t : TA) : Prop :=
  ∀ (pos : Pos) (pins : List (Addr × Obj)) (s : Shared) (σ : St) (H : Hp) (Q : List V → Hp → Prop), Inv X pins σ H s → t σ H Q → wpAny (model X.prog X.w) X.A (spliced (backTo pos (starEach es X.env))) (AP X pins σ Q) X.xe s
def PS (X : Cx) (st : Stmt) (t : TS) : Prop :=
  ∀ (pins : List (Addr × Obj)) (s : Shared) (σ : St) (H : Hp) (D : Ends), Inv X pins σ H s → t D σ H → wpAny (model X.prog X.w) X.A (exec st X.env) (SP X pins D) X.xe s
def PSs (X : Cx) (st : List Stmt) (t : TS) : Prop :=
  ∀ (pins : List (Addr × Obj)) (s : Shared) (σ : St) (H : Hp) (D : Ends), Inv X pins σ H s → t D σ H → wpAny (model X.prog X.w) X.A (execs st X.env) (SP X pins D) X.xe s
/-- weaken the end -/
theorem thn {α : Type} {t : Sem α} {Q Q' : α → Shared → Prop} {M : Model} {A : Around} {E : Value → Shared → Prop} {s : Shared} (h : wpAny M A t Q E s) (hQ : ∀ a s, Q a s → Q' a s) : wpAny M A t Q' E s := wpAny_mono h hQ fun _ _ x => x
end L2

namespace L2
open PySem PySem.Spec PyProof.Rows
section
variable {X : Cx}

/-! ### names and constants -/
def tVar (i : Nat) : TE := fun σ H Q => ∃ v, σ[i]? = some (some v) ∧ Q v H
def tC (v : V) : TE := fun _ H Q => Q v H
theorem pe_var {i : Nat} {x : Str} {pos : Pos} (hN : X.N[i]? = some x) (hv : Vis X.env.scope x) (hd : (x == ("__debug__" : Str)) = false := by decide) (hcd : (x == ("__classdict__" : Str)) = false := by decide) : PE X (.Name x pos) (tVar i) := by
  intro pins s σ H Q I h
  obtain ⟨v, e, h⟩ := h
  obtain ⟨m, hn, hl⟩ := I.loc
  obtain ⟨u, r, l⟩ := hl i x v hN e hv
  have fin : EP X pins σ Q u s := ⟨v, H, I, r, h⟩
  rcases l with ⟨hk, hm⟩ | ⟨hk, c, hc, hcell⟩
  · exact wpAny_Name (wpAny_loadName_local I.ok.kind hk hn hm fin) hd
  · rcases hk with hk | hk
    · exact wpAny_Name (wpAny_loadName_cell I.ok.kind hk hc hcell fin) hd
    · exact wpAny_Name (wpAny_loadName_free I.ok.kind hk hc hcell fin hcd) hd
theorem pe_int {i j pos} : PE X (.Constant (.int i) j pos) (tC (.int i)) := fun _ _ _ H _ I h => wpAny_Constant_int ⟨.int i, H, I.tok _, ⟨_, rfl⟩, h⟩
theorem pe_bl {b j pos} : PE X (.Constant (.bool b) j pos) (tC (.bl b)) := fun _ _ _ H _ I h => Constant_bool ⟨.bl b, H, I, rfl, h⟩
theorem pe_non {j pos} : PE X (.Constant .none j pos) (tC .non) := fun _ _ _ H _ I h => Constant_none ⟨.non, H, I, rfl, h⟩
theorem pe_str {x j pos} : PE X (.Constant (.str x) j pos) (tC (.str x)) := fun _ _ _ H _ I h => Calls.Constant_str ⟨.str x, H, I.tok _, ⟨_, rfl⟩, h⟩

/-- a global name of the def -/
def Gl (X : Cx) (x : Str) : Prop := X.env.kindOf x = some .globalImplicit
theorem ld_glob {E : Value → Shared → Prop} {pins : List (Addr × Obj)} {s : Shared} {σ : St} {H : Hp} {x : Str} {u : Value} {pos : Pos} {Q : Value → Shared → Prop} (I : Inv X pins σ H s) (hg : Gl X x) (hm : X.mg x = some u) (h : Q u s)
    (hd : (x == ("__debug__" : Str)) = false := by decide) : wpAny (model X.prog X.w) X.A (eval (.Name x pos) X.env) Q E s :=
  Calls.Name_function_global I.ok.kind hg (Calls.loadGlobal_global (by rw [I.ok.glob]; exact I.mod.glob.keeps I.bk) hm h) hd
theorem ld_blt {E : Value → Shared → Prop} {pins : List (Addr × Obj)} {s : Shared} {σ : St} {H : Hp} {x : Str} {u : Value} {pos : Pos} {Q : Value → Shared → Prop} (I : Inv X pins σ H s) (hg : Gl X x) (hm : X.mg x = none) (hv : bootBuiltins x = some u) (h : Q u s)
    (hn : x ≠ "__name__" := by decide) (hd : (x == ("__debug__" : Str)) = false := by decide) : wpAny (model X.prog X.w) X.A (eval (.Name x pos) X.env) Q E s := by
  obtain ⟨mb, h1, h2⟩ := I.mod.blt
  exact Calls.Name_function_global I.ok.kind hg (Calls.loadGlobal_builtin (by rw [I.ok.glob]; exact I.mod.glob.keeps I.bk) hm (by rw [I.ok.blt]; exact h1.keeps I.bk) ((h2 x hn).trans hv) h) hd
/-- a module's constant, a class, a function, as a value -/
theorem pe_glob {x : Str} {v : V} {u : Value} {pos : Pos} (hg : Gl X x) (hm : X.mg x = some u) (r : RelV v u) (hd : (x == ("__debug__" : Str)) = false := by decide) : PE X (.Name x pos) (tC v) :=
  fun _ _ _ H _ I h => ld_glob I hg hm ⟨v, H, I, r, h⟩ hd
theorem pe_bltn {x : Str} {v : V} {u : Value} {pos : Pos} (hg : Gl X x) (hm : X.mg x = none) (hv : bootBuiltins x = some u) (r : RelV v u) (hn : x ≠ "__name__" := by decide) (hd : (x == ("__debug__" : Str)) = false := by decide) : PE X (.Name x pos) (tC v) :=
  fun _ _ _ H _ I h => ld_blt I hg hm hv ⟨v, H, I, r, h⟩ hn hd

/-! ### arithmetic -/
variable {a b : Expr} {ta tb : TE} {pos : Pos}
/-! ### comparisons -/
/-- a comparison as a value, as a test -/
def tB (t : TE) : TT := fun σ H Q => t σ H fun x H1 => ∃ c, x = .bl c ∧ Q c H1
/-- an expression whose value is a bool, as a test -/
theorem pt_val {e : Expr} {t : TE} (h : PE X e t) (he : ∀ whole, isTrue e X.env whole = (do let v ← whole; standAt e.pos; holding [v] (truthy v)) := by intro _; rfl) : PT X e (tB t) := by
  intro pins s σ H Q I hw
  refine isTrue_plain (thn (h pins s σ H _ I hw) fun v s1 ⟨x, H1, I1, r1, q1⟩ => ?_) (he _)
  obtain ⟨d, rfl, q⟩ := q1
  cases r1
  exact wpAny_truthy_bool ⟨H1, I1, q⟩

/-! ### and, or, not -/
variable {tA tB' : TT} {rest : List Expr}
def tAnd (t u : TT) : TT := fun σ H Q => t σ H fun c H1 => if c = true then u σ H1 Q else Q false H1
def tOr (t u : TT) : TT := fun σ H Q => t σ H fun c H1 => if c = true then Q true H1 else u σ H1 Q
def tNot (t : TT) : TT := fun σ H Q => t σ H fun c H1 => Q (!c) H1
theorem pw_and1 (ha : PT X a tA) : PW X (.BoolOp .And [a] pos) tA := by
  intro wh pins s σ H Q I h
  refine isTrue_and (thn (ha pins s σ H Q I h) fun c s1 e => ?_)
  cases c with
  | true => exact isTrue_and_nil e
  | false => exact e
theorem pw_or1 (ha : PT X a tA) : PW X (.BoolOp .Or [a] pos) tA := by
  intro wh pins s σ H Q I h
  refine isTrue_or (thn (ha pins s σ H Q I h) fun c s1 e => ?_)
  cases c with
  | false => exact isTrue_or_nil e
  | true => exact e
theorem pw_and (ha : PT X a tA) (hb : PW X (.BoolOp .And (b :: rest) pos) tB') : PW X (.BoolOp .And (a :: b :: rest) pos) (tAnd tA tB') := by
  intro wh pins s σ H Q I h
  refine isTrue_and (thn (ha pins s σ H _ I h) fun c s1 ⟨H1, I1, q1⟩ => ?_)
  cases c with
  | true => exact hb wh pins s1 σ H1 Q I1 q1
  | false => exact ⟨H1, I1, q1⟩
theorem pw_or (ha : PT X a tA) (hb : PW X (.BoolOp .Or (b :: rest) pos) tB') : PW X (.BoolOp .Or (a :: b :: rest) pos) (tOr tA tB') := by
  intro wh pins s σ H Q I h
  refine isTrue_or (thn (ha pins s σ H _ I h) fun c s1 ⟨H1, I1, q1⟩ => ?_)
  cases c with
  | true => exact ⟨H1, I1, q1⟩
  | false => exact hb wh pins s1 σ H1 Q I1 q1
theorem pt_not (ha : PT X a tA) : PT X (.UnaryOp .Not a pos) (tNot tA) := by
  intro pins s σ H Q I h
  exact isTrue_not (ha pins s σ H (fun c H1 => Q (!c) H1) I h)
/-- .. as values (bools) -/
def tAndV (ta tb : TE) : TE := fun σ H Q => ta σ H fun x H1 => ∃ c, x = .bl c ∧ if c = true then tb σ H1 Q else Q (.bl false) H1
def tOrV (ta tb : TE) : TE := fun σ H Q => ta σ H fun x H1 => ∃ c, x = .bl c ∧ if c = true then Q (.bl true) H1 else tb σ H1 Q
def tNotV (ta : TE) : TE := fun σ H Q => ta σ H fun x H1 => ∃ c, x = .bl c ∧ Q (.bl (!c)) H1
theorem pe_one {op} {t : TE} (h : PE X a t) : PE X (.BoolOp op [a] pos) t := fun pins s σ H Q I hw => BoolOp_one (h pins s σ H Q I hw)
theorem pe_and (ha : PE X a ta) (hb : PE X (.BoolOp .And (b :: rest) pos) tb) : PE X (.BoolOp .And (a :: b :: rest) pos) (tAndV ta tb) := by
  intro pins s σ H Q I h
  refine BoolOp_and (thn (ha pins s σ H _ I h) fun v s1 ⟨x, H1, I1, r1, q1⟩ => ?_)
  obtain ⟨c, rfl, q1⟩ := q1
  cases r1
  refine wpAny_truthy_bool ?_
  cases c with
  | true => exact hb pins s1 σ H1 Q I1 q1
  | false => exact ⟨.bl false, H1, I1, rfl, q1⟩
theorem pe_or (ha : PE X a ta) (hb : PE X (.BoolOp .Or (b :: rest) pos) tb) : PE X (.BoolOp .Or (a :: b :: rest) pos) (tOrV ta tb) := by
  intro pins s σ H Q I h
  refine BoolOp_or (thn (ha pins s σ H _ I h) fun v s1 ⟨x, H1, I1, r1, q1⟩ => ?_)
  obtain ⟨c, rfl, q1⟩ := q1
  cases r1
  refine wpAny_truthy_bool ?_
  cases c with
  | false => exact hb pins s1 σ H1 Q I1 q1
  | true => exact ⟨.bl true, H1, I1, rfl, q1⟩
theorem pe_not (ha : PE X a ta) : PE X (.UnaryOp .Not a pos) (tNotV ta) := by
  intro pins s σ H Q I h
  refine UnaryOp_ (thn (ha pins s σ H _ I h) fun v s1 ⟨x, H1, I1, r1, q1⟩ => ?_)
  obtain ⟨c, rfl, q1⟩ := q1
  cases r1
  exact not_of (wpAny_truthy_bool ⟨.bl (!c), H1, I1, rfl, q1⟩)
/-- a if t else b -/
def tIf (t : TT) (ta tb : TE) : TE := fun σ H Q => t σ H fun c H1 => if c = true then ta σ H1 Q else tb σ H1 Q
theorem pe_ifExp {c : Expr} (hc : PT X c tA) (ha : PE X a ta) (hb : PE X b tb) : PE X (.IfExp c a b pos) (tIf tA ta tb) := by
  intro pins s σ H Q I h
  refine wpAny_IfExp (thn (hc pins s σ H _ I h) fun d s1 ⟨H1, I1, q1⟩ => ?_)
  cases d with
  | true => exact ha pins s1 σ H1 Q I1 q1
  | false => exact hb pins s1 σ H1 Q I1 q1
end
end L2

namespace L2
open PySem PySem.Spec PyProof.Rows

/-! ### a list, a tuple that is read: tracked, frozen, or an object of the module -/
def SqL (K : PySem.W.Frag) (H : Hp) (a : Addr) (xs : List V) : Prop :=
  Rd H a (.lst xs) ∨
    ∃ (o : Obj) (its : Array Value) (n : Nat), K.lookup a = some o ∧ o.cls = .type "list" ∧ o.dict = none ∧ o.data = .seq its n ∧ its.size ≤ sizeLine ∧ Vals xs its.toList
def SqT (K : PySem.W.Frag) (H : Hp) (a : Addr) (xs : List V) : Prop :=
  Rd H a (.tup xs) ∨
    ∃ (o : Obj) (its : Array Value) (n : Nat), K.lookup a = some o ∧ o.cls = .type "tuple" ∧ o.data = .seq its n ∧ its.size ≤ sizeLine ∧ Vals xs its.toList
def absV : Value → Option V
  | .none => some .non
  | .bool b => some (.bl b)
  | .int i _ => some (.int i)
  | .str x _ => some (.str x)
  | .bytes b _ => some (.byt b)
  | .float b _ => some (.flt b)
  | .ref a => some (.ref a)
  | .type n => some (.ty n)
  | _ => none
theorem RelV.abs {x : V} {u : Value} (r : RelV x u) : absV u = some x := by
  cases x with
  | non => cases r; rfl
  | bl _ => cases r; rfl
  | int _ => obtain ⟨t, rfl⟩ := r; rfl
  | str _ => obtain ⟨t, rfl⟩ := r; rfl
  | byt _ => obtain ⟨t, rfl⟩ := r; rfl
  | flt _ => obtain ⟨t, rfl⟩ := r; rfl
  | ref _ => cases r; rfl
  | ty _ => cases r; rfl
theorem RelV.inj {x y : V} {u : Value} (r : RelV x u) (q : RelV y u) : x = y := Option.some.inj (r.abs.symm.trans q.abs)
theorem Vals.inj : ∀ {xs ys : List V} {us : List Value}, Vals xs us → Vals ys us → xs = ys
  | _, _, _, .nil, .nil => rfl
  | _, _, _, .cons r t, .cons r' t' => by rw [r.inj r', Vals.inj t t']
section
variable {X : Cx} {pins : List (Addr × Obj)} {σ : St} {H : Hp} {s : Shared} {a : Addr} {xs ys : List V}
theorem SqL.of {K : PySem.W.Frag} (h : H a = some (.lst xs)) : SqL K H a xs := .inl (.inl h)
theorem SqT.of {K : PySem.W.Frag} (h : H a = some (.tup xs)) : SqT K H a xs := .inl (.inl h)
theorem Inv.list (I : Inv X pins σ H s) (h : SqL X.K H a xs) : ∃ its : List Value, Vals xs its ∧ PlainL s.heap a its.toArray ∧ xs.length ≤ sizeLine := by
  rcases h with h | ⟨o, its, n, hk, hc, hd, hs, hz, r⟩
  · obtain ⟨z, its, n, r, e⟩ := h.ok I.hok
    exact ⟨its, r, ⟨_, n, e, rfl, rfl, rfl⟩, z⟩
  · refine ⟨its.toList, r, ⟨o, n, I.kIn a o hk, hc, hd, by simpa using hs⟩, ?_⟩
    have e := r.length
    simp only [Array.length_toList] at e
    omega
theorem Inv.tuple (I : Inv X pins σ H s) (h : SqT X.K H a xs) : ∃ its : List Value, Vals xs its ∧ IsTup s.heap a its.toArray ∧ xs.length ≤ sizeLine := by
  rcases h with h | ⟨o, its, n, hk, hc, hs, hz, r⟩
  · obtain ⟨z, its, r, p⟩ := h.ok I.hok
    exact ⟨its, r, p.isTup, z⟩
  · refine ⟨its.toList, r, ⟨o, I.kIn a o hk, hc, n, by simpa using hs⟩, ?_⟩
    have e := r.length
    simp only [Array.length_toList] at e
    omega
theorem Inv.list_inj (I : Inv X pins σ H s) (h : SqL X.K H a xs) (h' : SqL X.K H a ys) : xs = ys := by
  obtain ⟨its, r, ⟨o, n, e, _, _, d⟩, _⟩ := I.list h
  obtain ⟨its', r', ⟨o', n', e', _, _, d'⟩, _⟩ := I.list h'
  rw [e] at e'; cases e'
  rw [d] at d'
  injection d' with d1 _
  have : its = its' := by simpa using congrArg Array.toList d1
  subst this
  exact r.inj r'
theorem Inv.tuple_inj (I : Inv X pins σ H s) (h : SqT X.K H a xs) (h' : SqT X.K H a ys) : xs = ys := by
  obtain ⟨its, r, ⟨o, e, _, n, d⟩, _⟩ := I.tuple h
  obtain ⟨its', r', ⟨o', e', _, n', d'⟩, _⟩ := I.tuple h'
  rw [e] at e'; cases e'
  rw [d] at d'
  injection d' with d1 _
  have : its = its' := by simpa using congrArg Array.toList d1
  subst this
  exact r.inj r'
end

/-! ### another wish about exceptions -/
abbrev Cx.wish (X : Cx) (E : Value → Shared → Prop) : Cx := { X with xe := E }
/-- no exception leaves -/
abbrev Cx.nox (X : Cx) : Cx := X.wish fun _ _ => False
theorem Cx.Ok.wish {X : Cx} (ok : X.Ok) (E : Value → Shared → Prop) : (X.wish E).Ok :=
  ⟨ok.mod, ok.kind, ok.glob, ok.blt, ok.above, ok.inj, ok.has, ok.cab, ok.hd, ok.frames, ok.stk, ok.exf, ok.bs, ok.bsz, ok.noex, ok.exfs, ok.funs, ok.frf⟩
theorem Cx.Ok.unwish {X : Cx} {E : Value → Shared → Prop} (ok : (X.wish E).Ok) : X.Ok :=
  ⟨ok.mod, ok.kind, ok.glob, ok.blt, ok.above, ok.inj, ok.has, ok.cab, ok.hd, ok.frames, ok.stk, ok.exf, ok.bs, ok.bsz, ok.noex, ok.exfs, ok.funs, ok.frf⟩
section
variable {X : Cx} {pins : List (Addr × Obj)} {σ : St} {H : Hp} {s : Shared} {E : Value → Shared → Prop}
theorem Inv.wish (I : Inv X pins σ H s) (E : Value → Shared → Prop) : Inv (X.wish E) pins σ H s := ⟨I.ok.wish E, I.os, I.bare, I.base, I.loc, I.cell, I.free, I.freeC, I.pin, I.hok, I.len⟩
theorem Inv.unwish (I : Inv (X.wish E) pins σ H s) : Inv X pins σ H s := ⟨I.ok.unwish, I.os, I.bare, I.base, I.loc, I.cell, I.free, I.freeC, I.pin, I.hok, I.len⟩
theorem SP.unwish {D : Ends} {f : Flow} {s' : Shared} (h : SP (X.wish E) pins D f s') : SP X pins D f s' := by
  cases f with
  | next => obtain ⟨σ', H', I, q⟩ := h; exact ⟨σ', H', I.unwish, q⟩
  | brk => obtain ⟨σ', H', I, q⟩ := h; exact ⟨σ', H', I.unwish, q⟩
  | cont => obtain ⟨σ', H', I, q⟩ := h; exact ⟨σ', H', I.unwish, q⟩
  | ret u => obtain ⟨v, σ', H', I, r, q⟩ := h; exact ⟨v, σ', H', I.unwish, r, q⟩
theorem PSs.nox {st : List Stmt} {t : TS} (h : PSs X.nox st t) : PSs X st t := fun pins s σ H D I hw =>
  wpAny_mono (h pins s σ H D (I.wish _) hw) (fun _ _ q => q.unwish) fun _ _ z => False.elim z
end

/-! ### blocks and small statements -/
section
variable {X : Cx} {st : Stmt} {rest : List Stmt} {t u : TS} {e : Expr} {te : TE} {pos : Pos}
def tNext : TS := fun D σ H => D.nx σ H
def tSeq (t u : TS) : TS := fun D σ H => t { D with nx := u D } σ H
theorem pss_nil : PSs X [] tNext := fun _ _ σ H _ I h => wpAny_execs_nil ⟨σ, H, I, h⟩
theorem pss_cons (h1 : PS X st t) (h2 : PSs X rest u) : PSs X (st :: rest) (tSeq t u) := by
  intro pins s σ H D I h
  refine wpAny_execs_cons (thn (h1 pins s σ H { D with nx := u D } I h) fun f s1 q => ?_)
  cases f with
  | next =>
    obtain ⟨σ', H', I', q⟩ := q
    exact h2 pins s1 σ' H' D I' q
  | ret v => exact q
  | brk => exact q
  | cont => exact q
theorem pss_one (h1 : PS X st t) : PSs X [st] t := by
  intro pins s σ H D I h
  refine wpAny_execs_cons (thn (h1 pins s σ H D I h) fun f s1 q => ?_)
  cases f with
  | next => exact wpAny_execs_nil q
  | ret v => exact q
  | brk => exact q
  | cont => exact q
/-- in a def's body nothing is shown -/
theorem Inv.quiet {pins : List (Addr × Obj)} {σ : St} {H : Hp} {s : Shared} (I : Inv X pins σ H s) : interactive X.env = false := by simp [interactive, I.ok.kind]
/-- an expression whose value is dropped -/
def tDrop (te : TE) : TS := fun D σ H => te σ H fun _ H1 => D.nx σ H1
theorem ps_expr (he : PE X e te) (hs : swapsWith e none pos.line X.env = pure false := by rfl) : PS X (.Expr e pos) (tDrop te) := by
  intro pins s σ H D I h
  exact wpAny_Expr_any (thn (he pins s σ H _ I h) fun v s1 ⟨x, H1, I1, r1, q1⟩ => ⟨σ, H1, I1, q1⟩) I.quiet hs
def tRet (te : TE) : TS := fun D σ H => te σ H D.rt
theorem ps_ret (he : PE X e te) : PS X (.Return (some e) pos) (tRet te) := by
  intro pins s σ H D I h
  exact wpAny_Return_some (thn (he pins s σ H _ I h) fun v s1 ⟨x, H1, I1, r1, q1⟩ => ⟨x, σ, H1, I1, r1, q1⟩)
def tIfS (c : TT) (t u : TS) : TS := fun D σ H => c σ H fun b H1 => if b = true then t D σ H1 else u D σ H1
theorem ps_if {c : Expr} {a b : List Stmt} {tc : TT} (hc : PT X c tc) (ha : PSs X a t) (hb : PSs X b u) : PS X (.If c a b pos) (tIfS tc t u) := by
  intro pins s σ H D I h
  refine wpAny_If (thn (hc pins s σ H _ I h) fun d s1 ⟨H1, I1, q1⟩ => ?_)
  cases d with
  | true => exact ha pins s1 σ H1 D I1 q1
  | false => exact hb pins s1 σ H1 D I1 q1
end

/-! ### targets -/
abbrev TG := V → St → Hp → (St → Hp → Prop) → Prop
abbrev TGs := List V → St → Hp → (St → Hp → Prop) → Prop
def PG (X : Cx) (target : Expr) (t : TG) : Prop :=
  ∀ (pins : List (Addr × Obj)) (s : Shared) (σ : St) (H : Hp) (v : V) (u : Value) (Q : St → Hp → Prop), Inv X pins σ H s → RelV v u → t v σ H Q →
    wpAny (model X.prog X.w) X.A (assign target X.env u) (fun _ s' => ∃ σ' H', Inv X pins σ' H' s' ∧ Q σ' H') X.xe s
/-- several targets, one after another -/
def PGs (X : Cx) (ts : List Expr) (t : TGs) : Prop :=
  ∀ (pins : List (Addr × Obj)) (s : Shared) (σ : St) (H : Hp) (vs : List V) (us : List Value) (Q : St → Hp → Prop), Inv X pins σ H s → Vals vs us → t vs σ H Q →
    wpAny (model X.prog X.w) X.A (assignInOrder ((assignEach ts X.env).map (·.2)) us) (fun _ s' => ∃ σ' H', Inv X pins σ' H' s' ∧ Q σ' H') X.xe s
section
variable {X : Cx} {pos : Pos}
def gName (i : Nat) : TG := fun v σ H Q => Q (σ.set i (some v)) H
theorem pg_name {i : Nat} {x : Str} (hN : X.N.Nodup) (hi : X.N[i]? = some x) (hx : Loc X.env.scope x) (hf : X.fn x = true ∨ X.env.scope.names.lookup x = some .local := by first | exact .inl rfl | exact .inr rfl | assumption) : PG X (.Name x pos) (gName i) := by
  intro pins s σ H v u Q I r h
  exact wpAny_assign_Name (store_ok I hN hi hx r (fun s' I' => ⟨_, H, I', h⟩) hf)
def gNil : TGs := fun vs σ H Q => vs = [] ∧ Q σ H
def gCons (t : TG) (u : TGs) : TGs := fun vs σ H Q => ∃ v r, vs = v :: r ∧ t v σ H fun σ' H' => u r σ' H' Q
theorem pgs_nil : PGs X [] gNil := by
  intro pins s σ H vs us Q I r h
  obtain ⟨e, h⟩ := h
  subst e
  cases r
  exact assignInOrder_nil ⟨σ, H, I, h⟩
theorem pgs_cons {e : Expr} {es : List Expr} {t : TG} {u : TGs} (h1 : PG X e t) (h2 : PGs X es u)
    (hs : (assignEach (e :: es) X.env).map (·.2) = assign e X.env :: (assignEach es X.env).map (·.2) := by rfl) : PGs X (e :: es) (gCons t u) := by
  intro pins s σ H vs us Q I r h
  obtain ⟨v, vr, e1, h⟩ := h
  subst e1
  cases r with
  | cons r rr =>
    rw [hs]
    refine assignInOrder_cons (thn (h1 pins s σ H _ _ _ I r h) fun _ s1 ⟨σ1, H1, I1, q1⟩ => ?_)
    exact h2 pins s1 σ1 H1 _ _ Q I1 rr q1
/-- (a, b, ..) = a tuple of that length -/
def gTup (K : PySem.W.Frag) (n : Nat) (t : TGs) : TG := fun v σ H Q => ∃ a xs, v = .ref a ∧ SqT K H a xs ∧ xs.length = n ∧ t xs σ H Q
theorem pg_tup {es : List Expr} {k : Nat} {t : TGs} {n : Nat} (hc : X.calm = true) (h : PGs X es t)
    (hn : (assignEach es X.env).length = n := by rfl) (hst : (assignEach es X.env).findIdx? (·.1) = none := by rfl) : PG X (.Tuple es k pos) (gTup X.K n t) := by
  intro pins s σ H v u Q I r hw
  obtain ⟨a, xs, e1, hq, hl, hw⟩ := hw
  subst e1
  cases r
  obtain ⟨its, rv, ht, hz⟩ := I.tuple hq
  refine assign_Tuple_tuple (I.ok.hd hc) ht (by simp [hn, ← hl, rv.length]) hst fun h' hx => ?_
  have I1 : Inv X pins σ H { s with heap := h' } := I.kept (t' := s.toks) fun b o e => hx b o (Nat.ne_of_lt (Heap.lt_size e)) e
  exact h pins _ σ H xs _ Q I1 (by simpa using rv) hw
/-- target = value -/
def tAsg (te : TE) (g : TG) : TS := fun D σ H => te σ H fun x H1 => g x σ H1 D.nx
/-- name = value -/
theorem ps_set {i : Nat} {x : Str} {e : Expr} {te : TE} {pos' : Pos} (hN : X.N.Nodup) (hi : X.N[i]? = some x) (hx : Loc X.env.scope x) (he : PE X e te) (hs : swapsWith e (some (.Name x pos')) pos.line X.env = pure false := by rfl) (hf : X.fn x = true ∨ X.env.scope.names.lookup x = some .local := by first | exact .inl rfl | exact .inr rfl | assumption) :
    PS X (.Assign [.Name x pos'] e pos) (tAsg te (gName i)) := by
  intro pins s σ H D I h
  refine wpAny_Assign_Name (thn (he pins s σ H _ I h) fun v s1 ⟨y, H1, I1, r1, q1⟩ => ?_) hs
  exact store_ok I1 hN hi hx r1 (fun s2 I2 => ⟨_, H1, I2, q1⟩) hf
end

/-! ### while -/
section
variable {X : Cx} {pos : Pos}
/-- the invariant W with its measure -/
def tWhile (c : TT) (tb : TS) : TS := fun D σ H => ∃ W : Nat → St → Hp → Prop, (∃ m, W m σ H) ∧ ∀ m σ H, W m σ H →
  c σ H fun b H1 => if b = true then ∃ N : St → Hp → Prop, (∀ σ' H', N σ' H' → ∃ m', m' < m ∧ W m' σ' H') ∧ tb { D with nx := N, ct := N, bk := D.nx } σ H1 else D.nx σ H1
theorem ps_while {c : Expr} {body : List Stmt} {tc : TT} {tb : TS} (hp : PassesOwn (model X.prog X.w) X.A X.env X.xe) (hc : PT X c tc) (hb : PSs X body tb) : PS X (.While c body [] pos) (tWhile tc tb) := by
  intro pins s σ H D I h
  obtain ⟨W, ⟨m0, w0⟩, turn⟩ := h
  refine wpAny_While (codeAny_whileLoop (fun n s' => ∃ σ' H', Inv X pins σ' H' s' ∧ W n σ' H') ?_ m0 ⟨σ, H, I, w0⟩)
  rintro n s1 ⟨σ1, H1, I1, w1⟩
  refine wpAny_passesOwn hp (thn (hc pins s1 σ1 H1 _ I1 (turn n σ1 H1 w1)) fun b s2 ⟨H2, I2, q2⟩ => ?_)
  cases b with
  | true =>
    obtain ⟨N, hN, q2⟩ := q2
    rw [if_pos rfl]
    refine wpAny_passesOwn hp (thn (hb pins s2 σ1 H2 _ I2 q2) fun f s3 q3 => ?_)
    cases f with
    | next =>
      obtain ⟨σ3, H3, I3, n3⟩ := q3
      obtain ⟨m', hm, w3⟩ := hN σ3 H3 n3
      exact ⟨m', hm, σ3, H3, I3, w3⟩
    | cont =>
      obtain ⟨σ3, H3, I3, n3⟩ := q3
      obtain ⟨m', hm, w3⟩ := hN σ3 H3 n3
      exact ⟨m', hm, σ3, H3, I3, w3⟩
    | brk => exact q3
    | ret v => exact q3
  | false =>
    rw [if_neg Bool.false_ne_true]
    exact wpAny_execs_nil ⟨σ1, H2, I2, q2⟩
end

/-! ### what a loop or a comprehension walks -/
/-- at turn i: it yields x (the heap may grow), or it stops -/
structure It where
  go : Nat → Hp → Prop
  yld : Nat → Hp → V → Hp → Prop
  stop : Nat → Hp → Prop
/-- the iterator's own objects may turn: they are not the frame's, not pinned, younger than the entry (or a comprehension's own) -/
def FpOk (X : Cx) (pins : List (Addr × Obj)) (H : Hp) (b : Addr) : Prop :=
  H b = none ∧ b ≠ X.env.locals ∧ b ∉ X.fs ∧ (b ∈ X.ex ∨ X.s₀.heap.objs.size ≤ b) ∧ (∀ x c, X.env.cells.lookup x = some c → c ≠ b) ∧ ∀ p ∈ X.pn ++ pins, p.1 ≠ b
theorem Inv.fpOk {X : Cx} {pins : List (Addr × Obj)} {σ : St} {H H' : Hp} {s : Shared} {b : Addr} (I : Inv X pins σ H s) (hb : s.heap.objs.size ≤ b) (hn : H' b = none) : FpOk X pins H' b := by
  refine ⟨hn, Nat.ne_of_gt (Nat.lt_of_lt_of_le I.lt hb), I.nofs hb, .inr (Nat.le_trans I.sz hb), fun x c e z => ?_, fun p hp z => ?_⟩
  · obtain ⟨v, q⟩ := I.cell x c e
    exact absurd (Nat.lt_of_lt_of_le q.lt (by rw [z]; exact hb)) (Nat.lt_irrefl _)
  · exact absurd (Nat.lt_of_lt_of_le (Heap.lt_size (I.pin p hp).1) (by rw [z]; exact hb)) (Nat.lt_irrefl _)
structure Turn (P : Program) (w : World) (K : PySem.W.Frag) (tg : Expr) (J : It) (fp : List Addr) (it : Addr) (tn : Nat → Heap → Prop) : Prop where
  mem : it ∈ fp
  obj : ∀ i h, tn i h → ∀ b ∈ fp, ∃ o, h.get? b = some o ∧ ∀ v, o.data ≠ .cell v
  keep : ∀ i h h', tn i h → (∀ b ∈ fp, ∀ o, h.get? b = some o → h'.get? b = some o) → tn i h'
  item : ∀ (X : Cx), X.prog = P → X.w = w → X.K = K → X.calm = true → ∀ (i : Nat) (pins : List (Addr × Obj)) (s : Shared) (σ : St) (H : Hp) (E : Value → Shared → Prop), Inv X pins σ H s → (∀ b ∈ fp, FpOk X pins H b) → tn i s.heap → J.go i H →
    wpAny (model P w) X.A (pyNext (.ref it)) (fun r s1 => ∃ u, r = some u ∧
      wpAny (model P w) X.A (letOwnedTupleGo tg (.ref it) u) (fun _ s2 => ∃ x H', Inv X pins σ H' s2 ∧ RelV x u ∧ J.yld i H x H' ∧ tn (i + 1) s2.heap ∧ ∀ b ∈ fp, H' b = none) E s1) E s
  done : ∀ (X : Cx), X.prog = P → X.w = w → X.K = K → X.calm = true → ∀ (i : Nat) (pins : List (Addr × Obj)) (s : Shared) (σ : St) (H : Hp) (E : Value → Shared → Prop), Inv X pins σ H s → (∀ b ∈ fp, FpOk X pins H b) → tn i s.heap → J.stop i H →
    wpAny (model P w) X.A (pyNext (.ref it)) (fun r s1 => r = none ∧ Inv X pins σ H s1) E s
  self : ∀ (A : Around) (i : Nat) (s : Shared) (Q : Value → Shared → Prop) (E : Value → Shared → Prop), tn i s.heap → Q (.ref it) s → wpAny (model P w) A (pyIter (.ref it)) Q E s
abbrev TI := St → Hp → (It → Hp → Prop) → Prop
/-- an iterator has come -/
def PIE (X : Cx) (pins : List (Addr × Obj)) (σ : St) (tg : Expr) (R : It → Hp → Prop) (itv : Value) (s2 : Shared) : Prop :=
  ∃ (it : Addr) (fp : List Addr) (tn : Nat → Heap → Prop) (J : It) (H' : Hp), itv = .ref it ∧ Inv X pins σ H' s2 ∧ Turn X.prog X.w X.K tg J fp it tn ∧ tn 0 s2.heap ∧ (∀ b ∈ fp, FpOk X pins H' b) ∧ R J H'
def PI (X : Cx) (tg iter : Expr) (wi : TI) : Prop :=
  ∀ (pins : List (Addr × Obj)) (s : Shared) (σ : St) (H : Hp) (R : It → Hp → Prop), Inv X pins σ H s → wi σ H R →
    wpAny (model X.prog X.w) X.A (eval iter X.env) (fun v s1 => wpAny (model X.prog X.w) X.A (pyIter v) (PIE X pins σ tg R) X.xe s1) X.xe s

/-- the step ahead of the store is nothing for an iterator that keeps no tuple -/
theorem go_of {M : Model} {A : Around} {E : Value → Shared → Prop} {s : Shared} {tg : Expr} {it : Addr} {u : Value} {o : Obj} {n : String} {vs : Array Value} {Q : Unit → Shared → Prop} (ho : s.heap.get? it = some o) (hc : o.cls = .type n) (hd : o.data = .fields vs)
    (hn : ["enumerate", "zip", "dict_itemiterator", "dict_reverseitemiterator", "odict_iterator", "itertools.zip_longest", "itertools.pairwise"].contains n = false) (hQ : Q () s) : wpAny M A (letOwnedTupleGo tg (.ref it) u) Q E s := by
  unfold letOwnedTupleGo
  cases tg <;> first
    | exact wpAny_pure hQ
    | (cases u <;> first
        | exact wpAny_pure hQ
        | (refine wpAny_bind (wpAny_load ho ?_)
           rw [hc, hd]
           show wpAny M A (if (["enumerate", "zip", "dict_itemiterator", "dict_reverseitemiterator", "odict_iterator", "itertools.zip_longest", "itertools.pairwise"].contains n && vs[0]? == some (rawInt _)) = true then _ else _) Q E s
           rw [if_neg (by intro h; rw [hn, Bool.false_and] at h; cases h)]
           exact wpAny_pure hQ))

/-- the list at a, as it stands at each turn (a loop may append to it) -/
def Itl (K : PySem.W.Frag) (a : Addr) : It :=
  ⟨fun i H => ∃ xs x, SqL K H a xs ∧ xs[i]? = some x, fun i H x H' => H' = H ∧ ∀ xs, SqL K H a xs → xs[i]? = some x, fun i H => ∃ xs, SqL K H a xs ∧ xs.length ≤ i⟩
def Itt (K : PySem.W.Frag) (a : Addr) : It :=
  ⟨fun i H => ∃ xs x, SqT K H a xs ∧ xs[i]? = some x, fun i H x H' => H' = H ∧ ∀ xs, SqT K H a xs → xs[i]? = some x, fun i H => ∃ xs, SqT K H a xs ∧ xs.length ≤ i⟩
/-- lo, lo + 1, .. (n of them) -/
def Itr (lo : Int) (n : Nat) : It := ⟨fun i _ => i < n, fun i H x H' => H' = H ∧ x = .int (lo + i), fun i _ => n ≤ i⟩
theorem turn_list {P : Program} {w : World} {K : PySem.W.Frag} {tg : Expr} (a it : Addr) : Turn P w K tg (Itl K a) [it] it (fun i h => h.IsListIter it a i) where
  mem := by simp
  obj := fun i h st b hb => by
    have e : b = it := by simpa using hb
    subst e
    obtain ⟨o, e, c, d⟩ := st
    exact ⟨o, e, fun v z => by rw [d] at z; cases z⟩
  keep := fun i h h' st k => st.at fun o e => k it (by simp) o e
  item := by
    intro X hP hw hK hc i pins s σ H E I hf st hg
    subst hP hw hK
    obtain ⟨xs, x, hq, hx⟩ := hg
    obtain ⟨its, rv, p, hz⟩ := I.list hq
    obtain ⟨u, hu, ru⟩ := rv.get hx
    obtain ⟨f0, f1, f2, f3, f4, f5⟩ := hf it (by simp)
    refine wpAny_pyNext_list_item st p.isList (x := u) (by simpa using hu) fun h' st' sb => ?_
    have I1 : Inv X pins σ H { s with heap := h' } := I.turned (t' := s.toks) (fun b o hb e => (sb.2 b hb).trans e) f0 f1 f3 f4 f5
    obtain ⟨o, e, c, d⟩ := id st'
    exact ⟨u, rfl, go_of (s := { s with heap := h' }) e c d (by decide) ⟨x, H, I1, ru, ⟨rfl, fun ys hy => by rw [I.list_inj hy hq]; exact hx⟩, st', fun b hb => (hf b hb).1⟩⟩
  done := by
    intro X hP hw hK hc i pins s σ H E I hf st hg
    subst hP hw hK
    obtain ⟨xs, hq, hx⟩ := hg
    obtain ⟨its, rv, p, hz⟩ := I.list hq
    obtain ⟨f0, f1, f2, f3, f4, f5⟩ := hf it (by simp)
    have hl := rv.length
    exact wpAny_pyNext_list_end (I.ok.hd hc) st p.isList (by simp; omega) fun h' eb => ⟨rfl, I.turned (t' := s.toks) (fun b o hb e => eb b o hb e) f0 f1 f3 f4 f5⟩
  self := fun _ _ _ _ _ st h => wpAny_pyIter_listiter st h
theorem turn_tuple {P : Program} {w : World} {K : PySem.W.Frag} {tg : Expr} (a it : Addr) : Turn P w K tg (Itt K a) [it] it (fun i h => h.IsTupleIter it a i) where
  mem := by simp
  obj := fun i h st b hb => by
    have e : b = it := by simpa using hb
    subst e
    obtain ⟨o, e, c, d⟩ := st
    exact ⟨o, e, fun v z => by rw [d] at z; cases z⟩
  keep := fun i h h' st k => st.at fun o e => k it (by simp) o e
  item := by
    intro X hP hw hK hc i pins s σ H E I hf st hg
    subst hP hw hK
    obtain ⟨xs, x, hq, hx⟩ := hg
    obtain ⟨its, rv, p, hz⟩ := I.tuple hq
    obtain ⟨u, hu, ru⟩ := rv.get hx
    obtain ⟨f0, f1, f2, f3, f4, f5⟩ := hf it (by simp)
    refine wpAny_pyNext_tuple_item st (show s.heap.IsTuple a its.toArray from p) (x := u) (by simpa using hu) fun h' st' sb => ?_
    have I1 : Inv X pins σ H { s with heap := h' } := I.turned (t' := s.toks) (fun b o hb e => (sb.2 b hb).trans e) f0 f1 f3 f4 f5
    obtain ⟨o, e, c, d⟩ := id st'
    exact ⟨u, rfl, go_of (s := { s with heap := h' }) e c d (by decide) ⟨x, H, I1, ru, ⟨rfl, fun ys hy => by rw [I.tuple_inj hy hq]; exact hx⟩, st', fun b hb => (hf b hb).1⟩⟩
  done := by
    intro X hP hw hK hc i pins s σ H E I hf st hg
    subst hP hw hK
    obtain ⟨xs, hq, hx⟩ := hg
    obtain ⟨its, rv, p, hz⟩ := I.tuple hq
    obtain ⟨f0, f1, f2, f3, f4, f5⟩ := hf it (by simp)
    have hl := rv.length
    exact wpAny_pyNext_tuple_end (I.ok.hd hc) st (show s.heap.IsTuple a its.toArray from p) (by simp; omega) fun h' eb => ⟨rfl, I.turned (t' := s.toks) (fun b o hb e => eb b o hb e) f0 f1 f3 f4 f5⟩
  self := fun _ _ _ _ _ st h => wpAny_pyIter_tupleiter st h
theorem turn_range {P : Program} {w : World} {K : PySem.W.Frag} {tg : Expr} (it : Addr) (lo : Int) (n : Nat) : Turn P w K tg (Itr lo n) [it] it (fun i h => IsRangeIter h it (lo + (i : Nat) * 1) ((n : Int) - (i : Nat)) 1) where
  mem := by simp
  obj := fun i h st b hb => by
    have e : b = it := by simpa using hb
    subst e
    exact ⟨_, st, fun v z => by
      have z' : Data.fields _ = Data.cell v := z
      cases z'⟩
  keep := fun i h h' st k => k it (by simp) _ st
  item := by
    intro X hP hw hK hc i pins s σ H E I hf st hg
    subst hP hw hK
    obtain ⟨f0, f1, f2, f3, f4, f5⟩ := hf it (by simp)
    have W := Walks.range (prog := X.prog) (w := X.w) (I.ok.hd hc) it lo 1 n
    refine W.item i s _ _ hg st fun v h' tk hv st' kk => ?_
    obtain ⟨t, rfl⟩ := hv
    have I1 : Inv X pins σ H { s with heap := h', toks := tk } := I.turned (fun b o hb e => kk b o (by simpa using hb) e) f0 f1 f3 f4 f5
    refine ⟨_, rfl, go_of (s := { s with heap := h', toks := tk }) (n := "range_iterator") st' rfl rfl (by decide) ⟨.int (lo + i), H, I1, ⟨t, ?_⟩, ⟨rfl, rfl⟩, st', fun b hb => (hf b hb).1⟩⟩
    rw [Int.mul_one]
  done := by
    intro X hP hw hK hc i pins s σ H E I hf st hg
    subst hP hw hK
    obtain ⟨f0, f1, f2, f3, f4, f5⟩ := hf it (by simp)
    exact wpAny_pyNext_range_end (I.ok.hd hc) st (by have : n ≤ i := hg; omega) fun h' eb => ⟨rfl, I.turned (t' := s.toks) (fun b o hb e => eb b o hb e) f0 f1 f3 f4 f5⟩
  self := fun _ _ _ _ _ st h => wpAny_pyIter_rangeiter st h
end L2

namespace L2
open PySem PySem.Spec PyProof.Rows
section
variable {X : Cx} {tg : Expr}
def iList (K : PySem.W.Frag) (tl : TE) : TI := fun σ H R => tl σ H fun x H1 => ∃ a, x = .ref a ∧ (∃ xs, SqL K H1 a xs) ∧ R (Itl K a) H1
def iTup (K : PySem.W.Frag) (tl : TE) : TI := fun σ H R => tl σ H fun x H1 => ∃ a, x = .ref a ∧ (∃ xs, SqT K H1 a xs) ∧ R (Itt K a) H1
theorem pi_list {l : Expr} {tl : TE} (hl : PE X l tl) : PI X tg l (iList X.K tl) := by
  intro pins s σ H R I h
  refine thn (hl pins s σ H _ I h) fun v s1 ⟨x, H1, I1, r1, q1⟩ => ?_
  obtain ⟨a, e, ⟨xs, hq⟩, q⟩ := q1
  subst e
  cases r1
  obtain ⟨its, rv, p, hz⟩ := I1.list hq
  refine wpAny_pyIter_list p.isList ?_
  refine ⟨s1.heap.objs.size, [s1.heap.objs.size], _, _, H1, rfl, I1.kept (t' := s1.toks) fun b o e => Heap.get?_push_of_some _ e, turn_list a _, ⟨_, Heap.get?_push_size _ rfl, rfl, rfl⟩, fun b hb => ?_, q⟩
  have e : b = s1.heap.objs.size := by simpa using hb
  subst e
  exact I1.fpOk (Nat.le_refl _) (I1.hok.fresh (Nat.le_refl _))
theorem pi_tup {l : Expr} {tl : TE} (hl : PE X l tl) : PI X tg l (iTup X.K tl) := by
  intro pins s σ H R I h
  refine thn (hl pins s σ H _ I h) fun v s1 ⟨x, H1, I1, r1, q1⟩ => ?_
  obtain ⟨a, e, ⟨xs, hq⟩, q⟩ := q1
  subst e
  cases r1
  obtain ⟨its, rv, p, hz⟩ := I1.tuple hq
  refine wpAny_pyIter_tuple (show s1.heap.IsTuple a its.toArray from p) ?_
  refine ⟨s1.heap.objs.size, [s1.heap.objs.size], _, _, H1, rfl, I1.kept (t' := s1.toks) fun b o e => Heap.get?_push_of_some _ e, turn_tuple a _, ⟨_, Heap.get?_push_size _ rfl, rfl, rfl⟩, fun b hb => ?_, q⟩
  have e : b = s1.heap.objs.size := by simpa using hb
  subst e
  exact I1.fpOk (Nat.le_refl _) (I1.hok.fresh (Nat.le_refl _))
/-- a range object just made, walked -/
theorem range_it {pins : List (Addr × Obj)} {σ : St} {H : Hp} {s : Shared} {R : It → Hp → Prop} {E : Value → Shared → Prop} {lo hi : Int} {t u v : Tok} {tk : Nat} (I : Inv X pins σ H s) (h1 : -(2 ^ 62) ≤ lo) (h2 : lo < 2 ^ 62) (h3 : -(2 ^ 62) ≤ hi) (h4 : hi < 2 ^ 62)
    (q : R (Itr lo (hi - lo).toNat) H) : wpAny (model X.prog X.w) X.A (pyIter (.ref s.heap.objs.size)) (PIE X pins σ tg R) E { s with heap := s.heap.push { cls := .type "range", data := .fields #[.int lo t, .int hi u, .int 1 v] }, toks := tk } := by
  refine wpAny_pyIter_range (IsRange.new ..) (small_one h1 h2 h3 h4) ?_
  have I1 : Inv X pins σ H { s with heap := s.heap.push { cls := .type "range", data := .fields #[.int lo t, .int hi u, .int 1 v] }, toks := tk } := I.kept fun b o e => Heap.get?_push_of_some _ e
  refine ⟨(s.heap.push { cls := .type "range", data := .fields #[.int lo t, .int hi u, .int 1 v] }).objs.size, [(s.heap.push { cls := .type "range", data := .fields #[.int lo t, .int hi u, .int 1 v] }).objs.size], _, _, H, rfl,
    I1.kept (t' := tk) fun b o e => Heap.get?_push_of_some _ e, turn_range _ lo (hi - lo).toNat, ?_, fun b hb => ?_, q⟩
  · have e1 : lo + ((0 : Nat) : Int) * 1 = lo := by simp
    have e2 : (((hi - lo).toNat : Nat) : Int) - ((0 : Nat) : Int) = Builtin.Range.rangeSize lo hi 1 := by rw [rangeSize_one]; split <;> omega
    show IsRangeIter _ _ (lo + ((0 : Nat) : Int) * 1) ((((hi - lo).toNat : Nat) : Int) - ((0 : Nat) : Int)) 1
    rw [e1, e2]
    exact Heap.get?_push_size _ rfl
  · have e : b = (s.heap.push { cls := .type "range", data := .fields #[.int lo t, .int hi u, .int 1 v] }).objs.size := by simpa using hb
    subst e
    exact I1.fpOk (Nat.le_refl _) (I1.hok.fresh (Nat.le_refl _))
def iRng1 (ta : TA) : TI := fun σ H R => ta σ H fun vs H1 => ∃ j : Int, vs = [.int j] ∧ -(2 ^ 62) ≤ j ∧ j < 2 ^ 62 ∧ R (Itr 0 j.toNat) H1
theorem pi_range1 {a : Expr} {ta : TA} {p pos : Pos} (hg : Gl X "range") (hm : X.mg "range" = none) (ha : PA X [a] ta) (hs : starEach [a] X.env = [(false, eval a X.env)] := by rfl) : PI X tg (.Call (.Name "range" p) [a] [] pos) (iRng1 ta) := by
  intro pins s σ H R I h
  refine Call_ (ld_blt I hg hm boot_range (PyProof.Rows.callWith_type1 (thn (ha pos pins s σ H _ I h) fun us s1 ⟨vs, H1, I1, r1, q1⟩ => ?_) hs rfl))
  obtain ⟨j, e, q1, q2, q⟩ := q1
  subst e
  cases r1 with
  | cons r rr =>
    cases rr
    obtain ⟨t, rfl⟩ := r
    exact call_range_1 (range_it I1 (by omega) (by omega) q1 q2 (by simpa using q))
/-! ### for -/
/-- W: the invariant by the turn and a measure; N: what the body is to reach -/
def tFor (wi : TI) (g : TG) (tb : TS) : TS := fun D σ H => wi σ H fun J H1 => ∃ W : Nat → Nat → St → Hp → Prop, (∃ m, W 0 m σ H1) ∧ ∀ i m σ H, W i m σ H →
  (J.stop i H ∧ D.nx σ H) ∨ (J.go i H ∧ ∃ N : St → Hp → Prop, (∀ σ' H', N σ' H' → ∃ m', m' < m ∧ W (i + 1) m' σ' H') ∧ ∀ x H', J.yld i H x H' → g x σ H' fun σ2 H2 => tb { D with nx := N, ct := N, bk := D.nx } σ2 H2)
/-- the records at fp as they stand -/
def pinsAt (fp : List Addr) (h : Heap) : List (Addr × Obj) := fp.filterMap fun b => (h.get? b).map fun o => (b, o)
theorem mem_pinsAt {fp : List Addr} {h : Heap} {b : Addr} {o : Obj} (hb : b ∈ fp) (e : h.get? b = some o) : (b, o) ∈ pinsAt fp h := List.mem_filterMap.mpr ⟨b, hb, by rw [e]; rfl⟩
theorem of_pinsAt {fp : List Addr} {h : Heap} {p : Addr × Obj} (hp : p ∈ pinsAt fp h) : p.1 ∈ fp ∧ h.get? p.1 = some p.2 := by
  obtain ⟨b, hb, e⟩ := List.mem_filterMap.mp hp
  cases q : h.get? b with
  | none => rw [q] at e; cases e
  | some o =>
    rw [q] at e
    have e' : (b, o) = p := Option.some.inj e
    subst e'
    exact ⟨hb, q⟩
theorem Inv.pinned {pins : List (Addr × Obj)} {σ : St} {H : Hp} {s : Shared} {fp : List Addr} (I : Inv X pins σ H s) (hf : ∀ b ∈ fp, FpOk X pins H b) (ho : ∀ b ∈ fp, ∃ o, s.heap.get? b = some o ∧ ∀ v, o.data ≠ .cell v) : Inv X (pins ++ pinsAt fp s.heap) σ H s :=
  I.pins_of fun p hp => (List.mem_append.mp hp).elim (fun z => I.pin p (List.mem_append_right _ z)) fun z => by
    obtain ⟨hb, e⟩ := of_pinsAt z
    obtain ⟨f0, f1, f2, _⟩ := hf p.1 hb
    obtain ⟨o, e', d⟩ := ho p.1 hb
    rw [e] at e'; cases e'
    exact ⟨e, f0, f1, f2, d⟩
theorem Inv.unpinned {pins pl : List (Addr × Obj)} {σ : St} {H : Hp} {s : Shared} (I : Inv X (pins ++ pl) σ H s) : Inv X pins σ H s := I.pins_of fun p hp => I.pin p (List.mem_append_right _ (List.mem_append_left _ hp))
theorem ps_for {iter : Expr} {body : List Stmt} {wi : TI} {g : TG} {tb : TS} {pos : Pos} (hp : PassesOwn (model X.prog X.w) X.A X.env X.xe) (hc : X.calm = true) (hi : PI X tg iter wi) (hg : PG X tg g) (hb : PSs X body tb)
    (hs : ∀ x, foldedSetIterable iter X.env x = pure x := by intro _; rfl) : PS X (.For tg iter body [] pos) (tFor wi g tb) := by
  intro pins s σ H D I h
  refine wpAny_For (thn (hi pins s σ H _ I h) fun v s1 h1 => thn h1 fun itv s2 h2 => ?_) hs
  obtain ⟨it, fp, tn, J, H2, e, I2, T, st2, f2, W, ⟨m0, w0⟩, turn⟩ := h2
  subst e
  -- what stays true of the iterator's objects through the loop
  have stat : ∀ {H' : Hp}, (∀ b ∈ fp, H' b = none) → ∀ b ∈ fp, FpOk X pins H' b := fun hn b hb => ⟨hn b hb, (f2 b hb).2⟩
  refine codeAny_forLoop_any (fun n s' => ∃ i σ' H', Inv X pins σ' H' s' ∧ tn i s'.heap ∧ (∀ b ∈ fp, H' b = none) ∧ W i n σ' H') ?_ m0 ⟨0, σ, H2, I2, st2, fun b hb => (f2 b hb).1, w0⟩
  rintro n s3 ⟨i, σ3, H3, I3, st3, fr3, w3⟩
  rcases turn i n σ3 H3 w3 with ⟨stop, qn⟩ | ⟨go, N, hN, step⟩
  · refine wpAny_passesOwn hp (thn (T.done X rfl rfl rfl hc i pins s3 σ3 H3 X.xe I3 (stat fr3) st3 stop) fun r s4 ⟨hr, I4⟩ => ?_)
    subst hr
    exact wpAny_execs_nil ⟨σ3, H3, I4, qn⟩
  · refine wpAny_passesOwn hp (thn (T.item X rfl rfl rfl hc i pins s3 σ3 H3 X.xe I3 (stat fr3) st3 go) fun r s4 ⟨u, hr, h4⟩ => ?_)
    subst hr
    refine wpAny_passesOwn hp (thn h4 fun _ s5 ⟨x, H5, I5, r5, y5, st5, fr5⟩ => ?_)
    have I5' := I5.pinned (stat fr5) (T.obj _ _ st5)
    refine wpAny_passesOwn hp (thn (hg _ s5 σ3 H5 x u _ I5' r5 (step x H5 y5)) fun _ s6 ⟨σ6, H6, I6, q6⟩ => ?_)
    refine wpAny_passesOwn hp (thn (hb _ s6 σ6 H6 _ I6 q6) fun f s7 q7 => ?_)
    have again : ∀ {σ7 : St} {H7 : Hp}, Inv X (pins ++ pinsAt fp s5.heap) σ7 H7 s7 → N σ7 H7 → ∃ m, m < n ∧ ∃ i σ' H', Inv X pins σ' H' s7 ∧ tn i s7.heap ∧ (∀ b ∈ fp, H' b = none) ∧ W i m σ' H' := fun {σ7 H7} I7 n7 => by
      obtain ⟨m', hm, w7⟩ := hN σ7 H7 n7
      refine ⟨m', hm, i + 1, σ7, H7, I7.unpinned, T.keep _ _ _ st5 fun b hb o e => (I7.pin (b, o) (List.mem_append_right _ (List.mem_append_right _ (mem_pinsAt hb e)))).1, fun b hb => ?_, w7⟩
      obtain ⟨o, e, d⟩ := T.obj _ _ st5 b hb
      exact (I7.pin (b, o) (List.mem_append_right _ (List.mem_append_right _ (mem_pinsAt hb e)))).2.1
    cases f with
    | next => obtain ⟨σ7, H7, I7, n7⟩ := q7; exact again I7 n7
    | cont => obtain ⟨σ7, H7, I7, n7⟩ := q7; exact again I7 n7
    | brk => obtain ⟨σ7, H7, I7, q7⟩ := q7; exact ⟨σ7, H7, I7.unpinned, q7⟩
    | ret v => obtain ⟨x7, σ7, H7, I7, r7, q7⟩ := q7; exact ⟨x7, σ7, H7, I7.unpinned, r7, q7⟩
end

/-! ### the forms one uses -/
/-- over a list that the body leaves as it is -/
theorem for_list {K : PySem.W.Frag} {a : Addr} {xs : List V} {g : TG} {tb : TS} {D : Ends} {σ : St} {H : Hp} (Pv : Nat → St → Hp → Prop) (h0 : Pv 0 σ H) (hl : ∀ i σ H, i ≤ xs.length → Pv i σ H → SqL K H a xs)
    (hs : ∀ i x σ H, xs[i]? = some x → Pv i σ H → g x σ H fun σ2 H2 => tb { D with nx := Pv (i + 1), ct := Pv (i + 1), bk := D.nx } σ2 H2) (hd : ∀ σ H, Pv xs.length σ H → D.nx σ H) :
    ∃ W : Nat → Nat → St → Hp → Prop, (∃ m, W 0 m σ H) ∧ ∀ i m σ H, W i m σ H →
      ((Itl K a).stop i H ∧ D.nx σ H) ∨ ((Itl K a).go i H ∧ ∃ N : St → Hp → Prop, (∀ σ' H', N σ' H' → ∃ m', m' < m ∧ W (i + 1) m' σ' H') ∧ ∀ x H', (Itl K a).yld i H x H' → g x σ H' fun σ2 H2 => tb { D with nx := N, ct := N, bk := D.nx } σ2 H2) := by
  refine ⟨fun i m σ H => m = xs.length - i ∧ i ≤ xs.length ∧ Pv i σ H, ⟨xs.length, by simp, Nat.zero_le _, h0⟩, ?_⟩
  rintro i m σ H ⟨rfl, hi, p⟩
  have q := hl i σ H hi p
  by_cases hlt : i < xs.length
  · refine .inr ⟨⟨xs, xs[i], q, by simp [hlt]⟩, Pv (i + 1), fun σ' H' p' => ⟨xs.length - (i + 1), by omega, rfl, hlt, p'⟩, fun x H' y => ?_⟩
    obtain ⟨e, y⟩ := y
    subst e
    exact hs i x σ _ (y xs q) p
  · have e : i = xs.length := by omega
    subst e
    exact .inl ⟨⟨xs, q, Nat.le_refl _⟩, hd σ H p⟩
theorem for_range {lo : Int} {n : Nat} {g : TG} {tb : TS} {D : Ends} {σ : St} {H : Hp} (Pv : Nat → St → Hp → Prop) (h0 : Pv 0 σ H)
    (hs : ∀ i σ H, i < n → Pv i σ H → g (.int (lo + i)) σ H fun σ2 H2 => tb { D with nx := Pv (i + 1), ct := Pv (i + 1), bk := D.nx } σ2 H2) (hd : ∀ σ H, Pv n σ H → D.nx σ H) :
    ∃ W : Nat → Nat → St → Hp → Prop, (∃ m, W 0 m σ H) ∧ ∀ i m σ H, W i m σ H →
      ((Itr lo n).stop i H ∧ D.nx σ H) ∨ ((Itr lo n).go i H ∧ ∃ N : St → Hp → Prop, (∀ σ' H', N σ' H' → ∃ m', m' < m ∧ W (i + 1) m' σ' H') ∧ ∀ x H', (Itr lo n).yld i H x H' → g x σ H' fun σ2 H2 => tb { D with nx := N, ct := N, bk := D.nx } σ2 H2) := by
  refine ⟨fun i m σ H => m = n - i ∧ i ≤ n ∧ Pv i σ H, ⟨n, by simp, Nat.zero_le _, h0⟩, ?_⟩
  rintro i m σ H ⟨rfl, hi, p⟩
  by_cases hlt : i < n
  · refine .inr ⟨hlt, Pv (i + 1), fun σ' H' p' => ⟨n - (i + 1), by omega, rfl, hlt, p'⟩, fun x H' y => ?_⟩
    obtain ⟨e, y⟩ := y
    subst e y
    exact hs i σ _ hlt p
  · have e : i = n := by omega
    subst e
    exact .inl ⟨Nat.le_refl _, hd σ H p⟩
/-- while, by a word and a measure of the state -/
theorem while_by {c : TT} {tb : TS} {D : Ends} {σ : St} {H : Hp} (Pv : St → Hp → Prop) (μ : St → Hp → Nat) (h0 : Pv σ H)
    (hs : ∀ σ H, Pv σ H → c σ H fun b H1 => if b = true then tb { D with nx := fun σ' H' => Pv σ' H' ∧ μ σ' H' < μ σ H, ct := fun σ' H' => Pv σ' H' ∧ μ σ' H' < μ σ H, bk := D.nx } σ H1 else D.nx σ H1)
    (mono : ∀ σ H Q Q', (∀ b H1, Q b H1 → Q' b H1) → c σ H Q → c σ H Q') : tWhile c tb D σ H := by
  refine ⟨fun m σ H => m = μ σ H ∧ Pv σ H, ⟨_, rfl, h0⟩, ?_⟩
  rintro m σ H ⟨rfl, p⟩
  refine mono σ H _ _ (fun b H1 q => ?_) (hs σ H p)
  cases b with
  | true => exact ⟨_, fun σ' H' ⟨p', l⟩ => ⟨_, l, rfl, p'⟩, q⟩
  | false => exact q
end L2

namespace L2
open PySem PySem.Spec PyProof.Rows

abbrev R2 := V → V → Hp → VK → Prop
/-- a two-place operation on values: f is binaryOp op, inplaceOp op or compareOp op -/
def OpR (X : Cx) (f : Value → Value → Sem Value) (r : R2) : Prop :=
  ∀ (pins : List (Addr × Obj)) (s : Shared) (σ : St) (H : Hp) (x y : V) (v u : Value) (Q : VK), Inv X pins σ H s → RelV x v → RelV y u → r x y H Q →
    wpAny (model X.prog X.w) X.A (f v u) (EP X pins σ Q) X.xe s
/-- a one-place operation -/
def UnR (X : Cx) (f : Value → Sem Value) (r : V → Hp → VK → Prop) : Prop :=
  ∀ (pins : List (Addr × Obj)) (s : Shared) (σ : St) (H : Hp) (x : V) (v : Value) (Q : VK), Inv X pins σ H s → RelV x v → r x H Q →
    wpAny (model X.prog X.w) X.A (f v) (EP X pins σ Q) X.xe s
/-- a call of a value that is known (a builtin, a type) with values -/
def CallR (X : Cx) (f : Value) (r : List V → Hp → VK → Prop) : Prop :=
  ∀ (pins : List (Addr × Obj)) (s : Shared) (σ : St) (H : Hp) (xs : List V) (us : List Value) (Q : VK), Inv X pins σ H s → Vals xs us → r xs H Q →
    wpAny (model X.prog X.w) X.A (call f us) (EP X pins σ Q) X.xe s
def tOp (r : R2) (ta tb : TE) : TE := fun σ H Q => ta σ H fun x H1 => tb σ H1 fun y H2 => r x y H2 Q
def tUn (r : V → Hp → VK → Prop) (ta : TE) : TE := fun σ H Q => ta σ H fun x H1 => r x H1 Q
/-- ints in, under C, and a value out -/
def rI (C : Int → Int → Prop) (g : Int → Int → V) : R2 := fun x y H Q => ∃ i j, x = .int i ∧ y = .int j ∧ C i j ∧ Q (g i j) H
def rI0 (g : Int → Int → V) : R2 := fun x y H Q => ∃ i j, x = .int i ∧ y = .int j ∧ Q (g i j) H
def rU (g : Int → V) : V → Hp → VK → Prop := fun x H Q => ∃ i, x = .int i ∧ Q (g i) H

section
variable {X : Cx} {a b c : Expr} {ta tb tc : TE} {pos : Pos}

theorem binT (ha : PE X a ta) (hb : PE X b tb) {pins : List (Addr × Obj)} {s : Shared} {σ : St} {H : Hp} {R : V → V → Hp → Prop} (I : Inv X pins σ H s)
    (h : ta σ H fun x H1 => tb σ H1 fun y H2 => R x y H2) {Q : Value → Shared → Prop} {f : Value → Value → Sem Value}
    (hf : ∀ v u s2 x y H2, Inv X pins σ H2 s2 → RelV x v → RelV y u → R x y H2 → wpAny (model X.prog X.w) X.A (f v u) Q X.xe s2) :
    wpAny (model X.prog X.w) X.A (eval a X.env) (fun v s₁ => wpAny (model X.prog X.w) X.A (eval b X.env) (fun u s₂ => wpAny (model X.prog X.w) X.A (f v u) Q X.xe s₂) X.xe s₁) X.xe s := by
  refine thn (ha pins s σ H _ I h) fun v s1 ⟨x, H1, I1, r1, q1⟩ => ?_
  refine thn (hb pins s1 σ H1 _ I1 q1) fun u s2 ⟨y, H2, I2, r2, q2⟩ => ?_
  exact hf v u s2 x y H2 I2 r1 r2 q2

theorem pe_op {op : Operator} {r : R2} (ho : OpR X (binaryOp op) r) (ha : PE X a ta) (hb : PE X b tb) : PE X (.BinOp a op b pos) (tOp r ta tb) := by
  intro pins s σ H Q I h
  exact wpAny_BinOp (binT ha hb I h fun v u s2 x y H2 I2 rx ry q => ho pins s2 σ H2 x y v u Q I2 rx ry q)
theorem pe_un {op : UnaryOp} {r : V → Hp → VK → Prop} (ho : UnR X (unaryOp op) r) (ha : PE X a ta) : PE X (.UnaryOp op a pos) (tUn r ta) := by
  intro pins s σ H Q I h
  exact UnaryOp_ (thn (ha pins s σ H _ I h) fun v s1 ⟨x, H1, I1, r1, q1⟩ => ho pins s1 σ H1 x v Q I1 r1 q1)
/-! ### ints -/
theorem opI {f : Value → Value → Sem Value} {C : Int → Int → Prop} {g : Int → Int → Int}
    (rule : ∀ (i j : Int) (t u : Tok) (s : Shared) (Q : Value → Shared → Prop) (E : Value → Shared → Prop), C i j → Q (.int (g i j) s.toks) { s with toks := s.toks + 1 } → wpAny (model X.prog X.w) X.A (f (.int i t) (.int j u)) Q E s) :
    OpR X f (rI C fun i j => .int (g i j)) := by
  intro pins s σ H x y v u Q I rx ry h
  obtain ⟨i, j, rfl, rfl, hc, q⟩ := h
  obtain ⟨t, rfl⟩ := rx
  obtain ⟨t', rfl⟩ := ry
  exact rule i j t t' s _ _ hc ⟨.int (g i j), H, I.tok _, ⟨_, rfl⟩, q⟩
theorem opI0 {f : Value → Value → Sem Value} {g : Int → Int → Int}
    (rule : ∀ (i j : Int) (t u : Tok) (s : Shared) (Q : Value → Shared → Prop) (E : Value → Shared → Prop), Q (.int (g i j) s.toks) { s with toks := s.toks + 1 } → wpAny (model X.prog X.w) X.A (f (.int i t) (.int j u)) Q E s) :
    OpR X f (rI0 fun i j => .int (g i j)) := by
  intro pins s σ H x y v u Q I rx ry h
  obtain ⟨i, j, rfl, rfl, q⟩ := h
  obtain ⟨t, rfl⟩ := rx
  obtain ⟨t', rfl⟩ := ry
  exact rule i j t t' s _ _ ⟨.int (g i j), H, I.tok _, ⟨_, rfl⟩, q⟩
theorem opB0 {f : Value → Value → Sem Value} {g : Int → Int → Bool}
    (rule : ∀ (i j : Int) (t u : Tok) (s : Shared) (Q : Value → Shared → Prop) (E : Value → Shared → Prop), Q (.bool (g i j)) s → wpAny (model X.prog X.w) X.A (f (.int i t) (.int j u)) Q E s) :
    OpR X f (rI0 fun i j => .bl (g i j)) := by
  intro pins s σ H x y v u Q I rx ry h
  obtain ⟨i, j, rfl, rfl, q⟩ := h
  obtain ⟨t, rfl⟩ := rx
  obtain ⟨t', rfl⟩ := ry
  exact rule i j t t' s _ _ ⟨.bl (g i j), H, I, rfl, q⟩

def CDiv (i j : Int) : Prop := 0 < j ∧ j < 1073741824
def CPow (i j : Int) : Prop := 0 ≤ j ∧ j ≤ 1000000 ∧ i.natAbs < 2 ^ 64
def CMul (i j : Int) : Prop := (-(2 ^ 64) < i ∧ i < 2 ^ 64) ∨ (-(2 ^ 64) < j ∧ j < 2 ^ 64)
theorem CMul.ok {i j : Int} (h : CMul i j) : IntMulOk i j := by
  rcases h with ⟨h1, h2⟩ | ⟨h1, h2⟩
  · exact .of_left (intBits_le_64 h1 h2)
  · exact .of_right (intBits_le_64 h1 h2)
theorem op_add : OpR X (binaryOp .Add) (rI0 fun i j => .int (i + j)) := opI0 fun _ _ _ _ _ _ _ q => add_int q
theorem op_sub : OpR X (binaryOp .Sub) (rI0 fun i j => .int (i - j)) := opI0 fun _ _ _ _ _ _ _ q => sub_int q
theorem op_mul : OpR X (binaryOp .Mult) (rI CMul fun i j => .int (i * j)) := opI fun _ _ _ _ _ _ _ hc q => mul_int q hc.ok
/-- // by a positive divisor -/
theorem op_fdiv : OpR X (binaryOp .FloorDiv) (rI CDiv fun i j => .int (i / j)) := opI fun i j _ _ _ _ _ hc q => by
  have h1 : (0 : Int) < j := hc.1
  have h2 : j < 1073741824 := hc.2
  exact floordiv_int (by omega) (by rw [Int.fdiv_eq_ediv_of_nonneg i (by omega)]; exact q) (.inl (PyProof.noPylong_small (by omega)))
/-- % by a positive divisor of any size -/
theorem op_mod : OpR X (binaryOp .Mod) (rI (fun _ j => 0 < j) fun i j => .int (i % j)) := opI fun i j _ _ _ _ _ hc q => by
  have h1 : (0 : Int) < j := hc
  exact mod_int' (by omega) (by rw [Int.fmod_eq_emod_of_nonneg i (by omega)]; exact q)
theorem op_pow : OpR X (binaryOp .Pow) (rI CPow fun i j => .int (i ^ j.toNat)) := opI fun _ _ _ _ _ _ _ hc q => pow_int_small hc.1 hc.2.1 hc.2.2 q
theorem unI {f : Value → Sem Value} {g : Int → Int}
    (rule : ∀ (i : Int) (t : Tok) (s : Shared) (Q : Value → Shared → Prop) (E : Value → Shared → Prop), Q (.int (g i) s.toks) { s with toks := s.toks + 1 } → wpAny (model X.prog X.w) X.A (f (.int i t)) Q E s) :
    UnR X f (rU fun i => .int (g i)) := by
  intro pins s σ H x v Q I rx h
  obtain ⟨i, rfl, q⟩ := h
  obtain ⟨t, rfl⟩ := rx
  exact rule i t s _ _ ⟨.int (g i), H, I.tok _, ⟨_, rfl⟩, q⟩
theorem un_neg : UnR X (unaryOp .USub) (rU fun i => .int (-i)) := unI fun _ _ _ _ _ q => neg_int q
/-! ### bools among ints: n += (a < b) -/
end

/-! ### comparisons -/
/-- the scalars that == tells apart as data does -/
def scal : V → V → Bool
  | .non, .non => true | .non, .int _ => true | .int _, .non => true | .non, .bl _ => true | .bl _, .non => true | .non, .str _ => true | .str _, .non => true
  | .int _, .int _ => true | .bl _, .bl _ => true | .str _, .str _ => true | .byt _, .byt _ => true
  | .int _, .str _ => true | .str _, .int _ => true | .bl _, .str _ => true | .str _, .bl _ => true
  | _, _ => false
def rEq : R2 := fun x y H Q => scal x y = true ∧ Q (.bl (decide (x = y))) H
theorem dec_int {i j : Int} : decide (V.int i = V.int j) = (i == j) := by
  rw [Bool.eq_iff_iff]
  simp
theorem dec_bl {i j : Bool} : decide (V.bl i = V.bl j) = (i == j) := by
  rw [Bool.eq_iff_iff]
  simp
theorem dec_str {i j : Str} : decide (V.str i = V.str j) = (i == j) := by
  rw [Bool.eq_iff_iff]
  simp
theorem dec_byt {i j : Array UInt8} : decide (V.byt i = V.byt j) = (i.toList == j.toList) := by
  rw [Bool.eq_iff_iff]
  cases i
  cases j
  simp

section
variable {X : Cx} {a b c : Expr} {ta tb tc : TE} {pos : Pos}
theorem fin_bl {pins : List (Addr × Obj)} {σ : St} {H : Hp} {s : Shared} {Q : VK} {k k' : Bool} (I : Inv X pins σ H s) (q : Q (.bl k) H) (e : k = k') : EP X pins σ Q (.bool k') s := by
  subst e
  exact ⟨.bl k, H, I, rfl, q⟩
theorem op_eq : OpR X (compareOp .Eq) rEq := by
  intro pins s σ H x y v u Q I rx ry h
  obtain ⟨hs, q⟩ := h
  cases x with
  | non =>
    cases rx
    cases y with
    | non => cases ry; exact PySem.EqNone.eq_none_none (fin_bl I q (by simp))
    | bl j => cases ry; exact PySem.EqNone.eq_none_bool (fin_bl I q (by simp))
    | int j => obtain ⟨t', rfl⟩ := ry; exact PySem.EqNone.eq_none_int (fin_bl I q (by simp))
    | str j => obtain ⟨t', rfl⟩ := ry; exact PySem.EqNone.eq_none_str (fin_bl I q (by simp))
    | _ => exact absurd (show false = true from hs) Bool.false_ne_true
  | bl i =>
    cases rx
    cases y with
    | non => cases ry; exact PySem.EqNone.eq_bool_none (fin_bl I q (by simp))
    | bl j => cases ry; exact eq_bool (fin_bl I q dec_bl)
    | str j => obtain ⟨t', rfl⟩ := ry; exact PySem.EqMixed.eq_bool_str (fin_bl I q (by simp))
    | _ => exact absurd (show false = true from hs) Bool.false_ne_true
  | int i =>
    obtain ⟨t, rfl⟩ := rx
    cases y with
    | non => cases ry; exact PySem.EqNone.eq_int_none (fin_bl I q (by simp))
    | int j => obtain ⟨t', rfl⟩ := ry; exact eq_int (fin_bl I q dec_int)
    | str j => obtain ⟨t', rfl⟩ := ry; exact PySem.EqMixed.eq_int_str (fin_bl I q (by simp))
    | _ => exact absurd (show false = true from hs) Bool.false_ne_true
  | str i =>
    obtain ⟨t, rfl⟩ := rx
    cases y with
    | non => cases ry; exact PySem.EqNone.eq_str_none (fin_bl I q (by simp))
    | bl j => cases ry; exact PySem.EqMixed.eq_str_bool (fin_bl I q (by simp))
    | int j => obtain ⟨t', rfl⟩ := ry; exact PySem.EqMixed.eq_str_int (fin_bl I q (by simp))
    | str j => obtain ⟨t', rfl⟩ := ry; exact eq_str (fin_bl I q dec_str)
    | _ => exact absurd (show false = true from hs) Bool.false_ne_true
  | byt i =>
    obtain ⟨t, rfl⟩ := rx
    cases y with
    | byt j => obtain ⟨t', rfl⟩ := ry; exact PySem.W.eq_bytes (fin_bl I q dec_byt)
    | _ => exact absurd (show false = true from hs) Bool.false_ne_true
  | _ => cases y <;> exact absurd (show false = true from hs) Bool.false_ne_true
theorem op_lt : OpR X (compareOp .Lt) (rI0 fun i j => .bl (decide (i < j))) := opB0 fun _ _ _ _ _ _ _ q => lt_int q
theorem op_le : OpR X (compareOp .LtE) (rI0 fun i j => .bl (decide (i ≤ j))) := opB0 fun _ _ _ _ _ _ _ q => le_int q
theorem op_gt : OpR X (compareOp .Gt) (rI0 fun i j => .bl (decide (j < i))) := opB0 fun _ _ _ _ _ _ _ q => gt_int q
theorem nomark (b : Expr) {op : CmpOp} (h : op ≠ .In := by decide) (h2 : op ≠ .NotIn := by decide) : behindInMarks op b = false := by
  have e1 : (op == CmpOp.In) = false := by cases op <;> first | rfl | exact absurd rfl h
  have e2 : (op == CmpOp.NotIn) = false := by cases op <;> first | rfl | exact absurd rfl h2
  cases b <;> simp [behindInMarks, e1, e2]
/-- a comparison as a value; hm: nomark b, or (for in, not in) by with_unfolding_all rfl -/
theorem pe_cmpR {op : CmpOp} {r : R2} (ho : OpR X (compareOp op) r) (ha : PE X a ta) (hb : PE X b tb) (hm : behindInMarks op b = false) : PE X (.Compare a [op] [b] pos) (tOp r ta tb) := by
  intro pins s σ H Q I h
  exact wpAny_Compare1 (binT ha hb I h fun v u s2 x y H2 I2 rx ry q => ho pins s2 σ H2 x y v u Q I2 rx ry q) hm
/-- a reading of a value as a test -/
def tTest (t : TE) : TT := fun σ H Q => t σ H fun x H' => ∃ k, x = .bl k ∧ Q k H'
theorem pt_cmpR {op : CmpOp} {r : R2} (ho : OpR X (compareOp op) r) (ha : PE X a ta) (hb : PE X b tb) (hm : behindInMarks op b = false) : PT X (.Compare a [op] [b] pos) (tTest (tOp r ta tb)) := by
  intro pins s σ H Q I h
  refine wpAny_isTrue_Compare1 (thn (ha pins s σ H _ I h) fun v s1 ⟨x, H1, I1, r1, q1⟩ => thn (hb pins s1 σ H1 _ I1 q1) fun u s2 ⟨y, H2, I2, r2, q2⟩ =>
    thn (ho pins s2 σ H2 x y v u _ I2 r1 r2 q2) fun c s3 ⟨z, H3, I3, r3, k, e, q3⟩ => ?_) hm
  subst e
  cases r3
  exact wpAny_truthy_bool ⟨H3, I3, q3⟩
/-- a op1 b op2 c -/
def tChain (r r' : R2) (ta tb tc : TE) : TE := fun σ H Q => ta σ H fun x H1 => tb σ H1 fun y H2 => r x y H2 fun z H3 => ∃ k, z = .bl k ∧
  (if k = true then tc σ H3 fun w' H4 => r' y w' H4 Q else Q (.bl false) H3)
theorem pt_chain {op op' : CmpOp} {r r' : R2} (ho : OpR X (compareOp op) r) (ho' : OpR X (compareOp op') r') (ha : PE X a ta) (hb : PE X b tb) (hc : PE X c tc)
    (hm : lastMarks [op, op'] [b, c] = false := by with_unfolding_all rfl) : PT X (.Compare a [op, op'] [b, c] pos) (tTest (tChain r r' ta tb tc)) := by
  intro pins s σ H Q I h
  refine isTrue_chain (thn (ha pins s σ H _ I h) fun v s1 ⟨x, H1, I1, r1, q1⟩ => test_link (thn (hb pins s1 σ H1 _ I1 q1) fun u s2 ⟨y, H2, I2, r2, q2⟩ =>
    thn (ho pins s2 σ H2 x y v u _ I2 r1 r2 q2) fun d s3 ⟨z, H3, I3, r3, k, e, q3⟩ => ?_)) hm
  subst e
  cases r3
  refine wpAny_truthy_bool ?_
  cases k with
  | false =>
    obtain ⟨k', e', q'⟩ := q3
    cases e'
    exact ite_ff ⟨H3, I3, q'⟩
  | true =>
    refine ite_tt (test_last (thn (hc pins s3 σ H3 _ I3 q3) fun w' s4 ⟨z', H4, I4, r4, q4⟩ => thn (ho' pins s4 σ H4 y z' u w' _ I4 r2 r4 q4) fun d' s5 ⟨z2, H5, I5, r5, k2, e2, q5⟩ => ?_))
    subst e2
    cases r5
    exact wpAny_truthy_bool ⟨H5, I5, q5⟩

/-! ### truth -/
theorem line63 : (sizeLine : Nat) < 2 ^ 63 := by rw [sizeLine_eq]; decide
/-! ### strs and bytes -/
/-! ### scalar builtins, by CallR -/
theorem vals1 {x : V} {us : List Value} (r : Vals [x] us) : ∃ u, us = [u] ∧ RelV x u := by
  cases r with
  | cons r1 r2 => cases r2; exact ⟨_, rfl, r1⟩
theorem vals2 {x y : V} {us : List Value} (r : Vals [x, y] us) : ∃ u w', us = [u, w'] ∧ RelV x u ∧ RelV y w' := by
  cases r with
  | cons r1 r2 =>
    cases r2 with
    | cons r3 r4 => cases r4; exact ⟨_, _, rfl, r1, r3⟩
theorem call_abs : CallR X (.builtin "abs") (fun xs H Q => ∃ i, xs = [.int i] ∧ Q (.int (if i < 0 then -i else i)) H) := by
  intro pins s σ H xs us Q I r h
  obtain ⟨i, rfl, q⟩ := h
  obtain ⟨u, rfl, t, rfl⟩ := vals1 r
  exact call_abs_int fun u tk => ⟨.int (if i < 0 then -i else i), H, I.tok _, ⟨_, rfl⟩, q⟩
theorem call_max2 (hc : X.calm = true) : CallR X (.builtin "max") (fun xs H Q => ∃ i j, xs = [.int i, .int j] ∧ Q (.int (if j > i then j else i)) H) := by
  intro pins s σ H xs us Q I r h
  obtain ⟨i, j, rfl, q⟩ := h
  obtain ⟨u, w', rfl, ⟨t, rfl⟩, ⟨t', rfl⟩⟩ := vals2 r
  refine max_two_ints (I.ok.hd hc) fun h' tk k => ⟨_, H, I.kept k, ?_, q⟩
  by_cases hj : j > i
  · rw [if_pos hj, if_pos hj]; exact ⟨_, rfl⟩
  · rw [if_neg hj, if_neg hj]; exact ⟨_, rfl⟩
theorem call_min2 (hc : X.calm = true) : CallR X (.builtin "min") (fun xs H Q => ∃ i j, xs = [.int i, .int j] ∧ Q (.int (if j < i then j else i)) H) := by
  intro pins s σ H xs us Q I r h
  obtain ⟨i, j, rfl, q⟩ := h
  obtain ⟨u, w', rfl, ⟨t, rfl⟩, ⟨t', rfl⟩⟩ := vals2 r
  refine min_two_ints (I.ok.hd hc) fun h' tk k => ⟨_, H, I.kept k, ?_, q⟩
  by_cases hj : j < i
  · rw [if_pos hj, if_pos hj]; exact ⟨_, rfl⟩
  · rw [if_neg hj, if_neg hj]; exact ⟨_, rfl⟩
theorem call_int1 : CallR X (.type "int") (fun xs H Q => (∃ i, xs = [.int i] ∧ Q (.int i) H) ∨ ∃ k, xs = [.bl k] ∧ Q (.int (if k then 1 else 0)) H) := by
  intro pins s σ H xs us Q I r h
  rcases h with ⟨i, rfl, q⟩ | ⟨k, rfl, q⟩
  · obtain ⟨u, rfl, t, rfl⟩ := vals1 r
    exact call_int_int ⟨.int i, H, I, ⟨_, rfl⟩, q⟩
  · obtain ⟨u, rfl, r1⟩ := vals1 r
    cases r1
    exact call_int_bool ⟨.int (if k then 1 else 0), H, I.tok _, ⟨_, rfl⟩, q⟩
/-- len of a str, a bytes, a list, a tuple -/
def LenV (K : PySem.W.Frag) (x : V) (H : Hp) (n : Nat) : Prop :=
  match x with
  | .str y => y.length ≤ sizeLine ∧ n = y.length
  | .byt y => y.size ≤ sizeLine ∧ n = y.size
  | .ref p => (∃ xs, SqL K H p xs ∧ n = xs.length) ∨ ∃ xs, SqT K H p xs ∧ n = xs.length
  | _ => False
theorem call_len : CallR X (.builtin "len") (fun xs H Q => ∃ x n, xs = [x] ∧ LenV X.K x H n ∧ Q (.int n) H) := by
  intro pins s σ H xs us Q I r h
  obtain ⟨x, n, rfl, e, q⟩ := h
  obtain ⟨u, rfl, rx⟩ := vals1 r
  have hl := line63
  have hs : sizeLine = 16777216 := sizeLine_eq
  cases x with
  | str y =>
    obtain ⟨t, rfl⟩ := rx
    obtain ⟨hy, e'⟩ : y.length ≤ sizeLine ∧ n = y.length := e
    subst e'
    exact len_str (by omega) ⟨.int _, H, I.tok _, ⟨_, rfl⟩, q⟩
  | byt y =>
    obtain ⟨t, rfl⟩ := rx
    obtain ⟨hy, e'⟩ : y.size ≤ sizeLine ∧ n = y.size := e
    subst e'
    exact PySem.W.len_bytes (by omega) ⟨.int _, H, I.tok _, ⟨_, rfl⟩, q⟩
  | ref p =>
    cases rx
    have e' : (∃ xs, SqL X.K H p xs ∧ n = xs.length) ∨ ∃ xs, SqT X.K H p xs ∧ n = xs.length := e
    rcases e' with ⟨xs, hx, e'⟩ | ⟨xs, hx, e'⟩
    · subst e'
      obtain ⟨its, r', pl, hz⟩ := I.list hx
      have hlen := r'.length
      exact Calls.call_len_list pl.isList (by simp only [List.size_toArray]; omega) ⟨.int xs.length, H, I.tok _, ⟨_, by simp only [List.size_toArray]; rw [hlen]⟩, q⟩
    · subst e'
      obtain ⟨its, r', pl, hz⟩ := I.tuple hx
      have hlen := r'.length
      exact len_tuple pl (by simp only [List.size_toArray]; omega) ⟨.int xs.length, H, I.tok _, ⟨_, by simp only [List.size_toArray]; rw [hlen]⟩, q⟩
  | _ => exact (show False from e).elim
end
end L2

namespace L2
open PySem PySem.Spec PyProof.Rows

/-! ### an instance, its attributes a map -/
structure ObjM (h : Heap) (x dx C : Addr) (mA : Str → Option Value) : Prop where
  obj : h.get? x = some (PySem.W.instObj C dx)
  ns : h.Ns1 dx mA
  ne : dx ≠ x

theorem lookIn_ns {h : Heap} {dx : Addr} {mA : Str → Option Value} (n : h.Ns1 dx mA) : ∃ od, h.get? dx = some od ∧ ∀ name, PySem.W.lookIn name od = some (mA name) := by
  obtain ⟨o, es, ep, ho, hd, hk, _, hm⟩ := n
  refine ⟨o, ho, fun name => ?_⟩
  have e := hm name
  unfold nsFind findBy at e
  rw [← Array.find?_toList] at e
  unfold PySem.W.lookIn
  rw [hd]
  dsimp only
  split
  · rename_i y q
    rw [q] at e
    exact congrArg some e
  · rename_i q
    rw [q] at e
    have a : es.toList.any (·.refKey) = false := by
      rw [List.any_eq_false]
      intro y hy
      obtain ⟨z, t, hkey⟩ := hk y (Array.mem_toList_iff.mp hy)
      simp [DictEntry.refKey, hkey]
    have a' : ¬ es.toList.any (·.refKey) = true := by rw [a]; exact Bool.false_ne_true
    rw [if_neg a']
    exact congrArg some e

theorem ObjM.look {h : Heap} {x dx C : Addr} {mA : Str → Option Value} (I : ObjM h x dx C mA) : ∃ od, PySem.W.InstAt h x (PySem.W.instObj C dx) C (some od) ∧ ∀ name, PySem.W.lookIn name od = some (mA name) :=
  let ⟨od, ho, hl⟩ := lookIn_ns I.ns
  ⟨od, ⟨I.obj, rfl, rfl, ho⟩, hl⟩

section
variable {prog : Program} {w : World} {A : Around} {E : Value → Shared → Prop} {s : Shared} {K : PySem.W.Frag} {x dx C f : Addr} {mA : Str → Option Value} {name : Str} {v : Value}

end

/-! ### the attributes as a list of pairs -/
section
variable {P : Program} {w : World} {H H' : Hp} {h h' : Heap} {a C dx : Addr} {fs fs' : List (Str × V)}
theorem ins_get (hok : HOk P w H h) (e : H a = some (.ins C dx fs)) : ∃ mA, ObjM h a dx C mA ∧ (∀ f, RelO (fs.lookup f) (mA f)) ∧ PySem.Within mA (fs.map (·.1)) ∧ fs.length ≤ 1000 ∧ H dx = some (.own a) := by
  obtain ⟨d, z, ne, ob, mA, n, r, q⟩ := (show ObjOk P w H h a (.ins C dx fs) from hok a _ e)
  exact ⟨mA, ⟨ob, n, ne⟩, r, q, z, d⟩
end

/-! ### what of the text a class must have -/
structure Cls (K : PySem.W.Frag) (C : Addr) : Prop where
  pg : PySem.W.plainGet K C Str.empty = true
  hd : PySem.W.hasDictIn K C = true
  po : PySem.W.plainOver K C = true
  sa : PySem.W.findIn K (.ref C) "__setattr__" = some (some (.builtin "object.__setattr__"))
theorem Cls.get {K : PySem.W.Frag} {C : Addr} (c : Cls K C) (f : Str) : PySem.W.plainGet K C f = true := c.pg
section
variable {X : Cx} {pins : List (Addr × Obj)} {σ : St} {H : Hp} {s : Shared} {a C dx : Addr} {fs : List (Str × V)} {f : Str} {v : V} {A : Around} {E : Value → Shared → Prop}

end

/-! ### readings and rules -/
section
variable {X : Cx} {o e value : Expr} {f : Str} {pos pos' tpos : Pos} {ta tv : TE}
end

/-! ### isinstance -/
section
variable {X : Cx} {pins : List (Addr × Obj)} {σ : St} {H : Hp} {s : Shared} {A : Around} {E : Value → Shared → Prop} {Q : Value → Shared → Prop} {c : Value} {b : Bool}
/-- the type of a value, as the fragment's deciders take it; for an instance its class -/
inductive TyOf (K : PySem.W.Frag) (H : Hp) : V → Value → Prop where
  | non : TyOf K H .non (.type "NoneType")
  | bl (x : Bool) : TyOf K H (.bl x) (.type "bool")
  | int (i : Int) : TyOf K H (.int i) (.type "int")
  | str (x : Str) : TyOf K H (.str x) (.type "str")
  | flt (x : UInt64) : TyOf K H (.flt x) (.type "float")
  | lst {a : Addr} {xs : List V} (e : H a = some (.lst xs)) : TyOf K H (.ref a) (.type "list")
  | frz {a : Addr} {o : Obj} {xs : List V} (e : H a = some (.frz o (.lst xs))) : TyOf K H (.ref a) (.type "list")
  | tup {a : Addr} {xs : List V} (e : H a = some (.tup xs)) : TyOf K H (.ref a) (.type "tuple")
  | dK {a : Addr} {kvs : List (Key × V)} (e : H a = some (.dK kvs)) : TyOf K H (.ref a) (.type "dict")
  | dT {a : Addr} {kvs : List (List Key × V)} (e : H a = some (.dT kvs)) : TyOf K H (.ref a) (.type "dict")
  | ins {a C dx : Addr} {fs : List (Str × V)} (e : H a = some (.ins C dx fs)) (cl : Cls K C) (ha : PySem.W.findIn K (.ref C) "__class__" = some (some (.builtin "object.__class__")))
      (hn : PySem.W.specialIn K (.builtin "object.__class__") "__get__" = some (some (.builtin "getset_descriptor.__get__"))) (htk : PySem.W.takesIn K (.builtin "object.__class__") = some true)
      (hm : PySem.W.mroIn K C (.type "object") = some true) : TyOf K H (.ref a) (.ref C)
/-- isinstance(x, c) for one class c, a built-in or an own one: kitOne's answer -/
theorem isinst_ok {x : V} {u t : Value} (I : Inv X pins σ H s) (rx : RelV x u) (ty : TyOf X.K H x t) (e : PySem.W.kitOne X.K t c = some b) (h : ∀ tk, Q (.bool b) { s with toks := tk }) :
    wpAny (model X.prog X.w) A (call (.builtin "isinstance") [u, c]) Q E s := by
  cases ty with
  | non => cases (show u = Value.none from rx); exact PySem.W.kia_one PySem.W.kitx_none I.kIn True.intro e (fun z => nomatch z) h
  | bl y => cases (show u = Value.bool y from rx); exact PySem.W.kia_one PySem.W.kitx_bool I.kIn True.intro e (fun z => nomatch z) h
  | int i => obtain ⟨t, q⟩ := (show ∃ t, u = Value.int i t from rx); cases q; exact PySem.W.kia_one PySem.W.kitx_int I.kIn True.intro e (fun z => nomatch z) h
  | str y => obtain ⟨t, q⟩ := (show ∃ t, u = Value.str y t from rx); cases q; exact PySem.W.kia_one PySem.W.kitx_str I.kIn True.intro e (fun z => nomatch z) h
  | flt y => obtain ⟨t, q⟩ := (show ∃ t, u = Value.float y t from rx); cases q; exact PySem.W.kia_one PySem.W.kitx_float I.kIn True.intro e (fun z => nomatch z) h
  | @lst a xs ea =>
    cases (show u = Value.ref a from rx)
    obtain ⟨_, _, n, _, h1⟩ := (show ObjOk X.prog X.w H s.heap a (.lst xs) from I.hok a _ ea)
    exact PySem.W.kia_one PySem.W.kitx_list I.kIn ⟨_, h1, rfl⟩ e (fun z => nomatch z) h
  | @frz a ob xs ea =>
    cases (show u = Value.ref a from rx)
    obtain ⟨_, _, _, n, _, h1⟩ := (show ObjOk X.prog X.w H s.heap a (.frz ob (.lst xs)) from I.hok a _ ea)
    exact PySem.W.kia_one PySem.W.kitx_list I.kIn ⟨_, h1, rfl⟩ e (fun z => nomatch z) h
  | @tup a xs ea =>
    cases (show u = Value.ref a from rx)
    obtain ⟨_, _, _, p⟩ := (show ObjOk X.prog X.w H s.heap a (.tup xs) from I.hok a _ ea)
    obtain ⟨o, h1, h2, _⟩ := p
    exact PySem.W.kia_one PySem.W.kitx_tuple I.kIn ⟨o, h1, h2⟩ e (fun z => nomatch z) h
  | @dK a kvs ea =>
    cases (show u = Value.ref a from rx)
    obtain ⟨_, _, vs, _, p⟩ := (show ObjOk X.prog X.w H s.heap a (.dK kvs) from I.hok a _ ea)
    obtain ⟨o, es, ep, h1, h2, _⟩ := p
    exact PySem.W.kia_one PySem.W.kitx_dict I.kIn ⟨o, h1, h2.1⟩ e (fun z => nomatch z) h
  | @dT a kvs ea =>
    cases (show u = Value.ref a from rx)
    obtain ⟨_, _, xs, _, o, es, ep, h1, h2, _⟩ := (show ObjOk X.prog X.w H s.heap a (.dT kvs) from I.hok a _ ea)
    exact PySem.W.kia_one PySem.W.kitx_dict I.kIn ⟨o, h1, h2.1⟩ e (fun z => nomatch z) h
  | @ins a C dx fs ea cl ha hn htk hm =>
    cases (show u = Value.ref a from rx)
    obtain ⟨mA, O, _⟩ := ins_get I.hok ea
    obtain ⟨od, J, _⟩ := O.look
    exact PySem.W.kia_one (PySem.W.kitx_own (cl.get _) cl.hd ha hn htk hm) I.kIn J e (fun z => nomatch z) h
end
end L2

namespace L2
open PySem PySem.Spec PyProof.Rows

/-! ### room -/
structure Room (k : Nat) (A : Around) : Prop where
  hd : A.handled = none
  dp : A.depth + 3 * k + 5 < recursionLimit
  un : A.units + 16 * k + 200 < cLine
theorem Room.mono {j k : Nat} {A : Around} (r : Room k A) (h : j ≤ k) : Room j A := ⟨r.hd, by have := r.dp; omega, by have := r.un; omega⟩
theorem Room.deeper {k : Nat} {A : Around} (r : Room (k + 1) A) (env : Env) : Room k (A.deeper env) :=
  ⟨r.hd, by have := r.dp; show A.depth + 1 + 3 * k + 5 < _; omega, by have := r.un; show A.units + 3 + 16 * k + 200 < _; omega⟩
theorem Room.depth {k : Nat} {A : Around} (r : Room k A) : A.depth < recursionLimit := by have := r.dp; omega
theorem Room.units {k : Nat} {A : Around} (r : Room k A) : A.units + 64 < cLine := by have := r.un; omega
/-! ### argument lists and displays -/
def tNil : TA := fun _ H Q => Q [] H
def tCons (ta : TE) (tr : TA) : TA := fun σ H Q => ta σ H fun x H1 => tr σ H1 fun xs H2 => Q (x :: xs) H2
section
variable {X : Cx} {e : Expr} {es : List Expr} {te : TE} {t : TA} {pos : Pos}
theorem pa_nil : PA X [] tNil := fun _ _ _ _ H Q I h => Calls.spliced_nil ⟨[], H, I, .nil, h⟩
theorem pa_cons (ha : PE X e te) (hr : PA X es t) (hs : starEach (e :: es) X.env = (false, eval e X.env) :: starEach es X.env := by rfl) : PA X (e :: es) (tCons te t) := by
  intro pos pins s σ H Q I h
  rw [hs]
  show wpAny _ _ (spliced ((false, eval e X.env) :: backTo pos (starEach es X.env))) _ _ s
  refine Calls.spliced_cons (thn (ha pins s σ H _ I h) fun u s1 ⟨x, H1, I1, r1, q1⟩ => ?_)
  exact thn (hr pos pins s1 σ H1 _ I1 q1) fun us s2 ⟨xs, H2, I2, r2, q2⟩ => ⟨x :: xs, H2, I2, .cons r1 r2, q2⟩

/-- a tuple, a list of written items -/
def tTup (t : TA) : TE := fun σ H Q => t σ H fun xs H1 => xs.length ≤ sizeLine ∧ ∀ p, H1 p = none → Q (.ref p) (upd H1 p (.tup xs))
def tLst (t : TA) : TE := fun σ H Q => t σ H fun xs H1 => xs.length ≤ sizeLine ∧ ∀ p, H1 p = none → Q (.ref p) (upd H1 p (.lst xs))
theorem pe_tup {x1} (h : PA X es t) : PE X (.Tuple es x1 pos) (tTup t) := by
  intro pins s σ H Q I hq
  refine wpAny_Tuple_spliced (thn (h pos pins s σ H _ I hq) fun us s1 ⟨xs, H1, I1, r, z, q⟩ => ⟨by rw [← r.length]; exact z, ?_⟩)
  have hf : H1 s1.heap.objs.size = none := I1.hok.fresh (Nat.le_refl _)
  refine ⟨.ref s1.heap.objs.size, upd H1 s1.heap.objs.size (.tup xs), I1.laid (t' := s1.toks) (fun b u e => Heap.get?_push_of_some _ e) (Nat.le_refl _) ?_, rfl, q _ hf⟩
  exact ⟨z, us, r, ⟨_, Heap.get?_push_size _ rfl, rfl, ⟨_, rfl⟩, rfl⟩⟩
theorem pe_lst (h : PA X es t) : PE X (.List es pos) (tLst t) := by
  intro pins s σ H Q I hq
  refine wpAny_List_spliced (thn (h pos pins s σ H _ I hq) fun us s1 ⟨xs, H1, I1, r, z, q⟩ => ⟨by rw [← r.length]; exact z, ?_⟩)
  have hf : H1 s1.heap.objs.size = none := I1.hok.fresh (Nat.le_refl _)
  refine ⟨.ref s1.heap.objs.size, upd H1 s1.heap.objs.size (.lst xs), I1.laid (t' := s1.toks) (fun b u e => Heap.get?_push_of_some _ e) (Nat.le_refl _) ?_, rfl, q _ hf⟩
  exact ⟨z, us, 0, r, Heap.get?_push_size _ rfl⟩
end

/-! ### what a def promises -/
/-- a def's promise: the bound arguments in the parameters' order, the heap, the wanted end, the wanted exception -/
abbrev Sp := List V → Hp → VK → XK → Prop
/-- how an exception lies behind a call (file 08 gives it): the callers' frames, abstract heap and state ahead of the call, the wish, the exception, the state -/
abbrev CXT := List Env → Hp → Shared → XK → Value → Shared → Prop

/-- the state at a call -/
structure Env0 (P : Program) (w : World) (K : PySem.W.Frag) (mg : Str → Option Value) (base : Heap) (A : Around) (outer : List Env) (s : Shared) (H : Hp) : Prop where
  frames : A.frames = some outer
  mod : Mod K mg base
  bs : ∀ b o, base.get? b = some o → s.heap.get? b = some o ∧ H b = none
  bsz : base.objs.size ≤ s.heap.objs.size
  funs : s.heap.FunFrames base outer
  frf : ∀ b ∈ frs outer, H b = none
  hok : HOk P w H s.heap
  bare : AllBare s.gens
/-- a call's end -/
def CE (outer : List Env) (P : Program) (w : World) (H : Hp) (s : Shared) (Q : VK) (u : Value) (s' : Shared) : Prop :=
  ∃ v H', s'.os = s.os ∧ AllBare s'.gens ∧ Un (frs outer) [] H H' s.heap s'.heap ∧ HOk P w H' s'.heap ∧ RelV v u ∧ Q v H'
def CR (CX : CXT) (outer : List Env) (P : Program) (w : World) (H : Hp) (s : Shared) (Q : VK) (E : XK) (r : Result) (s' : Shared) : Prop :=
  match r with
  | .ok (.ret u) => CE outer P w H s Q u s'
  | .ok _ => False
  | .error e => CX outer H s E e s'
structure FnOk (P : Program) (w : World) (K : PySem.W.Frag) (mg : Str → Option Value) (base : Heap) (CX : CXT) (k : Nat) (f : Addr) (fd : FuncData) (ps : List Str) (sp : Sp) : Prop where
  len : ∀ vs H Q E, sp vs H Q E → vs.length = ps.length
  run : ∀ (A : Around) (outer : List Env) (s : Shared) (H : Hp) (args : Args) (us : List Value) (vs : List V) (Q : VK) (E : XK), Room k A → Env0 P w K mg base A outer s H → BindsTo s fd args (ps.zip us) → Vals vs us → sp vs H Q E →
    codeAny (model P w) A (.call (.ref f) args) (CR CX outer P w H s Q E) s
section
variable {X : Cx} {pins : List (Addr × Obj)} {σ : St} {H : Hp} {s s' : Shared}
/-- from a body: what a callee wants -/
theorem Inv.env0 (I : Inv X pins σ H s) : Env0 X.prog X.w X.K X.mg X.base X.A X.stack s H :=
  ⟨I.ok.frames, I.ok.mod, I.bs, Nat.le_trans I.ok.bsz I.sz, I.stack, I.stkFree, I.hok, I.bare⟩
/-- behind a call -/
theorem Inv.after {Q : VK} {u : Value} (I : Inv X pins σ H s) (h : CE X.stack X.prog X.w H s Q u s') : EP X pins σ Q u s' := by
  obtain ⟨v, H', os, bare, un, hok, r, q⟩ := h
  obtain ⟨hh, g, d, t, os'⟩ := s'
  obtain rfl : os' = s.os := os
  exact ⟨v, H', I.call (h' := hh) (g' := g) (d' := d) (t' := t) (ch := []) un hok bare (fun b z => absurd z (by simp)), r, q⟩
end

/-! ### calls -/
/-- f(..): the written arguments, then the defaults dvs; E: what is wanted of an exception -/
def tCall (sp : Sp) (dvs : List V) (E : XK) (t : TA) : TE := fun σ H Q => t σ H fun vs H1 => sp (vs ++ dvs) H1 Q E
/-- how the parameters are bound: us the positional arguments, kw the keywords' values by name, ds the defaults that fill up -/
def Binds (K : PySem.W.Frag) (fd : FuncData) (ps : List Str) (ds : List Value) : Prop :=
  ∀ (s : Shared) (us : List Value), K.In s.heap → (us ++ ds).length = ps.length → BindsTo s fd ⟨us, []⟩ (ps.zip (us ++ ds))
/-- every parameter is given -/
theorem Binds.all {K : PySem.W.Frag} {fd : FuncData} {ps : List Str} (h : ∀ us : List Value, us.length = ps.length → bindArgs fd ⟨us, []⟩ = pure (ps.zip us)) : Binds K fd ps [] := fun s us _ hl => by
  rw [List.append_nil] at hl ⊢
  exact .of_eq (h us hl)

/-- an exception of a callee reaches what this body wants of exceptions -/
def Passes (CX : CXT) (X : Cx) (E : XK) : Prop := ∀ (pins : List (Addr × Obj)) (σ : St) (H : Hp) (s : Shared) (e : Value) (s' : Shared), Inv X pins σ H s → CX X.stack H s E e s' → X.xe e s'

section
variable {X : Cx} {CX : CXT} {k : Nat} {f C : Addr} {fd : FuncData} {ps : List Str} {sp : Sp} {dvs : List V} {ds : List Value} {E : XK} {x m : Str} {p pos apos : Pos} {e o : Expr} {es : List Expr} {ta : TE} {t : TA}

/-- the callee runs -/
theorem run_fn {pins : List (Addr × Obj)} {σ : St} {H : Hp} {s : Shared} {Q : VK} {us : List Value} {vs : List V} (F : FnOk X.prog X.w X.K X.mg X.base CX k f fd ps sp) (hr : Room k X.A) (hb : Binds X.K fd ps ds) (hd : Vals dvs ds) (hx : Passes CX X E)
    (I : Inv X pins σ H s) (r : Vals vs us) (h : sp (vs ++ dvs) H Q E) : wpAny (model X.prog X.w) X.A (call (.ref f) us) (EP X pins σ Q) X.xe s := by
  have r2 : Vals (vs ++ dvs) (us ++ ds) := r.append hd
  have hl : (us ++ ds).length = ps.length := by rw [← r2.length]; exact F.len _ _ _ _ h
  refine wpAny_call (codeAny_mono (F.run X.A X.stack s H ⟨us, []⟩ (us ++ ds) (vs ++ dvs) Q E hr I.env0 (hb s us I.kIn hl) r2 h) fun r s' hq => ?_)
  cases r with
  | error e => exact hx pins σ H s e s' I hq
  | ok fl =>
    cases fl with
    | ret u => exact I.after hq
    | next => exact False.elim hq
    | brk => exact False.elim hq
    | cont => exact False.elim hq

theorem pe_call (F : FnOk X.prog X.w X.K X.mg X.base CX k f fd ps sp) (hr : Room k X.A) (hg : Gl X x) (hm : X.mg x = some (.ref f)) (hk : PySem.W.keepIn X.K (.ref f) = true) (hb : Binds X.K fd ps ds) (hd : Vals dvs ds) (hx : Passes CX X E)
    (ha : PA X (e :: es) t) (hdb : (x == ("__debug__" : Str)) = false := by decide) (he : starEach (e :: es) X.env = (false, eval e X.env) :: starEach es X.env := by rfl) (hpl : (backTo pos (starEach es X.env)).any (·.1) = false := by rfl) :
    PE X (.Call (.Name x p) (e :: es) [] pos) (tCall sp dvs E t) := by
  intro pins s σ H Q I h
  refine wpAny_Call_Name_kw (ld_glob I hg hm ?_ hdb)
  refine PySem.W.callWith_K (h₀ := X.base) I.ok.mod.kin hk (thn (ha pos pins s σ H _ I h) fun us s1 ⟨vs, H1, I1, r, q⟩ => ⟨I1.kIn, ?_⟩) he hpl
  exact run_fn F hr hb hd hx I1 r q
end

/-! ### keywords -/
section
variable {X : Cx} {CX : CXT} {k : Nat} {f C : Addr} {fd : FuncData} {ps ks : List Str} {sp : Sp} {E : XK} {x m : Str} {p pos apos kpos : Pos} {e o : Expr} {es : List Expr} {kws : List Keyword} {te ta : TE} {t tk : TA} {nm : Option Str}
variable {g : List Value → List Value → List Value} {gV : List V → List V → List V}
end

/-! ### a def's body keeps its promise -/
/-- names: the parameters first -/
structure FnScope (N P : List Str) (sc : Scope) : Prop where
  kind : sc.kind = .function
  co : sc.isCoroutine = false
  gen : sc.isGenerator = false
  nd : N.Nodup
  pre : N.take P.length = P
  par : ∀ x ∈ P, sc.names.lookup x = some .local ∨ sc.names.lookup x = some .cell
  nofree : ∀ y ∈ sc.names, y.2 ≠ .free

theorem bindL_out {kindOf : Str → Option NameKind} {x : Str} : ∀ {binds : List (Str × Value)} {m : Str → Option Value}, (∀ v, (x, v) ∉ binds) → bindL kindOf binds m x = m x
  | [], _, _ => rfl
  | (n, v) :: r, m, h => by
    unfold bindL
    rw [bindL_out fun w hw => h w (List.mem_cons_of_mem _ hw)]
    split
    · have : x ≠ n := by rintro rfl; exact h v List.mem_cons_self
      simp [this]
    · rfl
theorem bindC_out {kindOf : Str → Option NameKind} {x : Str} : ∀ {binds : List (Str × Value)} {m : Str → Option Value}, (∀ v, (x, v) ∉ binds) → bindC kindOf binds m x = m x
  | [], _, _ => rfl
  | (n, v) :: r, m, h => by
    unfold bindC
    rw [bindC_out fun w hw => h w (List.mem_cons_of_mem _ hw)]
    split
    · rfl
    · have : x ≠ n := by rintro rfl; exact h v List.mem_cons_self
      simp [this]
theorem bindL_get {kindOf : Str → Option NameKind} {x : Str} {v : Value} : ∀ {P : List Str} {vs : List Value} {i : Nat} {m : Str → Option Value}, P.Nodup → P[i]? = some x → vs[i]? = some v → kindOf x = some .local →
    bindL kindOf (P.zip vs) m x = some v
  | [], _, _, _, _, h, _, _ => by simp at h
  | _ :: _, [], _, _, _, _, h, _ => by simp at h
  | p :: P, w :: vs, 0, m, nd, h1, h2, hk => by
    simp at h1 h2; subst h1; subst h2
    show bindL kindOf ((p, w) :: P.zip vs) m p = _
    unfold bindL
    rw [bindL_out fun v hv => (List.nodup_cons.mp nd).1 (List.of_mem_zip hv).1, if_pos hk]
    simp
  | p :: P, w :: vs, i + 1, m, nd, h1, h2, hk => by
    show bindL kindOf ((p, w) :: P.zip vs) m x = _
    unfold bindL
    exact bindL_get (i := i) (List.nodup_cons.mp nd).2 (by simpa using h1) (by simpa using h2) hk
theorem bindC_get {kindOf : Str → Option NameKind} {x : Str} {v : Value} : ∀ {P : List Str} {vs : List Value} {i : Nat} {m : Str → Option Value}, P.Nodup → P[i]? = some x → vs[i]? = some v → kindOf x ≠ some .local →
    bindC kindOf (P.zip vs) m x = some v
  | [], _, _, _, _, h, _, _ => by simp at h
  | _ :: _, [], _, _, _, _, h, _ => by simp at h
  | p :: P, w :: vs, 0, m, nd, h1, h2, hk => by
    simp at h1 h2; subst h1; subst h2
    show bindC kindOf ((p, w) :: P.zip vs) m p = _
    unfold bindC
    rw [bindC_out fun v hv => (List.nodup_cons.mp nd).1 (List.of_mem_zip hv).1, if_neg hk]
    simp
  | p :: P, w :: vs, i + 1, m, nd, h1, h2, hk => by
    show bindC kindOf ((p, w) :: P.zip vs) m x = _
    unfold bindC
    exact bindC_get (i := i) (List.nodup_cons.mp nd).2 (by simpa using h1) (by simpa using h2) hk

/-- the names' values at the entry -/
def start (N : List Str) (vs : List V) : St := vs.map some ++ List.replicate (N.length - vs.length) none

/-- the context of a def's body, at its entry; an exception leaves the frame, then lies as CX says -/
def cxOf (CX : CXT) (P : Program) (w : World) (K : PySem.W.Frag) (mg : Str → Option Value) (base : Heap) (N : List Str) (qual : Str) (scope : Scope) (f : Addr) (cd : Value) (A : Around) (outer : List Env) (s : Shared) (H : Hp) (E : XK) : Cx where
  prog := P
  w := w
  K := K
  mg := mg
  base := base
  A := A.deeper (envOfC qual scope s.heap.objs.size f cd)
  N := N
  s₀ := s
  H₀ := H
  env := envOfC qual scope s.heap.objs.size f cd
  outer := outer
  stack := envOfC qual scope s.heap.objs.size f cd :: outer
  ex := []
  calm := true
  fn := fun _ => true
  pn := []
  xe := fun e s' => wpAny (model P w) (A.deeper (envOfC qual scope s.heap.objs.size f cd)) (leaving (envOfC qual scope s.heap.objs.size f cd) e) (fun _ s'' => CX outer H s E e s'') (fun e' s'' => CX outer H s E e' s'') s'

theorem cell_has {sc : Scope} {n : Nat} {x : Str} (h : sc.names.lookup x = some .cell) : ∃ c, (cellsFrom n sc.names []).lookup x = some c := by
  have q := PySem.W.cellsFrom_some sc.names n [] (.inl h)
  exact Option.isSome_iff_exists.mp q

theorem inv_start {CX : CXT} {P : Program} {w : World} {K : PySem.W.Frag} {mg : Str → Option Value} {base : Heap} {N ps : List Str} {qual : Str} {scope : Scope} {f : Addr} {cd : Value} {A : Around} {outer : List Env} {s s1 : Shared} {H : Hp} {E : XK} {us : List Value} {vs : List V}
    (S : FnScope N ps scope) (hd : A.handled = none) (e0 : Env0 P w K mg base A outer s H) (hl : vs.length = ps.length) (r : Vals vs us)
    (x : InCallC s s.heap.objs.size (bindL (envOfC qual scope s.heap.objs.size f cd).kindOf (ps.zip us) fun _ => none) (cellsFrom (s.heap.objs.size + 1) scope.names []) (bindC (envOfC qual scope s.heap.objs.size f cd).kindOf (ps.zip us) fun _ => none) s1) :
    Inv (cxOf CX P w K mg base N qual scope f cd A outer s H E) [] (start N vs) H s1 := by
  have hpl : ps.length ≤ N.length := by have := congrArg List.length S.pre; rw [List.length_take] at this; omega
  obtain ⟨h1, tk, rfl, hk⟩ := x.done
  have noA : ∀ b : Addr, b ∉ (cxOf CX P w K mg base N qual scope f cd A outer s H E).ex := fun b z => absurd (show b ∈ ([] : List Addr) from z) (by simp)
  refine ⟨⟨e0.mod, S.kind, rfl, rfl, Nat.le_refl _, fun y z c h1 h2 => ?_, fun y hy => ?_, fun y c _ h => ?_, fun _ => hd, Around.frames_deeper e0.frames, .inr ⟨rfl, rfl⟩, fun b z => absurd z (noA b), e0.bs, e0.bsz, fun b _ _ => noA b, fun b z => absurd z (noA b), e0.funs, e0.frf⟩,
    rfl, e0.bare, Un.kept hk, ⟨_, x.toInCall.ns, fun i y v h1 h2 h3 => ?_⟩, fun y c h => ⟨_, x.cell y c h⟩, e0.hok.fresh (Nat.le_refl _), fun y c h => ?_, fun p hp => absurd (show p ∈ ([] : List (Addr × Obj)) from hp) (by simp), e0.hok.kept hk, ?_⟩
  · exact name_of_addr x.apart (PySem.mem_of_lookup h1) (PySem.mem_of_lookup h2)
  · have hy : scope.names.lookup y = some .cell ∨ scope.names.lookup y = some .free := hy
    rcases hy with hy | hy
    · exact cell_has hy
    · exact absurd rfl (S.nofree _ (PySem.mem_of_lookup hy))
  · exact Nat.le_of_lt (x.above y c (PySem.mem_of_lookup h))
  · have hi : i < vs.length := by
      unfold start at h2
      by_cases hi : i < vs.length
      · exact hi
      · rw [List.getElem?_append_right (by simpa using hi)] at h2
        rw [List.getElem?_replicate] at h2
        split at h2 <;> cases h2
    have ha : vs[i]? = some v := by
      unfold start at h2
      rw [List.getElem?_append_left (by simpa using hi), List.getElem?_map] at h2
      cases e : vs[i]? with
      | none => rw [e] at h2; cases h2
      | some a => rw [e] at h2; cases h2; rfl
    obtain ⟨u, hu, rv⟩ := r.get ha
    have hp : ps[i]? = some y := by
      rw [← S.pre, List.getElem?_take_of_lt (by omega)]; exact h1
    have ndP : ps.Nodup := by rw [← S.pre]; exact S.nd.sublist (List.take_sublist _ _)
    refine ⟨u, rv, ?_⟩
    rcases S.par y (List.mem_of_getElem? hp) with k | k
    · exact .inl ⟨k, bindL_get ndP hp hu k⟩
    · obtain ⟨c, e⟩ := cell_has (n := s.heap.objs.size + 1) k
      refine .inr ⟨.inl k, c, e, ?_⟩
      have q := x.cell y c e
      rw [bindC_get ndP hp hu (by show scope.names.lookup y ≠ _; rw [k]; decide)] at q
      exact q
  · exact e0.hok.fresh (Nat.le_of_lt (x.above y c (PySem.mem_of_lookup h)))
  · unfold start
    show _ = N.length
    rw [List.length_append, List.length_map, List.length_replicate]
    omega

/-- THE RULE: a def (or a method) of the text, by its body. The body's reading t is chosen for each entry; it is run at the parameters' values -/
theorem fn_of {CX : CXT} {P : Program} {w : World} {K : PySem.W.Frag} {mg : Str → Option Value} {base : Heap} {k : Nat} {f : Addr} {name qual : Str} {params : Arguments} {body : List Stmt} {scope : Scope} {dV kV doc pm cdv ct oc : Value} {an od : Option Addr}
    {osl : Array (Option Value)} {N ps : List Str} {sp : Sp} (lk : K.lookup f = some ⟨oc, od, .func (PySem.W.fnOf name qual params body scope dV kV doc pm an cdv ct), osl⟩) (hcd : PySem.W.codeIn K cdv qual = true) (S : FnScope N ps scope)
    (len : ∀ vs H Q E, sp vs H Q E → vs.length = ps.length)
    (hbody : ∀ (A : Around) (outer : List Env) (s : Shared) (H : Hp) (vs : List V) (Q : VK) (E : XK), Room k (A.deeper (envOfC qual scope s.heap.objs.size f cdv)) → sp vs H Q E →
      ∃ t, PSs (cxOf CX P w K mg base N qual scope f cdv A outer s H E) body t ∧ t { nx := fun _ H' => Q .non H', rt := Q } (start N vs) H) :
    FnOk P w K mg base CX (k + 1) f (PySem.W.fnOf name qual params body scope dV kV doc pm an cdv ct) ps sp := by
  refine ⟨len, fun A outer s H args us vs Q E hr e0 hb r hsp => ?_⟩
  have hl := len _ _ _ _ hsp
  have KX : K.In s.heap := e0.mod.kin.keeps fun b o e => (e0.bs b o e).1
  have lim : s.heap.NoLimit := e0.mod.nolimit.keeps fun b o e => (e0.bs b o e).1
  have hkind : ∀ y ∈ ps.zip us, scope.names.lookup y.1 = some .local ∨ (scope.names.lookup y.1 = some .cell ∧ ((cellsFrom (s.heap.objs.size + 1) scope.names []).lookup y.1).isSome = true) := fun ⟨n, v⟩ hy => by
    rcases S.par n (List.of_mem_zip hy).1 with q | q
    · exact .inl q
    · exact .inr ⟨q, PySem.W.cellsFrom_some _ _ _ (.inl q)⟩
  refine codeAny_call_function hr.depth (KX _ _ lk) rfl S.co S.gen rfl (PySem.W.codeRec_of KX hcd) (hb _ _ _ _ ?_)
  refine wpAny_newFunctionEnv_cells S.kind hkind fun env he s1 x => ?_
  subst he
  refine ⟨lim.keeps x.toInCall.keep, codeAny_func ?_⟩
  obtain ⟨t, ht, hq⟩ := hbody A outer s H vs Q E (hr.deeper _) hsp
  have I : Inv (cxOf CX P w K mg base N qual scope f cdv A outer s H E) [] (start N vs) H s1 := inv_start S hr.hd e0 hl r x
  refine wpAny_mono (ht [] s1 (start N vs) H _ I hq) (fun fl s' hs => ?_) fun e s' hs => hs
  have fin : ∀ {σ' : St} {H' : Hp} {v : V} {u : Value}, Inv (cxOf CX P w K mg base N qual scope f cdv A outer s H E) [] σ' H' s' → RelV v u → Q v H' → CE outer P w H s Q u s' :=
    fun {σ' H' v u} J rv q => ⟨v, H', J.os, J.bare, J.base, J.hok, rv, q⟩
  cases fl with
  | ret u =>
    obtain ⟨v, σ', H', J, rv, q⟩ := hs
    exact fin J rv q
  | next =>
    obtain ⟨σ', H', J, q⟩ := hs
    exact fin (v := V.non) (u := Value.none) J rfl q
  | brk =>
    obtain ⟨_, _, _, q⟩ := hs
    exact False.elim q
  | cont =>
    obtain ⟨_, _, _, q⟩ := hs
    exact False.elim q
end L2

namespace L2
open PySem PySem.Spec PyProof.Rows
section
variable {X : Cx} {x : Str} {p pos : Pos} {e : Expr} {es : List Expr} {t : TA} {id T : String} {r : List V → Hp → VK → Prop}

def tCB (r : List V → Hp → VK → Prop) (t : TA) : TE := fun σ H Q => t σ H fun vs H1 => r vs H1 Q
/-- f(e, ..), f a built-in function -/
theorem pe_callB (hc : CallR X (.builtin id) r) (hg : Gl X x) (hm : X.mg x = none) (hv : bootBuiltins x = some (.builtin id)) (ha : PA X (e :: es) t) (hn : x ≠ "__name__" := by decide) (hdb : (x == ("__debug__" : Str)) = false := by decide)
    (he : starEach (e :: es) X.env = (false, eval e X.env) :: starEach es X.env := by rfl) (hpl : (backTo pos (starEach es X.env)).any (·.1) = false := by rfl) : PE X (.Call (.Name x p) (e :: es) [] pos) (tCB r t) := by
  intro pins s σ H Q I h
  refine wpAny_Call_Name_kw (ld_blt I hg hm hv ?_ hn hdb)
  exact PyProof.Rows.callWith_builtin1 (thn (ha pos pins s σ H _ I h) fun us s1 ⟨vs, H1, I1, r1, q1⟩ => hc pins s1 σ H1 vs us Q I1 r1 q1) he hpl
/-- T(e, ..), T a built-in type -/
theorem pe_callTy (hc : CallR X (.type T) r) (hg : Gl X x) (hm : X.mg x = none) (hv : bootBuiltins x = some (.type T)) (ha : PA X (e :: es) t) (hn : x ≠ "__name__" := by decide) (hdb : (x == ("__debug__" : Str)) = false := by decide)
    (he : starEach (e :: es) X.env = (false, eval e X.env) :: starEach es X.env := by rfl) (hpl : (backTo pos (starEach es X.env)).any (·.1) = false := by rfl) : PE X (.Call (.Name x p) (e :: es) [] pos) (tCB r t) := by
  intro pins s σ H Q I h
  refine wpAny_Call_Name_kw (ld_blt I hg hm hv ?_ hn hdb)
  exact PyProof.Rows.callWith_type1 (thn (ha pos pins s σ H _ I h) fun us s1 ⟨vs, H1, I1, r1, q1⟩ => hc pins s1 σ H1 vs us Q I1 r1 q1) he hpl
end
end L2

namespace HT
open PySem PyProof.Rows

section
open PySem.SeqAt
open PySem.AutoSeq1 (wpAny_loadPart')
open PySem.MeetsSeq PySem.MeetsSeq2 PySem.MeetsSeq3

end

section
variable {prog : Program} {w : World} {A : Around} {E : Value → Shared → Prop} {s : Shared}

/-- t + u, t not empty -/
theorem cat_tup {t b : Addr} {vs ws : List Value} {Q : Value → Shared → Prop} (ht : IsTup s.heap t vs.toArray) (hb : IsTup s.heap b ws.toArray) (hv : vs ≠ [])
    (h1 : ws = [] → Q (.ref t) s) (h2 : ws ≠ [] → Q (.ref s.heap.objs.size) { s with heap := s.heap.push { cls := .type "tuple", data := .seq (vs ++ ws).toArray } })
    (hsz : vs.length + ws.length ≤ sizeLine) : wpAny (model prog w) A (binaryOp .Add (.ref t) (.ref b)) Q E s := by
  obtain ⟨⟨cls, dd, data, sl⟩, ho, hc, n, hd⟩ := id ht
  obtain ⟨⟨cls2, dd2, data2, sl2⟩, ho2, hc2, n2, hd2⟩ := id hb
  simp only at hc hd hc2 hd2
  subst hc hd hc2 hd2
  have e : vs.toArray ++ ws.toArray = (vs ++ ws).toArray := by simp
  by_cases hw : ws = []
  · exact concat_meets ⟨_, ho, rfl⟩ ⟨_, ho2, rfl⟩ noFill_tuple_add seq_tuple_add PySem.F.slot_tuple_add PySem.F.entry_tuple_add (PySem.F.args_tuple_add_2 _ _)
      (tuple_addW1 t b vs.toArray ws.toArray n n2 dd dd2 sl sl2 (by simpa using hv) (by simp [hw])) ⟨ho, ho2, h1 hw⟩
  · refine concat_meets ⟨_, ho, rfl⟩ ⟨_, ho2, rfl⟩ noFill_tuple_add seq_tuple_add PySem.F.slot_tuple_add PySem.F.entry_tuple_add (PySem.F.args_tuple_add_2 _ _)
      (tuple_addW2 t b vs.toArray ws.toArray n n2 dd dd2 sl sl2 (by simpa using hv) (by simpa using hw) (by rw [List.size_toArray, List.size_toArray]; exact hsz)) ⟨ho, ho2, ?_⟩
    rw [e]
    exact h2 hw

/-! ### t[a:b], not the whole -/
end
end HT

namespace L2
open PySem PySem.Spec PyProof.Rows

/-! ### the parts of a slice -/
section
variable {X : Cx} {e : Expr} {te : TE} {lo hi : Option Expr} {tl th : TO} {pos p2 : Pos}

/-! ### t < u, t + u -/
/-- t + u, t not empty: u empty gives t itself -/
def rCatT (K : PySem.W.Frag) : R2 := fun x y H Q => ∃ a b xs ys, x = .ref a ∧ y = .ref b ∧ SqT K H a xs ∧ SqT K H b ys ∧ xs ≠ [] ∧ xs.length + ys.length ≤ sizeLine ∧
  (ys = [] → Q (.ref a) H) ∧ (ys ≠ [] → ∀ p, H p = none → Q (.ref p) (upd H p (.tup (xs ++ ys))))
theorem Vals.nil_iff {xs : List V} {us : List Value} (r : Vals xs us) : us = [] ↔ xs = [] := by
  cases r with
  | nil => simp
  | cons _ _ => simp
theorem op_catT : OpR X (binaryOp .Add) (rCatT X.K) := by
  intro pins s σ H x y v u Q I rx ry h
  obtain ⟨a, b, xs, ys, rfl, rfl, ha, hb, hx, hz, q1, q2⟩ := h
  cases rx
  cases ry
  obtain ⟨its, r1, p1, _⟩ := I.tuple ha
  obtain ⟨its2, r2, p2, _⟩ := I.tuple hb
  refine HT.cat_tup p1 p2 (fun z => hx (r1.nil_iff.mp z)) (fun z => ⟨.ref a, H, I, rfl, q1 (r2.nil_iff.mp z)⟩) (fun z => ?_) (by rw [← r1.length, ← r2.length]; exact hz)
  refine ⟨.ref s.heap.objs.size, _, I.laid (t' := s.toks) (o := .tup (xs ++ ys)) (fun b ob q => Heap.get?_push_of_some _ q) (Nat.le_refl _) ?_, rfl, q2 (fun w => z (r2.nil_iff.mpr w)) _ (I.hok.fresh (Nat.le_refl _))⟩
  exact ⟨by rw [List.length_append]; exact hz, _, r1.append r2, PTup.new _ _⟩
end
end L2

namespace L2
open PySem PySem.Spec PyProof.Rows

/-! ### places -/
/-- the place that an index of any sign means -/
def ixN (n : Nat) (i : Int) : Option Nat := if 0 ≤ i then (if i < n then some i.toNat else none) else if -(n : Int) ≤ i then some (i + n).toNat else none
def atI {α : Type} (xs : List α) (i : Int) : Option α := (ixN xs.length i).bind fun j => xs[j]?
theorem ixN_seq {n : Nat} {i : Int} {j : Nat} (h : ixN n i = some j) : seqIndex? i n = some j ∧ j < n ∧ -(n : Int) ≤ i ∧ i < n := by
  unfold ixN at h
  by_cases h0 : 0 ≤ i
  · rw [if_pos h0] at h
    by_cases h1 : i < n
    · rw [if_pos h1] at h
      have e : i.toNat = j := Option.some.inj h
      exact ⟨by rw [seqIndex_of h0 h1, e], by omega, by omega, h1⟩
    · rw [if_neg h1] at h; cases h
  · rw [if_neg h0] at h
    by_cases h1 : -(n : Int) ≤ i
    · rw [if_pos h1] at h
      have e : (i + n).toNat = j := Option.some.inj h
      exact ⟨by rw [seqIndex_neg (by omega) h1, e], by omega, h1, by omega⟩
    · rw [if_neg h1] at h; cases h
theorem atI_get {α : Type} {xs : List α} {i : Int} {v : α} (h : atI xs i = some v) : ∃ j, seqIndex? i xs.length = some j ∧ xs[j]? = some v ∧ j < xs.length ∧ -(xs.length : Int) ≤ i ∧ i < xs.length := by
  unfold atI at h
  cases e : ixN xs.length i with
  | none => rw [e] at h; cases h
  | some j =>
    rw [e] at h
    obtain ⟨h1, h2, h3, h4⟩ := ixN_seq e
    exact ⟨j, h1, h, h2, h3, h4⟩
theorem atI_nat {α : Type} {xs : List α} {j : Nat} {v : α} (h : xs[j]? = some v) : atI xs (j : Int) = some v := by
  have hj : j < xs.length := (List.getElem?_eq_some_iff.mp h).1
  have e : ixN xs.length (j : Int) = some j := by
    unfold ixN
    rw [if_pos (by omega), if_pos (by omega)]; simp
  unfold atI; rw [e]; exact h
/-! ### what may be subscripted -/
/-- what stands as an index of a plain subscript -/
def PlainIx (b : Expr) : Prop := ∀ o i, subscripted b false o i = operate [o, i] (getItem o i)
/-- a subscript by values -/
def IxR (X : Cx) (r : R2) : Prop :=
  ∀ (value slice : Expr) (pins : List (Addr × Obj)) (s : Shared) (σ : St) (H : Hp) (x y : V) (v u : Value) (Q : VK), Inv X pins σ H s → RelV x v → RelV y u → r x y H Q →
    subscripted slice false v u = operate [v, u] (getItem v u) → wpAny (model X.prog X.w) X.A (subscriptTail value slice v u) (EP X pins σ Q) X.xe s
/-- a call of a builtin's method by values: the receiver, the arguments -/
def MtR (X : Cx) (id : String) (r : V → List V → Hp → VK → Prop) : Prop :=
  ∀ (pins : List (Addr × Obj)) (s : Shared) (σ : St) (H : Hp) (x : V) (xs : List V) (v : Value) (us : List Value) (Q : VK), Inv X pins σ H s → RelV x v → Vals xs us → r x xs H Q →
    wpAny (model X.prog X.w) X.A (call (.builtin id) (v :: us)) (EP X pins σ Q) X.xe s
section
variable {X : Cx} {a b : Expr} {ta tb : TE} {pos : Pos}
theorem IxR.or {r r' : R2} (h : IxR X r) (h' : IxR X r') : IxR X (fun x y H Q => r x y H Q ∨ r' x y H Q) := by
  intro value slice pins s σ H x y v u Q I rx ry q hs
  rcases q with q | q
  · exact h value slice pins s σ H x y v u Q I rx ry q hs
  · exact h' value slice pins s σ H x y v u Q I rx ry q hs
/-- a[b] -/
theorem pe_ix {r : R2} (hr : IxR X r) (ha : PE X a ta) (hb : PE X b tb) (hs : PlainIx b) : PE X (.Subscript a b pos) (tOp r ta tb) := by
  intro pins s σ H Q I h
  exact Subscript_ (binT ha hb I h fun v u s2 x y H2 I2 rx ry q => hr a b pins s2 σ H2 x y v u Q I2 rx ry q (hs _ _))

def rIxL (K : PySem.W.Frag) : R2 := fun x y H Q => ∃ p xs i v, x = .ref p ∧ y = .int i ∧ SqL K H p xs ∧ atI xs i = some v ∧ Q v H
def rIxT (K : PySem.W.Frag) : R2 := fun x y H Q => ∃ p xs i v, x = .ref p ∧ y = .int i ∧ SqT K H p xs ∧ atI xs i = some v ∧ Q v H
def rIxS : R2 := fun x y H Q => ∃ z i c, x = .str z ∧ y = .int i ∧ z.length ≤ sizeLine ∧ atI z.cps.toList i = some c ∧ Q (.str ⟨#[c]⟩) H
theorem ix_list : IxR X (rIxL X.K) := by
  intro value slice pins s σ H x y v u Q I rx ry h hs
  obtain ⟨p, xs, i, z, rfl, rfl, hq, he, q⟩ := h
  cases rx
  obtain ⟨t, rfl⟩ := ry
  obtain ⟨its, r, pl, hz⟩ := I.list hq
  obtain ⟨j, h1, h2, h3, h4, h5⟩ := atI_get he
  obtain ⟨w, ew, rw'⟩ := r.get h2
  have hl := r.length
  have hn := line63
  have fin : EP X pins σ Q w s := ⟨z, H, I, rw', q⟩
  by_cases h0 : 0 ≤ i
  · have hj : i.toNat = j := by
      rw [seqIndex_of h0 h5] at h1
      exact Option.some.inj h1
    exact item_listR pl.isList h0 (by omega) (by rw [hj]; simpa using ew) fin hs
  · have hj : (i + (its.toArray.size : Int)).toNat = j := by
      rw [seqIndex_neg (by omega) h4] at h1
      rw [List.size_toArray, ← hl]
      exact Option.some.inj h1
    exact subscriptTail_builtinR (x := w) pl.isList.typeIs slot_list_getitem.lookup
      (wpAny_getItem_list_neg (Q := fun r s' => r = w ∧ EP X pins σ Q r s') pl.isList (by omega) (by rw [List.size_toArray] <;> omega) (by omega) (by rw [hj]; simpa using ew) ⟨rfl, fin⟩) hs
theorem ix_tup : IxR X (rIxT X.K) := by
  intro value slice pins s σ H x y v u Q I rx ry h hs
  obtain ⟨p, xs, i, z, rfl, rfl, hq, he, q⟩ := h
  cases rx
  obtain ⟨t, rfl⟩ := ry
  obtain ⟨its, r, pl, hz⟩ := I.tuple hq
  obtain ⟨j, h1, h2, h3, h4, h5⟩ := atI_get he
  obtain ⟨w, ew, rw'⟩ := r.get h2
  have hl := r.length
  have hn := line63
  have fin : EP X pins σ Q w s := ⟨z, H, I, rw', q⟩
  exact subscriptTail_builtinR (x := w) pl.typeIs slot_tuple_getitem.lookup
    (getItem_tuple (j := j) (Q := fun r s' => r = w ∧ EP X pins σ Q r s') pl (by omega) (by omega) (by rw [List.size_toArray, ← hl]; exact h1) (by simpa using ew) ⟨rfl, fin⟩) hs
theorem ix_str : IxR X rIxS := by
  intro value slice pins s σ H x y v u Q I rx ry h hs
  obtain ⟨z, i, c, rfl, rfl, hz, he, q⟩ := h
  obtain ⟨t, rfl⟩ := rx
  obtain ⟨t', rfl⟩ := ry
  obtain ⟨j, h1, h2, h3, h4, h5⟩ := atI_get he
  have hl : z.cps.toList.length = z.length := by simp [Str.length]
  rw [hl] at h1 h4 h5
  have hn := line63
  exact tail_any (typeIs_str s z t) slot_str_getitem.lookup (getItem_str (c := c) (by
    have e1 : decide (i < -(2 ^ 63 : Int)) = false := decide_eq_false (by omega)
    have e2 : decide (i ≥ 2 ^ 63) = false := decide_eq_false (by omega)
    rw [e1, e2, Bool.or_false]) (by rw [h1]; simpa using h2) ⟨.str ⟨#[c]⟩, H, I.tok _, ⟨_, rfl⟩, q⟩) hs
/-- list, tuple or str -/
def rIx (K : PySem.W.Frag) : R2 := fun x y H Q => rIxL K x y H Q ∨ rIxT K x y H Q ∨ rIxS x y H Q
theorem ix_seq : IxR X (rIx X.K) := ix_list.or (ix_tup.or ix_str)

/-! ### xs[i] = v, any sign -/
/-! ### slices -/
/-! ### in, not in: flat items -/
def flatV : V → Bool
  | .non => true
  | .bl _ => true
  | .int _ => true
  | .str _ => true
  | _ => false
/-- == of flat values -/
def eqV : V → V → Bool
  | .non, .non => true
  | .bl a, .bl b => a == b
  | .bl a, .int b => (if a then 1 else 0) == b
  | .int a, .bl b => a == (if b then 1 else 0)
  | .int a, .int b => a == b
  | .str a, .str b => a == b
  | _, _ => false
theorem eqAt_V {A : Around} {s : Shared} {y x : V} {u v : Value} (ry : RelV y u) (rx : RelV x v) (fy : flatV y = true) (fx : flatV x = true) : SeqAt.EqAt A s u v (eqV y x) := by
  cases y with
  | non =>
    cases ry
    cases x with
    | non => cases rx; exact SeqAt.EqAt.same _
    | bl b => cases rx; exact SeqAt.EqAt.none_bool b
    | int b => obtain ⟨t, rfl⟩ := rx; exact SeqAt.EqAt.none_int b t
    | str b => obtain ⟨t, rfl⟩ := rx; exact SeqAt.EqAt.none_str b t
    | _ => exact absurd (show false = true from fx) Bool.false_ne_true
  | bl a =>
    cases ry
    cases x with
    | non => cases rx; exact SeqAt.EqAt.bool_none a
    | bl b => cases rx; exact SeqAt.EqAt.bool_bool a b
    | int b => obtain ⟨t, rfl⟩ := rx; exact SeqAt.EqAt.bool_int a b t
    | str b => obtain ⟨t, rfl⟩ := rx; exact SeqAt.EqAt.bool_str a b t
    | _ => exact absurd (show false = true from fx) Bool.false_ne_true
  | int a =>
    obtain ⟨t', rfl⟩ := ry
    cases x with
    | non => cases rx; exact SeqAt.EqAt.int_none a t'
    | bl b => cases rx; exact SeqAt.EqAt.int_bool a t' b
    | int b => obtain ⟨t, rfl⟩ := rx; exact SeqAt.EqAt.int_int a t' b t
    | str b => obtain ⟨t, rfl⟩ := rx; exact SeqAt.EqAt.int_str a t' b t
    | _ => exact absurd (show false = true from fx) Bool.false_ne_true
  | str a =>
    obtain ⟨t', rfl⟩ := ry
    cases x with
    | non => cases rx; exact SeqAt.EqAt.str_none a t'
    | bl b => cases rx; exact SeqAt.EqAt.str_bool a t' b
    | int b => obtain ⟨t, rfl⟩ := rx; exact SeqAt.EqAt.str_int a t' b t
    | str b => obtain ⟨t, rfl⟩ := rx; exact SeqAt.EqAt.str_str a t' b t
    | _ => exact absurd (show false = true from fx) Bool.false_ne_true
  | _ => exact absurd (show false = true from fy) Bool.false_ne_true
/-- the items' answers, read off the values (a value's own answer does not lean on its token) -/
def eqU (x : V) (u : Value) : Bool := match u with
  | .none => eqV .non x
  | .bool b => eqV (.bl b) x
  | .int i _ => eqV (.int i) x
  | .str z _ => eqV (.str z) x
  | _ => false
theorem eqU_of {x y : V} {u : Value} (r : RelV y u) (f : flatV y = true) : eqU x u = eqV y x := by
  cases y with
  | non => cases r; rfl
  | bl b => cases r; rfl
  | int i => obtain ⟨t, rfl⟩ := r; rfl
  | str z => obtain ⟨t, rfl⟩ := r; rfl
  | _ => exact absurd (show false = true from f) Bool.false_ne_true
theorem any_eqU {x : V} : ∀ {xs : List V} {us : List Value}, Vals xs us → xs.all flatV = true → us.any (eqU x) = xs.any fun y => eqV y x
  | _, _, .nil, _ => rfl
  | y :: xs, u :: us, .cons r t, f => by
    rw [List.all_cons, Bool.and_eq_true] at f
    rw [List.any_cons, List.any_cons, eqU_of r f.1, any_eqU t f.2]
theorem mem_eqAt {A : Around} {s : Shared} {x : V} {v : Value} (rx : RelV x v) (fx : flatV x = true) : ∀ {xs : List V} {us : List Value}, Vals xs us → xs.all flatV = true → ∀ u ∈ us, SeqAt.EqAt A s u v (eqU x u)
  | _, _, .nil, _ => fun u hu => by cases hu
  | y :: xs, u :: us, .cons r t, f => fun u' hu => by
    rw [List.all_cons, Bool.and_eq_true] at f
    rcases List.mem_cons.mp hu with rfl | hu
    · rw [eqU_of r f.1]; exact eqAt_V r rx f.1 fx
    · exact mem_eqAt rx fx t f.2 u' hu
def inV (x : V) (xs : List V) : Bool := xs.any fun y => eqV y x
/-- x in a list or tuple of flat items -/
def rIn (K : PySem.W.Frag) (neg : Bool) : R2 := fun x y H Q => ∃ p xs, y = .ref p ∧ (SqL K H p xs ∨ SqT K H p xs) ∧ flatV x = true ∧ xs.all flatV = true ∧ Q (.bl (if neg then !inV x xs else inV x xs)) H
theorem op_notIn_seq : OpR X (compareOp .NotIn) (rIn X.K true) := by
  intro pins s σ H x y v u Q I rx ry h
  obtain ⟨p, xs, rfl, hq, fx, fs, q⟩ := h
  cases ry
  rcases hq with hq | hq
  · obtain ⟨its, r, pl, hz⟩ := I.list hq
    refine SeqAt.notIn_listAt (eqU x) pl.isList (fun w hw => mem_eqAt rx fx r fs w (by simpa using hw)) ⟨.bl _, H, I, rfl, ?_⟩
    rw [show its.toArray.any (eqU x) = its.any (eqU x) by simp, any_eqU r fs]
    exact q
  · obtain ⟨its, r, pl, hz⟩ := I.tuple hq
    refine SeqAt.notIn_tupleAt (eqU x) pl (fun w hw => mem_eqAt rx fx r fs w (by simpa using hw)) ⟨.bl _, H, I, rfl, ?_⟩
    rw [show its.toArray.any (eqU x) = its.any (eqU x) by simp, any_eqU r fs]
    exact q
/-! ### len, list(x), tuple(x) of any list or tuple that is read -/
theorem call_tuple_of : CallR X (.type "tuple") (fun xs H Q => ∃ p ys, xs = [.ref p] ∧ ((SqL X.K H p ys ∧ ∀ l, H l = none → Q (.ref l) (upd H l (.tup ys))) ∨ (SqT X.K H p ys ∧ Q (.ref p) H))) := by
  intro pins s σ H xs us Q I r h
  obtain ⟨p, ys, rfl, h⟩ := h
  obtain ⟨u, rfl, rx⟩ := vals1 r
  cases rx
  rcases h with ⟨hq, q⟩ | ⟨hq, q⟩
  · obtain ⟨its, r', pl, hz⟩ := I.list hq
    have hlen := r'.length
    refine call_tuple_list pl.isList (fun h' kp => ?_) (by simp only [List.size_toArray] <;> omega)
    have I1 : Inv X pins σ H { s with heap := h' } := I.kept (t' := s.toks) kp
    have I2 : Inv X pins σ (upd H h'.objs.size (.tup ys)) { s with heap := h'.push { cls := .type "tuple", data := .seq its.toArray } } :=
      I1.laid (t' := s.toks) (fun b o e => Heap.get?_push_of_some _ e) (Nat.le_refl _) (show ObjOk X.prog X.w _ _ _ (.tup ys) from ⟨hz, its, r', PTup.new _ _⟩)
    exact ⟨.ref h'.objs.size, _, I2, rfl, q _ (I1.hok.fresh (Nat.le_refl _))⟩
  · obtain ⟨its, r', pl, hz⟩ := I.tuple hq
    exact call_tuple_same pl ⟨.ref p, H, I, rfl, q⟩

/-! ### the call of a builtin's method: o.m(..) -/
/-- the value is of that builtin type -/
def tyV (K : PySem.W.Frag) (T : String) (x : V) (H : Hp) : Prop := match x with
  | .str _ => T = "str"
  | .int _ => T = "int"
  | .ref p => (T = "list" ∧ ∃ xs, SqL K H p xs) ∨ (T = "tuple" ∧ ∃ o, K.lookup p = some o ∧ o.cls = .type "tuple" ∧ o.dict = none) ∨
      (T = "dict" ∧ ((∃ kvs, H p = some (.dK kvs)) ∨ ∃ kvs, H p = some (.dT kvs))) ∨ (T = "set" ∧ ∃ S n, H p = some (.set S n)) ∨ (T = "tuple" ∧ ∃ xs, H p = some (.tup xs))
  | _ => False
theorem tyV_is {pins : List (Addr × Obj)} {σ : St} {H : Hp} {s : Shared} {T : String} {x : V} {v : Value} (I : Inv X pins σ H s) (r : RelV x v) (ty : tyV X.K T x H) :
    s.TypeIs v T ∧ ∀ a, v = .ref a → ∃ ob, s.heap.get? a = some ob ∧ ob.dict = none := by
  cases x with
  | str z =>
    obtain ⟨t, rfl⟩ := r
    cases (show T = "str" from ty)
    exact ⟨typeIs_str s z t, fun _ e => nomatch e⟩
  | int i =>
    obtain ⟨t, rfl⟩ := r
    cases (show T = "int" from ty)
    exact ⟨typeIs_int s i t, fun _ e => nomatch e⟩
  | ref p =>
    cases r
    rcases ty with ⟨rfl, xs, hq⟩ | ⟨rfl, o, hk, hc, hd⟩ | ⟨rfl, hk⟩ | ⟨rfl, S, n, hk⟩ | ⟨rfl, xs, hk⟩
    rotate_left 4
    · obtain ⟨_, its, _, o, e, c, _, hd⟩ := I.hok p _ hk
      exact ⟨⟨o, e, c⟩, fun a e2 => by cases e2; exact ⟨o, e, hd⟩⟩
    · obtain ⟨its, _, pl, _⟩ := I.list hq
      refine ⟨pl.isList.typeIs, fun a e => ?_⟩
      cases e
      obtain ⟨o, n, e, c, hd, _⟩ := pl
      exact ⟨o, e, hd⟩
    · refine ⟨⟨o, I.kIn p o hk, hc⟩, fun a e => ?_⟩
      cases e
      exact ⟨o, I.kIn _ o hk, hd⟩
    · have z : ∃ o, s.heap.get? p = some o ∧ o.ExactDict := by
        rcases hk with ⟨kvs, hk⟩ | ⟨kvs, hk⟩
        · obtain ⟨_, _, _, _, o, _, _, e, ex, _⟩ := I.hok p _ hk
          exact ⟨o, e, ex⟩
        · obtain ⟨_, _, _, _, o, _, _, e, ex, _⟩ := I.hok p _ hk
          exact ⟨o, e, ex⟩
      obtain ⟨o, e, ex⟩ := z
      refine ⟨⟨o, e, ex.1⟩, fun a e2 => ?_⟩
      cases e2
      exact ⟨o, e, ex.2.1⟩
    · obtain ⟨o, _, _, _, e, ex, _⟩ := I.hok p _ hk
      refine ⟨⟨o, e, ex.1⟩, fun a e2 => ?_⟩
      cases e2
      exact ⟨o, e, ex.2.1⟩
  | _ => exact False.elim ty
def tBM (K : PySem.W.Frag) (T : String) (r : V → List V → Hp → VK → Prop) (to : TE) (t : TA) : TE := fun σ H Q => to σ H fun x H1 => tyV K T x H1 ∧ t σ H1 fun xs H2 => r x xs H2 Q
variable {o e : Expr} {es : List Expr} {to : TE} {t : TA} {name : Str} {apos cpos : Pos} {T id : String} {r : V → List V → Hp → VK → Prop}
theorem pe_bm (pa : PlainAttrs T) (slot : Slot T name id) (hty : typeOf (.builtin id) = pure (.type "method_descriptor")) (hm : MtR X id r) (ho : PE X o to) (ha : PA X (e :: es) t)
    (hbase : attributeBase o name X.env (eval o X.env) = eval o X.env := by rfl)
    (hfew : ((backTo cpos (starEach (e :: es) X.env)).all (fun x => !x.1) && (backToKw cpos (keywordEach [] X.env)).all (fun x => x.1.isSome)
      && decide ((e :: es).length + ([] : List Keyword).length + (if ([] : List Keyword).isEmpty then 0 else 1) < 30)) = true := by rfl)
    (hline : (apos.endLine == cpos.line) = true := by rfl) (hs : starEach (e :: es) X.env = (false, eval e X.env) :: starEach es X.env := by rfl) (hplain : (backTo cpos (starEach es X.env)).any (·.1) = false := by rfl) :
    PE X (.Call (.Attribute o name apos) (e :: es) [] cpos) (tBM X.K T r to t) := by
  intro pins s σ H Q I h
  refine wpAny_Call_method_late hbase hfew hline rfl (thn (ho pins s σ H _ I h) fun v s1 ⟨x, H1, I1, r1, ty, q1⟩ => ?_)
  obtain ⟨h1, h2⟩ := tyV_is I1 r1 ty
  refine ⟨T, id, pa, slot, hty, h1, h2, ?_⟩
  have hA := ha cpos pins s1 σ H1 _ I1 q1
  rw [hs] at hA ⊢
  refine Calls.callWith_builtin (by show (false || (backTo cpos (starEach es X.env)).any (·.1)) = false; rw [hplain] <;> rfl) (Calls.evalArgs_plain ?_)
  exact thn hA fun us s2 ⟨vs, H2, I2, r2, q2⟩ => hm pins s2 σ H2 x vs v us Q I2 r1 r2 q2
/- xs.append(e), list.index on a module's tuple .. are MtR facts of 06m -/
end
end L2

namespace L2
open PySem PySem.Spec PyProof.Rows

def MtM (X : Cx) (id : String) (r : V → List V → Hp → VK → Prop) : Prop :=
  ∀ (pins : List (Addr × Obj)) (s : Shared) (σ : St) (H : Hp) (x : V) (xs : List V) (v : Value) (us : List Value) (Q : VK), Inv X pins σ H s → RelV x v → Vals xs us → r x xs H Q →
    wpAny (model X.prog X.w) X.A (call (.builtin id) (v :: us)) (EP X pins σ Q) X.xe s

/-! ### lists of values -/
theorem Vals.one : ∀ {x : V} {us : List Value}, Vals [x] us → ∃ u, us = [u] ∧ RelV x u
  | _, _, .cons r .nil => ⟨_, rfl, r⟩
section
variable {X : Cx} {pins : List (Addr × Obj)} {σ : St} {H : Hp} {s : Shared} {l b : Addr} {xs ys zs : List V}

/-! ### the two steps: a tracked list is rewritten, a new list is laid -/
theorem Inv.lset {its its' : List Value} {n : Nat} {f : Array Value → Array Value} {t' : Nat} (I : Inv X pins σ H s) (hH : H l = some (.lst xs))
    (e : s.heap.get? l = some { cls := .type "list", data := .seq its.toArray n }) (hf : f its.toArray = its'.toArray) (hv : Vals ys its') (hz : ys.length ≤ sizeLine) :
    Inv X pins σ (upd H l (.lst ys)) { s with heap := s.heap.update l (Obj.mapSeq f), toks := t' } := by
  have q := PySem.IsL.update e f
  rw [hf] at q
  refine I.write (x := l) (e := l) (by rw [hH]; exact trivial) (.inl rfl) (fun b' u hb hu => (Heap.get?_update_other s.heap (Obj.mapSeq f) (Ne.symm hb)).trans hu) ⟨_, q⟩ ?_
  exact ⟨hz, its', _, hv, q⟩
theorem Inv.lnew {its : List Value} {t' : Nat} (I : Inv X pins σ H s) (hv : Vals ys its) (hz : ys.length ≤ sizeLine) :
    Inv X pins σ (upd H s.heap.objs.size (.lst ys)) { s with heap := s.heap.push { cls := .type "list", data := .seq its.toArray }, toks := t' } :=
  I.laid (fun _ _ q => Heap.get?_push_of_some _ q) (Nat.le_refl _) ⟨hz, its, 0, hv, Heap.get?_push_size _ rfl⟩
theorem Inv.fresh (I : Inv X pins σ H s) : H s.heap.objs.size = none := I.hok.fresh (Nat.le_refl _)
theorem Inv.lstM (I : Inv X pins σ H s) (hH : H l = some (.lst xs)) : xs.length ≤ sizeLine ∧ ∃ (its : List Value) (n : Nat), Vals xs its ∧ xs.length = its.length ∧ s.heap.get? l = some { cls := .type "list", data := .seq its.toArray n } := by
  obtain ⟨z, its, n, r, e⟩ := I.hok l _ hH
  exact ⟨z, its, n, r, r.length, e⟩

end

section
variable {X : Cx}

/-! ### methods -/
def rAppend : V → List V → Hp → VK → Prop := fun x vs H Q => ∃ l xs y, x = .ref l ∧ vs = [y] ∧ H l = some (.lst xs) ∧ xs.length < sizeLine ∧ Q .non (upd H l (.lst (xs ++ [y])))
theorem mt_append : MtM X "list.append" rAppend := by
  intro pins s σ H x vs v us Q I rx rv h
  obtain ⟨l, xs, y, rfl, rfl, hH, hz, q⟩ := h
  cases rx
  obtain ⟨u, rfl, ru⟩ := rv.one
  obtain ⟨z, its, n, r, hl, e⟩ := I.lstM hH
  refine call_meets F.slot_list_append ⟨_, e, rfl⟩ F.entry_list_append (F.args_list_append_2 _ _) (PySem.list_append l its.toArray n u (by rw [List.size_toArray]; omega)) ⟨e, ?_⟩
  refine ⟨.non, _, I.lset (its' := its ++ [u]) hH e (by simp) (r.append (.cons ru .nil)) ?_, rfl, q⟩
  rw [List.length_append, List.length_singleton]
  omega

/-! ### list + list, list += list, list * int -/
def rCat : R2 := fun x y H Q => ∃ l b xs zs, x = .ref l ∧ y = .ref b ∧ H l = some (.lst xs) ∧ H b = some (.lst zs) ∧ xs.length + zs.length ≤ sizeLine ∧ ∀ p, H p = none → Q (.ref p) (upd H p (.lst (xs ++ zs)))
theorem op_cat : OpR X (binaryOp .Add) rCat := by
  intro pins s σ H x y v u Q I rx ry h
  obtain ⟨l, b, xs, zs, rfl, rfl, hH, hB, hz, q⟩ := h
  cases rx
  cases ry
  obtain ⟨z, its, n, r, hl, e⟩ := I.lstM hH
  obtain ⟨z2, its2, n2, r2, hl2, e2⟩ := I.lstM hB
  refine PySem.P.add_list e e2 ?_ (by rw [List.size_toArray, List.size_toArray]; omega)
  have ea : its.toArray ++ its2.toArray = (its ++ its2).toArray := by simp
  rw [ea]
  exact ⟨.ref _, _, I.lnew (t' := s.toks) (r.append r2) (by rw [List.length_append]; omega), rfl, q _ I.fresh⟩
/-! ### del xs[i] -/
end

/-! ### xs[a:b] = ys -/
section
variable {prog : Program} {w : World} {A : Around} {E : Value → Shared → Prop} {s : Shared}
set_option maxRecDepth 100000 in
end

section
variable {X : Cx}
end
end L2

namespace Att
open PySem PySem.W PySem.Calls PyProof.Rows

/-! ### the script -/
theorem ints_of_wellAll {P : Params} {h : Heap} : ∀ (ns : List Int) (vs : List Value), WellAll P h vs (ns.map WData.int) → IntsAre vs ns := by
  intro ns
  induction ns with
  | nil =>
    intro vs w
    rw [List.map_nil] at w
    cases w
    exact .nil
  | cons n ns ih =>
    intro vs w
    rw [List.map_cons] at w
    cases w with
    | cons a b =>
      cases a
      exact .cons _ _ (ih _ b)

theorem script_of {l : OpenLaw} {n : Nat} (hn : l.most = some n) {P : Params} {h : Heap} {args : List WData} {vals : List Value}
    (hpre : l.row.toRowW.claim.pre args = true) (hwl : WellAll P h vals args) :
    ∃ a vs ns, vals = [Value.ref a] ∧ args = [WData.list (ns.map WData.int)] ∧ h.get? a = some { cls := .type "list", data := .seq vs.toArray } ∧ IntsAre vs ns ∧ ns.length ≤ n := by
  have hsh : WShape.hasAll [] args [.list .int] = true := (pre_splitW hpre).1
  have hc : l.pre.holds [] { args := args } = true := (pre_splitW hpre).2
  obtain ⟨d, r, rfl, h1, h2⟩ := hasAllW_cons hsh
  obtain rfl := hasAllW_nil h2
  obtain ⟨xs, rfl, h3⟩ := hasW_list h1
  obtain ⟨ns, rfl⟩ := items_int h3
  have hlen : ns.length ≤ n := by
    unfold OpenLaw.pre at hc
    have h4 : (WTm.not (.lt (.lit (.int (n : Int))) (.len (.arg 0)))).holds [] { args := [.list (ns.map .int)] } = true := by
      have h4 := (holds_andW hc).1
      rw [hn] at h4
      exact h4
    have h5 := condW_of h4 (w_not (w_lt w_lit (w_len_list (w_arg rfl))))
    rw [List.length_map] at h5
    refine Nat.le_of_not_lt fun q => ?_
    have q' : (n : Int) < ((ns.length : Nat) : Int) := by omega
    first
      | (rw [decide_eq_true q'] at h5; exact absurd h5 (by decide))
      | (simp at h5; omega)
  cases hwl with
  | cons w1 w2 =>
    cases w2
    cases w1 with
    | list ho hall => exact ⟨_, _, ns, rfl, rfl, ho, ints_of_wellAll ns _ hall, hlen⟩

theorem post_true (l : OpenLaw) (args : List WData) : l.row.toRowW.claim.post args (.bool true) args = true :=
  postW_of (r := l.row.toRowW) (X := (true == true))
    (show WShape.has [] (.bool true) .bool = true by first | rfl | decide | simp [WShape.has, WShape.arms, WShape.armsAll])
    (show (WTm.eq .res (.lit (.bool true))).value [] { args := args, res := some (.bool true), after := args } = some (.bool (true == true)) from w_eq_bool (w_res rfl) w_lit) rfl

/-! ### the attachment: holds_open's last premise (the goal 'hc' behind k_head) from a wpAny of the law's body -/
/-- the same from a codeAny of the CALL (for a layer whose function contracts speak of calls) -/
theorem attach_call {l : OpenLaw} {n : Nat} {q : Program} {loose : List Str} {XP : (Str → Option Value) → Heap → Prop} {YP : World → Heap → Prop} {d : DefRec}
    (hn : l.most = some n) (hdf : d.params.defaults = [])
    (call : ∀ (w : World) (s₀ s₁ : Shared) (mg mb : Str → Option Value) (fa : Addr) (o : Obj) (pm cd doc : Value) (a : Addr) (vs : List Value) (ns : List Int),
      Ground q loose [] XP w s₀ mg mb s₁.heap → YP w s₁.heap →
      s₁.heap.get? fa = some o → o.data = .func (docDef d.name d.params d.body d.scope pm cd doc) → s₁.heap.CodeRec cd d.name → mg d.name = some (.ref fa) →
      s₁.heap.get? a = some { cls := .type "list", data := .seq vs.toArray } → IntsAre vs ns → ns.length ≤ n → s₁.gens = #[] →
      codeAny (model l.prog w) callerA (.call (.ref fa) ⟨[.ref a], []⟩) (fun r s' => r = .ok (.ret (.bool true)) ∧ OldK s₁.heap s'.heap ∧ s'.os = s₁.os ∧ AllBare s'.gens) s₁) :
    WalkO q loose XP YP l.row.toRowW d [] (fun f vs => PySem.call f vs) := by
  intro w s₀ s₁ mg mb G Y fa o pm cd doc dV kV ho hd hcd hD hmg hg args vals as hpre hlay hrd hwl hlo
  obtain rfl : dV = .none := Dflts.none hD hdf
  obtain rfl : kV = .none := Dflts.noKw hD
  obtain ⟨a, vs, ns, rfl, rfl, hobj, hints, hlen⟩ := script_of hn hpre hwl
  refine enter_call (codeAny_mono (call w s₀ s₁ mg mb fa o pm cd doc a vs ns G Y ho (fd_plain hd) hcd hmg hobj hints hlen hg) fun r s' hq => ?_)
  obtain ⟨rfl, h2, h3, h4⟩ := hq
  exact ⟨.inl ⟨.bool true, .bool true, [], rfl, fun _ => rfl, .bool true, post_true l _, fun _ => ⟨List.Pairwise.nil, fun _ hm => (nomatch hm)⟩⟩, h2, h3, h4⟩

/-! ### rules over ANY heap (no ledger) from facts about the written part K: the library's own take a ledger (News) for what they write -/
section
variable {prog : Program} {w : World} {A : Around} {E : Value → Shared → Prop} {s : Shared} {K : Frag}

/-! the whole heap as the ledger: makes every rule that writes through a ledger a rule over any heap -/
end
end Att

namespace L2
open PySem PySem.Spec PyProof.Rows

theorem vals_ints : ∀ {vs : List Value} {ns : List Int}, IntsAre vs ns → Vals (ns.map V.int) vs
  | _, _, .nil => .nil
  | _, _, .cons n t h => .cons ⟨t, rfl⟩ (vals_ints h)

/-- nothing is tracked but the script, known to the object (or it is an object of the module) -/
def Only (H : Hp) : Prop := ∀ b, H b = none ∨ ∃ o xs, H b = some (.frz o (.lst xs))

/-- THE HEAD: the law's promise, at the heap behind the top. F, the promise of the law's def, may use that base is part of the heap (so K.In base, base.Ns mainGlobals mg stand in Mod) -/
theorem law_call {P : Program} {w : World} {K : PySem.W.Frag} {mg mb : Str → Option Value} {CX : CXT} {k : Nat} {fa a : Addr} {fd : FuncData} {x : Str} {sp : Sp} {s₁ : Shared} {vs : List Value} {ns : List Int}
    (KX : K.In s₁.heap) (hns : s₁.heap.Ns mainGlobals mg) (hb : s₁.heap.Ns builtinsNs mb) (hbb : ∀ x : Str, x ≠ "__name__" → mb x = bootBuiltins x) (hlim : s₁.heap.NoLimit) (hg : s₁.gens = #[])
    (ha : s₁.heap.get? a = some { cls := .type "list", data := .seq vs.toArray }) (hi : IntsAre vs ns) (hl : ns.length ≤ sizeLine) (hr : Room k callerA)
    (F : ∀ base : Heap, K.In base → base.Ns mainGlobals mg → FnOk P w K mg base CX k fa fd [x] sp) (hbind : ∀ (s : Shared) (u : Value), BindsTo s fd ⟨[u], []⟩ [(x, u)])
    (hsp : ∀ H : Hp, Only H → SqL K H a (ns.map V.int) → sp [.ref a] H (fun v _ => v = .bl true) fun _ _ _ => False)
    (hCX : ∀ H e s', CX [] H s₁ (fun _ _ _ => False) e s' → False) :
    codeAny (model P w) callerA (.call (.ref fa) ⟨[.ref a], []⟩) (fun r s' => r = .ok (.ret (.bool true)) ∧ OldK s₁.heap s'.heap ∧ s'.os = s₁.os ∧ AllBare s'.gens) s₁ := by
  have rv := vals_ints hi
  have lenV := hi.length
  -- from an abstract heap in which nothing but the script may be tracked
  have core : ∀ H : Hp, Only H → SqL K H a (ns.map V.int) → HOk P w H s₁.heap → (∀ b, H b ≠ none → b = a) → (H a ≠ none → K.lookup a = none) →
      codeAny (model P w) callerA (.call (.ref fa) ⟨[.ref a], []⟩) (fun r s' => r = .ok (.ret (.bool true)) ∧ OldK s₁.heap s'.heap ∧ s'.os = s₁.os ∧ AllBare s'.gens) s₁ := by
    intro H hO hS hok hA hK
    have base_of : ∀ {b : Addr} {o : Obj}, s₁.heap.get? b = some o → H b = none → (hidT s₁.heap H).get? b = some o := fun e n => hidT_get e n
    have noA : ∀ {b : Addr} {o : Obj} {es : Array DictEntry} {ep : Nat}, s₁.heap.get? b = some o → o.data = .dict es ep → H b = none := fun {b o es ep} e d => by
      cases q : H b with
      | none => rfl
      | some u =>
        have e' : b = a := hA b (by rw [q]; simp)
        subst e'
        rw [ha] at e; cases e
        have d' : Data.seq vs.toArray _ = Data.dict es ep := d
        cases d'
    have nsK : ∀ {b : Addr} {m : Str → Option Value}, s₁.heap.Ns b m → (hidT s₁.heap H).Ns b m := fun {b m} ⟨o, es, ep, e, d, r⟩ => ⟨o, es, ep, base_of e (noA e d), d, r⟩
    have hKb : K.In (hidT s₁.heap H) := fun b o e => base_of (KX b o e) (by
      cases q : H b with
      | none => rfl
      | some u =>
        have e' : b = a := hA b (by rw [q]; simp)
        subst e'
        rw [hK (by rw [q]; simp)] at e; cases e)
    have hM : Mod K mg (hidT s₁.heap H) := ⟨hKb, nsK hns, ⟨mb, nsK hb, hbb⟩, let ⟨mc, h1, h2⟩ := hlim; ⟨mc, nsK h1, h2⟩⟩
    have e0 : Env0 P w K mg (hidT s₁.heap H) callerA [] s₁ H := ⟨rfl, hM, fun b o e => of_hidT e, Nat.le_of_eq (hidT_size _ _), trivial, fun b hb => absurd (show b ∈ ([] : List Addr) from hb) (by simp), hok, .of_eq hg⟩
    refine codeAny_mono ((F _ hKb (nsK hns)).run callerA [] s₁ H ⟨[.ref a], []⟩ [.ref a] [.ref a] _ _ hr e0 (hbind s₁ (.ref a)) (.cons rfl .nil) (hsp H hO hS)) fun r s' h => ?_
    cases r with
    | error e => exact (hCX H e s' h).elim
    | ok fl =>
      cases fl with
      | next => exact False.elim h
      | brk => exact False.elim h
      | cont => exact False.elim h
      | ret u =>
        obtain ⟨v, H', os, bare, un, hok', r', q⟩ := h
        have q' : v = .bl true := q
        subst q'
        obtain rfl : u = Value.bool true := r'
        refine ⟨rfl, OldK.of_keep fun b o e => ?_, os, bare⟩
        cases q : H b with
        | none => exact un.keep b o e q (by intro z; exact absurd (show b ∈ ([] : List Addr) from z) (by simp)) (by simp)
        | some u =>
          rcases hO b with z | ⟨ob, xs, z⟩
          · rw [q] at z; cases z
          · have z2 := un.frzs b ob _ z
            obtain ⟨e1, _⟩ := hok b _ z
            obtain ⟨e2, _⟩ := hok' b _ z2
            rw [e] at e1; cases e1
            exact e2
  cases hk : K.lookup a with
  | some o =>
    -- the script is one of the module's own objects
    have e := KX a o hk
    rw [ha] at e
    cases e
    refine core (fun _ => none) (fun _ => .inl rfl) (.inr ⟨_, vs.toArray, _, hk, rfl, rfl, rfl, by rw [List.size_toArray, lenV]; exact hl, by simpa using rv⟩) (fun b u z => by have z' : (none : Option HO) = some u := z; cases z') (fun b z => absurd rfl z) fun z => absurd rfl z
  | none =>
    refine core (fun b => if b = a then some (.frz { cls := .type "list", data := .seq vs.toArray } (.lst (ns.map V.int))) else none) (fun b => ?_) (.inl (.inr ⟨{ cls := .type "list", data := .seq vs.toArray }, if_pos rfl⟩)) (fun b u z => ?_) (fun b z => ?_) fun _ => hk
    · by_cases hb : b = a
      · exact .inr ⟨_, _, if_pos hb⟩
      · exact .inl (if_neg hb)
    · by_cases hb : b = a
      · have z' := (if_pos hb).symm.trans z
        cases z'
        subst hb
        exact ⟨ha, by rw [List.length_map]; exact hl, vs, _, rv, ha⟩
      · have z' := (if_neg hb).symm.trans z
        cases z'
    · by_cases hb : b = a
      · exact hb
      · exact absurd (if_neg hb) z
end L2

namespace L2
open PySem PySem.Spec PyProof.Rows

/-- the goal that k_head leaves (case hc), from the law's promise. F gives the function object fd (K's own) once, then the promise over every base -/
theorem walk_of {l : PySem.W.OpenLaw} {n k : Nat} {q : Program} {loose : List Str} {XP : (Str → Option Value) → Heap → Prop} {YP : World → Heap → Prop} {d : DefRec} {K : Params → PySem.W.Frag} {CX : World → CXT} {sp : World → Sp} {x : Str}
    (hn : l.most = some n) (hn2 : n ≤ sizeLine) (hdf : d.params.defaults = []) (hr : Room k callerA)
    (hY : ∀ (w : World) (h : Heap), YP w h → (K w.params).In h)
    (F : ∀ (w : World) (mg : Str → Option Value) (fa : Addr) (h : Heap), (K w.params).In h → h.Ns mainGlobals mg → mg d.name = some (.ref fa) →
      ∃ fd : FuncData, (∀ (s : Shared) (u : Value), BindsTo s fd ⟨[u], []⟩ [(x, u)]) ∧
        ∀ base : Heap, (K w.params).In base → base.Ns mainGlobals mg → FnOk l.prog w (K w.params) mg base (CX w) k fa fd [x] (sp w))
    (hsp : ∀ (w : World) (H : Hp) (a : Addr) (ns : List Int), ns.length ≤ n → Only H → SqL (K w.params) H a (ns.map V.int) → sp w [.ref a] H (fun v _ => v = .bl true) fun _ _ _ => False)
    (hCX : ∀ (w : World) (H : Hp) (s : Shared) (e : Value) (s' : Shared), CX w [] H s (fun _ _ _ => False) e s' → False) :
    PySem.W.WalkO q loose XP YP l.row.toRowW d [] (fun f vs => PySem.call f vs) := by
  refine Att.attach_call hn hdf fun w s₀ s₁ mg mb fa o pm cd doc a vs ns G Y ho hd hcd hmg hobj hints hlen hg => ?_
  have KX := hY w _ Y
  obtain ⟨fd, hb, hF⟩ := F w mg fa _ KX G.T.g hmg
  exact law_call KX G.T.g G.T.b G.T.builtins G.T.nolimit hg hobj hints (Nat.le_trans hlen hn2) hr hF hb (fun H hO hS => hsp w H a ns hlen hO hS) fun H e s' => hCX w H s₁ e s'
end L2

/- THE LAST THEOREM (shape; LID, My.* are yours):
   My.Adr: a structure of the addresses that your layer names (classes, functions); My.Txt K t: a structure (Prop) of the equations over K;
   My.txt_mk : {K} {implicit addresses ..} (e1 : nsIn K mainGlobals "law" = some (some (.ref f))) (e2 : K.lookup f = some ⟨oc, od, .func (fnOf "law" "law" params body scope dV kV doc pm an cdv ct), sl⟩) (e3 : codeIn K cdv "law" = true) .. : ∃ t, My.Txt K t

set_option maxRecDepth 100000 in
set_option maxHeartbeats 0 in
theorem PySem.Challenge.cw_LID_holds : PySem.Challenge.rw_LID.Holds := by
  w_on; o_law; k_head; (case hw => w_witness2)
  k_fill
  refine L2.walk_of (l := PySem.Challenge.rw_LID) (n := 63) (k := 40) (x := "script") (CX := fun w => ..) (sp := fun _ => My.sp_law) rfl (by decide) rfl ⟨rfl, by decide, by decide⟩ (fun w h Y => PySem.W.kIn_of Y) ?F ?S ?C
  case F =>
    intro w mg fa h KX G hmg
    have T : ∃ t, My.Txt (L2.KOf KX) t := by
      dsimp only [L2.KOf]                          -- K must stand as «<heap const> w.params» for k_is
      refine' My.txt_mk ?e1 ?e2 ?e3 ..
      (case e1 => PySem.W.k_is)                    -- in the order: a name -> its address -> its object -> its parts
      (case e2 => PySem.W.k_is)
      ..
    obtain ⟨t, T⟩ := T
    have e0 := hmg.symm.trans (PySem.W.mg_of KX G T.law)
    cases e0                                       -- fa is the law's own address
    exact ⟨_, fun s u => .of_eq rfl, fun base kb nb => My.law_fn T kb nb⟩     -- if «.of_eq rfl» comes too early: refine' ⟨_, ?b, fun base kb nb => My.law_fn T kb nb⟩; exact fun s u => .of_eq rfl
  case S => exact fun w H a ns hl hO hS => ..
  case C => exact ..
(the tactic k_is has no namespace: write k_is) -/

/-! SHORT WORDS over the layer: a def of the text, its body, what a loop and a test want. -/
namespace L2
open PySem PySem.Spec PyProof.Rows

/-! ### the text by places -/
def defArgs (s : Stmt) : Arguments := match s with
  | .FunctionDef _ a _ _ _ _ _ _ _ _ => a
  | _ => { posonlyargs := [], args := [], vararg := none, kwonlyargs := [], kw_defaults := [], kwarg := none, defaults := [] }
def defBody (s : Stmt) : List Stmt := match s with
  | .FunctionDef _ _ b _ _ _ _ _ _ _ => b
  | _ => []
def defScope (s : Stmt) : Scope := match s with
  | .FunctionDef _ _ _ _ _ _ sc _ _ _ => sc
  | _ => { kind := .function, names := [], isGenerator := false, isCoroutine := false }

/-! ### no exception leaves a def -/
abbrev CX0 : CXT := fun _ _ _ _ _ _ => False
abbrev E0 : XK := fun _ _ _ => False
theorem pass0 {X : Cx} : Passes CX0 X E0 := fun _ _ _ _ _ _ _ h => h.elim

/-! ### a def (or method) of the text as it stands behind the top -/
structure Fun (K : PySem.W.Frag) (x qual : Str) (st : Stmt) (f : Addr) (fd : FuncData) : Prop where
  ex : ∃ (oc : Value) (od : Option Addr) (kV doc pm : Value) (an : Option Addr) (cdv ct : Value) (osl : Array (Option Value)),
    fd = PySem.W.fnOf x qual (defArgs st) (defBody st) (defScope st) .none kV doc pm an cdv ct ∧ K.lookup f = some ⟨oc, od, .func fd, osl⟩ ∧ PySem.W.codeIn K cdv qual = true
  kp : PySem.W.keepIn K (.ref f) = true
section
variable {P : Program} {w : World} {K : PySem.W.Frag} {mg : Str → Option Value} {base : Heap}
/-- THE RULE for a def: its body as a term of rules, and the reading of that term -/
theorem Fun.ok {x qual : Str} {st : Stmt} {f : Addr} {fd : FuncData} {N ps : List Str} {k : Nat} {sp : Sp} (F : Fun K x qual st f fd) (S : FnScope N ps (defScope st)) (len : ∀ vs H Q E, sp vs H Q E → vs.length = ps.length)
    (hbody : ∀ (cdv : Value) (A : Around) (outer : List Env) (s : Shared) (H : Hp) (vs : List V) (Q : VK) (E : XK), Room k (A.deeper (envOfC qual (defScope st) s.heap.objs.size f cdv)) → sp vs H Q E →
      ∃ t, PSs (cxOf CX0 P w K mg base N qual (defScope st) f cdv A outer s H E).nox (defBody st) t ∧ t { nx := fun _ H' => Q .non H', rt := Q } (start N vs) H) : FnOk P w K mg base CX0 (k + 1) f fd ps sp := by
  obtain ⟨oc, od, kV, doc, pm, an, cdv, ct, osl, rfl, lk, hcd⟩ := F.ex
  refine fn_of lk hcd S len fun A outer s H vs Q E hr hsp => ?_
  obtain ⟨t, h, q⟩ := hbody cdv A outer s H vs Q E hr hsp
  exact ⟨t, h.nox, q⟩
/-- how its arguments bind (no defaults): h is «fun _ _ _ _ _ _ us hl => match us, hl with | [_, _], _ => rfl», one _ a parameter -/
theorem Fun.binds {x qual : Str} {st : Stmt} {f : Addr} {fd : FuncData} {ps : List Str} (F : Fun K x qual st f fd)
    (h : ∀ (kV doc pm : Value) (an : Option Addr) (cdv ct : Value) (us : List Value), us.length = ps.length → bindArgs (PySem.W.fnOf x qual (defArgs st) (defBody st) (defScope st) .none kV doc pm an cdv ct) ⟨us, []⟩ = pure (ps.zip us)) : Binds K fd ps [] := by
  obtain ⟨oc, od, kV, doc, pm, an, cdv, ct, osl, rfl, lk, hcd⟩ := F.ex
  exact .all (h kV doc pm an cdv ct)
theorem fun_mk {x qual : Str} {st : Stmt} {f : Addr} {oc : Value} {od an : Option Addr} {osl : Array (Option Value)} {kV doc pm cdv ct : Value} (l : K.lookup f = some ⟨oc, od, .func (PySem.W.fnOf x qual (defArgs st) (defBody st) (defScope st) .none kV doc pm an cdv ct), osl⟩)
    (c : PySem.W.codeIn K cdv qual = true) (k : PySem.W.keepIn K (.ref f) = true) : Fun K x qual st f (PySem.W.fnOf x qual (defArgs st) (defBody st) (defScope st) .none kV doc pm an cdv ct) := ⟨⟨oc, od, kV, doc, pm, an, cdv, ct, osl, rfl, l, c⟩, k⟩
end
theorem hu_of {A : Around} {k : Nat} (hr : Room k A) : A.units + 1 < cLine := Nat.lt_of_le_of_lt (Nat.add_le_add_left (by decide : 1 ≤ 64) _) hr.units
theorem small1000 {n : Nat} (h : n ≤ 1000) : n < sizeLine := Nat.lt_of_le_of_lt h (by decide)

/-! ### expressions in short: the name that stands in the i-th slot -/
section
variable {X : Cx}
theorem pv (i : Nat) {x : Str} {pos : Pos} (hN : X.N[i]? = some x := by rfl) (hv : Vis X.env.scope x := by first | exact Or.inl rfl | exact Or.inr (Or.inl rfl) | exact Or.inr (Or.inr rfl)) (hd : (x == ("__debug__" : Str)) = false := by decide)
    (hcd : (x == ("__classdict__" : Str)) = false := by decide) : PE X (.Name x pos) (tVar i) := pe_var hN hv hd hcd
end

/-! ### tests -/
theorem iteF {A B : Prop} (h : B) : if false = true then A else B := by
  rw [if_neg Bool.false_ne_true]
  exact h
theorem iteT {A B : Prop} (h : A) : if true = true then A else B := by
  rw [if_pos rfl]
  exact h
theorem ite2 {c A B : Prop} [Decidable c] (h1 : c → A) (h2 : ¬ c → B) : if c then A else B := by
  by_cases h : c
  · rw [if_pos h]
    exact h1 h
  · rw [if_neg h]
    exact h2 h
/-! ### heaps -/
/-- all that was tracked is as it was -/
def Same (H H' : Hp) : Prop := ∀ b o, H b = some o → H' b = some o
theorem Same.refl (H : Hp) : Same H H := fun _ _ h => h
theorem Same.trans {H H1 H2 : Hp} (a : Same H H1) (b : Same H1 H2) : Same H H2 := fun c o h => b c o (a c o h)
end L2

set_option Elab.async false
set_option linter.all false
set_option maxRecDepth 100000
set_option maxHeartbeats 4000000
namespace L2
open PySem PySem.Spec PyProof.Rows

abbrev NoX : Value → Shared → Prop := fun _ _ => False
theorem wpX {α : Type} {M : Model} {A : Around} {t : Sem α} {Q : α → Shared → Prop} {E : Value → Shared → Prop} {s : Shared} (h : wpAny M A t Q NoX s) : wpAny M A t Q E s :=
  wpAny_mono h (fun _ _ q => q) fun _ _ f => f.elim

/-- the tests of a clause -/
def testAll (ifs : List Expr) (env : Env) : Sem Bool :=
  forIn ifs true fun c r => if r = true then do let ok ← isTrue c env (eval c env); pure (ForInStep.yield ok) else pure (ForInStep.yield r)

/-- the loop of a comprehension of one clause, any target; no exception leaves -/
theorem comp_loop_any {prog : Program} {w : World} {A : Around} {R : Result → Shared → Prop} {s : Shared} {elt tg iter : Expr} {ifs : List Expr} {scope : Scope} {pos : Pos} {it acc : Value} {env : Env} (Iv : Nat → Shared → Prop)
    (turn : ∀ n s, Iv n s → wpAny (model prog w) A (pyNext it) (fun r s1 => match r with
      | none => R (.ok .next) s1
      | some v => wpAny (model prog w) A (letOwnedTupleGo tg it v) (fun _ s2 => wpAny (model prog w) A (assign tg env v) (fun _ s3 => wpAny (model prog w) A (testAll ifs env) (fun ok s4 =>
            if ok = true then wpAny (model prog w) A (eval elt env) (fun x s5 => wpAny (model prog w) A (call (.builtin "list.append") [acc, x]) (fun _ s6 => ∃ m, m < n ∧ Iv m s6) NoX s5) NoX s4
            else ∃ m, m < n ∧ Iv m s4) NoX s3) NoX s2) NoX s1) NoX s)
    (n : Nat) (h : Iv n s) : codeAny (model prog w) A (.compLoop (.ListComp elt [⟨tg, iter, ifs, 0⟩] scope pos) 0 it acc env) R s := by
  refine codeAny_loop rfl Iv (fun n s hI => ?_) n h
  show wpAny (model prog w) A ((compTurn (.ListComp elt [⟨tg, iter, ifs, 0⟩] scope pos) 0 it acc env).onRaise (fun x => do noteFrame x env; theTreesLotGoes x)) _ _ s
  refine wpAny_noted (wpX ?_)
  rw [compTurn_list]
  refine wpAny_bind (wpAny_standAt (wpAny_bind (thn (turn n s hI) fun r s1 h1 => ?_)))
  cases r with
  | none => exact wpAny_pure h1
  | some v =>
    refine wpAny_bind (thn h1 fun _ s2 h2 => wpAny_bind (thn h2 fun _ s3 h3 => wpAny_bind (thn h3 fun ok s4 h4 => ?_)))
    cases ok with
    | false => exact wpAny_pure ⟨rfl, h4⟩
    | true => exact wpAny_bind (wpAny_bind (thn h4 fun x s5 h5 => wpAny_bind (thn h5 fun _ s6 h6 => wpAny_pure (wpAny_pure ⟨rfl, h6⟩))))

/-! what a block closes over -/
def stepCap (env : Env) (y : Str × NameKind) (cs : List (Str × Addr)) : List (Str × Addr) := if (y.2 == NameKind.free) = true then (y.1, (env.cells.lookup y.1).getD 0) :: cs else cs
def capOf (env : Env) (scope : Scope) : List (Str × Addr) := scope.names.foldl (fun c y => stepCap env y c) []
theorem forIn_steps {α β : Type} {f : α → β → Sem (ForInStep β)} {g : β → α → β} : ∀ (l : List α) (c : β), (∀ x ∈ l, ∀ c, f x c = pure (.yield (g c x))) → forIn l c f = pure (l.foldl g c)
  | [], c, _ => rfl
  | x :: l, c, h => by
    rw [List.forIn_cons, h x List.mem_cons_self, pure_bind]
    exact forIn_steps l (g c x) fun y hy => h y (List.mem_cons_of_mem _ hy)
theorem closure_is {env : Env} {scope : Scope} (h : ∀ y ∈ scope.names, y.2 = .free → ∃ c, env.cells.lookup y.1 = some c) : closureFor scope env = pure (capOf env scope) := by
  simp only [closureFor]
  rw [forIn_steps (g := fun c y => stepCap env y c) scope.names [] (fun y hy c => ?_)]
  · rfl
  · obtain ⟨n, k⟩ := y
    by_cases hk : k = .free
    · subst hk
      obtain ⟨a, ha⟩ := h _ hy rfl
      have ha' : env.cells.lookup n = some a := ha
      simp [stepCap, cellOf, ha']
    · have hb : (k == NameKind.free) = false := by simpa using hk
      simp only [stepCap, hb, Bool.false_eq_true, if_false]
theorem fold_cap_sub {env : Env} : ∀ (ns : List (Str × NameKind)) (cs : List (Str × Addr)), (∀ y ∈ ns, y.2 = .free → ∃ c, env.cells.lookup y.1 = some c) → (∀ x c, cs.lookup x = some c → env.cells.lookup x = some c) →
    ∀ x c, (ns.foldl (fun c y => stepCap env y c) cs).lookup x = some c → env.cells.lookup x = some c
  | [], _, _, h => h
  | y :: ns, cs, hf, h => by
    refine fold_cap_sub ns (stepCap env y cs) (fun z hz => hf z (List.mem_cons_of_mem _ hz)) fun x c e => ?_
    unfold stepCap at e
    split at e
    · rename_i hk
      have hk' : y.2 = .free := by simpa using hk
      obtain ⟨a, ha⟩ := hf y List.mem_cons_self hk'
      rw [List.lookup_cons] at e
      split at e
      · rename_i hx
        have hx' : x = y.1 := by simpa using hx
        rw [ha] at e
        rw [hx', ha]
        exact e
      · exact h x c e
    · exact h x c e
theorem fold_cap_has {env : Env} (x : Str) : ∀ (ns : List (Str × NameKind)) (cs : List (Str × Addr)), ((x, NameKind.free) ∈ ns ∨ ∃ c, cs.lookup x = some c) → ∃ c, (ns.foldl (fun c y => stepCap env y c) cs).lookup x = some c
  | [], _, h => by
    rcases h with h | h
    · exact absurd h (by simp)
    · exact h
  | y :: ns, cs, h => by
    refine fold_cap_has x ns (stepCap env y cs) ?_
    rcases h with h | ⟨c, h⟩
    · rcases List.mem_cons.mp h with e | h
      · subst e
        exact .inr ⟨(List.lookup x env.cells).getD 0, by simp [stepCap]⟩
      · exact .inl h
    · refine .inr ?_
      unfold stepCap
      split
      · rw [List.lookup_cons]
        split
        · exact ⟨_, rfl⟩
        · exact ⟨c, h⟩
      · exact ⟨c, h⟩
def relK (env : Env) (n : Str) (k : NameKind) : NameKind := if (k == NameKind.free && env.scope.kind == .function && env.kindOf n == some .cell) = true then .cell else k
def relP (env : Env) (y : Str × NameKind) : Str × NameKind := if (y.2 == NameKind.free && env.scope.kind == .function && env.kindOf y.1 == some .cell) = true then (y.1, NameKind.cell) else (y.1, y.2)
theorem relP_eq (env : Env) (y : Str × NameKind) : relP env y = (y.1, relK env y.1 y.2) := by
  unfold relP relK
  split <;> rfl
theorem lookup_rel {env : Env} (x : Str) : ∀ ns : List (Str × NameKind), (ns.map (relP env)).lookup x = (ns.lookup x).map (relK env x)
  | [] => rfl
  | (n, k) :: r => by
    have ih := lookup_rel (env := env) x r
    rw [List.map_cons, relP_eq, List.lookup_cons, List.lookup_cons]
    cases hx : x == n with
    | true =>
      have e : x = n := by simpa using hx
      subst e
      rfl
    | false => exact ih
theorem relabel_lookup {env : Env} {scope : Scope} (x : Str) : (relabel scope env).names.lookup x = (scope.names.lookup x).map (relK env x) := lookup_rel x scope.names

def capOne (N : List Str) (scope : Scope) (p : Option Nat × Str) : Bool := match p.1 with
  | none => true
  | some j => decide (N[j]? = some p.2) && decide (scope.names.lookup p.2 = some .free)
/-- a block's names: its own, and the captured ones with their slots outside -/
structure CompOk (N : List Str) (sc : Scope) (N' : List Str) (ix : List (Option Nat)) (scope : Scope) : Prop where
  kind : scope.kind = .function
  nocell : ∀ y ∈ scope.names, y.2 ≠ .cell
  locs : ∀ y ∈ scope.names, y.2 = .local → scope.names.lookup y.1 = some .local
  frees : ∀ y ∈ scope.names, y.2 = .free → (sc.names.lookup y.1 = some .cell ∨ sc.names.lookup y.1 = some .free)
  nd : N'.Nodup
  len : ix.length = N'.length
  cap : (ix.zip N').all (capOne N scope) = true
def ixSt (ix : List (Option Nat)) (σ : St) : St := ix.map fun o => o.bind fun i => (σ[i]?).join
/-- the context of a comprehension's block -/
def cxComp (X : Cx) (N' : List Str) (scope : Scope) (C : Addr) (fp : List Addr) (s₀ : Shared) (H₀ : Hp) : Cx where
  prog := X.prog
  w := X.w
  K := X.K
  mg := X.mg
  base := X.base
  A := X.A
  N := N'
  s₀ := s₀
  H₀ := H₀
  env := compEnvC scope (capOf X.env scope) C X.env
  outer := X.stack
  stack := X.stack
  ex := fp
  fn := fun _ => false
  calm := X.calm
  pn := []
  xe := NoX

section
variable {X : Cx} {N' : List Str} {ix : List (Option Nat)} {scope : Scope} {pins : List (Addr × Obj)} {σ : St} {H : Hp} {s : Shared} {fp : List Addr}
theorem CompOk.has (S : CompOk X.N X.env.scope N' ix scope) (ok : X.Ok) : ∀ y ∈ scope.names, y.2 = .free → ∃ c, X.env.cells.lookup y.1 = some c := fun y hy hk => ok.has y.1 (S.frees y hy hk)
theorem CompOk.sub (S : CompOk X.N X.env.scope N' ix scope) (ok : X.Ok) : ∀ x c, (capOf X.env scope).lookup x = some c → X.env.cells.lookup x = some c :=
  fold_cap_sub scope.names [] (S.has ok) fun x c e => by simp at e
theorem CompOk.frK (S : CompOk X.N X.env.scope N' ix scope) {x : Str} (h : (relabel scope X.env).names.lookup x = some .cell ∨ (relabel scope X.env).names.lookup x = some .free) : scope.names.lookup x = some .free := by
  rw [relabel_lookup] at h
  cases e : scope.names.lookup x with
  | none => rw [e] at h; simp at h
  | some k =>
    rw [e] at h
    cases k with
    | free => rfl
    | cell => exact absurd rfl (S.nocell _ (PySem.mem_of_lookup e))
    | «local» => simp [relK] at h
    | globalExplicit => simp [relK] at h
    | globalImplicit => simp [relK] at h
/-- into the block -/
theorem comp_enter {h1 : Heap} {m : Str → Option Value} {tk : Nat} (S : CompOk X.N X.env.scope N' ix scope) (I : Inv X pins σ H s) (hf : ∀ b ∈ fp, FpOk X pins H b) (hlt : ∀ b ∈ fp, b < s.heap.objs.size)
    (ns : h1.Ns s.heap.objs.size m) (kp : ∀ b o, s.heap.get? b = some o → h1.get? b = some o) :
    Inv (cxComp X N' scope s.heap.objs.size fp s H) [] (ixSt ix σ) H { s with heap := h1, toks := tk } := by
  have sub := S.sub I.ok
  have cellS : ∀ x c, (capOf X.env scope).lookup x = some c → c < s.heap.objs.size := fun x c e => by
    obtain ⟨v, q⟩ := I.cell x c (sub x c e)
    exact q.lt
  refine ⟨⟨I.ok.mod, S.kind, I.ok.glob, I.ok.blt, Nat.le_refl _, fun x y c h1 h2 => I.ok.inj x y c (sub x c h1) (sub y c h2), fun x hx => ?_, fun x c z _ => ?_, I.ok.hd, I.ok.frames, .inl rfl, fun b hb => ⟨?_, fun x c e => ?_⟩, I.bs, Nat.le_trans I.ok.bsz I.sz, fun b o e hb => ?_, fun b hb z => ?_, I.stack, I.stkFree⟩,
    rfl, I.bare, Un.kept kp, ⟨m, ns, fun i x v h1 h2 h3 => ?_⟩, fun x c e => ?_, I.hok.fresh (Nat.le_refl _), fun x c e => I.freeC x c (sub x c e), fun p hp => absurd (show p ∈ ([] : List (Addr × Obj)) from hp) (by simp), I.hok.kept kp, ?_⟩
  · exact fold_cap_has x scope.names [] (.inl (PySem.mem_of_lookup (S.frK hx)))
  · exact absurd (show false = true from z) (by simp)
  · exact Nat.ne_of_lt (hlt b hb)
  · exact (hf b hb).2.2.2.2.1 x c (sub x c e)
  · rcases (hf b hb).2.2.2.1 with z | z
    · exact I.ok.noex b o e z
    · exact absurd (Nat.lt_of_lt_of_le (Heap.lt_size e) (Nat.le_trans I.ok.bsz z)) (Nat.lt_irrefl _)
  · rcases List.mem_cons.mp (I.stkSub b z) with e | e
    · exact (hf b hb).2.1 e
    · exact (hf b hb).2.2.1 e
  · have hi : i < ix.length := by
      have := (List.getElem?_eq_some_iff.mp h1).1
      rw [S.len]; exact this
    have e1 : ix[i]? = some ix[i] := List.getElem?_eq_getElem hi
    have h2' : (ixSt ix σ)[i]? = some (some v) := h2
    rw [ixSt, List.getElem?_map, e1] at h2'
    have h2'' : (ix[i].bind fun j => (σ[j]?).join) = some v := Option.some.inj h2'
    cases ej : ix[i] with
    | none => rw [ej] at h2''; cases h2''
    | some j =>
      rw [ej] at h2''
      have h2j : (σ[j]?).join = some v := h2''
      have hz : (ix[i], x) ∈ ix.zip N' := by
        have ez : (ix.zip N')[i]? = some (ix[i], x) := by rw [List.getElem?_zip_eq_some]; exact ⟨e1, h1⟩
        exact List.mem_of_getElem? ez
      have cq := List.all_eq_true.mp S.cap _ hz
      have cq' : (decide (X.N[j]? = some x) && decide (scope.names.lookup x = some .free)) = true := by
        unfold capOne at cq
        simp only [ej] at cq
        exact cq
      rw [Bool.and_eq_true] at cq'
      have c1 := of_decide_eq_true cq'.1
      have c2 := of_decide_eq_true cq'.2
      have kx : X.env.scope.names.lookup x = some .cell ∨ X.env.scope.names.lookup x = some .free := S.frees (x, .free) (PySem.mem_of_lookup c2) rfl
      have hs : σ[j]? = some (some v) := by
        cases q : σ[j]? with
        | none => rw [q] at h2j; cases h2j
        | some o => rw [q] at h2j; have : o = some v := h2j; rw [this]
      obtain ⟨m0, hn0, hl0⟩ := I.loc
      obtain ⟨u, ru, lk⟩ := hl0 j x v c1 hs (kx.elim (fun z => .inr (.inl z)) fun z => .inr (.inr z))
      refine ⟨u, ru, .inr ⟨?_, ?_⟩⟩
      · show (relabel scope X.env).names.lookup x = some .cell ∨ (relabel scope X.env).names.lookup x = some .free
        rw [relabel_lookup, c2]
        simp only [Option.map_some, relK]
        split
        · exact .inl rfl
        · exact .inr rfl
      · rcases lk with ⟨k, _⟩ | ⟨_, c, ec, hc⟩
        · have k' : X.env.scope.names.lookup x = some .local := k
          rw [k'] at kx
          rcases kx with z | z <;> cases z
        · obtain ⟨c', ec'⟩ := fold_cap_has (env := X.env) x scope.names [] (.inl (PySem.mem_of_lookup c2))
          have := sub x c' ec'
          rw [ec] at this; cases this
          exact ⟨c, ec', hc.keeps kp⟩
  · obtain ⟨v, q⟩ := I.cell x c (sub x c e)
    exact ⟨v, q.keeps kp⟩
  · show (ixSt ix σ).length = N'.length
    rw [ixSt, List.length_map, S.len]

/-- the tests' readings -/
def PF (X : Cx) (ifs : List Expr) (t : TT) : Prop := ∀ (pins : List (Addr × Obj)) (s : Shared) (σ : St) (H : Hp) (Q : Bool → Hp → Prop), Inv X pins σ H s → t σ H Q → wpAny (model X.prog X.w) X.A (testAll ifs X.env) (TP X pins σ Q) X.xe s
def tYes : TT := fun _ H Q => Q true H
theorem pf_nil : PF X [] tYes := fun _ _ _ H _ I h => wpAny_tests_nil ⟨H, I, h⟩
/-- [elt for tg in iter if ..]: D is the list that is made -/
def CompGo (J : It) (g : TG) (tt : TT) (te : TE) (σ0 : St) (H1 : Hp) (Q : VK) (D : Addr) : Prop := ∃ W : Nat → Nat → St → Hp → Prop, (∃ m, W 0 m σ0 (upd H1 D (.lst []))) ∧ ∀ i m σ' H', W i m σ' H' →
  (J.stop i H' ∧ Q (.ref D) H') ∨ (J.go i H' ∧ ∀ x H2, J.yld i H' x H2 → g x σ' H2 fun σ2 H3 => tt σ2 H3 fun b H4 =>
    if b = true then te σ2 H4 fun v H5 => ∃ xs, H5 D = some (.lst xs) ∧ xs.length < sizeLine ∧ ∃ m', m' < m ∧ W (i + 1) m' σ2 (upd H5 D (.lst (xs ++ [v]))) else ∃ m', m' < m ∧ W (i + 1) m' σ2 H4)
def tComp (ix : List (Option Nat)) (wi : TI) (g : TG) (tt : TT) (te : TE) : TE := fun σ H Q => wi σ H fun J H1 => ∀ D, H1 D = none → CompGo J g tt te (ixSt ix σ) H1 Q D

/-- the block, from the iterator on; Z: what is wanted behind it, of the new list, the block's names (at C) and the state -/
theorem comp_block {elt tg iter : Expr} {ifs : List Expr} {pos : Pos} {g : TG} {tt : TT} {te : TE} {Q : VK} {Z : Value → Addr → Result → Shared → Prop} {it : Addr} {tn : Nat → Heap → Prop} {J : It}
    (S : CompOk X.N X.env.scope N' ix scope) (hc : X.calm = true)
    (hg : ∀ C fp s₀ H₀, PG (cxComp X N' scope C fp s₀ H₀) tg g) (ht : ∀ C fp s₀ H₀, PF (cxComp X N' scope C fp s₀ H₀) ifs tt) (he : ∀ C fp s₀ H₀, PE (cxComp X N' scope C fp s₀ H₀) elt te)
    (I : Inv X pins σ H s) (T : Turn X.prog X.w X.K tg J fp it tn) (st : tn 0 s.heap) (hf : ∀ b ∈ fp, FpOk X pins H b)
    (h : ∀ D, H D = none → ∃ W : Nat → Nat → St → Hp → Prop, (∃ m, W 0 m (ixSt ix σ) (upd H D (.lst []))) ∧ ∀ i m σ' H', W i m σ' H' →
      (J.stop i H' ∧ Q (.ref D) H') ∨ (J.go i H' ∧ ∀ x H2, J.yld i H' x H2 → g x σ' H2 fun σ2 H3 => tt σ2 H3 fun b H4 =>
        if b = true then te σ2 H4 fun v H5 => ∃ xs, H5 D = some (.lst xs) ∧ xs.length < sizeLine ∧ ∃ m', m' < m ∧ W (i + 1) m' σ2 (upd H5 D (.lst (xs ++ [v]))) else ∃ m', m' < m ∧ W (i + 1) m' σ2 H4))
    (hZ : ∀ D C H' s' m, Inv X pins σ H' s' → s'.heap.Ns C m → H' C = none → s.heap.objs.size ≤ C → Q (.ref D) H' → Z (.ref D) C (.ok .next) s') :
    wpAny (model X.prog X.w) X.A (newList []) (fun acc s3 => wpAny (model X.prog X.w) X.A (newFunctionEnv scope X.env.globals (capOf X.env scope) [] X.env.qual none .none (some X.env)) (fun cenv s4 =>
      codeAny (model X.prog X.w) X.A (.compStart (.ListComp elt [⟨tg, iter, ifs, 0⟩] scope pos) 0 (.ref it) acc { cenv with scope := relabel scope X.env }) (Z acc cenv.locals) s4) X.xe s3) X.xe s := by
  refine wpAny_newObj_type (wpAny_newFunctionEnv S.nocell (by intro y hy; simp at hy) (fun h1 ns1 sb1 => ?_) S.kind)
  have I3 : Inv X pins σ (upd H s.heap.objs.size (.lst [])) { s with heap := s.heap.push { cls := .type "list", data := .seq ([] : List Value).toArray }, toks := s.toks } := I.lnew (ys := []) (its := []) .nil (Nat.zero_le _)
  generalize hs3 : ({ s with heap := s.heap.push { cls := .type "list", data := .seq ([] : List Value).toArray } } : Shared) = s3 at ns1 sb1 ⊢
  have I3 : Inv X pins σ (upd H s.heap.objs.size (.lst [])) s3 := by rw [← hs3]; exact I3
  have hsz : s3.heap.objs.size = s.heap.objs.size + 1 := by rw [← hs3]; exact Heap.size_push _ _
  have st3 : tn 0 s3.heap := by
    rw [← hs3]
    exact T.keep _ _ _ st fun b _ o e => Heap.get?_push_of_some _ e
  have blw : ∀ b ∈ fp, b < s.heap.objs.size := fun b hb => by
    obtain ⟨o, e, _⟩ := T.obj _ _ st b hb
    exact Heap.lt_size e
  have hf3 : ∀ b ∈ fp, FpOk X pins (upd H s.heap.objs.size (.lst [])) b := fun b hb => ⟨by rw [upd_ne (Nat.ne_of_lt (blw b hb))]; exact (hf b hb).1, (hf b hb).2⟩
  obtain ⟨W, ⟨m0, w0⟩, turn⟩ := h s.heap.objs.size I.fresh
  have kp : ∀ b o, s3.heap.get? b = some o → h1.get? b = some o := fun b o e => (sb1.2 b (Nat.ne_of_lt (Heap.lt_size e))).trans (Heap.get?_push_of_some _ e)
  have J0 := comp_enter (tk := s3.toks + ([] : List (Str × Value)).length) S I3 hf3 (fun b hb => by rw [hsz]; exact Nat.lt_succ_of_lt (blw b hb)) ns1 kp
  have st4 : tn 0 h1 := T.keep _ _ _ st3 fun b _ o e => kp b o e
  have stat : ∀ {H' : Hp} {pl : List (Addr × Obj)}, (∀ b ∈ fp, H' b = none) → (∀ b ∈ fp, ∀ p ∈ pl, p.1 ≠ b) → ∀ b ∈ fp, FpOk (cxComp X N' scope s3.heap.objs.size fp s3 (upd H s.heap.objs.size (.lst []))) pl H' b := fun hn hp b hb =>
    ⟨hn b hb, (J0.ok.exf b hb).1, J0.ok.exfs b hb, .inl hb, (J0.ok.exf b hb).2, fun p q => hp b hb p q⟩
  have loop : codeAny (model X.prog X.w) X.A (.compLoop (.ListComp elt [⟨tg, iter, ifs, 0⟩] scope pos) 0 (.ref it) (.ref s.heap.objs.size) (cxComp X N' scope s3.heap.objs.size fp s3 (upd H s.heap.objs.size (.lst []))).env) (Z (.ref s.heap.objs.size) s3.heap.objs.size)
      { s3 with heap := h1, toks := s3.toks + ([] : List (Str × Value)).length } := by
    refine comp_loop_any (fun n s' => ∃ i σ' H', Inv (cxComp X N' scope s3.heap.objs.size fp s3 (upd H s.heap.objs.size (.lst []))) [] σ' H' s' ∧ tn i s'.heap ∧ (∀ b ∈ fp, H' b = none) ∧ W i n σ' H') ?_ m0
      ⟨0, _, _, J0, st4, fun b hb => (hf3 b hb).1, w0⟩
    rintro n s5 ⟨i, σ5, H5, I5, st5, fr5, w5⟩
    rcases turn i n σ5 H5 w5 with ⟨stop, q⟩ | ⟨go, step⟩
    · refine thn (T.done (cxComp X N' scope s3.heap.objs.size fp s3 (upd H s.heap.objs.size (.lst []))) rfl rfl rfl hc i [] s5 σ5 H5 NoX I5 (stat (pl := []) fr5 (fun _ _ p hp => absurd hp (by simp))) st5 stop) fun r s6 ⟨hr, I6⟩ => ?_
      subst hr
      have I7 : Inv X pins σ H5 s6 := I3.call' (ch := fp) I6.os I6.base I6.hok I6.bare fun b hb => ⟨(hf3 b hb).2.2.2.1, (hf3 b hb).2.1, (hf3 b hb).2.2.2.2.1, (hf3 b hb).2.2.2.2.2⟩
      obtain ⟨m6, n6, _⟩ := I6.loc
      exact hZ _ _ H5 s6 m6 I7 n6 I6.free (by rw [hsz]; exact Nat.le_succ _) q
    · refine thn (T.item (cxComp X N' scope s3.heap.objs.size fp s3 (upd H s.heap.objs.size (.lst []))) rfl rfl rfl hc i [] s5 σ5 H5 NoX I5 (stat (pl := []) fr5 (fun _ _ p hp => absurd hp (by simp))) st5 go) fun r s6 ⟨u, hr, h6⟩ => ?_
      subst hr
      refine thn h6 fun _ s7 ⟨x, H7, I7, r7, y7, st7, fr7⟩ => ?_
      have I7' := I7.pinned (stat (pl := []) fr7 (fun _ _ p hp => absurd hp (by simp))) (T.obj _ _ st7)
      refine thn (hg _ _ _ _ _ s7 σ5 H7 x u _ I7' r7 (step x H7 y7)) fun _ s8 ⟨σ8, H8, I8, q8⟩ => ?_
      refine thn (ht _ _ _ _ _ s8 σ8 H8 _ I8 q8) fun b s9 ⟨H9, I9, q9⟩ => ?_
      have again : ∀ {σ' : St} {H' : Hp} {s' : Shared} {m' : Nat}, Inv (cxComp X N' scope s3.heap.objs.size fp s3 (upd H s.heap.objs.size (.lst []))) ([] ++ pinsAt fp s7.heap) σ' H' s' → m' < n → W (i + 1) m' σ' H' →
          ∃ m, m < n ∧ ∃ i σ' H', Inv (cxComp X N' scope s3.heap.objs.size fp s3 (upd H s.heap.objs.size (.lst []))) [] σ' H' s' ∧ tn i s'.heap ∧ (∀ b ∈ fp, H' b = none) ∧ W i m σ' H' := fun {σ' H' s' m'} I' hm w' => by
        refine ⟨m', hm, i + 1, σ', H', I'.unpinned, T.keep _ _ _ st7 fun b hb o e => (I'.pin (b, o) (List.mem_append_right _ (List.mem_append_right _ (mem_pinsAt hb e)))).1, fun b hb => ?_, w'⟩
        obtain ⟨o, e, d⟩ := T.obj _ _ st7 b hb
        exact (I'.pin (b, o) (List.mem_append_right _ (List.mem_append_right _ (mem_pinsAt hb e)))).2.1
      cases b with
      | false =>
        obtain ⟨m', hm, w'⟩ := (show ∃ m', m' < n ∧ W (i + 1) m' σ8 H9 from q9)
        exact again I9 hm w'
      | true =>
        refine thn (he _ _ _ _ _ s9 σ8 H9 _ I9 q9) fun v s10 ⟨y, H10, I10, r10, q10⟩ => ?_
        obtain ⟨xs, hx, hl, m', hm, w'⟩ := q10
        refine thn (mt_append _ s10 σ8 H10 (.ref s.heap.objs.size) [y] (.ref s.heap.objs.size) [v] (fun _ H' => W (i + 1) m' σ8 H') I10 rfl (.cons r10 .nil) ⟨_, xs, y, rfl, rfl, hx, hl, w'⟩) fun _ s11 ⟨_, H11, I11, _, q11⟩ => ?_
        exact again I11 hm q11
  exact codeAny_compStart_list loop (T.self _ _ _ _ _ st4 loop)

/-- as a value -/
theorem pe_comp {elt tg iter : Expr} {ifs : List Expr} {pos : Pos} {wi : TI} {g : TG} {tt : TT} {te : TE} (S : CompOk X.N X.env.scope N' ix scope) (hc : X.calm = true) (hi : PI X tg iter wi)
    (hg : ∀ C fp s₀ H₀, PG (cxComp X N' scope C fp s₀ H₀) tg g) (ht : ∀ C fp s₀ H₀, PF (cxComp X N' scope C fp s₀ H₀) ifs tt) (he : ∀ C fp s₀ H₀, PE (cxComp X N' scope C fp s₀ H₀) elt te)
    (hs : ∀ x, foldedSetIterable iter X.env x = pure x := by intro _; rfl) : PE X (.ListComp elt [⟨tg, iter, ifs, 0⟩] scope pos) (tComp ix wi g tt te) := by
  intro pins s σ H Q I h
  rw [eval_ListComp]
  refine wpAny_comprehension_free (use := none) rfl hs (closure_is (S.has I.ok)) S.kind S.locs (thn (hi pins s σ H _ I h) fun v s1 h1 => thn h1 fun itv s2 h2 => ?_)
  obtain ⟨it, fp, tn, J, H2, e, I2, T, st2, f2, q⟩ := h2
  subst e
  refine comp_block (Z := fun acc C => compPost (model X.prog X.w) X.A X.xe none (EP X pins σ Q) acc C) S hc hg ht he I2 T st2 f2 q ?_
  intro D C H' s' m I' hn hC hz qD
  refine ⟨m, hn, fun h' sb => ?_⟩
  have I'' : Inv X pins σ H' { s' with heap := h', toks := s'.toks } := I'.turned (it := C) (fun b o hb e => (sb.2 b hb).trans e) hC (fun z => absurd (Nat.lt_of_lt_of_le I2.lt (by rw [← z]; exact hz)) (Nat.lt_irrefl _))
    (.inr (Nat.le_trans I2.sz hz)) (fun x c e z => by obtain ⟨v, w⟩ := I2.cell x c e; exact absurd (Nat.lt_of_lt_of_le w.lt (by rw [z]; exact hz)) (Nat.lt_irrefl _)) (fun p hp z => absurd (Nat.lt_of_lt_of_le (Heap.lt_size (I2.pin p hp).1) (by rw [z]; exact hz)) (Nat.lt_irrefl _))
  exact ⟨.ref D, H', I'', rfl, qD⟩
/-- name = [..], the name not captured, on one line -/
theorem ps_setComp {i : Nat} {y : Str} {py spos : Pos} {elt tg iter : Expr} {ifs : List Expr} {pos : Pos} {wi : TI} {g : TG} {tt : TT} {te : TE} (S : CompOk X.N X.env.scope N' ix scope) (hc : X.calm = true) (hi : PI X tg iter wi)
    (hg : ∀ C fp s₀ H₀, PG (cxComp X N' scope C fp s₀ H₀) tg g) (ht : ∀ C fp s₀ H₀, PF (cxComp X N' scope C fp s₀ H₀) ifs tt) (he : ∀ C fp s₀ H₀, PE (cxComp X N' scope C fp s₀ H₀) elt te)
    (hN : X.N.Nodup) (hy : X.N[i]? = some y) (hl : X.env.scope.names.lookup y = some .local) (hsw : swapsWith (.ListComp elt [⟨tg, iter, ifs, 0⟩] scope pos) (some (.Name y py)) spos.line X.env = pure true)
    (hs : ∀ x, foldedSetIterable iter X.env x = pure x := by intro _; rfl) : PS X (.Assign [.Name y py] (.ListComp elt [⟨tg, iter, ifs, 0⟩] scope pos) spos) (tAsg (tComp ix wi g tt te) (gName i)) := by
  intro pins s σ H D I h
  rw [exec_Assign_Name_used _ _ _ _ hsw]
  refine wpAny_bind (wpAny_standAt (wpAny_bind ?_))
  rw [arm_evalThenUse_ListComp]
  refine wpAny_bind (thn (wpAny_comprehension_free (use := some (assign (.Name y py) X.env)) (Q := fun _ s' => SP X pins D .next s') rfl hs (closure_is (S.has I.ok)) S.kind S.locs
    (thn (hi pins s σ H _ I h) fun v s1 h1 => thn h1 fun itv s2 h2 => ?_)) fun _ s' q => wpAny_pure (wpAny_pure q))
  obtain ⟨it, fp, tn, J, H2, e, I2, T, st2, f2, q⟩ := h2
  subst e
  refine comp_block (Q := fun x H1 => gName i x σ H1 D.nx) (Z := fun acc C => compPost (model X.prog X.w) X.A X.xe (some (assign (.Name y py) X.env)) (fun _ s' => SP X pins D .next s') acc C) S hc hg ht he I2 T st2 f2 q ?_
  intro Dl C H' s' m I' hn hC hz qD
  have neL : C ≠ X.env.locals := fun z => absurd (Nat.lt_of_lt_of_le I2.lt (by rw [← z]; exact hz)) (Nat.lt_irrefl _)
  have neC : ∀ x c, X.env.cells.lookup x = some c → c ≠ C := fun x c e z => by obtain ⟨v, w⟩ := I2.cell x c e; exact absurd (Nat.lt_of_lt_of_le w.lt (by rw [z]; exact hz)) (Nat.lt_irrefl _)
  show wpAny (model X.prog X.w) X.A (assign (.Name y py) X.env (.ref Dl)) _ X.xe s'
  refine wpAny_assign_Name (store_ok2 I' hN hy (.inl hl) (show RelV (.ref Dl) (.ref Dl) from rfl) (fun s'' J' ⟨a, sb, ha⟩ => ?_) (.inr hl))
  have na : C ≠ a := by
    rcases ha with z | z
    · rw [z]; exact neL
    · exact Ne.symm (neC y a z)
  refine ⟨m, hn.sameBut sb na, fun h' sb' => ?_⟩
  have I'' : Inv X pins (σ.set i (some (.ref Dl))) H' { s'' with heap := h', toks := s''.toks } := J'.turned (it := C) (fun b o hb e => (sb'.2 b hb).trans e) hC neL (.inr (Nat.le_trans I2.sz hz)) neC
    (fun p hp z => absurd (Nat.lt_of_lt_of_le (Heap.lt_size (I2.pin p hp).1) (by rw [z]; exact hz)) (Nat.lt_irrefl _))
  exact ⟨_, H', I'', qD⟩
end
end L2

set_option Elab.async false
set_option linter.all false
set_option maxRecDepth 100000
set_option maxHeartbeats 4000000
namespace L2
open PySem PySem.Spec PyProof.Rows
theorem bt_abs : bootBuiltins "abs" = some (.builtin "abs") := by decide +kernel
theorem bt_len : bootBuiltins "len" = some (.builtin "len") := by decide +kernel
theorem bt_all : bootBuiltins "all" = some (.builtin "all") := by decide +kernel
theorem bt_isinstance : bootBuiltins "isinstance" = some (.builtin "isinstance") := by decide +kernel
theorem bt_int : bootBuiltins "int" = some (.type "int") := by decide +kernel
theorem bt_bool : bootBuiltins "bool" = some (.type "bool") := by decide +kernel
theorem bt_str : bootBuiltins "str" = some (.type "str") := by decide +kernel
theorem bt_tuple : bootBuiltins "tuple" = some (.type "tuple") := by decide +kernel
/-! a def of the text with its promise, as its callers take it -/
def Def (P : Program) (w : World) (K : PySem.W.Frag) (mg : Str → Option Value) (base : Heap) (k : Nat) (x : Str) (ps : List Str) (sp : Sp) : Prop :=
  ∃ (f : Addr) (fd : FuncData), FnOk P w K mg base CX0 k f fd ps sp ∧ mg x = some (.ref f) ∧ PySem.W.keepIn K (.ref f) = true ∧ Binds K fd ps []
section
variable {X : Cx}
theorem pe_def {k k' : Nat} {x : Str} {ps : List Str} {sp : Sp} {e : Expr} {es : List Expr} {t : TA} {p pos : Pos} (D : Def X.prog X.w X.K X.mg X.base k x ps sp) (hr : Room k' X.A) (hk : k ≤ k') (hg : Gl X x) (ha : PA X (e :: es) t)
    (hdb : (x == ("__debug__" : Str)) = false := by decide) (he : starEach (e :: es) X.env = (false, eval e X.env) :: starEach es X.env := by rfl) (hpl : (backTo pos (starEach es X.env)).any (·.1) = false := by rfl) :
    PE X (.Call (.Name x p) (e :: es) [] pos) (tCall sp [] E0 t) := by
  obtain ⟨f, fd, F, m, kp, b⟩ := D
  exact pe_call F (hr.mono hk) hg m kp b .nil pass0 ha hdb he hpl

/-- isinstance(x, c), c a built-in type -/
theorem call_isiT : CallR X (.builtin "isinstance") (fun xs H Q => ∃ x n t b, xs = [x, .ty n] ∧ TyOf X.K H x t ∧ PySem.W.kitOne X.K t (.type n) = some b ∧ Q (.bl b) H) := by
  intro pins s σ H xs us Q I r h
  obtain ⟨x, n, t, b, rfl, ty, e, q⟩ := h
  obtain ⟨u, w', rfl, r1, r2⟩ := vals2 r
  cases r2
  exact isinst_ok I r1 ty e fun tk => ⟨.bl b, H, I.tok tk, rfl, q⟩
/-! a text's signs -/
/-! z[lo:hi] of a text -/
end
end L2

set_option Elab.async false
set_option linter.all false
set_option maxRecDepth 100000
set_option maxHeartbeats 4000000
namespace L2
open PySem PySem.Spec PyProof.Rows
/-! comprehensions, by what holds ahead of the i-th turn, of the items so far -/
def cW (R : St → Prop) (P : Nat → List V → Hp → Prop) (n : Nat) (D : Addr) : Nat → Nat → St → Hp → Prop := fun i m σ' H => m = n - i ∧ i ≤ n ∧ R σ' ∧ ∃ ys, P i ys H ∧ H D = some (.lst ys)
def cYes (R : St → Prop) (P : Nat → List V → Hp → Prop) (n : Nat) (D : Addr) (σ : St) (i : Nat) : VK := fun v H5 => ∃ xs, H5 D = some (.lst xs) ∧ xs.length < sizeLine ∧ ∃ m', m' < n - i ∧ cW R P n D (i + 1) m' σ (upd H5 D (.lst (xs ++ [v])))
def cNo (R : St → Prop) (P : Nat → List V → Hp → Prop) (n : Nat) (D : Addr) (σ : St) (i : Nat) : Hp → Prop := fun H4 => ∃ m', m' < n - i ∧ cW R P n D (i + 1) m' σ H4
theorem cyes {R : St → Prop} {P : Nat → List V → Hp → Prop} {n : Nat} {D : Addr} {σ : St} {i : Nat} {ys : List V} {v : V} {H : Hp} (hi : i < n) (r : R σ) (h : H D = some (.lst ys)) (hl : ys.length < sizeLine) (p : P (i + 1) (ys ++ [v]) (upd H D (.lst (ys ++ [v])))) : cYes R P n D σ i v H :=
  ⟨ys, h, hl, n - (i + 1), by omega, rfl, hi, r, _, p, upd_same⟩
theorem comp_gen {J : It} {g : TG} {tt : TT} {te : TE} {σ0 : St} {H1 : Hp} {Q : VK} {D : Addr} {n : Nat} {xv : Nat → V} {st : Nat → St} (R : St → Prop) (P : Nat → List V → Hp → Prop) (r0 : R σ0) (h0 : P 0 [] (upd H1 D (.lst [])))
    (hj : ∀ i ys H, i < n → P i ys H → H D = some (.lst ys) → J.go i H ∧ ∀ x H2, J.yld i H x H2 → H2 = H ∧ x = xv i) (he : ∀ ys H, P n ys H → H D = some (.lst ys) → J.stop n H)
    (hg : ∀ i ys σ' H (K : St → Hp → Prop), i < n → R σ' → P i ys H → K (st i) H → g (xv i) σ' H K)
    (hs : ∀ i ys H, i < n → P i ys H → H D = some (.lst ys) → tt (st i) H fun b H4 => if b = true then te (st i) H4 (cYes R P n D (st i) i) else cNo R P n D (st i) i H4)
    (hd : ∀ ys H, P n ys H → H D = some (.lst ys) → Q (.ref D) H) :
    CompGo J g tt te σ0 H1 Q D := by
  refine ⟨cW R P n D, ⟨n, by simp [cW, r0]; exact ⟨_, h0, upd_same⟩⟩, ?_⟩
  rintro i m σ' H' ⟨rfl, hi, r, ys, p, hD⟩
  by_cases hlt : i < n
  · obtain ⟨g1, g2⟩ := hj i ys H' hlt p hD
    refine .inr ⟨g1, fun x H2 y => ?_⟩
    obtain ⟨rfl, rfl⟩ := g2 x H2 y
    exact hg i ys σ' H2 _ hlt r p (hs i ys H2 hlt p hD)
  · have e : i = n := by omega
    subst e
    exact .inl ⟨he ys H' p hD, hd ys H' p hD⟩
/-- the state with the one name set -/
def Rset (t : Nat) (σ0 : St) : St → Prop := fun σ' => ∀ v, σ'.set t v = σ0.set t v
theorem rset0 {t : Nat} {σ0 : St} : Rset t σ0 σ0 := fun _ => rfl
theorem rset1 {t : Nat} {σ0 : St} {x : Option V} : Rset t σ0 (σ0.set t x) := fun v => by rw [List.set_set]
theorem comp_list {K : PySem.W.Frag} {a : Addr} {xs : List V} {t : Nat} {tt : TT} {te : TE} {σ0 : St} {H1 : Hp} {Q : VK} {D : Addr} (P : Nat → List V → Hp → Prop) (h0 : P 0 [] (upd H1 D (.lst []))) (hl : ∀ i ys H, P i ys H → H D = some (.lst ys) → SqL K H a xs)
    (hs : ∀ i ys H x, xs[i]? = some x → P i ys H → H D = some (.lst ys) → tt (σ0.set t (some x)) H fun b H4 => if b = true then te (σ0.set t (some x)) H4 (cYes (Rset t σ0) P xs.length D (σ0.set t (some x)) i) else cNo (Rset t σ0) P xs.length D (σ0.set t (some x)) i H4)
    (hd : ∀ ys H, P xs.length ys H → H D = some (.lst ys) → Q (.ref D) H) :
    CompGo (Itl K a) (gName t) tt te σ0 H1 Q D := by
  have get : ∀ i, i < xs.length → xs[i]? = some (xs.getD i .non) := fun i hi => by simp [List.getD, hi]
  refine comp_gen (xv := fun i => xs.getD i .non) (st := fun i => σ0.set t (some (xs.getD i .non))) (Rset t σ0) P rset0 h0 (fun i ys H hi p hD => ⟨⟨xs, _, hl i ys H p hD, get i hi⟩, fun x H2 y => ⟨y.1, ?_⟩⟩) (fun ys H p hD => ⟨xs, hl _ ys H p hD, Nat.le_refl _⟩)
    (fun i _ σ' H K _ r _ k => by show K (σ'.set t (some (xs.getD i .non))) H; rw [r]; exact k) (fun i ys H hi p hD => hs i ys H _ (get i hi) p hD) hd
  have e := y.2 xs (hl i ys H p hD)
  rw [get i hi] at e
  exact (Option.some.inj e).symm
theorem comp_tup {K : PySem.W.Frag} {a : Addr} {xs : List V} {t : Nat} {tt : TT} {te : TE} {σ0 : St} {H1 : Hp} {Q : VK} {D : Addr} (P : Nat → List V → Hp → Prop) (h0 : P 0 [] (upd H1 D (.lst []))) (hl : ∀ i ys H, P i ys H → H D = some (.lst ys) → SqT K H a xs)
    (hs : ∀ i ys H x, xs[i]? = some x → P i ys H → H D = some (.lst ys) → tt (σ0.set t (some x)) H fun b H4 => if b = true then te (σ0.set t (some x)) H4 (cYes (Rset t σ0) P xs.length D (σ0.set t (some x)) i) else cNo (Rset t σ0) P xs.length D (σ0.set t (some x)) i H4)
    (hd : ∀ ys H, P xs.length ys H → H D = some (.lst ys) → Q (.ref D) H) :
    CompGo (Itt K a) (gName t) tt te σ0 H1 Q D := by
  have get : ∀ i, i < xs.length → xs[i]? = some (xs.getD i .non) := fun i hi => by simp [List.getD, hi]
  refine comp_gen (xv := fun i => xs.getD i .non) (st := fun i => σ0.set t (some (xs.getD i .non))) (Rset t σ0) P rset0 h0 (fun i ys H hi p hD => ⟨⟨xs, _, hl i ys H p hD, get i hi⟩, fun x H2 y => ⟨y.1, ?_⟩⟩) (fun ys H p hD => ⟨xs, hl _ ys H p hD, Nat.le_refl _⟩)
    (fun i _ σ' H K _ r _ k => by show K (σ'.set t (some (xs.getD i .non))) H; rw [r]; exact k) (fun i ys H hi p hD => hs i ys H _ (get i hi) p hD) hd
  have e := y.2 xs (hl i ys H p hD)
  rw [get i hi] at e
  exact (Option.some.inj e).symm
end L2
namespace L2
open PySem PySem.Spec PyProof.Rows
theorem yes {σ : St} {H : Hp} {A B : Hp → Prop} (h : A H) : tYes σ H fun b H4 => if b = true then A H4 else B H4 := by
  show if true = true then A H else B H
  rw [if_pos rfl]
  exact h
end L2

set_option Elab.async false
set_option linter.all false
set_option maxRecDepth 100000
set_option maxHeartbeats 4000000
namespace L2
open PySem PySem.Spec PyProof.Rows
/-! the rules that name the written part, with K told: in a block nothing hangs on the block's own context -/
section
variable {X : Cx} (K : PySem.W.Frag)
theorem kix_seq (hK : X.K = K := by rfl) : IxR X (rIx K) := hK ▸ ix_seq
theorem kop_notIn_seq (hK : X.K = K := by rfl) : OpR X (compareOp .NotIn) (rIn K true) := hK ▸ op_notIn_seq
theorem kop_catT (hK : X.K = K := by rfl) : OpR X (binaryOp .Add) (rCatT K) := hK ▸ op_catT
theorem kcall_len (hK : X.K = K := by rfl) : CallR X (.builtin "len") (fun xs H Q => ∃ x n, xs = [x] ∧ LenV K x H n ∧ Q (.int n) H) := hK ▸ call_len
theorem kcall_tuple_of (hK : X.K = K := by rfl) : CallR X (.type "tuple") (fun xs H Q => ∃ p ys, xs = [.ref p] ∧ ((SqL K H p ys ∧ ∀ l, H l = none → Q (.ref l) (upd H l (.tup ys))) ∨ (SqT K H p ys ∧ Q (.ref p) H))) := hK ▸ call_tuple_of
theorem kcall_isiT (hK : X.K = K := by rfl) : CallR X (.builtin "isinstance") (fun xs H Q => ∃ x n t b, xs = [x, .ty n] ∧ TyOf K H x t ∧ PySem.W.kitOne K t (.type n) = some b ∧ Q (.bl b) H) := hK ▸ call_isiT
theorem kpi_list {tg l : Expr} {tl : TE} (hl : PE X l tl) (hK : X.K = K := by rfl) : PI X tg l (iList K tl) := hK ▸ pi_list hl
theorem kpi_tup {tg l : Expr} {tl : TE} (hl : PE X l tl) (hK : X.K = K := by rfl) : PI X tg l (iTup K tl) := hK ▸ pi_tup hl
theorem kpe_bm {o e : Expr} {es : List Expr} {to : TE} {t : TA} {name : Str} {apos cpos : Pos} {T id : String} {r : V → List V → Hp → VK → Prop} (pa : PlainAttrs T) (slot : Slot T name id) (hty : typeOf (.builtin id) = pure (.type "method_descriptor")) (hm : MtR X id r) (ho : PE X o to) (ha : PA X (e :: es) t)
    (hbase : attributeBase o name X.env (eval o X.env) = eval o X.env := by rfl)
    (hfew : ((backTo cpos (starEach (e :: es) X.env)).all (fun x => !x.1) && (backToKw cpos (keywordEach [] X.env)).all (fun x => x.1.isSome)
      && decide ((e :: es).length + ([] : List Keyword).length + (if ([] : List Keyword).isEmpty then 0 else 1) < 30)) = true := by rfl)
    (hline : (apos.endLine == cpos.line) = true := by rfl) (hs : starEach (e :: es) X.env = (false, eval e X.env) :: starEach es X.env := by rfl) (hplain : (backTo cpos (starEach es X.env)).any (·.1) = false := by rfl) (hK : X.K = K := by rfl) :
    PE X (.Call (.Attribute o name apos) (e :: es) [] cpos) (tBM K T r to t) := hK ▸ pe_bm pa slot hty hm ho ha hbase hfew hline hs hplain
theorem kpg_tup {es : List Expr} {k : Nat} {pos : Pos} {t : TGs} {n : Nat} (hc : X.calm = true) (h : PGs X es t) (hn : (assignEach es X.env).length = n := by rfl) (hst : (assignEach es X.env).findIdx? (·.1) = none := by rfl) (hK : X.K = K := by rfl) : PG X (.Tuple es k pos) (gTup K n t) := hK ▸ pg_tup hc h hn hst
end
end L2

set_option Elab.async false
set_option linter.all false
set_option maxRecDepth 100000
set_option maxHeartbeats 4000000
namespace L2
open PySem PySem.Spec PyProof.Rows

/-! whole numbers of any moderate size -/
def Mid (i : Int) : Prop := i.natAbs < 2 ^ 8000
theorem Mid.log {i : Int} (h : Mid i) : i.natAbs.log2 < 8000 := by
  rcases Nat.eq_zero_or_pos i.natAbs with z | z
  · rw [z]; decide
  · exact (Nat.log2_lt (Nat.ne_of_gt z)).mpr h
theorem Mid.bits {i : Int} (h : Mid i) : Builtin.Int.intBits i ≤ 2 ^ 20 := by
  have := h.log
  have e : (2 : Nat) ^ 20 = 1048576 := by decide
  unfold Builtin.Int.intBits
  split
  · exact Nat.zero_le _
  · omega
section
variable {X : Cx}
theorem op_mulM : OpR X (binaryOp .Mult) (rI (fun i j => Mid i ∧ Mid j) fun i j => .int (i * j)) := opI fun _ _ _ _ _ _ _ hc q => mul_int q (IntMulOk.of_bits hc.1.bits hc.2.bits)
theorem op_fdivM : OpR X (binaryOp .FloorDiv) (rI (fun _ j => j ≠ 0 ∧ Mid j) fun i j => .int (i.fdiv j)) := opI fun _ _ _ _ _ _ _ hc q => floordiv_int hc.1 q (.inl (PyProof.noPylong_of_log2 (Nat.lt_trans hc.2.log (by decide))))
end

/-! ### an exception in flight: it is at e, over the frames at l; what was tracked, or stood in the elder heap, is held fast -/
structure Fly (l : List Env) (H' : Hp) (old : Heap) (e : Addr) (cls : Value) (h : Heap) : Prop where
  ex : ∃ B a0, Heap.FlyingW B l e cls a0 h ∧ ∀ b o, h.get? b = some o → b ∉ frs l → ((∃ u, H' b = some u) ∨ ∃ u, old.get? b = some u) → B.get? b = some o
  new : H' e = none
  nold : old.get? e = none
/-- how an exception lies behind a call -/
def CX1 (P : Program) (w : World) : CXT := fun outer H s E e s' => ∃ (ea : Addr) (cls : Value) (H' : Hp), e = .ref ea ∧ s'.os = s.os ∧ AllBare s'.gens ∧ Un (frs outer) [] H H' s.heap s'.heap ∧ HOk P w H' s'.heap ∧ Fly outer H' s.heap ea cls s'.heap ∧ E cls none H'
theorem ObjOk.some {P : Program} {w : World} {H : Hp} {h : Heap} {a : Addr} {o : HO} (x : ObjOk P w H h a o) : ∃ ob, h.get? a = some ob := by
  cases o with
  | lst xs => obtain ⟨_, _, _, _, e⟩ := x; exact ⟨_, e⟩
  | tup xs => obtain ⟨_, _, _, o, e, _⟩ := x; exact ⟨_, e⟩
  | dK kvs => obtain ⟨_, _, _, _, o, _, _, e, _⟩ := x; exact ⟨_, e⟩
  | dT kvs => obtain ⟨_, _, _, _, o, _, _, e, _⟩ := x; exact ⟨_, e⟩
  | set S n => obtain ⟨o, _, _, _, e, _⟩ := x; exact ⟨_, e⟩
  | ins C dx fs => obtain ⟨_, _, _, e, _⟩ := x; exact ⟨_, e⟩
  | own y => exact x
  | xd fs => obtain ⟨_, ⟨_, _, _, e, _⟩, _⟩ := x; exact ⟨_, e⟩
  | rng lo hi => obtain ⟨_, _, _, e⟩ := x; exact ⟨_, e⟩
  | frz ob u => obtain ⟨e, _⟩ := x; exact ⟨_, e⟩
  | tbl ps => exact ⟨_, x⟩
  | met f y => exact ⟨_, x⟩
  | ext φ => obtain ⟨_, z, _⟩ := x; exact z
section
variable {X : Cx} {pins : List (Addr × Obj)} {σ : St} {H H' : Hp} {s s' : Shared} {h2 : Heap}
/-- behind an exception that leaves this frame: the callers' view -/
theorem Inv.left (I : Inv X pins σ H s) (hex : X.ex = []) (k : ∀ b o, s.heap.get? b = some o → b ∉ frs X.stack → ((∃ u, H b = some u) ∨ ∃ u, X.s₀.heap.get? b = some u) → h2.get? b = some o)
    (sl : ∀ b o, s.heap.get? b = some o → b ∈ frs X.outer → ∃ q, h2.get? b = some { o with slots := q }) : Un (frs X.outer) [] X.H₀ H X.s₀.heap h2 ∧ HOk X.prog X.w H h2 := by
  have nx : ∀ b, b ∉ X.ex := fun b z => by rw [hex] at z; exact absurd z (by simp)
  have neL : ∀ b o, X.s₀.heap.get? b = some o → b ≠ X.env.locals := fun b o e => Nat.ne_of_lt (Nat.lt_of_lt_of_le (Heap.lt_size e) I.ok.above)
  have nst : ∀ b, b ≠ X.env.locals → b ∉ frs X.outer → b ∉ frs X.stack := fun b h1 h3 z => (List.mem_cons.mp (I.stkSub b z)).elim h1 h3
  refine ⟨⟨fun b o e n nf _ => ?_, fun b o e n hb _ => ?_, fun b o e n _ => I.base.free b o e n (nx b), fun b o e _ => ?_, I.base.tups, I.base.frzs, I.base.tbls⟩, fun a o e => ?_⟩
  · exact k b o (I.base.keep b o e n nf (nx b)) (nst b (neL b o e) nf) (.inr ⟨o, e⟩)
  · obtain ⟨q, e1⟩ := I.base.slot b o e n hb (nx b)
    obtain ⟨q', e2⟩ := sl b _ e1 hb
    exact ⟨q', e2⟩
  · obtain ⟨o', e1⟩ := I.base.there b o e (nx b)
    by_cases hb : b ∈ frs X.outer
    · obtain ⟨q, e2⟩ := sl b o' e1 hb
      exact ⟨_, e2⟩
    · exact ⟨o', k b o' e1 (nst b (neL b o e) hb) (.inr ⟨o, e⟩)⟩
  · refine (I.hok a o e).stay (fun b u hb q => ?_) (fun _ q => q) fun _ _ q => q
    have ht : ∃ u, H b = some u := by
      rcases hb with z | z
      · exact ⟨o, by rw [z]; exact e⟩
      · exact ⟨_, z⟩
    refine k b u q (fun z => ?_) (.inl ht)
    obtain ⟨v, hv⟩ := ht
    rw [I.stkFree b z] at hv
    cases hv
theorem Inv.cov (I : Inv X pins σ H s) (hex : X.ex = []) {b : Addr} (h : (∃ u, H b = some u) ∨ ∃ u, X.s₀.heap.get? b = some u) : (∃ o, s.heap.get? b = some o) ∧ b ≠ X.env.locals := by
  rcases h with ⟨u, e⟩ | ⟨u, e⟩
  · refine ⟨(I.hok b u e).some, fun z => ?_⟩
    rw [z, I.free] at e
    cases e
  · exact ⟨I.base.there b u e (by rw [hex]; simp), Nat.ne_of_lt (Nat.lt_of_lt_of_le (Heap.lt_size e) I.ok.above)⟩
end
/-- a new exception, raised in a def's own frame, reaches what the def's caller wants -/
def Thrown (X : Cx) (E : XK) : Prop := ∀ (pins : List (Addr × Obj)) (σ : St) (H : Hp) (s : Shared) (h' : Heap) (e : Addr) (cls : Value) (vs : List Value), Inv X pins σ H s → Heap.MadeExcOf s.heap h' e cls vs → E cls none H → X.xe (.ref e) { s with heap := h' }
section
variable {P : Program} {w : World} {K : PySem.W.Frag} {mg : Str → Option Value} {base : Heap} {N : List Str} {qual : Str} {scope : Scope} {f : Addr} {cd : Value} {A : Around} {outer : List Env} {s : Shared} {H : Hp} {E : XK}
theorem frs_mem {l : List Env} : ∀ env ∈ l, ∀ b, env.frame = some b → b ∈ frs l := fun env he b hb => List.mem_filterMap.mpr ⟨env, he, hb⟩
theorem thrown1 : Thrown (cxOf (CX1 P w) P w K mg base N qual scope f cd A outer s H E) E := by
  intro pins σ H1 s1 h' e cls vs I hm q
  have hex : (cxOf (CX1 P w) P w K mg base N qual scope f cd A outer s H E).ex = [] := rfl
  have hst : (cxOf (CX1 P w) P w K mg base N qual scope f cd A outer s H E).stack = envOfC qual scope s.heap.objs.size f cd :: outer := rfl
  have fin : ∀ b o, s1.heap.get? b = some o → b ∉ frs (envOfC qual scope s.heap.objs.size f cd :: outer) → (PySem.W.hideAll s1.heap (frs (envOfC qual scope s.heap.objs.size f cd :: outer))).get? b = some o := fun b o e1 nb => PySem.W.hideAll_get _ e1 nb
  refine wpAny_leaves_madeW (base := PySem.W.hideAll s1.heap (frs (envOfC qual scope s.heap.objs.size f cd :: outer))) (h := s1.heap) (L := s.heap.objs.size) I.ok.frames rfl (fun b o z => PySem.W.of_hideAll _ z)
    (PySem.W.funFrames_hide I.stack frs_mem) hm fun h'' t fl tp bt up => ?_
  have k : ∀ b o, s1.heap.get? b = some o → b ∉ frs (envOfC qual scope s.heap.objs.size f cd :: outer) → ((∃ u, H1 b = some u) ∨ ∃ u, s.heap.get? b = some u) → h''.get? b = some o := fun b o e1 nb _ => fl.1 b o (fin b o e1 nb)
  obtain ⟨un, hok⟩ := I.left (h2 := h'') hex k (fun b o e1 hb => up b o (hm.keeps b o e1) (by
    obtain ⟨_, o2, e2, nf⟩ := I.funs.mem hb
    rw [e1] at e2
    cases e2
    exact nf))
  have hnew : H1 e = none := by
    cases z : H1 e with
    | none => rfl
    | some u =>
      obtain ⟨ob, eo⟩ := (I.hok e u z).some
      rw [hm.new] at eo
      cases eo
  refine ⟨e, cls, H1, rfl, I.os, I.bare, un, hok, ⟨⟨_, _, fl, fun b o e1 nb hc => ?_⟩, hnew, ?_⟩, q⟩
  · obtain ⟨⟨o', eo⟩, neL⟩ := I.cov hex hc
    have nb' : b ∉ frs (envOfC qual scope s.heap.objs.size f cd :: outer) := fun z => (List.mem_cons.mp (I.stkSub b z)).elim neL nb
    have e2 := fl.1 b o' (fin b o' eo nb')
    have e3 : o = o' := Option.some.inj (e1.symm.trans e2)
    rw [e3]
    exact fin b o' eo nb'
  · cases z : s.heap.get? e with
    | none => rfl
    | some u =>
      obtain ⟨ob, eo⟩ := I.base.there e u z (by rw [hex]; simp)
      rw [hm.new] at eo
      cases eo
/-- an exception of a callee goes on to the caller -/
theorem pass1 {E' : XK} (hE : ∀ c d H, E' c d H → E c d H) : Passes (CX1 P w) (cxOf (CX1 P w) P w K mg base N qual scope f cd A outer s H E) E' := by
  intro pins σ Hc sc e s' I h
  obtain ⟨ea, cls, H', rfl, os, bare, un, hok, fly, q⟩ := h
  have hex : (cxOf (CX1 P w) P w K mg base N qual scope f cd A outer s H E).ex = [] := rfl
  have I' := I.call' os un hok bare (fun b z => absurd z (by simp))
  obtain ⟨B, a0, fl, cv⟩ := fly.ex
  have cv' : ∀ b o, s'.heap.get? b = some o → b ∉ frs (envOfC qual scope s.heap.objs.size f cd :: outer) → ((∃ u, H' b = some u) ∨ ∃ u, s.heap.get? b = some u) → B.get? b = some o := fun b o e1 nb hc => cv b o e1 nb (by
    rcases hc with z | ⟨u, z⟩
    · exact .inl z
    · exact .inr (I.base.there b u z (by rw [hex]; simp)))
  refine wpAny_leaves_onW (L := s.heap.objs.size) I'.ok.frames rfl fl fun h'' fl2 up => ?_
  obtain ⟨un2, hok2⟩ := I'.left (h2 := h'') hex (fun b o e1 nb hc => fl2.1 b o (cv' b o e1 nb hc)) (fun b o e1 hb => up b o e1 (by
    obtain ⟨_, o2, e2, nf⟩ := I'.funs.mem hb
    rw [e1] at e2
    cases e2
    exact nf))
  refine ⟨ea, cls, H', rfl, I'.os, I'.bare, un2, hok2, ⟨⟨B, a0, fl2, fun b o e1 nb hc => ?_⟩, fly.new, ?_⟩, hE _ _ _ q⟩
  · obtain ⟨⟨o', eo⟩, neL⟩ := I'.cov hex hc
    have nb' : b ∉ frs (envOfC qual scope s.heap.objs.size f cd :: outer) := fun z => (List.mem_cons.mp (I'.stkSub b z)).elim neL nb
    have e2 := fl2.1 b o' (cv' b o' eo nb' hc)
    have e3 : o = o' := Option.some.inj (e1.symm.trans e2)
    rw [e3]
    exact cv' b o' eo nb' hc
  · cases z : s.heap.get? ea with
    | none => rfl
    | some u =>
      obtain ⟨ob, eo⟩ := I.base.there ea u z (by rw [hex]; simp)
      rw [fly.nold] at eo
      cases eo
end

/-! ### raise C(..), C an own class without an __init__ of its own -/
theorem exc_obj {K : PySem.W.Frag} {g : Heap} {C : Addr} {bmB : List Value} {newId : String} (X : K.In g) (q : PySem.W.excIn K C bmB newId = true) :
    ∃ tl N nm qn bs hd sn sub ab col dd k0 k1 k2 k3 k5 mN, g.get? C = some (excClassObj nm qn C N bs tl hd sn sub ab col dd k0 k1 k2 k3 k5 newId) ∧ g.Ns N mN ∧ mN "__init__" = none ∧ OwnTail g bmB tl := by
  unfold PySem.W.excIn at q
  split at q
  · rename_i d1 c1 l1 at1
    split at q
    · rename_i C1 tl j0 j1 j2 j3 n1 j5 hm1 hs1
      simp only [Bool.and_eq_true, beq_iff_eq, Bool.not_eq_true'] at q
      obtain ⟨⟨⟨⟨⟨r1, r2⟩, r3⟩, r4⟩, r5⟩, r6⟩ := q
      subst r1 r2
      obtain ⟨nm, bs, mro, ns, qn, hd, sn, sub, ab, col, del⟩ := c1
      have hm2 : mro = _ := hm1
      have r3' : del = false := r3
      subst hm2 r3'
      have sl2 : l1 = #[j0, j1, j2, j3, some (.builtin n1), j5] := by
        cases l1 with
        | mk ls =>
          have : ls = _ := hs1
          rw [this]
      subst sl2
      exact ⟨tl, ns, nm, qn, bs, hd, sn, sub, ab, col, d1, j0, j1, j2, j3, j5, _, X _ _ at1, .of_isNs (PySem.W.isNs_of_in X r5), PySem.W.nsMap_none_of_in X r5 r6, PySem.W.tail_of_in X r4⟩
    · cases q
  · cases q
section
variable {X : Cx}
def tRaise (C : Addr) (E : XK) (t : TA) : TS := fun _ σ H => t σ H fun vs H1 => vs.length ≤ sizeLine ∧ E (.ref C) none H1
theorem ps_raise {x : Str} {C : Addr} {bmB bmN : List Value} {newId nid initId inN Bn B0 : String} {E : XK} {e0 : Expr} {es : List Expr} {t : TA} {np cpos pos : Pos} (hg : Gl X x) (hm : X.mg x = some (.ref C)) (q : PySem.W.excIn X.K C bmB newId = true)
    (Fn : ExcBaseFacts Bn newId inN bmN) (hBn : bmB.contains (.type Bn) = true) (FB : ExcBaseFacts B0 nid initId bmB) (hc : X.calm = true) (hx : Thrown X E) (ha : PA X (e0 :: es) t) (hdb : (x == ("__debug__" : Str)) = false := by decide)
    (he : starEach (e0 :: es) X.env = (false, eval e0 X.env) :: starEach es X.env := by rfl) (hpl : (backTo cpos (starEach es X.env)).any (·.1) = false := by rfl) :
    PS X (.Raise (some (.Call (.Name x np) (e0 :: es) [] cpos)) none pos) (tRaise C E t) := by
  intro pins s σ H D I h
  obtain ⟨tl, N, nm, qn, bs, hd, sn, sub, ab, col, dd, k0, k1, k2, k3, k5, mN, hC, hN, hni, T⟩ := exc_obj I.mod.kin q
  have ha' := ha cpos pins s σ H _ I h
  rw [he] at ha'
  refine wpAny_Raise_call_subU (C := C) (nm := nm) (q := qn) (N := N) (bs := bs) (bm := tl) (hdct := hd) (sn := sn) (sub := sub) (ab := ab) (col := col) (dd := dd) (k0 := k0) (k1 := k1) (k2 := k2) (k3 := k3) (k5 := k5)
    Fn hBn FB (mN := mN) (T.hasType FB.hasBase) (I.ok.hd hc) (by rw [he]; show (false || (backTo cpos (starEach es X.env)).any (·.1)) = false; rw [hpl]; rfl) hni (ld_glob I hg hm ⟨rfl, ?_⟩ hdb)
  rw [he]
  refine Calls.evalArgs_plain (wpAny_mono ha' (fun us s2 ⟨vs, H2, I2, r, hz, qE⟩ => ⟨rfl, ?_, I2.bk _ _ hC, hN.keeps I2.bk, T.keeps I2.bk, fun h' e hm => ?_⟩) fun _ _ y => y)
  · rw [← r.length]; exact hz
  · exact hx pins σ H2 s2 h' e _ _ I2 hm qE
end
end L2

set_option Elab.async false
set_option linter.all false
set_option maxRecDepth 100000
set_option maxHeartbeats 4000000
namespace L2
open PySem PySem.Spec PyProof.Rows
/-- an exception as an object that is looked at -/
def ExcO (e : Addr) (cls : Value) : HO := .ext fun h => ∃ o vs, h.get? e = some o ∧ o.cls = cls ∧ o.data = .fields vs
/-- in this frame an exception has come up out of a call; R: its class, the names, the heap -/
def Caught (X : Cx) (pins : List (Addr × Obj)) (R : Value → St → Hp → Prop) : Value → Shared → Prop := fun e s' => ∃ σ' Hc sc, Inv X pins σ' Hc sc ∧ CX1 X.prog X.w X.stack Hc sc (fun cls _ H' => R cls σ' H') e s'
abbrev TSx := Ends → St → Hp → (Value → St → Hp → Prop) → Prop
abbrev TEx := St → Hp → VK → (Value → Hp → Prop) → Prop
/-- a statement, an expression that may raise -/
def PSx (X : Cx) (st : Stmt) (t : TSx) : Prop := ∀ (E : Value → Shared → Prop) (pins : List (Addr × Obj)) (s : Shared) (σ : St) (H : Hp) (D : Ends) (R : Value → St → Hp → Prop), Inv X pins σ H s → t D σ H R → (∀ e s', Caught X pins R e s' → E e s') →
  wpAny (model X.prog X.w) X.A (exec st X.env) (SP X pins D) E s
def PEx (X : Cx) (e : Expr) (t : TEx) : Prop := ∀ (E : Value → Shared → Prop) (pins : List (Addr × Obj)) (s : Shared) (σ : St) (H : Hp) (Q : VK) (R : Value → Hp → Prop), Inv X pins σ H s → t σ H Q R → (∀ e s', Caught X pins (fun cls σ' H' => σ' = σ ∧ R cls H') e s' → E e s') →
  wpAny (model X.prog X.w) X.A (eval e X.env) (EP X pins σ Q) E s
theorem CX1.imp {P : Program} {w : World} {l : List Env} {H : Hp} {s : Shared} {E E' : XK} {e : Value} {s' : Shared} (h : CX1 P w l H s E e s') (k : ∀ c d H, E c d H → E' c d H) : CX1 P w l H s E' e s' := by
  obtain ⟨ea, cls, H', a, b, c, d, f, g, q⟩ := h
  exact ⟨ea, cls, H', a, b, c, d, f, g, k _ _ _ q⟩
section
variable {X : Cx}
def tCallX (sp : Sp) (t : TA) : TEx := fun σ H Q R => t σ H fun vs H1 => sp vs H1 Q fun cls _ H' => R cls H'
theorem pex_call {k : Nat} {f : Addr} {fd : FuncData} {ps : List Str} {sp : Sp} {x : Str} {p pos : Pos} {e : Expr} {es : List Expr} {t : TA} (F : FnOk X.prog X.w X.K X.mg X.base (CX1 X.prog X.w) k f fd ps sp) (hr : Room k X.A) (hg : Gl X x) (hm : X.mg x = some (.ref f))
    (hk : PySem.W.keepIn X.K (.ref f) = true) (hb : Binds X.K fd ps []) (ha : PA X.nox (e :: es) t) (hdb : (x == ("__debug__" : Str)) = false := by decide)
    (he : starEach (e :: es) X.env = (false, eval e X.env) :: starEach es X.env := by rfl) (hpl : (backTo pos (starEach es X.env)).any (·.1) = false := by rfl) : PEx X (.Call (.Name x p) (e :: es) [] pos) (tCallX sp t) := by
  intro E pins s σ H Q R I h hE
  refine wpAny_Call_Name_kw (ld_glob I hg hm ?_ hdb)
  refine PySem.W.callWith_K (h₀ := X.base) I.ok.mod.kin hk (wpAny_mono (ha pos pins s σ H _ (I.wish _) h) (fun us s1 ⟨vs, H1, I1', r, q⟩ => ⟨I1'.unwish.kIn, ?_⟩) fun _ _ z => False.elim z) he hpl
  have I1 := I1'.unwish
  have hl : us.length = ps.length := by rw [← r.length]; exact F.len _ _ _ _ q
  have hb' : BindsTo s1 fd ⟨us, []⟩ (ps.zip us) := by
    have z := hb s1 us I1.kIn (by rw [List.append_nil]; exact hl)
    rw [List.append_nil] at z
    exact z
  refine wpAny_call (codeAny_mono (F.run X.A X.stack s1 H1 ⟨us, []⟩ us vs Q _ hr I1.env0 hb' r q) fun res s' hq => ?_)
  cases res with
  | error e =>
    have hq' : CX1 X.prog X.w X.stack H1 s1 (fun cls _ H' => R cls H') e s' := hq
    exact hE e s' ⟨σ, H1, s1, I1, CX1.imp hq' fun _ _ _ z => ⟨rfl, z⟩⟩
  | ok fl =>
    cases fl with
    | ret u => exact I1.after hq
    | next => exact False.elim hq
    | brk => exact False.elim hq
    | cont => exact False.elim hq
theorem psx_expr {e : Expr} {t : TEx} {pos : Pos} (he : PEx X e t) (hs : swapsWith e none pos.line X.env = pure false := by rfl) : PSx X (.Expr e pos) (fun D σ H R => t σ H (fun _ H1 => D.nx σ H1) fun cls H' => R cls σ H') := by
  intro E pins s σ H D R I h hE
  refine wpAny_Expr_any (thn (he E pins s σ H _ _ I h fun e s' ⟨σ', Hc, sc, I', c⟩ => hE e s' ⟨σ', Hc, sc, I', c.imp fun cls d H2 z => ?_⟩) fun v s1 ⟨x, H1, I1, r1, q1⟩ => ⟨σ, H1, I1, q1⟩) I.quiet hs
  rw [z.1]
  exact z.2
end
section
variable {X : Cx} {pins : List (Addr × Obj)} {σ : St} {H : Hp} {s : Shared}
/-- a thing that was made since the entry is looked at from now on -/
theorem Inv.adopt {e : Addr} {u : HO} (I : Inv X pins σ H s) (hn : H e = none) (h0 : X.s₀.heap.get? e = none) (nL : e ≠ X.env.locals) (nC : ∀ x c, X.env.cells.lookup x = some c → c ≠ e) (nP : ∀ p ∈ X.pn ++ pins, p.1 ≠ e)
    (ok : ObjOk X.prog X.w (upd H e u) s.heap e u) : Inv X pins σ (upd H e u) s := by
  have ne : ∀ {b : Addr} {v : HO}, H b = some v → b ≠ e := fun q => ne_of_none q hn
  refine ⟨I.ok, I.os, I.bare, ⟨I.base.keep, I.base.slot, fun b o q n hx => ?_, I.base.there, fun b xs q => ?_, fun b o v q => ?_, fun b ps q => ?_⟩, I.loc, I.cell, ?_, fun x c q => ?_, fun p hp => ?_, fun a o q => ?_, I.len⟩
  · have z : b ≠ e := fun z => by rw [z, h0] at q; cases q
    rw [upd_ne z]
    exact I.base.free b o q n hx
  · have q1 := I.base.tups b xs q
    rw [upd_ne (ne q1)]
    exact q1
  · have q1 := I.base.frzs b o v q
    rw [upd_ne (ne q1)]
    exact q1
  · obtain ⟨more, q1⟩ := I.base.tbls b ps q
    exact ⟨more, by rw [upd_ne (ne q1)]; exact q1⟩
  · rw [upd_ne (Ne.symm nL)]
    exact I.free
  · rw [upd_ne (nC x c q)]
    exact I.freeC x c q
  · obtain ⟨p1, p2, p3⟩ := I.pin p hp
    exact ⟨p1, by rw [upd_ne (nP p hp)]; exact p2, p3⟩
  · by_cases z : a = e
    · subst z
      rw [upd_same] at q
      cases q
      exact ok
    · rw [upd_ne z] at q
      exact (I.hok a o q).stay (fun _ _ _ r => r) (fun c r => by rw [upd_ne (ne r)]; exact r) fun c xs r => by rw [upd_ne (ne r)]; exact r
/-- a name of the frame's goes -/
theorem name_goes {M : Model} {A : Around} {E : Value → Shared → Prop} {i : Nat} {n : Str} {pos : Pos} {Q : Unit → Shared → Prop} (I : Inv X pins σ H s) (hN : X.N.Nodup) (hi : X.N[i]? = some n) (hk : X.env.scope.names.lookup n = some .local)
    (h : ∀ s', Inv X pins (σ.set i none) H s' → Q () s') : wpAny M A (do bindName X.env n .none; unbindBehindTheSuite X.env n pos) Q E s := by
  obtain ⟨m, hn, hl⟩ := id I.loc
  have hcls : (X.env.scope.kind == .class || (X.env.scope.kind == .module && X.env.locals != X.env.globals)) = false := by rw [I.ok.kind]; rfl
  have hiσ : i < σ.length := by rw [I.len]; exact (List.getElem?_eq_some_iff.mp hi).1
  refine wpAny_nameGoes_keeps hk hn hcls fun h' v hn' hs => ?_
  have old : ∀ b o, X.s₀.heap.get? b = some o → b ≠ X.env.locals := fun b o e => Nat.ne_of_lt (Nat.lt_of_lt_of_le (Heap.lt_size e) I.ok.above)
  refine h _ ⟨I.ok, I.os, I.bare, ⟨fun b o e n hb hx => ?_, fun b o e n hb hx => ?_, I.base.free, fun b o e hx => ?_, I.base.tups, I.base.frzs, I.base.tbls⟩, ⟨_, hn', fun j y v' e1 e2 e3 => ?_⟩, fun y c e => ?_, I.free, I.freeC, fun p hp => ?_, fun b ob e => ?_, by simpa using I.len⟩
  · exact (hs.2 b (old b o e)).trans (I.base.keep b o e n hb hx)
  · obtain ⟨q, e1⟩ := I.base.slot b o e n hb hx
    exact ⟨q, (hs.2 b (old b o e)).trans e1⟩
  · obtain ⟨o', e1⟩ := I.base.there b o e hx
    exact ⟨o', (hs.2 b (old b o e)).trans e1⟩
  · by_cases hj : j = i
    · subst hj
      rw [List.getElem?_set_self hiσ] at e2
      cases e2
    · rw [List.getElem?_set_ne (Ne.symm hj)] at e2
      obtain ⟨u', r', q⟩ := hl j y v' e1 e2 e3
      refine ⟨u', r', ?_⟩
      rcases q with ⟨k, e⟩ | ⟨k, c, e, z⟩
      · refine .inl ⟨k, ?_⟩
        have ny : y ≠ n := fun e => hj (nodup_ix hN e1 (e ▸ hi))
        show (if y = n then v else m y) = some u'
        rw [if_neg ny]
        exact e
      · exact .inr ⟨k, c, e, z.sameBut hs (I.cne y c e)⟩
  · obtain ⟨w', z⟩ := I.cell y c e
    exact ⟨w', z.sameBut hs (I.cne y c e)⟩
  · obtain ⟨p1, p2, p3, p4⟩ := I.pin p hp
    exact ⟨(hs.2 p.1 p3).trans p1, p2, p3, p4⟩
  · refine (I.hok b ob e).stay (fun c w' hc q => (hs.2 c ?_).trans q) (fun _ q => q) fun _ _ q => q
    rintro rfl
    rcases hc with rfl | hc
    · rw [I.free] at e; cases e
    · rw [I.free] at hc; cases hc
end
section
variable {X : Cx} {pins : List (Addr × Obj)} {R : Value → St → Hp → Prop} {e : Value} {s' : Shared}
/-- what is known of the exception that has come up -/
theorem Caught.see (h : Caught X pins R e s') : ∃ ea cls σ' H', e = .ref ea ∧ Inv X pins σ' H' s' ∧ H' ea = none ∧ R cls σ' H' ∧ (∃ oe vs, s'.heap.get? ea = some oe ∧ oe.cls = cls ∧ oe.data = .fields vs) ∧
    (X.ex = [] → X.s₀.heap.get? ea = none) ∧ ea ≠ X.env.locals ∧ (∀ x c, X.env.cells.lookup x = some c → c ≠ ea) ∧ ∀ p ∈ X.pn ++ pins, p.1 ≠ ea := by
  obtain ⟨σ', Hc, sc, I, ea, cls, H', rfl, os, bare, un, hok, fly, q⟩ := h
  have I' := I.call' os un hok bare (fun b z => absurd z (by simp))
  obtain ⟨B, a0, fl, cv⟩ := fly.ex
  obtain ⟨oe, vs, h1, h2, h3, _⟩ := fl.first
  have no : ∀ o, sc.heap.get? ea = some o → False := fun o z => by rw [fly.nold] at z; cases z
  refine ⟨ea, cls, σ', H', rfl, I', fly.new, q, ⟨oe, vs, h1, h2, h3⟩, fun hex => ?_, fun z => ?_, fun x c e z => ?_, fun p hp z => ?_⟩
  · cases z : X.s₀.heap.get? ea with
    | none => rfl
    | some u =>
      obtain ⟨o, e1⟩ := I.base.there ea u z (by rw [hex]; simp)
      exact (no o e1).elim
  · obtain ⟨m, ⟨o, _, _, ho, _⟩, _⟩ := I.loc
    exact no o (by rw [z]; exact ho)
  · obtain ⟨v, o, ho, _⟩ := I.cell x c e
    exact no o (by rw [← z]; exact ho)
  · exact no p.2 (by rw [← z]; exact (I.pin p hp).1)
theorem caught_move {ea : Addr} {cls a0 : Value} {σ' : St} {Hc H' : Hp} {sc : Shared} {B h5 : Heap} (I : Inv X pins σ' Hc sc) (os : s'.os = sc.os) (bare : AllBare s'.gens) (un : Un (frs X.stack) [] Hc H' sc.heap s'.heap) (hok : HOk X.prog X.w H' s'.heap)
    (new : H' ea = none) (nold : sc.heap.get? ea = none) (fl : Heap.FlyingW B X.stack ea cls a0 s'.heap) (cv : ∀ b o, s'.heap.get? b = some o → b ∉ frs X.stack → ((∃ u, H' b = some u) ∨ ∃ u, sc.heap.get? b = some u) → B.get? b = some o)
    (fl5 : Heap.FlyingW B X.stack ea cls a0 h5) (up : s'.heap.UpToSlots h5) (q : R cls σ' H') : Caught X pins R (.ref ea) { s' with heap := h5 } := by
  have I' := I.call' os un hok bare (fun b z => absurd z (by simp))
  have sl : ∀ b o, s'.heap.get? b = some o → b ∈ frs X.stack → ∃ q, h5.get? b = some { o with slots := q } := fun b o e1 hb => up b o e1 (by
    obtain ⟨_, o2, e2, nf⟩ := fl.2.2.1.mem hb
    rw [e1] at e2
    cases e2
    exact nf)
  refine ⟨σ', Hc, sc, I, ea, cls, H', rfl, os, bare, ⟨fun b o e n nf _ => ?_, fun b o e n hb hx => ?_, un.free, fun b o e hx => ?_, un.tups, un.frzs, un.tbls⟩, fun a o e => ?_, ⟨⟨B, a0, fl5, fun b o e1 nb hc => ?_⟩, new, nold⟩, q⟩
  · exact fl5.1 b o (cv b o (un.keep b o e n nf (by simp)) nf (.inr ⟨o, e⟩))
  · obtain ⟨q1, e1⟩ := un.slot b o e n hb hx
    obtain ⟨q2, e2⟩ := sl b _ e1 hb
    exact ⟨q2, e2⟩
  · obtain ⟨o', e1⟩ := un.there b o e hx
    by_cases hb : b ∈ frs X.stack
    · obtain ⟨q2, e2⟩ := sl b o' e1 hb
      exact ⟨_, e2⟩
    · exact ⟨o', fl5.1 b o' (cv b o' e1 hb (.inr ⟨o, e⟩))⟩
  · refine (hok a o e).stay (fun b u hb q => ?_) (fun _ q => q) fun _ _ q => q
    have ht : ∃ u, H' b = some u := by
      rcases hb with z | z
      · exact ⟨o, by rw [z]; exact e⟩
      · exact ⟨_, z⟩
    refine fl5.1 b u (cv b u q (fun z => ?_) (.inl ht))
    obtain ⟨v, hv⟩ := ht
    rw [I'.stkFree b z] at hv
    cases hv
  · have ho : ∃ o', s'.heap.get? b = some o' := by
      rcases hc with ⟨u, z⟩ | ⟨u, z⟩
      · exact (hok b u z).some
      · exact un.there b u z (by simp)
    obtain ⟨o', eo⟩ := ho
    have eB := cv b o' eo nb hc
    have e3 : o = o' := Option.some.inj (e1.symm.trans (fl5.1 b o' eB))
    rw [e3]
    exact eB
/-- it comes down at a try of this frame -/
theorem land1 {E : Value → Shared → Prop} {A : Around} {M : Model} {rest : Sem Flow} {Q : Flow → Shared → Prop} (hst : X.stack = X.env :: X.outer) (hf : X.env.frame = some X.env.locals) (hfr : A.frames = some X.stack) (h : Caught X pins R e s')
    (k : ∀ h5, Caught X pins R e { s' with heap := h5 } → wpAny M A rest Q E { s' with heap := h5 }) : wpAny M A (noteFrame e X.env) (fun _ s2 => wpAny M A (setFlight e none) (fun _ s3 => wpAny M A rest Q E s3) E s2) E s' := by
  obtain ⟨σ', Hc, sc, I, ea, cls, H', rfl, os, bare, un, hok, fly, q⟩ := h
  obtain ⟨B, a0, fl, cv⟩ := fly.ex
  refine wpAny_looks_onW (base := B) (outer := X.outer) (by rw [hfr, hst]) hf (by rw [← hst]; exact fl) fun h4 held up4 => wpAny_landsW held fun h5 fl5 up5 => k h5 ?_
  exact caught_move I os bare un hok fly.new fly.nold fl cv (by rw [hst]; exact fl5) (up4.trans up5) q
theorem land2 {E : Value → Shared → Prop} {A : Around} {M : Model} {Q : Unit → Shared → Prop} (h : Caught X pins R e s') (k : ∀ h5, Caught X pins R e { s' with heap := h5 } → Q () { s' with heap := h5 }) : wpAny M A (setFlight e none) Q E s' := by
  obtain ⟨σ', Hc, sc, I, ea, cls, H', rfl, os, bare, un, hok, fly, q⟩ := h
  obtain ⟨B, a0, fl, cv⟩ := fly.ex
  exact lands_againW fl fun h5 fl5 up5 => k h5 (caught_move I os bare un hok fly.new fly.nold fl cv fl5 up5 q)
end
/-- within an except suite -/
def Cx.inEx (X : Cx) (ea : Addr) : Cx := { X with A := X.A.mark (some (.ref ea)), calm := false, xe := fun _ _ => False }
section
variable {X : Cx} {pins : List (Addr × Obj)} {σ : St} {H : Hp} {s : Shared} {ea : Addr}
theorem Inv.inEx (I : Inv X pins σ H s) (ea : Addr) : Inv (X.inEx ea) pins σ H s := ⟨⟨I.ok.mod, I.ok.kind, I.ok.glob, I.ok.blt, I.ok.above, I.ok.inj, I.ok.has, I.ok.cab, fun z => absurd (show false = true from z) (by simp), I.ok.frames, I.ok.stk, I.ok.exf, I.ok.bs, I.ok.bsz, I.ok.noex, I.ok.exfs, I.ok.funs, I.ok.frf⟩,
  I.os, I.bare, I.base, I.loc, I.cell, I.free, I.freeC, I.pin, I.hok, I.len⟩
theorem Inv.outEx (ok : X.Ok) (I : Inv (X.inEx ea) pins σ H s) : Inv X pins σ H s := ⟨ok, I.os, I.bare, I.base, I.loc, I.cell, I.free, I.freeC, I.pin, I.hok, I.len⟩
/-- the ends of a suite whose name goes -/
def Ends.drop (D : Ends) (i : Nat) : Ends := { nx := fun σ H => D.nx (σ.set i none) H, rt := D.rt, bk := fun σ H => D.bk (σ.set i none) H, ct := fun σ H => D.ct (σ.set i none) H }
def tTryAs (K : PySem.W.Frag) (C : Addr) (i : Nat) (tb : TSx) (ts : TS) : TS := fun D σ H => tb D σ H fun cls σ' H' => PySem.W.exmOne K cls (.ref C) = some true ∧ ∀ ea, H' ea = none → ts (D.drop i) (σ'.set i (some (.ref ea))) (upd H' ea (ExcO ea cls))
theorem excO_ok {P : Program} {w : World} {H : Hp} {h : Heap} {ea : Addr} {cls : Value} (z : ∃ oe vs, h.get? ea = some oe ∧ oe.cls = cls ∧ oe.data = .fields vs) : ObjOk P w H h ea (ExcO ea cls) := by
  refine ⟨z, ?_, fun h1 h2 ⟨o, vs, a, b, c⟩ k => ⟨o, vs, k o a, b, c⟩⟩
  obtain ⟨oe, _, a, _⟩ := z
  exact ⟨oe, a⟩
theorem ty_looks {M : Model} {h : Heap} {ea : Addr} {cls : Value} (z : ∃ oe vs, h.get? ea = some oe ∧ oe.cls = cls ∧ oe.data = .fields vs) : PySem.W.Looks M h (typeOf (.ref ea)) cls := by
  obtain ⟨oe, vs, a, b, _⟩ := z
  subst b
  exact (PySem.W.Looks.ld a).andThen .now
/-- try: a statement; except C as n: a suite that raises nothing -/
theorem ps_tryAs {x n : Str} {C : Addr} {i : Nat} {st b0 : Stmt} {suite : List Stmt} {np hpos pos : Pos} {tb : TSx} {ts : TS} (hst : X.stack = X.env :: X.outer) (hf : X.env.frame = some X.env.locals) (hex : X.ex = []) (hN : X.N.Nodup) (hi : X.N[i]? = some n) (hl : X.env.scope.names.lookup n = some .local)
    (hg : Gl X x) (hm : X.mg x = some (.ref C)) (hb : PSx X st tb) (hs : ∀ ea, PSs (X.inEx ea) (b0 :: suite) ts) (hdb : (x == ("__debug__" : Str)) = false := by decide) :
    PS X (.Try [st] [.ExceptHandler (some (.Name x np)) (some n) (b0 :: suite) hpos] [] [] pos) (tTryAs X.K C i tb ts) := by
  intro pins s σ H D I h
  refine wpAny_Try_except (wpAny_execs_cons (wpAny_mono (hb _ pins s σ H D _ I h (fun e s' hc => ?_)) (fun f s1 q => ?_) fun _ _ z => z))
  rotate_left
  · cases f with
    | next => exact wpAny_execs_nil (wpAny_execs_nil q)
    | ret v => exact q
    | brk => exact q
    | cont => exact q
  refine land1 hst hf I.ok.frames hc fun h5 hc5 => ?_
  obtain ⟨ea, cls, σ', H', rfl, I5, hn, ⟨hx, hR⟩, hob, h0, nL, nC, nP⟩ := hc5.see
  refine wpAny_handleBy_cons (codeAny_handlers_test (ld_glob (X := X.inEx ea) (I5.inEx ea) hg hm ((PySem.W.exm_one I5.kIn (ty_looks hob) hx).here ?_) hdb)) (by intro q; cases q)
  refine codeAny_handlers_suite_as (land2 hc5 fun h6 hc6 => ?_)
  obtain ⟨ea', cls', σ2, H2, e2, I6, hn6, ⟨hx6, hR6⟩, hob6, h06, nL6, nC6, nP6⟩ := hc6.see
  cases e2
  have I7 := (I6.adopt hn6 (h06 hex) nL6 nC6 nP6 (excO_ok (H := upd H2 ea (ExcO ea cls')) hob6)).inEx ea
  refine store_ok (X := X.inEx ea) (v := .ref ea) I7 hN hi (.inl hl) rfl (fun s8 I8 => ?_) (.inr hl)
  refine wpAny_mono (hs ea pins s8 _ _ (D.drop i) I8 (hR6 ea hn6)) (fun f s9 q => ?_) fun _ _ z => False.elim z
  cases f with
  | next =>
    obtain ⟨σ9, H9, I9, q9⟩ := q
    exact name_goes (I9.outEx I.ok) hN hi hl fun s10 I10 => ⟨_, _, I10, q9⟩
  | brk =>
    obtain ⟨σ9, H9, I9, q9⟩ := q
    exact name_goes (I9.outEx I.ok) hN hi hl fun s10 I10 => ⟨_, _, I10, q9⟩
  | cont =>
    obtain ⟨σ9, H9, I9, q9⟩ := q
    exact name_goes (I9.outEx I.ok) hN hi hl fun s10 I10 => ⟨_, _, I10, q9⟩
  | ret u =>
    obtain ⟨v, σ9, H9, I9, r9, q9⟩ := q
    exact name_goes (I9.outEx I.ok) hN hi hl fun s10 I10 => ⟨_, _, _, I10, r9, q9⟩
end
end L2
namespace L2
open PySem PySem.Spec PyProof.Rows
/-! a def of the text that raises on some ways -/
def Def1 (P : Program) (w : World) (K : PySem.W.Frag) (mg : Str → Option Value) (base : Heap) (k : Nat) (x : Str) (ps : List Str) (sp : Sp) : Prop :=
  ∃ (f : Addr) (fd : FuncData), FnOk P w K mg base (CX1 P w) k f fd ps sp ∧ mg x = some (.ref f) ∧ PySem.W.keepIn K (.ref f) = true ∧ Binds K fd ps []
section
variable {X : Cx} {k k' : Nat} {x : Str} {ps : List Str} {sp : Sp} {e : Expr} {es : List Expr} {t : TA} {p pos : Pos}
theorem pe_def1 (D : Def1 X.prog X.w X.K X.mg X.base k x ps sp) (hr : Room k' X.A) (hk : k ≤ k') (hg : Gl X x) (ha : PA X (e :: es) t)
    (hdb : (x == ("__debug__" : Str)) = false := by decide) (he : starEach (e :: es) X.env = (false, eval e X.env) :: starEach es X.env := by rfl) (hpl : (backTo pos (starEach es X.env)).any (·.1) = false := by rfl) :
    PE X (.Call (.Name x p) (e :: es) [] pos) (tCall sp [] E0 t) := by
  obtain ⟨f, fd, F, m, kp, b⟩ := D
  exact pe_call F (hr.mono hk) hg m kp b .nil (fun _ _ _ _ _ _ _ h => by obtain ⟨_, _, _, _, _, _, _, _, _, z⟩ := h; exact False.elim z) ha hdb he hpl
theorem pe_defP {E : XK} (D : Def1 X.prog X.w X.K X.mg X.base k x ps sp) (hr : Room k' X.A) (hk : k ≤ k') (hg : Gl X x) (hp : Passes (CX1 X.prog X.w) X E) (ha : PA X (e :: es) t)
    (hdb : (x == ("__debug__" : Str)) = false := by decide) (he : starEach (e :: es) X.env = (false, eval e X.env) :: starEach es X.env := by rfl) (hpl : (backTo pos (starEach es X.env)).any (·.1) = false := by rfl) :
    PE X (.Call (.Name x p) (e :: es) [] pos) (tCall sp [] E t) := by
  obtain ⟨f, fd, F, m, kp, b⟩ := D
  exact pe_call F (hr.mono hk) hg m kp b .nil hp ha hdb he hpl
theorem pex_def (D : Def1 X.prog X.w X.K X.mg X.base k x ps sp) (hr : Room k' X.A) (hk : k ≤ k') (hg : Gl X x) (ha : PA X.nox (e :: es) t)
    (hdb : (x == ("__debug__" : Str)) = false := by decide) (he : starEach (e :: es) X.env = (false, eval e X.env) :: starEach es X.env := by rfl) (hpl : (backTo pos (starEach es X.env)).any (·.1) = false := by rfl) :
    PEx X (.Call (.Name x p) (e :: es) [] pos) (tCallX sp t) := by
  obtain ⟨f, fd, F, m, kp, b⟩ := D
  exact pex_call F (hr.mono hk) hg m kp b ha hdb he hpl
end
section
variable {P : Program} {w : World} {K : PySem.W.Frag} {mg : Str → Option Value} {base : Heap}
theorem Fun.ok1 {x qual : Str} {st : Stmt} {f : Addr} {fd : FuncData} {N ps : List Str} {k : Nat} {sp : Sp} (F : Fun K x qual st f fd) (S : FnScope N ps (defScope st)) (len : ∀ vs H Q E, sp vs H Q E → vs.length = ps.length)
    (hbody : ∀ (cdv : Value) (A : Around) (outer : List Env) (s : Shared) (H : Hp) (vs : List V) (Q : VK) (E : XK), Room k (A.deeper (envOfC qual (defScope st) s.heap.objs.size f cdv)) → sp vs H Q E →
      ∃ t, PSs (cxOf (CX1 P w) P w K mg base N qual (defScope st) f cdv A outer s H E) (defBody st) t ∧ t { nx := fun _ H' => Q .non H', rt := Q } (start N vs) H) : FnOk P w K mg base (CX1 P w) (k + 1) f fd ps sp := by
  obtain ⟨oc, od, kV, doc, pm, an, cdv, ct, osl, rfl, lk, hcd⟩ := F.ex
  exact fn_of lk hcd S len fun A outer s H vs Q E hr hsp => hbody cdv A outer s H vs Q E hr hsp
end
end L2

set_option Elab.async false
set_option linter.all false
set_option maxRecDepth 100000
set_option maxHeartbeats 4000000
namespace L2
open PySem PySem.Spec PyProof.Rows
/-! isinstance of an exception of an own class -/
def excLook (K : PySem.W.Frag) (C : Addr) : Bool :=
  PySem.W.findIn K (.ref C) "__getattribute__" == some (some (.builtin "BaseException.__getattribute__")) && PySem.W.findIn K (.ref C) "__getattr__" == some none && PySem.W.findIn K (.ref C) "__class__" == some (some (.builtin "object.__class__"))
    && PySem.W.specialIn K (.builtin "object.__class__") "__get__" == some (some (.builtin "getset_descriptor.__get__")) && PySem.W.takesIn K (.builtin "object.__class__") == some true && PySem.W.mroIn K C (.type "object") == some true
    && PySem.W.mroIn K C (.type "BaseException") == some true && (PySem.W.clsIn K C).isSome
def ExcAt (e : Addr) (cls : Value) (h : Heap) : Prop := ∃ o vs, h.get? e = some o ∧ o.cls = cls ∧ o.data = .fields vs
section
variable {prog : Program} {w : World} {A : Around} {E : Value → Shared → Prop} {s : Shared} {K : PySem.W.Frag} {e C : Addr} {h : Heap}
theorem exc_find {M : Model} (X : K.In h) (l : excLook K C = true) : PySem.W.Looks M h (Builtin.ObjectAttr.find (.ref e) (.ref C) "__class__") (.bind (.builtin "getset_descriptor.__get__") (.builtin "object.__class__")) := by
  simp only [excLook, Bool.and_eq_true, beq_iff_eq] at l
  obtain ⟨⟨⟨⟨⟨⟨⟨_, _⟩, l3⟩, l4⟩, l5⟩, _⟩, _⟩, _⟩ := l
  refine (PySem.W.looks_findIn X l3).andThen ?_
  have g1 : PySem.W.Looks M h (Builtin.ObjectAttr.getOf (some (.builtin "object.__class__"))) (some (.builtin "getset_descriptor.__get__")) := PySem.W.looks_specialIn X l4
  refine g1.andThen ?_
  have g2 : PySem.W.Looks M h (Builtin.ObjectAttr.dataDescriptor? (some (.builtin "object.__class__")) (some (.builtin "getset_descriptor.__get__"))) (some (.builtin "getset_descriptor.__get__", .builtin "object.__class__")) := (PySem.W.looks_takesIn X l5).andThen .now
  exact g2.andThen (PySem.W.Looks.tag .now)
theorem exc_look {M : Model} (z : ExcAt e (.ref C) h) : PySem.W.Looks M h (typeOf (.ref e)) (.ref C) := ty_looks z
theorem exc_getset {R : Result → Shared → Prop} {tp : Value} (X : K.In s.heap) (l : excLook K C = true) (z : ExcAt e (.ref C) s.heap) (hq : R (.ok (.ret (.ref C))) s) :
    codeAny (model prog w) A (.call (.builtin "getset_descriptor.__get__") ⟨[.builtin "object.__class__", .ref e, tp], []⟩) R s := by
  simp only [excLook, Bool.and_eq_true, beq_iff_eq] at l
  obtain ⟨⟨⟨⟨⟨⟨⟨_, _⟩, _⟩, _⟩, _⟩, l6⟩, _⟩, _⟩ := l
  obtain ⟨hh, g, dr, t, os⟩ := s
  have T0 := exc_look (M := model prog w) z
  have T1 := PySem.W.looks_mroIn (M := model prog w) X l6
  refine codeAny_call_builtin PySem.W.KF.slot_gs.plain PySem.W.KF.entry_gs (PySem.W.KF.slot_gs.check _ _ _ _ _ _ _ _ PySem.W.KF.type_class (PySem.W.KF.args_gs _ _ _) ?_)
  unfold Builtin.«getset_descriptor.__get__» Builtin.Getset_descriptor.descrGet
  rw [PySem.W.dga_obj]
  refine wpAny_bind (wpAny_pure ?_); unfold Builtin.Getset_descriptor.descrGetter Builtin.Getset_descriptor.descrCheckInstance Builtin.Getset_descriptor.descrNameAndClass isInstance
  simp only [PySem.W.KF.owner_class]; repeat lk
  refine ⟨Code.quiet_builtin _ (by decide +kernel), codeAny_builtin PySem.W.KF.entry_class ?_⟩; unfold Builtin.«object.__class__» shownTypeOf
  repeat lk
  exact hq
theorem exc_ga {tk : Tok} {R : Result → Shared → Prop} (X : K.In s.heap) (l : excLook K C = true) (z : ExcAt e (.ref C) s.heap) (hq : R (.ok (.ret (.ref C))) s) :
    codeAny (model prog w) A (.call (.builtin "BaseException.__getattribute__") ⟨[.ref e, .str "__class__" tk], []⟩) R s := by
  have hk : builtinKind "BaseException.__getattribute__" = some .slot := by decide +kernel
  have hsp : splitId "BaseException.__getattribute__" = some ("BaseException", "__getattribute__") := by decide +kernel
  have l' := l
  simp only [excLook, Bool.and_eq_true, beq_iff_eq] at l'
  obtain ⟨⟨⟨⟨⟨⟨⟨_, _⟩, _⟩, _⟩, _⟩, _⟩, l7⟩, _⟩ := l'
  refine codeAny_call_builtin F.attr_ValueError.ga.plain F.entry_bexc_ga ?_
  obtain ⟨hh, g, dr, t, os⟩ := s
  have T0 := exc_look (M := model prog w) z
  have T1 := PySem.W.looks_mroIn (M := model prog w) X l7
  have T2 := exc_find (M := model prog w) (e := e) X l
  have ha := F.args_bexc_ga (.ref e) (.str "__class__" tk)
  simp only [checkBuiltinCall, hk, hsp]
  unfold isInstance
  refine wpAny_bind (wpAny_bind (T0.at (T1.at ?_)))
  simp only [Bool.not_true, Bool.false_eq_true, if_false]
  have hfin : wpAny (model prog w) A.in1 (Builtin.«object.__getattribute__» ⟨[.ref e, .str "__class__" tk], []⟩) (fun fin s' => match fin with | .done f => R (.ok f) s' | .again c' => c'.quiet = true ∧ codeAny (model prog w) A c' R s') (fun e s' => R (.error e) s') ⟨hh, g, dr, t, os⟩ := by
    unfold Builtin.«object.__getattribute__»
    refine wpAny_bind (wpAny_pure ?_)
    refine wpAny_bind (wpAny_pure (wpAny_bind (T0.at (wpAny_bind (T2.at ?_)))))
    show wpAny _ _ (holding [Value.builtin "object.__class__"] (call (.builtin "getset_descriptor.__get__") [.builtin "object.__class__", .ref e, .ref C]) >>= ret) _ _ _
    exact wpAny_bind (wpAny_holding (wpAny_call (exc_getset (s := ⟨hh, g, dr, t, os⟩) X l z (wpAny_pure hq))))
  cases hs : Manifest.signature? "BaseException.__getattribute__" with
  | none => exact wpAny_pure hfin
  | some sig =>
    simp only [argsOk, hs] at ha
    have h2 : Bind.checkArgs "BaseException.__getattribute__" sig ⟨[.ref e, .str "__class__" tk], []⟩ = pure () := ha
    show wpAny _ _ (Bind.checkArgs "BaseException.__getattribute__" sig _) _ _ _
    rw [h2]
    exact wpAny_pure hfin
theorem exc_class {Q : Option Value → Shared → Prop} (X : K.In s.heap) (l : excLook K C = true) (z : ExcAt e (.ref C) s.heap) (hq : Q (some (.ref C)) { s with toks := s.toks + 1 }) : wpAny (model prog w) A (getAttr? (.ref e) "__class__") Q E s := by
  have l' := l
  simp only [excLook, Bool.and_eq_true, beq_iff_eq] at l'
  obtain ⟨⟨⟨⟨⟨⟨⟨l1, l2⟩, _⟩, _⟩, _⟩, _⟩, _⟩, _⟩ := l'
  obtain ⟨hh, g, dr, t, os⟩ := s
  have T0 := exc_look (M := model prog w) z
  have T1 := PySem.W.looks_findIn (M := model prog w) X l1
  have T2 := PySem.W.looks_findIn (M := model prog w) X l2
  unfold getAttr? getAttrBy? getAttrBy
  refine wpAny_bind (wpAny_mkText (wpAny_bind (wpAny_attempt (wpAny_holding (wpAny_bind (T0.at (wpAny_bind (T1.at ?_))))))))
  show wpAny _ _ (getAttrByItsOwn _ _ _ _ _ _) _ _ _
  unfold getAttrByItsOwn
  have T3 : PySem.W.Looks (model prog w) hh (hookBefore (.ref C)) none := T2
  refine wpAny_bind (T3.at ?_)
  refine wpAny_bind (wpAny_attempt (wpAny_holding ?_))
  show wpAny _ _ (boundAndCalled (.builtin "BaseException.__getattribute__") (.ref e) _) _ _ _
  unfold boundAndCalled
  refine wpAny_bind (wpAny_of_eq (F.attr_ValueError.ga.bind (.ref e)) ?_)
  refine wpAny_call (exc_ga (s := ⟨hh, g, dr, t + 1, os⟩) X l z ?_)
  exact PySem.W.handed_on (v := .ref C) rfl (wpAny_pure hq)
theorem exc_kitx (l : excLook K C = true) : PySem.W.KitX K (.ref e) (.ref C) (ExcAt e (.ref C)) where
  ty := fun _ _ _ z => exc_look z
  it := fun _ _ X _ => by
    simp only [excLook, Bool.and_eq_true, beq_iff_eq] at l
    have lc := l.2
    unfold PySem.W.clsIn at lc
    split at lc
    · rename_i ho
      intro A' Q' E' s' k q
      unfold isType loadHead; exact wpAny_bind (wpAny_loadPart (k _ _ (X _ _ ho)) (wpAny_pure q))
    · cases lc
  ne := fun h tp dd its n sl X htp => by
    simp only [excLook, Bool.and_eq_true, beq_iff_eq] at l
    have lc := l.2
    refine Bool.eq_false_iff.mpr fun q => ?_
    have ec : C = tp := Value.ref.inj (beq_iff_eq.mp q)
    subst ec
    unfold PySem.W.clsIn at lc
    split at lc
    · rename_i ho
      have zz := (X _ _ ho).symm.trans htp
      cases zz
    · cases lc
  ca := fun X z k => exc_class X l z k
end
end L2
namespace L2
open PySem PySem.Spec PyProof.Rows
/-! == of two lists of flat values -/
def eqVs (xs ys : List V) : Bool := (xs.zip ys).all (fun p => eqV p.1 p.2) && xs.length == ys.length
theorem eqAt_get {A : Around} {s : Shared} {xs ys : List V} {us vs : List Value} (rx : Vals xs us) (ry : Vals ys vs) (fx : xs.all flatV = true) (fy : ys.all flatV = true) (j : Nat) (h1 : j < us.toArray.size) (h2 : j < vs.toArray.size) :
    SeqAt.EqAt A s us.toArray[j] vs.toArray[j] (eqV (xs.getD j .non) (ys.getD j .non)) := by
  have l1 := rx.length
  have l2 := ry.length
  have g1 : j < us.length := by simpa using h1
  have g2 : j < vs.length := by simpa using h2
  have k1 : xs[j]? = some (xs.getD j .non) := by simp [List.getD, show j < xs.length by omega]
  have k2 : ys[j]? = some (ys.getD j .non) := by simp [List.getD, show j < ys.length by omega]
  obtain ⟨u, e1, r1⟩ := rx.get k1
  obtain ⟨v, e2, r2⟩ := ry.get k2
  have f1 := List.all_eq_true.mp fx _ (List.mem_of_getElem? k1)
  have f2 := List.all_eq_true.mp fy _ (List.mem_of_getElem? k2)
  have w1 : us.toArray[j] = u := by
    rw [List.getElem?_eq_getElem g1] at e1
    simpa using Option.some.inj e1
  have w2 : vs.toArray[j] = v := by
    rw [List.getElem?_eq_getElem g2] at e2
    simpa using Option.some.inj e2
  rw [w1, w2]
  exact eqAt_V r1 r2 f1 f2
theorem range_all : ∀ (xs ys : List V), xs.length = ys.length → ((List.range xs.length).all fun j => eqV (xs.getD j .non) (ys.getD j .non)) = (xs.zip ys).all fun p => eqV p.1 p.2
  | [], [], _ => rfl
  | [], _ :: _, h => by cases h
  | _ :: _, [], h => by cases h
  | x :: xs, y :: ys, h => by
    have ih := range_all xs ys (by simpa using h)
    rw [List.length_cons, List.range_succ_eq_map, List.all_cons, List.all_map, List.zip_cons_cons, List.all_cons, ← ih]
    rfl
section
variable {X : Cx}
/-- all(a list of bools) -/
theorem bools_at {bs : List Bool} : ∀ {us : List Value}, Vals (bs.map V.bl) us → us = bs.map Value.bool := by
  induction bs with
  | nil => intro us r; rw [List.map_nil] at r; cases r; rfl
  | cons b bs ih =>
    intro us r
    rw [List.map_cons] at r
    cases r with
    | cons r1 r2 => rw [List.map_cons, ← ih r2]; cases r1; rfl
theorem range_bools : ∀ bs : List Bool, ((List.range bs.length).all fun i => bs.getD i true) = bs.all id
  | [] => rfl
  | b :: bs => by
    have ih := range_bools bs
    rw [List.length_cons, List.range_succ_eq_map, List.all_cons, List.all_map, List.all_cons, ← ih]
    rfl
theorem call_all (hc : X.calm = true) : CallR X (.builtin "all") (fun xs H Q => ∃ (p : Addr) (bs : List Bool), xs = [.ref p] ∧ SqL X.K H p (bs.map V.bl) ∧ Q (.bl (bs.all id)) H) := by
  intro pins s σ H xs us Q I r h
  obtain ⟨p, bs, rfl, hq, q⟩ := h
  obtain ⟨u, rfl, ru⟩ := vals1 r
  cases ru
  obtain ⟨its, rv, pl, _⟩ := I.list hq
  have hl : s.heap.IsList p its.toArray := pl.isList
  have hlt : p < s.heap.objs.size := by obtain ⟨_, e, _⟩ := hl; exact Heap.lt_size e
  refine call_all_walk (wpAny_pyIter_list hl ⟨_, _, _, _, _, _, fun i => bs.getD i true, rfl, Walks.list (A := X.A.in1) (I.ok.hd hc) _ p (Nat.ne_of_lt hlt) its.toArray, ⟨⟨_, Heap.get?_push_size _ rfl, rfl, rfl⟩, hl.push _⟩, fun i v s' Q' E' hv hQ => ?_, fun h' tk hk => ⟨.bl _, H, I.kept (old_kept hk), rfl, ?_⟩⟩)
  · have hv' : its[i]? = some v := by simpa using hv
    rw [bools_at rv, List.getElem?_map] at hv'
    obtain ⟨b, hb, rfl⟩ := Option.map_eq_some_iff.mp hv'
    have e : bs.getD i true = b := by simp [List.getD, hb]
    have z : Q' (bs.getD i true) s' := hQ
    rw [e] at z
    exact wpAny_truthy_bool z
  · have e1 : its.toArray.size = bs.length := by
      have := rv.length
      rw [List.length_map] at this
      simp; omega
    rw [e1]
    have e2 := range_bools bs
    rw [e2]
    exact q
/-- isinstance of an exception: an own class, a built-in one -/
theorem exc_at {pins : List (Addr × Obj)} {σ : St} {H : Hp} {s : Shared} {e : Addr} {cls : Value} (I : Inv X pins σ H s) (h : H e = some (ExcO e cls)) : ExcAt e cls s.heap := (I.hok e _ h).1
theorem kcall_isiX (K : PySem.W.Frag) {C : Addr} (l : excLook K C = true) (hK : X.K = K := by rfl) : CallR X (.builtin "isinstance") (fun xs H Q => ∃ e D b, xs = [.ref e, .ref D] ∧ H e = some (ExcO e (.ref C)) ∧ PySem.W.kitOne K (.ref C) (.ref D) = some b ∧ Q (.bl b) H) := by
  subst hK
  intro pins s σ H xs us Q I r h
  obtain ⟨e, D, b, rfl, he, hb, q⟩ := h
  obtain ⟨u, w', rfl, r1, r2⟩ := vals2 r
  cases r1
  cases r2
  exact PySem.W.kia_one (exc_kitx l) I.kIn (exc_at I he) hb (fun z => nomatch z) fun tk => ⟨.bl b, H, I.tok tk, rfl, q⟩
theorem kcall_isiXT (K : PySem.W.Frag) {C : Addr} (l : excLook K C = true) (hK : X.K = K := by rfl) : CallR X (.builtin "isinstance") (fun xs H Q => ∃ e n b, xs = [.ref e, .ty n] ∧ H e = some (ExcO e (.ref C)) ∧ PySem.W.kitOne K (.ref C) (.type n) = some b ∧ Q (.bl b) H) := by
  subst hK
  intro pins s σ H xs us Q I r h
  obtain ⟨e, D, b, rfl, he, hb, q⟩ := h
  obtain ⟨u, w', rfl, r1, r2⟩ := vals2 r
  cases r1
  cases r2
  exact PySem.W.kia_one (exc_kitx l) I.kIn (exc_at I he) hb (fun z => nomatch z) fun tk => ⟨.bl b, H, I.tok tk, rfl, q⟩
theorem bt_ValueError : bootBuiltins "ValueError" = some (.type "ValueError") := by decide +kernel
theorem bt_max : bootBuiltins "max" = some (.builtin "max") := by decide +kernel
theorem kcall_all (K : PySem.W.Frag) (hc : X.calm = true) (hK : X.K = K := by rfl) : CallR X (.builtin "all") (fun xs H Q => ∃ (p : Addr) (bs : List Bool), xs = [.ref p] ∧ SqL K H p (bs.map V.bl) ∧ Q (.bl (bs.all id)) H) := hK ▸ call_all hc
end
end L2

set_option Elab.async false
set_option linter.all false
set_option maxRecDepth 100000
set_option maxHeartbeats 4000000
namespace L2
open PySem PySem.Spec PyProof.Rows
/-! a range by steps -/
section
variable {X : Cx} {tg : Expr}
/-! (a, b, ..) = a list of that length -/
/-! != of two tuples of flat values -/
theorem kcall_max2 (K : PySem.W.Frag) (hc : X.calm = true) : CallR X (.builtin "max") (fun xs H Q => ∃ i j, xs = [.int i, .int j] ∧ Q (.int (if j > i then j else i)) H) := call_max2 hc
end
end L2

set_option Elab.async false
set_option linter.all false
set_option maxRecDepth 100000
set_option maxHeartbeats 4000000
namespace L2
open PySem PySem.Spec PyProof.Rows
/-! sets of texts, made of a list -/
section
variable {prog : Program} {w : World} {A : Around} {E : Value → Shared → Prop} {s : Shared}
end
section
variable {X : Cx}
end
end L2

set_option Elab.async false
set_option linter.all false
set_option maxRecDepth 100000
set_option maxHeartbeats 4000000
namespace L2
open PySem PySem.Spec PyProof.Rows
/-! zip(t, u) of two tuples -/
section
variable {prog : Program} {w : World} {A : Around} {E : Value → Shared → Prop} {s : Shared}
variable {z TI TO i1 i2 t1 t2 : Addr} {xs ys : Array Value} {k1 k2 : Nat}
end
end L2
namespace L2
open PySem PySem.Spec PyProof.Rows
section
variable {X : Cx}
end
end L2

set_option Elab.async false
set_option linter.all false
set_option maxRecDepth 100000
set_option maxHeartbeats 4000000
namespace L2
open PySem PySem.Spec PyProof.Rows
section
variable {X : Cx}
end
/-! == and != of things that are alike, tuples within tuples -/
def Alike (H : Hp) : Nat → V → V → Prop
  | 0, v, u => v = u ∧ flatV v = true
  | n + 1, v, u => (v = u ∧ flatV v = true) ∨ ∃ a b xs ys, v = .ref a ∧ u = .ref b ∧ H a = some (.tup xs) ∧ H b = some (.tup ys) ∧ Paired (Alike H n) xs ys
theorem eqV_self {v : V} (h : flatV v = true) : eqV v v = true := by
  cases v with
  | non => rfl
  | bl b => simp [eqV]
  | int i => simp [eqV]
  | str x => simp [eqV]
  | _ => cases h
theorem Paired.at {α β : Type} {F : α → β → Prop} : ∀ {l₁ : List α} {l₂ : List β}, Paired F l₁ l₂ → ∀ (i : Nat) (x : α) (y : β), l₁[i]? = some x → l₂[i]? = some y → F x y
  | _, _, .nil, i, x, y, h, _ => by simp at h
  | _, _, .cons r t, 0, x, y, h, k => by simp at h k; subst h k; exact r
  | _, _, .cons r t, i + 1, x, y, h, k => Paired.at t i x y (by simpa using h) (by simpa using k)
section
variable {X : Cx} {pins : List (Addr × Obj)} {σ : St} {H : Hp} {s : Shared}
theorem alike_parts {A : Around} {n : Nat} {xs ys : List V} {us vs : List Value} (ih : ∀ {v u : V} {v' u' : Value}, RelV v v' → RelV u u' → Alike H n v u → SeqAt.EqAt A s v' u' true) (r1 : Vals xs us) (r2 : Vals ys vs) (pr : Paired (Alike H n) xs ys) (j : Nat) (h1 : j < us.toArray.size) (h2 : j < vs.toArray.size) :
    SeqAt.EqAt A s us.toArray[j] vs.toArray[j] true := by
  have l1 := r1.length
  have l2 := r2.length
  have g1 : j < us.length := by simpa using h1
  have g2 : j < vs.length := by simpa using h2
  have k1 : xs[j]? = some (xs.getD j .non) := by simp [List.getD, show j < xs.length by omega]
  have k2 : ys[j]? = some (ys.getD j .non) := by simp [List.getD, show j < ys.length by omega]
  obtain ⟨u, e1, q1⟩ := r1.get k1
  obtain ⟨v, e2, q2⟩ := r2.get k2
  have w1 : us.toArray[j] = u := by
    rw [List.getElem?_eq_getElem g1] at e1
    simpa using Option.some.inj e1
  have w2 : vs.toArray[j] = v := by
    rw [List.getElem?_eq_getElem g2] at e2
    simpa using Option.some.inj e2
  rw [w1, w2]
  exact ih q1 q2 (Paired.at pr j _ _ k1 k2)
theorem alike_eq (I : Inv X pins σ H s) : ∀ (n : Nat) {A : Around} {v u : V} {v' u' : Value}, A.units + n < cLine → RelV v v' → RelV u u' → Alike H n v u → SeqAt.EqAt A s v' u' true
  | 0, A, v, u, v', u', _, r1, r2, h => by
    obtain ⟨rfl, f⟩ := h
    have := eqAt_V (A := A) (s := s) r1 r2 f f
    rw [eqV_self f] at this
    exact this
  | n + 1, A, v, u, v', u', hu, r1, r2, h => by
    rcases h with ⟨rfl, f⟩ | ⟨a, b, xs, ys, rfl, rfl, ha, hb, pr⟩
    · have := eqAt_V (A := A) (s := s) r1 r2 f f
      rw [eqV_self f] at this
      exact this
    · cases r1
      cases r2
      by_cases ab : a = b
      · subst ab
        exact SeqAt.EqAt.same _
      · obtain ⟨_, us, q1, p1⟩ := I.hok a _ ha
        obtain ⟨_, vs, q2, p2⟩ := I.hok b _ hb
        have ln := Paired.length pr
        have l1 := q1.length
        have l2 := q2.length
        have z := SeqAt.RcAt.tuples (A := A) (s := s) (e := fun _ => true) p1.isTup p2.isTup (by omega) (alike_parts (A := A.in1) (fun {v u v' u'} a1 a2 a3 => alike_eq I n (A := A.in1) (by show A.units + 1 + n < cLine; omega) a1 a2 a3) q1 q2 pr)
        have e : ((List.range (min us.toArray.size vs.toArray.size)).all (fun _ => true) && us.toArray.size == vs.toArray.size) = true := by
          simp; omega
        rw [e] at z
        exact SeqAt.EqAt.of_refs ab z
def rNeD (n : Nat) : R2 := fun x y H Q => ∃ a b xs ys, x = .ref a ∧ y = .ref b ∧ H a = some (.tup xs) ∧ H b = some (.tup ys) ∧ Paired (Alike H n) xs ys ∧ Q (.bl false) H
theorem op_neD (n : Nat) {k : Nat} (hr : Room k X.A) (hn : n ≤ 20) : OpR X (compareOp .NotEq) (rNeD n) := by
  intro pins s σ H x y v u Q I rx ry h
  obtain ⟨a, b, xs, ys, rfl, rfl, ha, hb, pr, q⟩ := h
  cases rx
  cases ry
  have hu : X.A.units + 64 < cLine := hr.units
  obtain ⟨_, us, q1, p1⟩ := I.hok a _ ha
  obtain ⟨_, vs, q2, p2⟩ := I.hok b _ hb
  have ln := Paired.length pr
  have l1 := q1.length
  have l2 := q2.length
  have z := SeqAt.RcNeAt.tuples (A := X.A) (s := s) (e := fun _ => true) p1.isTup p2.isTup (by omega) (alike_parts (A := X.A.in1) (fun {v u v' u'} a1 a2 a3 => alike_eq I n (A := X.A.in1) (by show X.A.units + 1 + n < cLine; omega) a1 a2 a3) q1 q2 pr)
  have e : (!((List.range (min us.toArray.size vs.toArray.size)).all (fun _ => true) && us.toArray.size == vs.toArray.size)) = false := by
    simp; omega
  rw [e] at z
  exact z X.prog X.w _ _ ⟨.bl _, H, I, rfl, q⟩
end
end L2

set_option Elab.async false
set_option linter.all false
set_option maxRecDepth 100000
set_option maxHeartbeats 4000000
namespace L2
open PySem PySem.Spec PyProof.Rows
end L2

set_option Elab.async false
set_option linter.all false
set_option maxRecDepth 100000
set_option maxHeartbeats 4000000
namespace L4
open PySem L2
/-! pools: a list of three ints, of which nothing more is known -/
theorem same_new {H : Hp} {p : Addr} (h : H p = none) (o : HO) : Same H (upd H p o) := fun b u q => by rw [upd_ne (ne_of_none q h)]; exact q
theorem take_snoc {α : Type} {xs : List α} {i : Nat} {x : α} (h : xs[i]? = some x) : xs.take (i + 1) = xs.take i ++ [x] := by rw [List.take_add_one, h]; rfl
theorem small9 {n : Nat} (h : n ≤ 1000) : n ≤ sizeLine := Nat.le_of_lt (small1000 h)
end L4

set_option Elab.async false
set_option linter.all false
set_option maxRecDepth 100000
set_option maxHeartbeats 4000000
namespace Fr
theorem gcd_step' (l s : Int) (h : 0 < s) : Int.gcd s (l % s) = Int.gcd l s := by
  have e : l % s = l - s * (l / s) := by rw [Int.emod_def]
  rw [e]
  have : Int.gcd s (l - s * (l / s)) = Int.gcd s l := by
    rw [Int.gcd_comm, Int.gcd_comm s l]
    simp
  rw [this, Int.gcd_comm]
def sg (t b : Int) : Int := if 0 < b then (Int.gcd t b : Int) else -(Int.gcd t b : Int)
theorem frac {t b : Int} (hb : b ≠ 0) : sg t b ≠ 0 ∧ 0 < b.fdiv (sg t b) ∧ Int.gcd (t.fdiv (sg t b)) (b.fdiv (sg t b)) = 1 ∧ t.fdiv (sg t b) * b = t * b.fdiv (sg t b) ∧ (sg t b).natAbs ≤ b.natAbs ∧ (t.fdiv (sg t b)).natAbs ≤ t.natAbs ∧ (b.fdiv (sg t b)).natAbs ≤ b.natAbs := by
  have hd : 0 < Int.gcd t b := Int.gcd_pos_of_ne_zero_right t hb
  have hdl : Int.gcd t b ≤ b.natAbs := Nat.le_of_dvd (by omega) (Int.gcd_dvd_natAbs_right t b)
  have d1 : (Int.gcd t b : Int) ∣ t := Int.gcd_dvd_left t b
  have d2 : (Int.gcd t b : Int) ∣ b := Int.gcd_dvd_right t b
  have hg : sg t b ≠ 0 := by unfold sg; split <;> omega
  have hga : (sg t b).natAbs = Int.gcd t b := by unfold sg; split <;> omega
  have e1 : sg t b ∣ t := by unfold sg; split; exact d1; exact Int.neg_dvd.mpr d1
  have e2 : sg t b ∣ b := by unfold sg; split; exact d2; exact Int.neg_dvd.mpr d2
  have hpos : 0 < sg t b ↔ 0 < b := by unfold sg; split <;> omega
  generalize sg t b = g at *
  obtain ⟨x, hx⟩ := e1
  obtain ⟨y, hy⟩ := e2
  have fx : t.fdiv g = x := by rw [hx]; exact Int.mul_fdiv_cancel_left x hg
  have fy : b.fdiv g = y := by rw [hy]; exact Int.mul_fdiv_cancel_left y hg
  rw [fx, fy]
  have ga : Int.gcd t b = g.natAbs * Int.gcd x y := by rw [hx, hy, Int.gcd_mul_left]
  have g1 : Int.gcd x y = 1 := by
    rw [hga] at ga
    have : Int.gcd t b * 1 = Int.gcd t b * Int.gcd x y := by omega
    exact (Nat.eq_of_mul_eq_mul_left hd this).symm
  have ny : y ≠ 0 := by intro z; rw [z, Int.mul_zero] at hy; exact hb hy
  refine ⟨hg, ?_, g1, ?_, by omega, ?_, ?_⟩
  · by_cases hbp : 0 < b
    · have hgp := hpos.mpr hbp
      rw [hy] at hbp
      exact Int.pos_of_mul_pos_right hbp hgp |> fun z => z
    · have hgn : g < 0 := by
        rcases Int.lt_trichotomy g 0 with z | z | z
        · exact z
        · exact absurd z hg
        · exact absurd (hpos.mp z) hbp
      rcases Int.lt_trichotomy y 0 with z | z | z
      · exfalso
        apply hbp
        rw [hy]
        exact Int.mul_pos_of_neg_of_neg hgn z
      · exact absurd z ny
      · exact z
  · rw [hx, hy]
    rw [← Int.mul_assoc, Int.mul_comm x g]
  · rw [hx, Int.natAbs_mul]
    exact Nat.le_mul_of_pos_left _ (by omega)
  · rw [hy, Int.natAbs_mul]
    exact Nat.le_mul_of_pos_left _ (by omega)
end Fr
namespace Fr
theorem ratmk {x y : Int} (y0 : 0 < y) (g : Int.gcd x y = 1) : (Rat.divInt x y).num = x ∧ ((Rat.divInt x y).den : Int) = y := by
  have yn : y.toNat ≠ 0 := by omega
  have ye : (y.toNat : Int) = y := Int.toNat_of_nonneg (Int.le_of_lt y0)
  have c : Nat.Coprime x.natAbs y.toNat := by
    have e : y.toNat = y.natAbs := by omega
    unfold Nat.Coprime
    rw [e]
    exact g
  have h : (⟨x, y.toNat, yn, c⟩ : Rat) = Rat.divInt x y := by
    rw [Rat.mk_eq_divInt, ye]
  rw [← h]
  exact ⟨rfl, ye⟩
theorem fracR {t b : Int} (hb : b ≠ 0) : t.fdiv (sg t b) = (Rat.divInt t b).num ∧ b.fdiv (sg t b) = ((Rat.divInt t b).den : Int) ∧ (Rat.divInt t b).num.natAbs ≤ t.natAbs ∧ ((Rat.divInt t b).den : Int).natAbs ≤ b.natAbs := by
  obtain ⟨_, f2, f3, f4, _, f6, f7⟩ := frac (t := t) hb
  have e : Rat.divInt (t.fdiv (sg t b)) (b.fdiv (sg t b)) = Rat.divInt t b := (Rat.divInt_eq_divInt_iff (by omega) hb).mpr f4
  obtain ⟨h1, h2⟩ := ratmk f2 f3
  rw [e] at h1 h2
  rw [h1, h2]
  exact ⟨rfl, rfl, f6, f7⟩
theorem ratself (r : Rat) : Rat.divInt r.num r.den = r := Rat.num_divInt_den r
theorem den0 (r : Rat) : (r.den : Int) ≠ 0 := by
  have := r.den_nz
  omega
theorem denp (r : Rat) : 0 < (r.den : Int) := by
  have := r.den_nz
  omega
theorem ratadd (r s : Rat) : Rat.divInt (r.num * s.den + s.num * r.den) (r.den * s.den) = r + s := by
  rw [← Rat.divInt_add_divInt _ _ (den0 r) (den0 s), ratself, ratself]
theorem ratsub (r s : Rat) : Rat.divInt (r.num * s.den - s.num * r.den) (r.den * s.den) = r - s := by
  rw [← Rat.divInt_sub_divInt _ _ (den0 r) (den0 s), ratself, ratself]
theorem ratmul (r s : Rat) : Rat.divInt (r.num * s.num) (r.den * s.den) = r * s := by
  rw [← Rat.divInt_mul_divInt, ratself, ratself]
end Fr
namespace L4
open PySem L2
/-! fractions at the heap: pairs in lowest terms, of at most n bits -/
def Sz (n : Nat) (i : Int) : Prop := i.natAbs < 2 ^ n
theorem Sz.mul {n m : Nat} {i j : Int} (h : Sz n i) (k : Sz m j) : Sz (n + m) (i * j) := by
  unfold Sz at *
  rw [Int.natAbs_mul, Nat.pow_add]
  exact Nat.mul_lt_mul'' h k
theorem Sz.add {n : Nat} {i j : Int} (h : Sz n i) (k : Sz n j) : Sz (n + 1) (i + j) := by
  unfold Sz at *
  rw [Nat.pow_succ]
  omega
theorem Sz.sub {n : Nat} {i j : Int} (h : Sz n i) (k : Sz n j) : Sz (n + 1) (i - j) := by
  unfold Sz at *
  rw [Nat.pow_succ]
  omega
theorem Sz.mono {n m : Nat} {i : Int} (h : Sz n i) (k : n ≤ m) : Sz m i := Nat.lt_of_lt_of_le h (Nat.pow_le_pow_right (by decide) k)
theorem Sz.mid {n : Nat} {i : Int} (h : Sz n i) (k : n ≤ 8000) : Mid i := h.mono k
theorem Sz.le {n : Nat} {i j : Int} (h : Sz n j) (k : i.natAbs ≤ j.natAbs) : Sz n i := Nat.lt_of_le_of_lt k h
theorem mul_ne {i j : Int} (h : 0 < i) (k : 0 < j) : i * j ≠ 0 := Int.ne_of_gt (Int.mul_pos h k)
def spShared : Sp := fun vs H Q _ => ∃ a b : Int, vs = [.int a, .int b] ∧ Q (.int (Int.gcd a b : Int)) H
def spFrac (C : Addr) : Sp := fun vs H Q E => ∃ t b : Int, vs = [.int t, .int b] ∧ Mid b ∧ (b = 0 → E (.ref C) none H) ∧ (b ≠ 0 → ∀ p, H p = none → Q (.ref p) (upd H p (.tup [.int (t.fdiv (Fr.sg t b)), .int (b.fdiv (Fr.sg t b))])))
abbrev tupR (r : Rat) : HO := .tup [.int r.num, .int r.den]
theorem _root_.L2.SqT.same {K : PySem.W.Frag} {H H' : Hp} {a : Addr} {xs : List V} (h : SqT K H a xs) (e : Same H H') : SqT K H' a xs := by
  rcases h with (h | ⟨o, h⟩) | h
  · exact .inl (.inl (e _ _ h))
  · exact .inl (.inr ⟨o, e _ _ h⟩)
  · exact .inr h
theorem _root_.L2.SqT.put {K : PySem.W.Frag} {H : Hp} {a D : Addr} {xs ys : List V} {o : HO} (h : SqT K H a xs) (hD : H D = some (.lst ys)) : SqT K (upd H D o) a xs := by
  rcases h with (h | ⟨u, h⟩) | h
  · exact .inl (.inl (by rw [upd_ne (ne_of h hD (by intro z; cases z))]; exact h))
  · exact .inl (.inr ⟨u, by rw [upd_ne (ne_of h hD (by intro z; cases z))]; exact h⟩)
  · exact .inr h
def FR (K : PySem.W.Frag) (H : Hp) (v : V) (r : Rat) (n : Nat) : Prop := ∃ p, v = .ref p ∧ SqT K H p [.int r.num, .int r.den] ∧ Sz n r.num ∧ Sz n r.den
theorem FR.same {K : PySem.W.Frag} {H H' : Hp} {v : V} {r : Rat} {n : Nat} (h : FR K H v r n) (s : Same H H') : FR K H' v r n := by
  obtain ⟨p, e, hp, k⟩ := h
  exact ⟨p, e, hp.same s, k⟩
theorem FR.mono {K : PySem.W.Frag} {H : Hp} {v : V} {r : Rat} {n m : Nat} (h : FR K H v r n) (k : n ≤ m) : FR K H v r m := by
  obtain ⟨p, e, hp, a, b⟩ := h
  exact ⟨p, e, hp, a.mono k, b.mono k⟩
theorem FR.put {K : PySem.W.Frag} {H : Hp} {v : V} {r : Rat} {n : Nat} {D : Addr} {xs : List V} {o : HO} (h : FR K H v r n) (hD : H D = some (.lst xs)) : FR K (upd H D o) v r n := by
  obtain ⟨p, e, hp, k⟩ := h
  exact ⟨p, e, hp.put hD, k⟩
theorem FR.new {K : PySem.W.Frag} {H : Hp} {p : Addr} {r : Rat} {n : Nat} (a : Sz n r.num) (b : Sz n r.den) : FR K (upd H p (tupR r)) (.ref p) r n := ⟨p, rfl, SqT.of upd_same, a, b⟩
def spR (K : PySem.W.Frag) (op : Rat → Rat → Rat) : Sp := fun vs H Q _ => ∃ (a b : V) (r s : Rat) (n m : Nat), vs = [a, b] ∧ FR K H a r n ∧ FR K H b s m ∧ n + m ≤ 7000 ∧ ∀ v H', Same H H' → FR K H' v (op r s) (n + m + 1) → Q v H'
theorem ansR {K : PySem.W.Frag} {H : Hp} {n : Nat} {t b : Int} {r : Rat} {Q : VK} (h : ∀ v H', Same H H' → FR K H' v r n → Q v H') (e : Rat.divInt t b = r) (nb : b ≠ 0) (st : Sz n t) (sb : Sz n b) : ∀ p, H p = none → Q (.ref p) (upd H p (.tup [.int (t.fdiv (Fr.sg t b)), .int (b.fdiv (Fr.sg t b))])) := fun p hp => by
  subst e
  obtain ⟨f1, f2, f3, f4⟩ := Fr.fracR (t := t) nb
  rw [f1, f2]
  exact h _ _ (same_new hp _) (FR.new (st.le f3) (sb.le f4))
theorem _root_.L2.Same.put {H H' : Hp} {l : Addr} {o : HO} (h : Same H H') (n : H l = none) : Same H (upd H' l o) := fun b u e => by rw [upd_ne (ne_of_none e n)]; exact h b u e
/-- fractions in a row: the values, and what they are worth -/
def FRs (K : PySem.W.Frag) (H : Hp) (zs : List (V × Rat)) (n : Nat) : Prop := ∀ z ∈ zs, FR K H z.1 z.2 n
end L4

set_option Elab.async false
set_option linter.all false
namespace L2
open PySem PySem.Spec PyProof.Rows
variable {X : Cx}
theorem pe_globR {x : Str} {v : V} {pos : Pos} (hg : Gl X x) (hm : ∃ u, X.mg x = some u ∧ RelV v u) (hd : (x == ("__debug__" : Str)) = false := by decide) : PE X (.Name x pos) (tC v) := by
  obtain ⟨u, h, r⟩ := hm
  exact pe_glob hg h r hd
end L2

set_option Elab.async false
set_option linter.all false
set_option maxRecDepth 100000
set_option maxHeartbeats 4000000
namespace HT
open PySem PyProof.Rows
open PySem.SeqAt
open PySem.AutoSeq1 (wpAny_loadPart')
open PySem.MeetsSeq PySem.MeetsSeq2 PySem.MeetsSeq3
variable {prog : Program} {w : World} {A : Around} {E : Value → Shared → Prop} {s : Shared}
end HT
namespace L2
open PySem PySem.Spec PyProof.Rows
variable {X : Cx}
end L2

set_option Elab.async false
set_option linter.all false
set_option maxRecDepth 100000
set_option maxHeartbeats 4000000
namespace L2
open PySem PySem.Spec PyProof.Rows
section
variable {X : Cx}
end
end L2

set_option Elab.async false
set_option linter.all false
set_option maxRecDepth 100000
set_option maxHeartbeats 4000000
namespace L4
open PySem L2
/-! names and pigeons -/
/-! half tables as data -/
end L4

set_option Elab.async false
set_option linter.all false
set_option maxRecDepth 100000
set_option maxHeartbeats 4000000
namespace L4
open PySem L2 PySem.StrLaws
/-! texts put together and taken apart again -/
/-! figures -/
end L4

set_option Elab.async false
set_option linter.all false
set_option maxRecDepth 100000
set_option maxHeartbeats 4000000
namespace L4
open PySem L2 PySem.StrLaws
/-! good names, good half tables -/
end L4

set_option Elab.async false
set_option linter.all false
set_option maxRecDepth 100000
set_option maxHeartbeats 4000000
namespace L4
open PySem L2
/-! comprehensions that only tell: every part by itself -/
theorem map_tup {α : Type} {K : PySem.W.Frag} {a D : Addr} {t : Nat} {te : TE} {σ0 : St} {H1 : Hp} {Q : VK} (as : List α) (g h : α → V) (ha : H1 a = some (.tup (as.map g))) (hl : as.length ≤ 1000) (hD : H1 D = none)
    (he : ∀ z ∈ as, ∀ H' Q', Same H1 H' → (∀ H'', Same H' H'' → Q' (h z) H'') → te (σ0.set t (some (g z))) H' Q')
    (q : ∀ H', Same H1 H' → H' D = some (.lst (as.map h)) → Q (.ref D) H') : CompGo (Itt K a) (gName t) tYes te σ0 H1 Q D := by
  refine comp_tup (xs := as.map g) (fun i ys H' => Same H1 H' ∧ ys = (as.take i).map h) ⟨same_new hD _, rfl⟩ (fun i ys H' hh _ => SqT.of (hh.1 _ _ ha)) ?_ ?_
  · rintro i ys H' x hx ⟨s1, rfl⟩ hD'
    have hi : i < (as.map g).length := (List.getElem?_eq_some_iff.mp hx).1
    rw [List.getElem?_map] at hx
    obtain ⟨z, hz, rfl⟩ := Option.map_eq_some_iff.mp hx
    refine yes (he z (List.mem_of_getElem? hz) H' _ s1 fun H'' s2 => ?_)
    rw [List.length_map] at hi
    refine cyes (by rw [List.length_map]; exact hi) rset1 (s2 _ _ hD') (by rw [List.length_map, List.length_take]; exact small1000 (by omega)) ⟨fun b o qb => ?_, ?_⟩
    · rw [upd_ne (ne_of_none qb hD)]
      exact s2 b o (s1 b o qb)
    · rw [take_snoc hz, List.map_append]
      rfl
  · rintro ys H' ⟨s1, rfl⟩ hD'
    rw [List.length_map, List.take_length] at hD'
    exact q H' s1 hD'
theorem trues {α : Type} (as : List α) : as.map (fun _ => V.bl true) = (as.map fun _ => true).map V.bl := by rw [List.map_map]; rfl
theorem all_trues {α : Type} (as : List α) : (as.map fun _ => true).all id = true := by
  rw [List.all_eq_true]
  intro x hx
  obtain ⟨_, _, rfl⟩ := List.mem_map.mp hx
  rfl
end L4

set_option Elab.async false
set_option linter.all false
set_option maxRecDepth 100000
set_option maxHeartbeats 4000000
namespace L4
open PySem L2 PySem.StrLaws
/-! things of any kind -/
inductive Th where
  | non
  | bl (b : Bool)
  | int (i : Int)
  | str (x : Str)
  | lst
  | dct
  | tup (ts : List Th)
inductive IsTh (H : Hp) : Th → V → Prop where
  | non : IsTh H .non .non
  | bl (b : Bool) : IsTh H (.bl b) (.bl b)
  | int (i : Int) : IsTh H (.int i) (.int i)
  | str (x : Str) (h : x.length ≤ 3000) : IsTh H (.str x) (.str x)
  | lst {a : Addr} {xs : List V} (e : H a = some (.lst xs)) : IsTh H .lst (.ref a)
  | dct {a : Addr} {kvs : List (Key × V)} (e : H a = some (.dK kvs)) : IsTh H .dct (.ref a)
  | tup {a : Addr} {ts : List Th} {xs : List V} (e : H a = some (.tup xs)) (hl : ts.length = xs.length) (h8 : ts.length ≤ 1000) (hi : ∀ (i : Nat) (t : Th) (x : V), ts[i]? = some t → xs[i]? = some x → IsTh H t x) : IsTh H (.tup ts) (.ref a)
theorem IsTh.same {H H' : Hp} (s : Same H H') {t : Th} {v : V} (h : IsTh H t v) : IsTh H' t v := by
  induction h with
  | non => exact .non
  | bl b => exact .bl b
  | int i => exact .int i
  | str x h => exact .str x h
  | lst e => exact .lst (s _ _ e)
  | dct e => exact .dct (s _ _ e)
  | tup e hl h8 hi ih => exact .tup (s _ _ e) hl h8 ih
theorem IsTh.get {H : Hp} {ts : List Th} {a : Addr} (h : IsTh H (.tup ts) (.ref a)) : ∃ xs, H a = some (.tup xs) ∧ ts.length = xs.length ∧ ts.length ≤ 1000 ∧ ∀ (i : Nat) (t : Th), ts[i]? = some t → ∃ x, xs[i]? = some x ∧ IsTh H t x := by
  cases h with
  | tup e hl h8 hi =>
    refine ⟨_, e, hl, h8, fun i t ht => ?_⟩
    have hil : i < ts.length := (List.getElem?_eq_some_iff.mp ht).1
    rename_i xs
    have hx : xs[i]? = some (xs.getD i .non) := by simp [List.getD, show i < xs.length by omega]
    exact ⟨_, hx, hi i t _ ht hx⟩
theorem IsTh.ref {H : Hp} {ts : List Th} {v : V} (h : IsTh H (.tup ts) v) : ∃ a, v = .ref a := by
  cases h with
  | tup e hl h8 hi => exact ⟨_, rfl⟩
def tyTh : Th → Value
  | .non => .type "NoneType"
  | .bl _ => .type "bool"
  | .int _ => .type "int"
  | .str _ => .type "str"
  | .lst => .type "list"
  | .dct => .type "dict"
  | .tup _ => .type "tuple"
theorem IsTh.ty {K : PySem.W.Frag} {H : Hp} {t : Th} {v : V} (h : IsTh H t v) : TyOf K H v (tyTh t) := by
  cases h with
  | non => exact .non
  | bl b => exact .bl b
  | int i => exact .int i
  | str x h => exact .str x
  | lst e => exact .lst e
  | dct e => exact .dK e
  | tup e hl h8 hi => exact .tup e
def isIntB : Th → Bool
  | .bl _ => true
  | .int _ => true
  | _ => false
def isBoolB : Th → Bool
  | .bl _ => true
  | _ => false
def isStrB : Th → Bool
  | .str _ => true
  | _ => false
def isTupB : Th → Bool
  | .tup _ => true
  | _ => false
theorem kit_int {K : PySem.W.Frag} (t : Th) : PySem.W.kitOne K (tyTh t) (.type "int") = some (isIntB t) := by cases t <;> first | rfl | exact kit_same _
theorem kit_bool {K : PySem.W.Frag} (t : Th) : PySem.W.kitOne K (tyTh t) (.type "bool") = some (isBoolB t) := by cases t <;> first | rfl | exact kit_same _
theorem kit_str {K : PySem.W.Frag} (t : Th) : PySem.W.kitOne K (tyTh t) (.type "str") = some (isStrB t) := by cases t <;> first | rfl | exact kit_same _
theorem kit_tup {K : PySem.W.Frag} (t : Th) : PySem.W.kitOne K (tyTh t) (.type "tuple") = some (isTupB t) := by cases t <;> first | rfl | exact kit_same _
/-! what the document says of them -/
def wholeB : Th → Bool
  | .int _ => true
  | _ => false
end L4

set_option Elab.async false
set_option linter.all false
set_option maxRecDepth 100000
set_option maxHeartbeats 4000000
namespace L4
open PySem L2 PySem.StrLaws
theorem zip_snd {α β : Type} : ∀ (as : List α) (bs : List β), as.length = bs.length → (as.zip bs).map Prod.snd = bs
  | [], [], _ => rfl
  | a :: as, b :: bs, h => by
    rw [List.zip_cons_cons, List.map_cons, zip_snd as bs (by simpa using h)]
theorem zip_mem {H : Hp} {ts : List Th} {a : Addr} {xs : List V} (h : IsTh H (.tup ts) (.ref a)) (e : H a = some (.tup xs)) {p : Th × V} (hp : p ∈ ts.zip xs) : IsTh H p.1 p.2 := by
  obtain ⟨i, hi⟩ := List.getElem?_of_mem hp
  rw [List.getElem?_zip_eq_some] at hi
  cases h with
  | tup e' hl h8 hh =>
    rw [e] at e'
    cases e'
    exact hh i _ _ hi.1 hi.2
end L4

set_option Elab.async false
set_option linter.all false
set_option maxRecDepth 100000
set_option maxHeartbeats 4000000
namespace L4
open PySem L2 PySem.StrLaws
/-! a thing that is a half table, as data -/
end L4

set_option Elab.async false
set_option linter.all false
set_option maxRecDepth 100000
set_option maxHeartbeats 4000000
namespace L4
open PySem L2
/-! displays that make things; X: lists that are still written on, which no thing has -/
open Classical in
noncomputable def cutH (X : Addr → Prop) (H : Hp) : Hp := fun b => if X b then none else H b
theorem cut_yes {X : Addr → Prop} {H : Hp} {b : Addr} (h : ¬ X b) : cutH X H b = H b := by
  unfold cutH
  rw [if_neg h]
theorem cut_no {X : Addr → Prop} {H : Hp} {b : Addr} (h : X b) : cutH X H b = none := by
  unfold cutH
  rw [if_pos h]
theorem cut_of {X : Addr → Prop} {H : Hp} {b : Addr} {o : HO} (h : cutH X H b = some o) : ¬ X b ∧ H b = some o := by
  by_cases hx : X b
  · rw [cut_no hx] at h
    cases h
  · rw [cut_yes hx] at h
    exact ⟨hx, h⟩
theorem cut_same {X : Addr → Prop} {H H' : Hp} (s : Same H H') : Same (cutH X H) (cutH X H') := fun b o h => by
  obtain ⟨h1, h2⟩ := cut_of h
  rw [cut_yes h1]
  exact s _ _ h2
theorem cut_upd {X : Addr → Prop} {H : Hp} {p : Addr} {o : HO} (h : X p) : cutH X (upd H p o) = cutH X H := by
  funext b
  by_cases hb : X b
  · rw [cut_no hb, cut_no hb]
  · rw [cut_yes hb, cut_yes hb, upd_ne (fun z => hb (by rw [z]; exact h))]
def Ths (H : Hp) : List Th → List V → Prop := Paired fun t v => IsTh H t v
theorem Ths.same {H H' : Hp} (s : Same H H') {ts : List Th} {vs : List V} (h : Ths H ts vs) : Ths H' ts vs := by
  unfold Ths at h ⊢
  induction h with
  | nil => exact .nil
  | cons r _ ih => exact .cons (r.same s) ih
theorem Ths.at {H : Hp} {ts : List Th} {vs : List V} (h : Ths H ts vs) : ∀ (i : Nat) (t : Th) (v : V), ts[i]? = some t → vs[i]? = some v → IsTh H t v := fun i t v a b => Paired.at h i t v a b
theorem Ths.len {H : Hp} {ts : List Th} {vs : List V} (h : Ths H ts vs) : ts.length = vs.length := Paired.length h
theorem Ths.get {H : Hp} {ts : List Th} {vs : List V} (h : Ths H ts vs) {i : Nat} {v : V} (e : vs[i]? = some v) : ∃ t, t ∈ ts ∧ IsTh H t v := by
  have hl := h.len
  have hi : i < vs.length := (List.getElem?_eq_some_iff.mp e).1
  have ht : ts[i]? = some (ts.getD i .non) := by simp [List.getD, show i < ts.length by omega]
  exact ⟨_, List.mem_of_getElem? ht, h.at i _ _ ht e⟩
theorem Ths.tup {H : Hp} {ts : List Th} {vs : List V} {p : Addr} (h : Ths H ts vs) (e : H p = some (.tup vs)) (h8 : ts.length ≤ 1000) : IsTh H (.tup ts) (.ref p) := .tup e h.len h8 fun i t v a b => h.at i t v a b
section
variable {X : Addr → Prop} {H0 : Hp} {σ : St}
end
end L4

set_option Elab.async false
set_option linter.all false
set_option maxRecDepth 100000
set_option maxHeartbeats 4000000
namespace L4
open PySem L2
theorem ths_map {α : Type} {H : Hp} (f : α → Th) (g : α → V) : ∀ (as : List α), (∀ a ∈ as, IsTh H (f a) (g a)) → Ths H (as.map f) (as.map g)
  | [], _ => .nil
  | a :: as, h => .cons (h a List.mem_cons_self) (ths_map f g as fun b hb => h b (List.mem_cons_of_mem _ hb))
end L4

set_option Elab.async false
set_option linter.all false
set_option maxRecDepth 100000
set_option maxHeartbeats 4000000
namespace L4
open PySem L2
end L4

set_option Elab.async false
set_option linter.all false
set_option maxRecDepth 100000
set_option maxHeartbeats 4000000
namespace L2
open PySem PySem.Spec PyProof.Rows
open Builtin
section
variable {X : Cx}
end
end L2

set_option Elab.async false
set_option linter.all false
set_option maxRecDepth 100000
set_option maxHeartbeats 4000000
namespace L4
open PySem L2
/-! the same for any predicate and any slot -/
section
variable {B : Th → Bool} {H0 H : Hp} {l : Addr} {n : Nat} {σ : St}
end
end L4

set_option Elab.async false
set_option linter.all false
set_option maxRecDepth 100000
set_option maxHeartbeats 4000000
namespace L4
open PySem L2 PySem.StrLaws
/-! any text, read as a table's -/
/-! how long the parts are -/
/-! how a text fails -/
end L4

set_option Elab.async false
set_option linter.all false
set_option maxRecDepth 100000
set_option maxHeartbeats 4000000
namespace L2
open PySem PySem.Spec PyProof.Rows
/-! the count of tokens never goes back -/
end L2

set_option Elab.async false
set_option linter.all false
set_option maxRecDepth 100000
set_option maxHeartbeats 4000000
namespace L2
open PySem PySem.Spec PyProof.Rows PySem.Builtin PySem.Builtin.Str
/-! rules where a token has been drawn -/
section
variable {X : Cx} {e : Expr} {es : List Expr} {te ta tb : TE} {t : TA} {pos : Pos} {a b : Expr} {st : Stmt} {rest : List Stmt} {ts us : TS}
end
end L2

set_option Elab.async false
set_option linter.all false
set_option maxRecDepth 100000
set_option maxHeartbeats 4000000
namespace L2
open PySem PySem.Spec PyProof.Rows PySem.Builtin PySem.Builtin.Str
section
variable {X : Cx}
end
end L2

set_option Elab.async false
set_option linter.all false
set_option maxRecDepth 100000
set_option maxHeartbeats 4000000
namespace L4
open PySem L2 PySem.StrLaws
/-! texts put together of parts of words, and taken apart -/
/-! no "; " within -/
end L4

set_option Elab.async false
set_option linter.all false
set_option maxRecDepth 100000
set_option maxHeartbeats 4000000
namespace L4
open PySem L2 PySem.StrLaws
/-! the words of a good table -/
/-! cells that are none -/
/-! A: a part more -/
/-! B: the last word -/
end L4

set_option Elab.async false
set_option linter.all false
set_option maxRecDepth 100000
set_option maxHeartbeats 4000000
namespace L4
open PySem L2 PySem.StrLaws
section
end
end L4

set_option Elab.async false
set_option linter.all false
set_option maxRecDepth 100000
set_option maxHeartbeats 4000000
namespace L4
open PySem L2
section
variable {X : Addr → Prop} {H0 H : Hp} {σ : St} {B : Th → Bool} {l : Addr} {n : Nat}
/-! slices and repetitions that make things -/
theorem ths_of {H : Hp} : ∀ {ts : List Th} {xs : List V}, ts.length = xs.length → (∀ (i : Nat) (t : Th) (x : V), ts[i]? = some t → xs[i]? = some x → IsTh H t x) → Ths H ts xs
  | [], [], _, _ => .nil
  | t :: ts, x :: xs, hl, h => .cons (h 0 t x rfl rfl) (ths_of (by simpa using hl) fun i t' x' a b => h (i + 1) t' x' (by simpa using a) (by simpa using b))
end
end L4

set_option Elab.async false
set_option linter.all false
set_option maxRecDepth 100000
set_option maxHeartbeats 4000000
namespace L4
open PySem L2
end L4

set_option Elab.async false
set_option linter.all false
set_option maxRecDepth 100000
set_option maxHeartbeats 4000000
namespace L4
open PySem L2
end L4
namespace L4
open PySem L2
end L4

set_option Elab.async false
set_option linter.all false
set_option maxRecDepth 100000
set_option maxHeartbeats 4000000
namespace L4
open PySem L2
/-! good half tables, as things -/
end L4

set_option Elab.async false
set_option linter.all false
set_option maxRecDepth 100000
set_option maxHeartbeats 4000000
namespace L4
open PySem L2 PySem.StrLaws
section
/-! D: parts put otherwise -/
/-! E: where there are connectives -/
end
end L4

set_option Elab.async false
set_option linter.all false
set_option maxRecDepth 100000
set_option maxHeartbeats 4000000
namespace L4
open PySem L2 PySem.StrLaws
/-! displays that make texts, and lists of texts -/
section
variable {X : Addr → Prop} {H0 : Hp} {σ : St} {K : PySem.W.Frag}
end
end L4

set_option Elab.async false
set_option linter.all false
set_option maxRecDepth 100000
set_option maxHeartbeats 4000000
namespace L4
open PySem L2 PySem.StrLaws
section
end
section
end
/-! a great letter -/
/-! the good text -/
/-! two of the same thing are alike -/
def okD : Nat → Th → Bool
  | _, .non => true
  | _, .bl _ => true
  | _, .int _ => true
  | _, .str _ => true
  | n + 1, .tup ts => ts.all (okD n)
  | _, _ => false
theorem ths_in {H : Hp} {ts : List Th} {v : V} (h : IsTh H (.tup ts) v) : ∃ a xs, v = .ref a ∧ H a = some (.tup xs) ∧ Ths H ts xs := by
  cases h with
  | tup e hl h8 hi => exact ⟨_, _, rfl, e, ths_of hl hi⟩
theorem alike_th {H : Hp} : ∀ (n : Nat) {t : Th} {v u : V}, okD n t = true → IsTh H t v → IsTh H t u → Alike H n v u
  | 0, t, v, u, ok, h, k => by
    cases t <;> first | (cases h; cases k; exact ⟨rfl, rfl⟩) | cases ok
  | n + 1, t, v, u, ok, h, k => by
    cases t with
    | tup ts =>
      obtain ⟨a, xs, rfl, ea, hx⟩ := ths_in h
      obtain ⟨b, ys, rfl, eb, hy⟩ := ths_in k
      refine .inr ⟨a, b, xs, ys, rfl, rfl, ea, eb, ?_⟩
      have ok' : ts.all (okD n) = true := ok
      clear ea eb h k ok
      induction ts generalizing xs ys with
      | nil => cases hx; cases hy; exact .nil
      | cons t ts ih =>
        cases hx with
        | cons r1 t1 =>
          cases hy with
          | cons r2 t2 =>
            rw [List.all_cons, Bool.and_eq_true] at ok'
            exact .cons (alike_th n ok'.1 r1 r2) (ih _ t1 _ t2 ok'.2)
    | _ => first | (cases h; cases k; exact .inl ⟨rfl, rfl⟩) | cases ok
theorem ok_ints (n : Nat) : ∀ ws : List Int, (ws.map Th.int).all (okD n) = true
  | [] => rfl
  | i :: ws => by rw [List.map_cons, List.all_cons, ok_ints n ws]; cases n <;> rfl
end L4

set_option Elab.async false
set_option linter.all false
set_option maxRecDepth 100000
set_option maxHeartbeats 4000000
namespace L2
open PySem PySem.Spec PyProof.Rows
section
variable {X : Cx}
/-- != of two lists of flat values, of one length -/
def rNeL (K : PySem.W.Frag) : R2 := fun x y H Q => ∃ p q xs ys, x = .ref p ∧ y = .ref q ∧ SqL K H p xs ∧ SqL K H q ys ∧ xs.all flatV = true ∧ ys.all flatV = true ∧ xs.length = ys.length ∧ Q (.bl (!eqVs xs ys)) H
theorem op_neL (K : PySem.W.Frag) {k : Nat} (hr : Room k X.A) (hK : X.K = K := by rfl) : OpR X (compareOp .NotEq) (rNeL K) := by
  subst hK
  intro pins s σ H x y v u Q I rx ry h
  obtain ⟨p, q, xs, ys, rfl, rfl, h1, h2, f1, f2, hz, hq⟩ := h
  cases rx
  cases ry
  obtain ⟨us, r1, pl1, _⟩ := I.list h1
  obtain ⟨vs, r2, pl2, _⟩ := I.list h2
  have hu : X.A.units < cLine := Nat.lt_of_succ_lt (hu_of hr)
  have l1 := r1.length
  have l2 := r2.length
  refine SeqAt.RcNeAt.lists pl1.isList pl2.isList (by simp; omega) hu (eqAt_get r1 r2 f1 f2) X.prog X.w _ _ ⟨.bl _, H, I, rfl, ?_⟩
  have e : us.toArray.size = xs.length := by simp; omega
  rw [e, range_all xs ys hz]
  unfold eqVs at hq
  rw [hz] at hq
  simpa using hq
theorem callR_or {f : Value} {r1 r2 : List V → Hp → VK → Prop} (h1 : CallR X f r1) (h2 : CallR X f r2) : CallR X f (fun xs H Q => r1 xs H Q ∨ r2 xs H Q) := fun pins s σ H xs us Q I rv h => by
  rcases h with h | h
  · exact h1 pins s σ H xs us Q I rv h
  · exact h2 pins s σ H xs us Q I rv h
theorem bt_min : bootBuiltins "min" = some (.builtin "min") := by decide +kernel
theorem kcall_min2 (K : PySem.W.Frag) (hc : X.calm = true) : CallR X (.builtin "min") (fun xs H Q => ∃ i j, xs = [.int i, .int j] ∧ Q (.int (if j < i then j else i)) H) := call_min2 hc
end
theorem iteDT {c A B : Prop} [Decidable c] (hc : decide c = true) (h : A) : if decide c = true then A else B := by rw [if_pos hc]; exact h
theorem iteDF {c A B : Prop} [Decidable c] (hc : decide c = false) (h : B) : if decide c = true then A else B := by rw [if_neg (by rw [hc]; exact Bool.false_ne_true)]; exact h
/-- a tuple that the top made -/
def KTup (K : PySem.W.Frag) (a : Addr) (xs : List V) : Prop := ∃ (o : Obj) (its : Array Value) (n : Nat), K.lookup a = some o ∧ o.cls = .type "tuple" ∧ o.data = .seq its n ∧ its.size ≤ sizeLine ∧ Vals xs its.toList
theorem KTup.sq {K : PySem.W.Frag} {H : Hp} {a : Addr} {xs : List V} (h : KTup K a xs) : SqT K H a xs := .inr h
/-- over a tuple of pairs, the block's names being the two, and others behind them -/
theorem comp_tt2 {K : PySem.W.Frag} {a : Addr} {n : Nat} {xs : List V} {ad : Nat → Addr} {v1 v2 : Nat → V} {tt : TT} {te : TE} {H1 : Hp} {Q : VK} {D : Addr} {more : St} (P : Nat → List V → Hp → Prop) (h0 : P 0 [] (upd H1 D (.lst []))) (hn : xs.length = n) (hx : ∀ i, i < n → xs[i]? = some (.ref (ad i)))
    (hl : ∀ i ys H, P i ys H → H D = some (.lst ys) → SqT K H a xs) (ht : ∀ i ys H, i < n → P i ys H → SqT K H (ad i) [v1 i, v2 i])
    (hs : ∀ i ys H, i < n → P i ys H → H D = some (.lst ys) → tt (some (v1 i) :: some (v2 i) :: more) H fun b H4 => if b = true then te (some (v1 i) :: some (v2 i) :: more) H4 (cYes (fun σ => ∃ x y, σ = x :: y :: more) P n D (some (v1 i) :: some (v2 i) :: more) i) else cNo (fun σ => ∃ x y, σ = x :: y :: more) P n D (some (v1 i) :: some (v2 i) :: more) i H4)
    (hd : ∀ ys H, P n ys H → H D = some (.lst ys) → Q (.ref D) H) :
    CompGo (Itt K a) (gTup K 2 (gCons (gName 0) (gCons (gName 1) gNil))) tt te (none :: none :: more) H1 Q D := by
  refine comp_gen (xv := fun i => .ref (ad i)) (st := fun i => some (v1 i) :: some (v2 i) :: more) (fun σ => ∃ x y, σ = x :: y :: more) P ⟨_, _, rfl⟩ h0 (fun i ys H hi p hD => ⟨⟨xs, _, hl i ys H p hD, hx i hi⟩, fun x H2 y => ⟨y.1, ?_⟩⟩) (fun ys H p hD => ⟨xs, hl _ ys H p hD, Nat.le_of_eq hn⟩)
    (fun i ys σ' H K' hi r p k => ?_) hs hd
  · have e := y.2 xs (hl i ys H p hD)
    rw [hx i hi] at e
    exact (Option.some.inj e).symm
  · obtain ⟨x, y, rfl⟩ := r
    exact ⟨ad i, _, rfl, ht i ys H hi p, rfl, _, _, rfl, _, _, rfl, rfl, k⟩
end L2
namespace L4
open PySem L2
/-- fractions made one by one out of a list of whole numbers -/
theorem comp_frl {K : PySem.W.Frag} {a : Addr} {gs : List Int} {f : Int → Rat} {t : Nat} {te : TE} {σ0 : St} {H1 : Hp} {Q : VK} {D : Addr} {b : Nat} (ha : H1 a = some (.lst (gs.map V.int))) (hD : H1 D = none) (hn : gs.length ≤ 900)
    (he : ∀ g H' Q', g ∈ gs → Same H1 H' → (∀ v H'', Same H' H'' → FR K H'' v (f g) b → Q' v H'') → te (σ0.set t (some (.int g))) H' Q')
    (q : ∀ zs H', Same H1 H' → zs.map Prod.snd = gs.map f → FRs K H' zs b → H' D = some (.lst (zs.map Prod.fst)) → Q (.ref D) H') : CompGo (Itl K a) (gName t) tYes te σ0 H1 Q D := by
  refine comp_list (xs := gs.map V.int) (fun i ys H' => Same H1 H' ∧ ∃ zs : List (V × Rat), ys = zs.map Prod.fst ∧ zs.map Prod.snd = (gs.take i).map f ∧ FRs K H' zs b) ⟨same_new hD _, [], rfl, rfl, fun z hz => by cases hz⟩ (fun i ys H' h _ => SqL.of (h.1 _ _ ha)) ?_ ?_
  · rintro i ys H' x hx ⟨s1, zs, rfl, hl, hz⟩ hD'
    have hi : i < (gs.map V.int).length := (List.getElem?_eq_some_iff.mp hx).1
    rw [List.getElem?_map] at hx
    obtain ⟨g, hg, rfl⟩ := Option.map_eq_some_iff.mp hx
    refine yes (he g H' _ (List.mem_of_getElem? hg) s1 fun v H'' s2 f2 => ?_)
    have hlen : zs.length ≤ 900 := by
      have := congrArg List.length hl
      rw [List.length_map, List.length_map, List.length_take] at this
      omega
    refine cyes hi rset1 (s2 _ _ hD') (by rw [List.length_map]; exact small1000 (by omega)) ⟨(s1.trans s2).put hD, zs ++ [(v, f g)], by rw [List.map_append]; rfl, by rw [List.map_append, hl, take_snoc hg, List.map_append]; rfl, ?_⟩
    intro z hz'
    rcases List.mem_append.mp hz' with h | h
    · exact ((hz z h).same s2).put (s2 _ _ hD')
    · rw [List.mem_singleton.mp h]
      exact f2.put (s2 _ _ hD')
  · rintro ys H' ⟨s1, zs, rfl, hl, hz⟩ hD'
    rw [List.length_map, List.take_length] at hl
    exact q zs H' s1 hl hz hD'
theorem FR.k {K : PySem.W.Frag} {H : Hp} {a : Addr} {r : Rat} {n : Nat} (h : KTup K a [.int r.num, .int r.den]) (x : Sz n r.num) (y : Sz n r.den) : FR K H (.ref a) r n := ⟨a, rfl, h.sq, x, y⟩
/-! the chains' connectives -/
def lessR (r s : Rat) : Rat := if s < r then s else r
def greatR (r s : Rat) : Rat := if r < s then s else r
def thenR (k : Str) (r s : Rat) : Rat := if s < r then (if k = "least" then s else if k = "cut" then 1 - r + s else s / r) else 1
def withR (k : Str) (r s : Rat) : Rat := if k = "least" then lessR r s else if k = "cut" then greatR (r + s - 1) 0 else r * s
def connR (k nm : Str) (rs : List Rat) : Rat :=
  if nm = "false" then 0 else if nm = "true" then 1 else if nm = "not" then thenR k (rs.getD 0 0) 0 else if nm = "then" then thenR k (rs.getD 0 0) (rs.getD 1 0)
  else if nm = "with" then withR k (rs.getD 0 0) (rs.getD 1 0) else if nm = "or" then greatR (rs.getD 0 0) (rs.getD 1 0) else lessR (rs.getD 0 0) (rs.getD 1 0)
def Kd (k : Str) : Prop := k = "least" ∨ k = "cut" ∨ k = "times"
def spBelow (K : PySem.W.Frag) : Sp := fun vs H Q _ => ∃ (a b : V) (r s : Rat) (n m : Nat), vs = [a, b] ∧ FR K H a r n ∧ FR K H b s m ∧ n + m ≤ 7000 ∧ Q (.bl (decide (r < s))) H
def spOverR (K : PySem.W.Frag) : Sp := fun vs H Q _ => ∃ (a b : V) (r s : Rat) (n m : Nat), vs = [a, b] ∧ FR K H a r n ∧ FR K H b s m ∧ n + m ≤ 7000 ∧ s ≠ 0 ∧ ∀ v H', Same H H' → FR K H' v (r / s) (n + m + 1) → Q v H'
def spLG (K : PySem.W.Frag) (f : Rat → Rat → Rat) : Sp := fun vs H Q _ => ∃ (a b : V) (r s : Rat) (n m : Nat), vs = [a, b] ∧ FR K H a r n ∧ FR K H b s m ∧ n + m ≤ 7000 ∧ ∀ v, FR K H v (f r s) (n + m + 1) → Q v H
def spThen (K : PySem.W.Frag) (f : Str → Rat → Rat → Rat) : Sp := fun vs H Q _ => ∃ (k : Str) (a b : V) (r s : Rat) (n m : Nat), vs = [.str k, a, b] ∧ Kd k ∧ FR K H a r n ∧ FR K H b s m ∧ 0 ≤ s ∧ n + m ≤ 6000 ∧ ∀ v H', Same H H' → FR K H' v (f k r s) (n + m + 10) → Q v H'
def arity (nm : Str) : Nat := if nm = "false" ∨ nm = "true" then 0 else if nm = "not" then 1 else 2
def names7 : List Str := ["and", "or", "then", "with", "not", "false", "true"]
def spConn (K : PySem.W.Frag) : Sp := fun vs H Q _ => ∃ (k nm : Str) (g : Addr) (zs : List (V × Rat)) (n : Nat), vs = [.str k, .str nm, .ref g] ∧ Kd k ∧ nm ∈ names7 ∧ zs.length = arity nm ∧ H g = some (.lst (zs.map Prod.fst)) ∧ FRs K H zs n ∧ (∀ z ∈ zs, 0 ≤ z.2) ∧ n ≤ 3000 ∧ ∀ v H', Same H H' → FR K H' v (connR k nm (zs.map Prod.snd)) (2 * n + 12) → Q v H'
end L4
namespace Fr
theorem ratlt (r s : Rat) : (r.num * s.den < s.num * r.den) ↔ r < s := (Rat.lt_iff r s).symm
theorem ratdiv (r s : Rat) : Rat.divInt (r.num * s.den) (r.den * s.num) = r / s := by
  have h := Rat.divInt_mul_divInt r.num (s.den : Int) (d₁ := (r.den : Int)) (d₂ := s.num)
  rw [ratself] at h
  rw [← h, Rat.div_def, Rat.inv_def]
end Fr

namespace K43
open PySem L2 L4

local macro_rules | `(tactic| walk_at "hp") => `(tactic| first | assumption | exact upd_same | (rw [upd_ne (by first | assumption | exact Ne.symm (by assumption) | exact ne_of_none (by assumption) (by assumption) | exact Ne.symm (ne_of_none (by assumption) (by assumption)))]; walk_at "hp"))
local macro_rules | `(tactic| walk_at "r1") => `(tactic| first | refine ⟨_, rfl, ?_⟩ | refine .inl ⟨_, _, _, _, rfl, rfl, SqL.of (by walk_at "hp"), rfl, ?_⟩ | refine .inr (.inl ⟨_, _, _, _, rfl, rfl, SqT.of (by walk_at "hp"), rfl, ?_⟩) | refine ⟨_, _, rfl, rfl, ?_⟩ | refine ⟨(show CMul _ _ from .inr ⟨by omega, by omega⟩), ?_⟩ | refine ⟨(show CMul _ _ from .inl ⟨by omega, by omega⟩), ?_⟩ | refine ⟨(show CDiv _ _ from ⟨by omega, by omega⟩), ?_⟩ | refine ⟨(show CPow _ _ from ⟨by decide, by decide, by decide⟩), ?_⟩ | refine ⟨(show (0 : Int) < _ by omega), ?_⟩ | refine ⟨_, _, _, _, rfl, rfl, (by walk_at "hp"), rfl, ?_⟩)
local macro_rules | `(tactic| walk_at "rd") => `(tactic| repeat walk_at "r1")

local macro_rules | `(tactic| walk_at "dc") => `(tactic| first | refine iteT ?_ | refine iteF ?_ | refine iteDT (by decide +kernel) ?_ | refine iteDF (by decide +kernel) ?_ | refine ⟨_, rfl, rfl, _, rfl, ?_⟩)
local macro_rules | `(tactic| walk_at "ds") => `(tactic| repeat walk_at "dc")

def spWholeT : Sp := fun vs H Q _ => ∃ (t : Th) (v : V), vs = [v] ∧ IsTh H t v ∧ Q (.bl (wholeB t)) H
def spPower : Sp := fun vs H Q _ => ∃ (b : Int) (n : Nat), vs = [.int b, .int n] ∧ 1 ≤ b ∧ b ≤ 9 ∧ n ≤ 1000 ∧ Q (.int (b ^ n)) H
def kindB : Th → Bool
  | .str x => inV (.str x) [.str "least", .str "cut", .str "times"]
  | _ => false
theorem kind_of {t : Th} (h : kindB t = true) : ∃ k, t = .str k ∧ Kd k := by
  cases t with
  | str x =>
    refine ⟨x, rfl, ?_⟩
    have h' : inV (.str x) [.str "least", .str "cut", .str "times"] = true := h
    simp [inV, eqV] at h'
    unfold Kd
    rcases h' with h | h | h <;> simp [h]
  | _ => cases h
def isTimes : Th → Bool
  | .str x => decide (x = "times")
  | _ => false
def countB : Th → Bool
  | .int n => decide (2 ≤ n) && decide (n ≤ 9)
  | _ => false
def seenB (tk tm : Th) : Option Bool := if (!kindB tk || isTimes tk) = true then some true else if countB tm = true then none else some false
def spKind (C : Addr) : Sp := fun vs H Q E => ∃ (t : Th) (v : V), vs = [v] ∧ IsTh H t v ∧ (kindB t = false → E (.ref C) none H) ∧ (kindB t = true → Q .non H)
def gaR (p n : Int) : Nat → List Int
  | 0 => []
  | k + 1 => gaR (p / n) n k ++ [p % n]
theorem ga_len (n : Int) : ∀ (k : Nat) (p : Int), (gaR p n k).length = k
  | 0, _ => rfl
  | k + 1, p => by
    show (gaR (p / n) n k ++ [p % n]).length = k + 1
    rw [List.length_append, ga_len n k]
    rfl
theorem ga_mem {n : Int} (hn : 0 < n) : ∀ (k : Nat) (p : Int), ∀ g ∈ gaR p n k, 0 ≤ g ∧ g < n
  | 0, _, g, h => by cases h
  | k + 1, p, g, h => by
    rcases List.mem_append.mp h with h | h
    · exact ga_mem hn k _ g h
    · rw [List.mem_singleton.mp h]
      exact ⟨Int.emod_nonneg _ (by omega), Int.emod_lt_of_pos _ hn⟩
def spGA : Nat → Sp
  | 0 => fun _ _ _ _ => False
  | j + 1 => fun vs H Q _ => ∃ (p n : Int) (pl : Nat), vs = [.int p, .int n, .int pl] ∧ pl ≤ j ∧ pl ≤ 2 ∧ 0 < n ∧ n ≤ 9 ∧ ∀ l H', Same H H' → H' l = some (.lst ((gaR p n pl).map V.int)) → Q (.ref l) H'
def cellR (k : Str) (n : Int) (nm : Str) (pl : Nat) (p : Int) : Int := ((connR k nm ((gaR p n pl).map fun g => Rat.divInt g (n - 1))).num * (n - 1)) / (connR k nm ((gaR p n pl).map fun g => Rat.divInt g (n - 1))).den
def cellsR (k : Str) (n : Int) (nm : Str) (pl : Nat) : List Int := (List.range (n ^ pl).toNat).map fun (p : Nat) => cellR k n nm pl (0 + (p : Int))
def Kc (k : Str) : Prop := k = "least" ∨ k = "cut"
def spCells : Sp := fun vs H Q _ => ∃ (k nm : Str) (n : Int), vs = [.str k, .int n, .str nm, .int (arity nm : Nat)] ∧ Kc k ∧ 2 ≤ n ∧ n ≤ 9 ∧ nm ∈ names7 ∧ ∀ p H', Same H H' → H' p = some (.tup ((cellsR k n nm (arity nm)).map V.int)) → Q (.ref p) H'
def connTh (k : Str) (n : Int) (nm : Str) : Th := .tup [.str nm, .int (arity nm : Nat), .tup ((cellsR k n nm (arity nm)).map Th.int)]
def chainTh (k : Str) (n : Int) : Th := .tup [.int n, .tup [.int (n - 1)], .tup (names7.map (connTh k n))]
def spChain (C1 C2 : Addr) : Sp := fun vs H Q E => ∃ (tk tm : Th) (vk vm : V), vs = [vk, vm] ∧ IsTh H tk vk ∧ IsTh H tm vm ∧ (seenB tk tm = some true → E (.ref C1) none H) ∧ (seenB tk tm = some false → E (.ref C2) none H) ∧ (seenB tk tm = none → ∀ v H', Same H H' → (∀ k n, tk = .str k → tm = .int n → IsTh H' (chainTh k n) v) → Q v H')
def lcR (k : Str) (t : Int) (nm : Str) (i j : Int) : Int := if nm = "and" ∨ (nm = "with" ∧ k = "least") then (if j < i then j else i) else if nm = "or" then (if j > i then j else i) else if nm = "with" then (if i + j - t > 0 then i + j - t else 0) else if i ≤ j then t else (if k = "cut" then t - i + j else j)
def lrowR (k : Str) (t : Int) (nm : Str) (m : Nat) (i : Nat) : List Int := (List.range m).map fun (j : Nat) => lcR k t nm (0 + (i : Int)) (0 + (j : Int))
def lcellsR (k : Str) (t : Int) (nm : Str) : List Int := (List.range (t + 1).toNat).flatMap (lrowR k t nm (t + 1).toNat)
def names4 : List Str := ["and", "or", "then", "with"]
def spLC : Sp := fun vs H Q _ => ∃ (k nm : Str) (t : Int), vs = [.str k, .int t, .str nm] ∧ Kc k ∧ 1 ≤ t ∧ t ≤ 8 ∧ nm ∈ names4 ∧ ∀ p H', Same H H' → H' p = some (.tup ((lcellsR k t nm).map V.int)) → Q (.ref p) H'
def lnotR (k : Str) (n : Int) : List Int := (List.range n.toNat).map fun (i : Nat) => if k = "cut" then n - 1 - (0 + (i : Int)) else (n - 1) * (if (0 + (i : Int)) = 0 then 1 else 0)
def lawTh (k : Str) (n : Int) : Th := .tup [.int n, .tup [.int (n - 1)], .tup ((names4.map fun nm => Th.tup [.str nm, .int 2, .tup ((lcellsR k (n - 1) nm).map Th.int)]) ++ [.tup [.str "not", .int 1, .tup ((lnotR k n).map Th.int)], .tup [.str "false", .int 0, .tup [.int 0]], .tup [.str "true", .int 0, .tup [.int (n - 1)]]])]
def spLT : Sp := fun vs H Q _ => ∃ (k : Str) (n : Int), vs = [.str k, .int n] ∧ Kc k ∧ 2 ≤ n ∧ n ≤ 9 ∧ ∀ v H', Same H H' → IsTh H' (lawTh k n) v → Q v H'
def cellsEqB (k : Str) (n : Int) : Bool := (names4.all fun nm => cellsR k n nm 2 == lcellsR k (n - 1) nm) && (cellsR k n "not" 1 == lnotR k n) && (cellsR k n "false" 0 == [0]) && (cellsR k n "true" 0 == [n - 1])
theorem cells_eq : ((["least", "cut"] : List Str).all fun k => ([2, 3, 4, 5, 6, 7, 8, 9] : List Int).all fun n => cellsEqB k n) = true := by decide +kernel
theorem chain_law {k : Str} {n : Int} (hk : Kc k) (h2 : 2 ≤ n) (h9 : n ≤ 9) : chainTh k n = lawTh k n := by
  have hn : n ∈ ([2, 3, 4, 5, 6, 7, 8, 9] : List Int) := by simp; omega
  have hk' : k ∈ (["least", "cut"] : List Str) := by rcases hk with h | h <;> simp [h]
  have h := List.all_eq_true.mp (List.all_eq_true.mp cells_eq k hk') n hn
  unfold cellsEqB at h
  simp only [Bool.and_eq_true, beq_iff_eq, List.all_eq_true] at h
  obtain ⟨⟨⟨h1, h3⟩, h4⟩, h5⟩ := h
  have g : ∀ nm ∈ names4, cellsR k n nm 2 = lcellsR k (n - 1) nm := fun nm hm => h1 nm hm
  unfold chainTh lawTh names7 names4 connTh
  simp only [List.map_cons, List.map_nil, List.cons_append, List.nil_append]
  rw [show arity "and" = 2 by decide +kernel, show arity "or" = 2 by decide +kernel, show arity "then" = 2 by decide +kernel, show arity "with" = 2 by decide +kernel, show arity "not" = 1 by decide +kernel, show arity "false" = 0 by decide +kernel, show arity "true" = 0 by decide +kernel]
  rw [g "and" (by simp [names4]), g "or" (by simp [names4]), g "then" (by simp [names4]), g "with" (by simp [names4]), h3, h4, h5]
  rfl
def plainD : Nat → Th → Bool
  | 0, _ => false
  | _ + 1, .int _ => true
  | _ + 1, .str _ => true
  | n + 1, .tup ts => ts.all (plainD n)
  | _ + 1, _ => false
def spPlain : Nat → Sp
  | 0 => fun _ _ _ _ => False
  | j + 1 => fun vs H Q _ => ∃ (t : Th) (v : V), vs = [v] ∧ IsTh H t v ∧ plainD (j + 1) t = true ∧ ∀ H', Same H H' → Q (.bl true) H'
theorem plain_ints (n : Nat) (is : List Int) : (is.map Th.int).all (plainD (n + 1)) = true := by
  rw [List.all_map, List.all_eq_true]
  intro i _
  rfl
theorem plain_chain (k : Str) (n : Int) : plainD 5 (chainTh k n) = true := by
  show (true && ((true && true) && ((names7.map (connTh k n)).all (plainD 3) && true))) = true
  rw [show (names7.map (connTh k n)).all (plainD 3) = true from ?_]
  · rfl
  rw [List.all_map, List.all_eq_true]
  intro nm _
  show (true && (true && (((cellsR k n nm (arity nm)).map Th.int).all (plainD 1) && true))) = true
  rw [plain_ints 0]
  rfl
def spSeen : Sp := fun vs H Q _ => ∃ (tk tm : Th) (vk vm : V) (kb : Bool), vs = [vk, vm] ∧ IsTh H tk vk ∧ IsTh H tm vm ∧ seenB tk tm = some kb ∧ ∀ l H', Same H H' → H' l = some (.lst [.bl kb, .bl (!kb)]) → Q (.ref l) H'
def spLaw (K : PySem.W.Frag) : Sp := fun vs H Q _ => ∃ (a : Addr) (ns : List Int), vs = [.ref a] ∧ SqL K H a (ns.map V.int) ∧ ns.length ≤ 63 ∧ ∀ H', Q (.bl true) H'
theorem ths_snoc {H : Hp} {ts : List Th} {vs : List V} {t : Th} {v : V} (h : Ths H ts vs) (k : IsTh H t v) : Ths H (ts ++ [t]) (vs ++ [v]) := by
  unfold Ths at h ⊢
  induction h with
  | nil => exact .cons k .nil
  | cons a _ ih => exact .cons a ih
theorem ths_ints {H : Hp} {p : Addr} {is : List Int} (h : H p = some (.tup (is.map V.int))) (hl : is.length ≤ 1000) : IsTh H (.tup (is.map Th.int)) (.ref p) := Ths.tup (ths_map Th.int V.int is fun i _ => .int i) h (by rw [List.length_map]; exact hl)
theorem uncut {X : Addr → Prop} {H : Hp} : Same (cutH X H) H := fun b o h => (cut_of h).2

theorem two {zs : List (V × Rat)} {nm : Str} (h : zs.length = arity nm) (e : arity nm = 2 := by decide +kernel) : ∃ z1 z2, zs = [z1, z2] := by
  rw [e] at h
  match zs, h with
  | [a, b], _ => exact ⟨a, b, rfl⟩
theorem one1 {zs : List (V × Rat)} {nm : Str} (h : zs.length = arity nm) (e : arity nm = 1 := by decide +kernel) : ∃ z1, zs = [z1] := by
  rw [e] at h
  match zs, h with
  | [a], _ => exact ⟨a, rfl⟩
theorem names_short (nm : Str) (h : nm ∈ names7) : nm.length ≤ 3000 := by
  have : names7.all (fun x => decide (x.length ≤ 3000)) = true := by decide +kernel
  exact of_decide_eq_true (List.all_eq_true.mp this nm h)
theorem cells_len {n : Int} (n2 : 2 ≤ n) (n9 : n ≤ 9) (nm : Str) : (n ^ arity nm).toNat ≤ 81 := by
  have a2 : arity nm ≤ 2 := by unfold arity; split; omega; split <;> omega
  have h : arity nm = 0 ∨ arity nm = 1 ∨ arity nm = 2 := by omega
  rcases h with h | h | h <;> rw [h]
  · rw [Int.pow_zero]; decide
  · rw [Int.pow_one]; omega
  · have : n = 2 ∨ n = 3 ∨ n = 4 ∨ n = 5 ∨ n = 6 ∨ n = 7 ∨ n = 8 ∨ n = 9 := by omega
    rcases this with h | h | h | h | h | h | h | h <;> rw [h] <;> decide

theorem seen_good {k : Str} {n : Int} (hk : Kc k) (h2 : 2 ≤ n) (h9 : n ≤ 9) : seenB (.str k) (.int n) = none := by
  have c : countB (.int n) = true := by
    show (decide (2 ≤ n) && decide (n ≤ 9)) = true
    rw [decide_eq_true h2, decide_eq_true h9]
    rfl
  have d : (!kindB (.str k) || isTimes (.str k)) = false := by
    rcases hk with h | h <;> rw [h] <;> decide +kernel
  unfold seenB
  rw [d, c]
  rfl
theorem ok_ths (n : Nat) (is : List Int) : (is.map Th.int).all (okD n) = true := ok_ints n is
theorem okD_chain (k : Str) (n : Int) : okD 4 (chainTh k n) = true := by
  show (true && (true && ((names7.map (connTh k n)).all (okD 2) && true))) = true
  rw [show (names7.map (connTh k n)).all (okD 2) = true from ?_]
  · rfl
  rw [List.all_map, List.all_eq_true]
  intro nm _
  show (true && (true && (((cellsR k n nm (arity nm)).map Th.int).all (okD 0) && true))) = true
  rw [ok_ths 0]
  rfl
def c4 (k : Str) (n : Int) (nm : Str) : Th := .tup [.str nm, .int 2, .tup ((lcellsR k (n - 1) nm).map Th.int)]
theorem flat_len {α : Type} (f : Nat → List α) (b : Nat) (hf : ∀ i, (f i).length = b) : ∀ m : Nat, ((List.range m).flatMap f).length = m * b
  | 0 => by simp
  | m + 1 => by
    rw [List.range_succ, List.flatMap_append, List.length_append, flat_len f b hf m, Nat.succ_mul]
    simp [hf]
theorem row_len (k : Str) (t : Int) (nm : Str) (m i : Nat) : (lrowR k t nm m i).length = m := by
  unfold lrowR
  rw [List.length_map, List.length_range]
theorem lcells_len {k nm : Str} {t : Int} (h1 : 1 ≤ t) (h8 : t ≤ 8) : (lcellsR k t nm).length ≤ 81 := by
  unfold lcellsR
  rw [flat_len _ _ (row_len k t nm _)]
  have h : (t + 1).toNat ≤ 9 := by omega
  exact Nat.le_trans (Nat.mul_le_mul h h) (by decide)
theorem str_short {k : Str} (h : Kc k) : k.length ≤ 3000 := by rcases h with h | h <;> rw [h] <;> decide +kernel

theorem seen_kind {tk : Th} (tm : Th) (h : (!kindB tk || isTimes tk) = true) : seenB tk tm = some true := by
  unfold seenB
  rw [h]
  rfl
theorem seen_count {k : Str} {tm : Th} (hk : Kc k) (h : countB tm = false) : seenB (.str k) tm = some false := by
  have d : (!kindB (.str k) || isTimes (.str k)) = false := by
    rcases hk with h | h <;> rw [h] <;> decide +kernel
  unfold seenB
  rw [d, h]
  rfl
def top (i : Nat) : Stmt := PySem.Challenge.pw_truthgrades_k43_chain_tables.main.body.getD i (.Pass ⟨0, 0, 0, 0⟩)
/-- the built-in names that the text asks: none is a name of its own -/
structure Gb (mg : Str → Option Value) : Prop where
  «abs» : mg "abs" = none
  «range» : mg "range" = none
  «tuple» : mg "tuple" = none
  «isinstance» : mg "isinstance" = none
  «int» : mg "int" = none
  «bool» : mg "bool" = none
  «len» : mg "len" = none
  «str» : mg "str" = none
  «min» : mg "min" = none
  «max» : mg "max" = none
  «all» : mg "all" = none
  «ValueError» : mg "ValueError" = none
  «MOST_GRADES» : ∃ u, mg "MOST_GRADES" = some u ∧ RelV (.int 9) u
  «LEAST_STEPS» : ∃ u, mg "LEAST_STEPS" = some u ∧ RelV (.int 2) u
/-- the own classes, and what is to be known of them -/
structure Cl (K : PySem.W.Frag) (mg : Str → Option Value) (c : Nat → Addr) : Prop where
  g_GradeError : mg "GradeError" = some (.ref (c 0))
  g_NoFraction : mg "NoFraction" = some (.ref (c 1))
  g_NoTable : mg "NoTable" = some (.ref (c 2))
  g_NoKind : mg "NoKind" = some (.ref (c 3))
  g_NoCount : mg "NoCount" = some (.ref (c 4))
  g_KINDS : mg "KINDS" = some (.ref (c 5))
  g_SHAPES : mg "SHAPES" = some (.ref (c 6))
  g_NOUGHT : mg "NOUGHT" = some (.ref (c 7))
  g_ONE : mg "ONE" = some (.ref (c 8))
  x_NoFraction : PySem.W.excIn K (c 1) [.type "ValueError", .type "Exception", .type "BaseException", .type "object"] "ValueError.__new__" = true
  x_NoKind : PySem.W.excIn K (c 3) [.type "ValueError", .type "Exception", .type "BaseException", .type "object"] "ValueError.__new__" = true
  x_NoCount : PySem.W.excIn K (c 4) [.type "ValueError", .type "Exception", .type "BaseException", .type "object"] "ValueError.__new__" = true
  m_NoKind : PySem.W.exmOne K (.ref (c 3)) (.ref (c 0)) = some true
  h_NoKind : excLook K (c 3) = true
  v_NoKind : PySem.W.kitOne K (.ref (c 3)) (.type "ValueError") = some true
  k_NoKind_NoTable : PySem.W.kitOne K (.ref (c 3)) (.ref (c 2)) = some false
  k_NoKind_NoKind : PySem.W.kitOne K (.ref (c 3)) (.ref (c 3)) = some true
  k_NoKind_NoCount : PySem.W.kitOne K (.ref (c 3)) (.ref (c 4)) = some false
  m_NoCount : PySem.W.exmOne K (.ref (c 4)) (.ref (c 0)) = some true
  h_NoCount : excLook K (c 4) = true
  v_NoCount : PySem.W.kitOne K (.ref (c 4)) (.type "ValueError") = some true
  k_NoCount_NoTable : PySem.W.kitOne K (.ref (c 4)) (.ref (c 2)) = some false
  k_NoCount_NoKind : PySem.W.kitOne K (.ref (c 4)) (.ref (c 3)) = some false
  k_NoCount_NoCount : PySem.W.kitOne K (.ref (c 4)) (.ref (c 4)) = some true
  t_KINDS : KTup K (c 5) [.str "least", .str "cut", .str "times"]
  t_SHAPES : ∃ a0 a1 a2 a3 a4 a5 a6 : Addr, KTup K (c 6) [.ref a0, .ref a1, .ref a2, .ref a3, .ref a4, .ref a5, .ref a6] ∧ KTup K a0 [.str "and", .int 2] ∧ KTup K a1 [.str "or", .int 2] ∧ KTup K a2 [.str "then", .int 2] ∧ KTup K a3 [.str "with", .int 2] ∧ KTup K a4 [.str "not", .int 1] ∧ KTup K a5 [.str "false", .int 0] ∧ KTup K a6 [.str "true", .int 0]
  t_NOUGHT : KTup K (c 7) [.int 0, .int 1]
  t_ONE : KTup K (c 8) [.int 1, .int 1]
abbrev s_is_whole : Stmt := top 7
theorem sc_is_whole : FnScope ["thing"] ["thing"] (defScope s_is_whole) := ⟨rfl, rfl, rfl, by decide +kernel, rfl, by decide +kernel, by decide +kernel⟩
theorem ok_is_whole {P : Program} {w : World} {K : PySem.W.Frag} {mg : Str → Option Value} {base : Heap} {f : Addr} {fd : FuncData} (F : Fun K "is_whole" "is_whole" s_is_whole f fd) (gb : Gb mg) {c : Nat → Addr} (cl : Cl K mg c) : FnOk P w K mg base CX0 1 f fd ["thing"] spWholeT := by
  refine F.ok sc_is_whole (fun vs H Q E h => ?_) (fun cdv A outer s H vs Q E hr h => ?_)
  · obtain ⟨t, v, rfl, _⟩ := h
    rfl
  obtain ⟨t, v, rfl, h, q⟩ := h
  refine ⟨_, (@pss_one _ _ _ (@ps_ret _ _ _ _ (@pe_and _ _ _ _ _ _ _ (@pe_callB _ _ _ _ _ _ _ _ _ (@kcall_isiT _ K (by rfl)) rfl gb.isinstance bt_isinstance (@pa_cons _ _ _ _ _ (@pv _ 0 _ _ (by rfl) (by first | exact Or.inl rfl | exact Or.inr (Or.inl rfl) | exact Or.inr (Or.inr rfl)) (by decide) (by decide)) (@pa_cons _ _ _ _ _ (@pe_bltn _ _ (.ty "int") _ _ rfl gb.int bt_int rfl (by decide) (by decide)) (@pa_nil _) (by rfl)) (by rfl)) (by decide) (by decide) (by rfl) (by rfl)) (@pe_one _ _ _ _ _ (@pe_not _ _ _ _ (@pe_callB _ _ _ _ _ _ _ _ _ (@kcall_isiT _ K (by rfl)) rfl gb.isinstance bt_isinstance (@pa_cons _ _ _ _ _ (@pv _ 0 _ _ (by rfl) (by first | exact Or.inl rfl | exact Or.inr (Or.inl rfl) | exact Or.inr (Or.inr rfl)) (by decide) (by decide)) (@pa_cons _ _ _ _ _ (@pe_bltn _ _ (.ty "bool") _ _ rfl gb.bool bt_bool rfl (by decide) (by decide)) (@pa_nil _) (by rfl)) (by rfl)) (by decide) (by decide) (by rfl) (by rfl))))))), ?_⟩
  refine ⟨_, rfl, _, _, _, isIntB t, rfl, h.ty, kit_int t, _, rfl, ?_⟩
  cases t with
  | int i => exact iteT ⟨_, rfl, _, _, _, false, rfl, h.ty, kit_bool (.int i), _, rfl, q⟩
  | bl b => exact iteT ⟨_, rfl, _, _, _, true, rfl, h.ty, kit_bool (.bl b), _, rfl, q⟩
  | _ => exact iteF q

abbrev s_shared_part : Stmt := top 10
theorem sc_shared_part : FnScope ["one", "other", "larger", "smaller", "rest"] ["one", "other"] (defScope s_shared_part) := ⟨rfl, rfl, rfl, by decide +kernel, rfl, by decide +kernel, by decide +kernel⟩
theorem ok_shared_part {P : Program} {w : World} {K : PySem.W.Frag} {mg : Str → Option Value} {base : Heap} {f : Addr} {fd : FuncData} (F : Fun K "shared_part" "shared_part" s_shared_part f fd) (gb : Gb mg) {c : Nat → Addr} (cl : Cl K mg c) : FnOk P w K mg base CX0 1 f fd ["one", "other"] spShared := by
  refine F.ok sc_shared_part (fun vs H Q E h => ?_) (fun cdv A outer s H vs Q E hr h => ?_)
  · obtain ⟨a, b, rfl, _⟩ := h
    rfl
  obtain ⟨a, b, rfl, q⟩ := h
  refine ⟨_, (@pss_cons _ _ _ _ _ (@ps_set _ _ 2 _ _ _ _ sc_shared_part.nd rfl (Or.inl rfl) (@pe_callB _ _ _ _ _ _ _ _ _ (@call_abs _) rfl gb.abs bt_abs (@pa_cons _ _ _ _ _ (@pv _ 0 _ _ (by rfl) (by first | exact Or.inl rfl | exact Or.inr (Or.inl rfl) | exact Or.inr (Or.inr rfl)) (by decide) (by decide)) (@pa_nil _) (by rfl)) (by decide) (by decide) (by rfl) (by rfl)) (by rfl) (by first | exact .inl rfl | exact .inr rfl | assumption)) (@pss_cons _ _ _ _ _ (@ps_set _ _ 3 _ _ _ _ sc_shared_part.nd rfl (Or.inl rfl) (@pe_callB _ _ _ _ _ _ _ _ _ (@call_abs _) rfl gb.abs bt_abs (@pa_cons _ _ _ _ _ (@pv _ 1 _ _ (by rfl) (by first | exact Or.inl rfl | exact Or.inr (Or.inl rfl) | exact Or.inr (Or.inr rfl)) (by decide) (by decide)) (@pa_nil _) (by rfl)) (by decide) (by decide) (by rfl) (by rfl)) (by rfl) (by first | exact .inl rfl | exact .inr rfl | assumption)) (@pss_cons _ _ _ _ _ (@ps_while _ _ _ _ _ _ PassesOwn.never (@pt_cmpR _ _ _ _ _ _ _ _ (@op_gt _) (@pv _ 3 _ _ (by rfl) (by first | exact Or.inl rfl | exact Or.inr (Or.inl rfl) | exact Or.inr (Or.inr rfl)) (by decide) (by decide)) (@pe_int _ _ _ _) (@nomark _ _ (by decide) (by decide))) (@pss_cons _ _ _ _ _ (@ps_set _ _ 4 _ _ _ _ sc_shared_part.nd rfl (Or.inl rfl) (@pe_op _ _ _ _ _ _ _ _ (@op_mod _) (@pv _ 2 _ _ (by rfl) (by first | exact Or.inl rfl | exact Or.inr (Or.inl rfl) | exact Or.inr (Or.inr rfl)) (by decide) (by decide)) (@pv _ 3 _ _ (by rfl) (by first | exact Or.inl rfl | exact Or.inr (Or.inl rfl) | exact Or.inr (Or.inr rfl)) (by decide) (by decide))) (by rfl) (by first | exact .inl rfl | exact .inr rfl | assumption)) (@pss_cons _ _ _ _ _ (@ps_set _ _ 2 _ _ _ _ sc_shared_part.nd rfl (Or.inl rfl) (@pv _ 3 _ _ (by rfl) (by first | exact Or.inl rfl | exact Or.inr (Or.inl rfl) | exact Or.inr (Or.inr rfl)) (by decide) (by decide)) (by rfl) (by first | exact .inl rfl | exact .inr rfl | assumption)) (@pss_one _ _ _ (@ps_set _ _ 3 _ _ _ _ sc_shared_part.nd rfl (Or.inl rfl) (@pv _ 4 _ _ (by rfl) (by first | exact Or.inl rfl | exact Or.inr (Or.inl rfl) | exact Or.inr (Or.inr rfl)) (by decide) (by decide)) (by rfl) (by first | exact .inl rfl | exact .inr rfl | assumption)))))) (@pss_one _ _ _ (@ps_ret _ _ _ _ (@pv _ 2 _ _ (by rfl) (by first | exact Or.inl rfl | exact Or.inr (Or.inl rfl) | exact Or.inr (Or.inr rfl)) (by decide) (by decide))))))), ?_⟩
  refine ⟨_, rfl, a, rfl, _, rfl, b, rfl, ?_⟩
  refine while_by (fun σ H' => H' = H ∧ ∃ (l s : Int) (x4 : Option V), σ = [some (.int a), some (.int b), some (.int l), some (.int s), x4] ∧ 0 ≤ l ∧ 0 ≤ s ∧ Int.gcd l s = Int.gcd a b)
    (fun σ _ => match σ with | [_, _, _, some (.int s), _] => s.toNat | _ => 0) ⟨rfl, _, _, none, rfl, by split <;> omega, by split <;> omega, ?_⟩ ?_ (fun _ _ _ _ k ⟨v, e, i, j, a, b, c, d, q⟩ => ⟨v, e, i, j, a, b, c, d, k _ _ q⟩)
  · unfold Int.gcd
    congr 1 <;> (split <;> omega)
  · rintro σ H' ⟨rfl, l, s, x4, rfl, l0, s0, hg⟩
    refine ⟨_, rfl, _, _, rfl, rfl, _, rfl, ?_⟩
    refine ite2 (fun c => ?_) (fun c => ?_)
    · have sp : 0 < s := of_decide_eq_true c
      refine ⟨_, rfl, _, rfl, _, _, rfl, rfl, sp, _, rfl, _, rfl, ⟨rfl, _, _, _, rfl, s0, Int.emod_nonneg _ (by omega), ?_⟩, ?_⟩
      · rw [← hg]
        exact Fr.gcd_step' l s sp
      · show (l % s).toNat < s.toNat
        have h1 := Int.emod_lt_of_pos l sp
        have h2 := Int.emod_nonneg l (show s ≠ 0 by omega)
        omega
    · have sz : s = 0 := by
        have : ¬ (0 < s) := fun z => c (decide_eq_true z)
        omega
      refine ⟨_, rfl, ?_⟩
      have el : l = (Int.gcd a b : Int) := by
        rw [← hg, sz]
        simp
        omega
      rw [el]
      exact q

abbrev s_fraction : Stmt := top 9
theorem sc_fraction : FnScope ["top", "bottom", "shared"] ["top", "bottom"] (defScope s_fraction) := ⟨rfl, rfl, rfl, by decide +kernel, rfl, by decide +kernel, by decide +kernel⟩
theorem ok_fraction {P : Program} {w : World} {K : PySem.W.Frag} {mg : Str → Option Value} {base : Heap} {f : Addr} {fd : FuncData} (F : Fun K "fraction" "fraction" s_fraction f fd) (gb : Gb mg) {c : Nat → Addr} (cl : Cl K mg c) (d_is_whole : Def P w K mg base 1 "is_whole" ["thing"] spWholeT) (d_shared_part : Def P w K mg base 1 "shared_part" ["one", "other"] spShared) : FnOk P w K mg base (CX1 P w) 2 f fd ["top", "bottom"] (spFrac (c 1)) := by
  refine F.ok1 sc_fraction (fun vs H Q E h => ?_) (fun cdv A outer s H vs Q E hr h => ?_)
  · obtain ⟨t, b, rfl, _⟩ := h
    rfl
  obtain ⟨t, b, rfl, mb, q0, q1⟩ := h
  refine ⟨_, (@pss_cons _ _ _ _ _ (@ps_if _ _ _ _ _ _ _ _ (@PW.pt _ _ _ (@pw_or _ _ _ _ _ _ _ (@pt_not _ _ _ _ (@pt_val _ _ _ (@pe_def _ _ _ _ _ _ _ _ _ _ _ d_is_whole hr (by omega) rfl (@pa_cons _ _ _ _ _ (@pv _ 0 _ _ (by rfl) (by first | exact Or.inl rfl | exact Or.inr (Or.inl rfl) | exact Or.inr (Or.inr rfl)) (by decide) (by decide)) (@pa_nil _) (by rfl)) (by decide) (by rfl) (by rfl)) (by intro _; rfl))) (@pw_or1 _ _ _ _ (@pt_not _ _ _ _ (@pt_val _ _ _ (@pe_def _ _ _ _ _ _ _ _ _ _ _ d_is_whole hr (by omega) rfl (@pa_cons _ _ _ _ _ (@pv _ 1 _ _ (by rfl) (by first | exact Or.inl rfl | exact Or.inr (Or.inl rfl) | exact Or.inr (Or.inr rfl)) (by decide) (by decide)) (@pa_nil _) (by rfl)) (by decide) (by rfl) (by rfl)) (by intro _; rfl)))))) (@pss_one _ _ _ (@ps_raise _ _ _ _ _ _ _ _ _ _ _ _ _ _ _ _ _ _ rfl cl.g_NoFraction cl.x_NoFraction PySem.F.excBase_ValueError rfl PySem.F.excBase_ValueError rfl (@thrown1 _ _ _ _ _ _ _ _ _ _ _ _ _ _ _) (@pa_cons _ _ _ _ _ (@pe_str _ _ _ _) (@pa_nil _) (by rfl)) (by decide) (by rfl) (by rfl))) (@pss_nil _)) (@pss_cons _ _ _ _ _ (@ps_if _ _ _ _ _ _ _ _ (@pt_cmpR _ _ _ _ _ _ _ _ (@op_eq _) (@pv _ 1 _ _ (by rfl) (by first | exact Or.inl rfl | exact Or.inr (Or.inl rfl) | exact Or.inr (Or.inr rfl)) (by decide) (by decide)) (@pe_int _ _ _ _) (@nomark _ _ (by decide) (by decide))) (@pss_one _ _ _ (@ps_raise _ _ _ _ _ _ _ _ _ _ _ _ _ _ _ _ _ _ rfl cl.g_NoFraction cl.x_NoFraction PySem.F.excBase_ValueError rfl PySem.F.excBase_ValueError rfl (@thrown1 _ _ _ _ _ _ _ _ _ _ _ _ _ _ _) (@pa_cons _ _ _ _ _ (@pe_str _ _ _ _) (@pa_nil _) (by rfl)) (by decide) (by rfl) (by rfl))) (@pss_nil _)) (@pss_cons _ _ _ _ _ (@ps_set _ _ 2 _ _ _ _ sc_fraction.nd rfl (Or.inl rfl) (@pe_ifExp _ _ _ _ _ _ _ _ (@pt_cmpR _ _ _ _ _ _ _ _ (@op_gt _) (@pv _ 1 _ _ (by rfl) (by first | exact Or.inl rfl | exact Or.inr (Or.inl rfl) | exact Or.inr (Or.inr rfl)) (by decide) (by decide)) (@pe_int _ _ _ _) (@nomark _ _ (by decide) (by decide))) (@pe_def _ _ _ _ _ _ _ _ _ _ _ d_shared_part hr (by omega) rfl (@pa_cons _ _ _ _ _ (@pv _ 0 _ _ (by rfl) (by first | exact Or.inl rfl | exact Or.inr (Or.inl rfl) | exact Or.inr (Or.inr rfl)) (by decide) (by decide)) (@pa_cons _ _ _ _ _ (@pv _ 1 _ _ (by rfl) (by first | exact Or.inl rfl | exact Or.inr (Or.inl rfl) | exact Or.inr (Or.inr rfl)) (by decide) (by decide)) (@pa_nil _) (by rfl)) (by rfl)) (by decide) (by rfl) (by rfl)) (@pe_un _ _ _ _ _ _ (@un_neg _) (@pe_def _ _ _ _ _ _ _ _ _ _ _ d_shared_part hr (by omega) rfl (@pa_cons _ _ _ _ _ (@pv _ 0 _ _ (by rfl) (by first | exact Or.inl rfl | exact Or.inr (Or.inl rfl) | exact Or.inr (Or.inr rfl)) (by decide) (by decide)) (@pa_cons _ _ _ _ _ (@pv _ 1 _ _ (by rfl) (by first | exact Or.inl rfl | exact Or.inr (Or.inl rfl) | exact Or.inr (Or.inr rfl)) (by decide) (by decide)) (@pa_nil _) (by rfl)) (by rfl)) (by decide) (by rfl) (by rfl)))) (by rfl) (by first | exact .inl rfl | exact .inr rfl | assumption)) (@pss_one _ _ _ (@ps_ret _ _ _ _ (@pe_tup _ _ _ _ _ (@pa_cons _ _ _ _ _ (@pe_op _ _ _ _ _ _ _ _ (@op_fdivM _) (@pv _ 0 _ _ (by rfl) (by first | exact Or.inl rfl | exact Or.inr (Or.inl rfl) | exact Or.inr (Or.inr rfl)) (by decide) (by decide)) (@pv _ 2 _ _ (by rfl) (by first | exact Or.inl rfl | exact Or.inr (Or.inl rfl) | exact Or.inr (Or.inr rfl)) (by decide) (by decide))) (@pa_cons _ _ _ _ _ (@pe_op _ _ _ _ _ _ _ _ (@op_fdivM _) (@pv _ 1 _ _ (by rfl) (by first | exact Or.inl rfl | exact Or.inr (Or.inl rfl) | exact Or.inr (Or.inr rfl)) (by decide) (by decide)) (@pv _ 2 _ _ (by rfl) (by first | exact Or.inl rfl | exact Or.inr (Or.inl rfl) | exact Or.inr (Or.inr rfl)) (by decide) (by decide))) (@pa_nil _) (by rfl)) (by rfl)))))))), ?_⟩
  refine ⟨_, rfl, .int t, _, rfl, .int t, true, rfl, ?_⟩
  refine ⟨_, rfl, .int b, _, rfl, .int b, true, rfl, ?_⟩
  refine ⟨_, rfl, rfl, _, rfl, ?_⟩
  refine ite2 (fun c0 => ?_) (fun c0 => ?_)
  · have e : V.int b = V.int 0 := of_decide_eq_true c0
    cases e
    exact ⟨small9 (by show 1 ≤ 1000; decide), q0 rfl⟩
  · have nb : b ≠ 0 := fun z => c0 (decide_eq_true (by rw [z]))
    obtain ⟨f1, f2, f3, f4, f5, f6, f7⟩ := Fr.frac (t := t) nb
    have mg : Mid (Fr.sg t b) := Nat.lt_of_le_of_lt f5 mb
    have fin : ∀ g : Int, g = Fr.sg t b → tRet (tTup (tCons (tOp (rI (fun _ j => j ≠ 0 ∧ Mid j) fun i j => .int (i.fdiv j)) (tVar 0) (tVar 2)) (tCons (tOp (rI (fun _ j => j ≠ 0 ∧ Mid j) fun i j => .int (i.fdiv j)) (tVar 1) (tVar 2)) tNil))) { nx := fun _ H' => Q .non H', rt := Q } [some (.int t), some (.int b), some (.int g)] H := fun g eg => by
      subst eg
      exact ⟨_, rfl, _, rfl, _, _, rfl, rfl, ⟨f1, mg⟩, _, rfl, _, rfl, _, _, rfl, rfl, ⟨f1, mg⟩, small9 (by show 2 ≤ 1000; decide), fun p hp => q1 nb p hp⟩
    refine ⟨_, rfl, _, _, rfl, rfl, _, rfl, ?_⟩
    refine ite2 (fun c => ?_) (fun c => ?_)
    · have bp : 0 < b := of_decide_eq_true c
      refine ⟨_, rfl, _, rfl, t, b, rfl, fin _ ?_⟩
      unfold Fr.sg
      rw [if_pos bp]
    · have bp : ¬ 0 < b := fun z => c (decide_eq_true z)
      refine ⟨_, rfl, _, rfl, t, b, rfl, _, rfl, fin _ ?_⟩
      unfold Fr.sg
      rw [if_neg bp]

abbrev s_plus : Stmt := top 11
theorem sc_plus : FnScope ["a", "b"] ["a", "b"] (defScope s_plus) := ⟨rfl, rfl, rfl, by decide +kernel, rfl, by decide +kernel, by decide +kernel⟩
theorem ok_plus {P : Program} {w : World} {K : PySem.W.Frag} {mg : Str → Option Value} {base : Heap} {f : Addr} {fd : FuncData} (F : Fun K "plus" "plus" s_plus f fd) (gb : Gb mg) {c : Nat → Addr} (cl : Cl K mg c) (d_fraction : Def1 P w K mg base 2 "fraction" ["top", "bottom"] (spFrac (c 1))) : FnOk P w K mg base CX0 3 f fd ["a", "b"] (spR K (fun r s => r + s)) := by
  refine F.ok sc_plus (fun vs H Q E h => ?_) (fun cdv A outer s H vs Q E hr h => ?_)
  · obtain ⟨a, b, r, s, n, m, rfl, _⟩ := h
    rfl
  obtain ⟨_, _, r, s, n, m, rfl, ⟨pa, rfl, ha, sx, sy⟩, ⟨pb, rfl, hb, su, sv⟩, hn, q⟩ := h
  refine ⟨_, (@pss_one _ _ _ (@ps_ret _ _ _ _ (@pe_def1 _ _ _ _ _ _ _ _ _ _ _ d_fraction hr (by omega) rfl (@pa_cons _ _ _ _ _ (@pe_op _ _ _ _ _ _ _ _ (@op_add _) (@pe_op _ _ _ _ _ _ _ _ (@op_mulM _) (@pe_ix _ _ _ _ _ _ _ (@kix_seq _ K (by rfl)) (@pv _ 0 _ _ (by rfl) (by first | exact Or.inl rfl | exact Or.inr (Or.inl rfl) | exact Or.inr (Or.inr rfl)) (by decide) (by decide)) (@pe_int _ _ _ _) (fun _ _ => rfl)) (@pe_ix _ _ _ _ _ _ _ (@kix_seq _ K (by rfl)) (@pv _ 1 _ _ (by rfl) (by first | exact Or.inl rfl | exact Or.inr (Or.inl rfl) | exact Or.inr (Or.inr rfl)) (by decide) (by decide)) (@pe_int _ _ _ _) (fun _ _ => rfl))) (@pe_op _ _ _ _ _ _ _ _ (@op_mulM _) (@pe_ix _ _ _ _ _ _ _ (@kix_seq _ K (by rfl)) (@pv _ 1 _ _ (by rfl) (by first | exact Or.inl rfl | exact Or.inr (Or.inl rfl) | exact Or.inr (Or.inr rfl)) (by decide) (by decide)) (@pe_int _ _ _ _) (fun _ _ => rfl)) (@pe_ix _ _ _ _ _ _ _ (@kix_seq _ K (by rfl)) (@pv _ 0 _ _ (by rfl) (by first | exact Or.inl rfl | exact Or.inr (Or.inl rfl) | exact Or.inr (Or.inr rfl)) (by decide) (by decide)) (@pe_int _ _ _ _) (fun _ _ => rfl)))) (@pa_cons _ _ _ _ _ (@pe_op _ _ _ _ _ _ _ _ (@op_mulM _) (@pe_ix _ _ _ _ _ _ _ (@kix_seq _ K (by rfl)) (@pv _ 0 _ _ (by rfl) (by first | exact Or.inl rfl | exact Or.inr (Or.inl rfl) | exact Or.inr (Or.inr rfl)) (by decide) (by decide)) (@pe_int _ _ _ _) (fun _ _ => rfl)) (@pe_ix _ _ _ _ _ _ _ (@kix_seq _ K (by rfl)) (@pv _ 1 _ _ (by rfl) (by first | exact Or.inl rfl | exact Or.inr (Or.inl rfl) | exact Or.inr (Or.inr rfl)) (by decide) (by decide)) (@pe_int _ _ _ _) (fun _ _ => rfl))) (@pa_nil _) (by rfl)) (by rfl)) (by decide) (by rfl) (by rfl)))), ?_⟩
  refine ⟨_, rfl, .inr (.inl ⟨pa, _, 0, _, rfl, rfl, ha, rfl, _, rfl, .inr (.inl ⟨pb, _, 1, _, rfl, rfl, hb, rfl, _, _, rfl, rfl, ⟨(sx.mid (by omega)), (sv.mid (by omega))⟩, _, rfl, .inr (.inl ⟨pb, _, 0, _, rfl, rfl, hb, rfl, _, rfl, .inr (.inl ⟨pa, _, 1, _, rfl, rfl, ha, rfl, _, _, rfl, rfl, ⟨(su.mid (by omega)), (sy.mid (by omega))⟩, _, _, rfl, rfl, _, rfl, .inr (.inl ⟨pa, _, 1, _, rfl, rfl, ha, rfl, _, rfl, .inr (.inl ⟨pb, _, 1, _, rfl, rfl, hb, rfl, _, _, rfl, rfl, ⟨(sy.mid (by omega)), (sv.mid (by omega))⟩, _, _, rfl, (sy.mul sv).mid (by omega), fun z => absurd z (mul_ne (Fr.denp r) (Fr.denp s)), fun _ => ansR q (Fr.ratadd r s) (mul_ne (Fr.denp r) (Fr.denp s)) (((sx.mul sv).mono (show n + m ≤ n + m by omega)).add ((su.mul sy).mono (show m + n ≤ n + m by omega))) ((sy.mul sv).mono (by omega))⟩)⟩)⟩)⟩)⟩)⟩)⟩

abbrev s_minus : Stmt := top 12
theorem sc_minus : FnScope ["a", "b"] ["a", "b"] (defScope s_minus) := ⟨rfl, rfl, rfl, by decide +kernel, rfl, by decide +kernel, by decide +kernel⟩
theorem ok_minus {P : Program} {w : World} {K : PySem.W.Frag} {mg : Str → Option Value} {base : Heap} {f : Addr} {fd : FuncData} (F : Fun K "minus" "minus" s_minus f fd) (gb : Gb mg) {c : Nat → Addr} (cl : Cl K mg c) (d_fraction : Def1 P w K mg base 2 "fraction" ["top", "bottom"] (spFrac (c 1))) : FnOk P w K mg base CX0 3 f fd ["a", "b"] (spR K (fun r s => r - s)) := by
  refine F.ok sc_minus (fun vs H Q E h => ?_) (fun cdv A outer s H vs Q E hr h => ?_)
  · obtain ⟨a, b, r, s, n, m, rfl, _⟩ := h
    rfl
  obtain ⟨_, _, r, s, n, m, rfl, ⟨pa, rfl, ha, sx, sy⟩, ⟨pb, rfl, hb, su, sv⟩, hn, q⟩ := h
  refine ⟨_, (@pss_one _ _ _ (@ps_ret _ _ _ _ (@pe_def1 _ _ _ _ _ _ _ _ _ _ _ d_fraction hr (by omega) rfl (@pa_cons _ _ _ _ _ (@pe_op _ _ _ _ _ _ _ _ (@op_sub _) (@pe_op _ _ _ _ _ _ _ _ (@op_mulM _) (@pe_ix _ _ _ _ _ _ _ (@kix_seq _ K (by rfl)) (@pv _ 0 _ _ (by rfl) (by first | exact Or.inl rfl | exact Or.inr (Or.inl rfl) | exact Or.inr (Or.inr rfl)) (by decide) (by decide)) (@pe_int _ _ _ _) (fun _ _ => rfl)) (@pe_ix _ _ _ _ _ _ _ (@kix_seq _ K (by rfl)) (@pv _ 1 _ _ (by rfl) (by first | exact Or.inl rfl | exact Or.inr (Or.inl rfl) | exact Or.inr (Or.inr rfl)) (by decide) (by decide)) (@pe_int _ _ _ _) (fun _ _ => rfl))) (@pe_op _ _ _ _ _ _ _ _ (@op_mulM _) (@pe_ix _ _ _ _ _ _ _ (@kix_seq _ K (by rfl)) (@pv _ 1 _ _ (by rfl) (by first | exact Or.inl rfl | exact Or.inr (Or.inl rfl) | exact Or.inr (Or.inr rfl)) (by decide) (by decide)) (@pe_int _ _ _ _) (fun _ _ => rfl)) (@pe_ix _ _ _ _ _ _ _ (@kix_seq _ K (by rfl)) (@pv _ 0 _ _ (by rfl) (by first | exact Or.inl rfl | exact Or.inr (Or.inl rfl) | exact Or.inr (Or.inr rfl)) (by decide) (by decide)) (@pe_int _ _ _ _) (fun _ _ => rfl)))) (@pa_cons _ _ _ _ _ (@pe_op _ _ _ _ _ _ _ _ (@op_mulM _) (@pe_ix _ _ _ _ _ _ _ (@kix_seq _ K (by rfl)) (@pv _ 0 _ _ (by rfl) (by first | exact Or.inl rfl | exact Or.inr (Or.inl rfl) | exact Or.inr (Or.inr rfl)) (by decide) (by decide)) (@pe_int _ _ _ _) (fun _ _ => rfl)) (@pe_ix _ _ _ _ _ _ _ (@kix_seq _ K (by rfl)) (@pv _ 1 _ _ (by rfl) (by first | exact Or.inl rfl | exact Or.inr (Or.inl rfl) | exact Or.inr (Or.inr rfl)) (by decide) (by decide)) (@pe_int _ _ _ _) (fun _ _ => rfl))) (@pa_nil _) (by rfl)) (by rfl)) (by decide) (by rfl) (by rfl)))), ?_⟩
  refine ⟨_, rfl, .inr (.inl ⟨pa, _, 0, _, rfl, rfl, ha, rfl, _, rfl, .inr (.inl ⟨pb, _, 1, _, rfl, rfl, hb, rfl, _, _, rfl, rfl, ⟨(sx.mid (by omega)), (sv.mid (by omega))⟩, _, rfl, .inr (.inl ⟨pb, _, 0, _, rfl, rfl, hb, rfl, _, rfl, .inr (.inl ⟨pa, _, 1, _, rfl, rfl, ha, rfl, _, _, rfl, rfl, ⟨(su.mid (by omega)), (sy.mid (by omega))⟩, _, _, rfl, rfl, _, rfl, .inr (.inl ⟨pa, _, 1, _, rfl, rfl, ha, rfl, _, rfl, .inr (.inl ⟨pb, _, 1, _, rfl, rfl, hb, rfl, _, _, rfl, rfl, ⟨(sy.mid (by omega)), (sv.mid (by omega))⟩, _, _, rfl, (sy.mul sv).mid (by omega), fun z => absurd z (mul_ne (Fr.denp r) (Fr.denp s)), fun _ => ansR q (Fr.ratsub r s) (mul_ne (Fr.denp r) (Fr.denp s)) (((sx.mul sv).mono (show n + m ≤ n + m by omega)).sub ((su.mul sy).mono (show m + n ≤ n + m by omega))) ((sy.mul sv).mono (by omega))⟩)⟩)⟩)⟩)⟩)⟩)⟩

abbrev s_times : Stmt := top 13
theorem sc_times : FnScope ["a", "b"] ["a", "b"] (defScope s_times) := ⟨rfl, rfl, rfl, by decide +kernel, rfl, by decide +kernel, by decide +kernel⟩
theorem ok_times {P : Program} {w : World} {K : PySem.W.Frag} {mg : Str → Option Value} {base : Heap} {f : Addr} {fd : FuncData} (F : Fun K "times" "times" s_times f fd) (gb : Gb mg) {c : Nat → Addr} (cl : Cl K mg c) (d_fraction : Def1 P w K mg base 2 "fraction" ["top", "bottom"] (spFrac (c 1))) : FnOk P w K mg base CX0 3 f fd ["a", "b"] (spR K (fun r s => r * s)) := by
  refine F.ok sc_times (fun vs H Q E h => ?_) (fun cdv A outer s H vs Q E hr h => ?_)
  · obtain ⟨a, b, r, s, n, m, rfl, _⟩ := h
    rfl
  obtain ⟨_, _, r, s, n, m, rfl, ⟨pa, rfl, ha, sx, sy⟩, ⟨pb, rfl, hb, su, sv⟩, hn, q⟩ := h
  refine ⟨_, (@pss_one _ _ _ (@ps_ret _ _ _ _ (@pe_def1 _ _ _ _ _ _ _ _ _ _ _ d_fraction hr (by omega) rfl (@pa_cons _ _ _ _ _ (@pe_op _ _ _ _ _ _ _ _ (@op_mulM _) (@pe_ix _ _ _ _ _ _ _ (@kix_seq _ K (by rfl)) (@pv _ 0 _ _ (by rfl) (by first | exact Or.inl rfl | exact Or.inr (Or.inl rfl) | exact Or.inr (Or.inr rfl)) (by decide) (by decide)) (@pe_int _ _ _ _) (fun _ _ => rfl)) (@pe_ix _ _ _ _ _ _ _ (@kix_seq _ K (by rfl)) (@pv _ 1 _ _ (by rfl) (by first | exact Or.inl rfl | exact Or.inr (Or.inl rfl) | exact Or.inr (Or.inr rfl)) (by decide) (by decide)) (@pe_int _ _ _ _) (fun _ _ => rfl))) (@pa_cons _ _ _ _ _ (@pe_op _ _ _ _ _ _ _ _ (@op_mulM _) (@pe_ix _ _ _ _ _ _ _ (@kix_seq _ K (by rfl)) (@pv _ 0 _ _ (by rfl) (by first | exact Or.inl rfl | exact Or.inr (Or.inl rfl) | exact Or.inr (Or.inr rfl)) (by decide) (by decide)) (@pe_int _ _ _ _) (fun _ _ => rfl)) (@pe_ix _ _ _ _ _ _ _ (@kix_seq _ K (by rfl)) (@pv _ 1 _ _ (by rfl) (by first | exact Or.inl rfl | exact Or.inr (Or.inl rfl) | exact Or.inr (Or.inr rfl)) (by decide) (by decide)) (@pe_int _ _ _ _) (fun _ _ => rfl))) (@pa_nil _) (by rfl)) (by rfl)) (by decide) (by rfl) (by rfl)))), ?_⟩
  refine ⟨_, rfl, .inr (.inl ⟨pa, _, 0, _, rfl, rfl, ha, rfl, _, rfl, .inr (.inl ⟨pb, _, 0, _, rfl, rfl, hb, rfl, _, _, rfl, rfl, ⟨(sx.mid (by omega)), (su.mid (by omega))⟩, _, rfl, .inr (.inl ⟨pa, _, 1, _, rfl, rfl, ha, rfl, _, rfl, .inr (.inl ⟨pb, _, 1, _, rfl, rfl, hb, rfl, _, _, rfl, rfl, ⟨(sy.mid (by omega)), (sv.mid (by omega))⟩, _, _, rfl, (sy.mul sv).mid (by omega), fun z => absurd z (mul_ne (Fr.denp r) (Fr.denp s)), fun _ => ansR q (Fr.ratmul r s) (mul_ne (Fr.denp r) (Fr.denp s)) ((sx.mul su).mono (by omega)) ((sy.mul sv).mono (by omega))⟩)⟩)⟩)⟩)⟩

abbrev s_over : Stmt := top 14
theorem sc_over : FnScope ["a", "b"] ["a", "b"] (defScope s_over) := ⟨rfl, rfl, rfl, by decide +kernel, rfl, by decide +kernel, by decide +kernel⟩
theorem ok_over {P : Program} {w : World} {K : PySem.W.Frag} {mg : Str → Option Value} {base : Heap} {f : Addr} {fd : FuncData} (F : Fun K "over" "over" s_over f fd) (gb : Gb mg) {c : Nat → Addr} (cl : Cl K mg c) (d_fraction : Def1 P w K mg base 2 "fraction" ["top", "bottom"] (spFrac (c 1))) : FnOk P w K mg base CX0 3 f fd ["a", "b"] (spOverR K) := by
  refine F.ok sc_over (fun vs H Q E h => ?_) (fun cdv A outer s H vs Q E hr h => ?_)
  · obtain ⟨a, b, r, s, n, m, rfl, _⟩ := h
    rfl
  obtain ⟨_, _, r, s, n, m, rfl, ⟨pa, rfl, ha, sx, sy⟩, ⟨pb, rfl, hb, su, sv⟩, hn, s0, q⟩ := h
  refine ⟨_, (@pss_one _ _ _ (@ps_ret _ _ _ _ (@pe_def1 _ _ _ _ _ _ _ _ _ _ _ d_fraction hr (by omega) rfl (@pa_cons _ _ _ _ _ (@pe_op _ _ _ _ _ _ _ _ (@op_mulM _) (@pe_ix _ _ _ _ _ _ _ (@kix_seq _ K (by rfl)) (@pv _ 0 _ _ (by rfl) (by first | exact Or.inl rfl | exact Or.inr (Or.inl rfl) | exact Or.inr (Or.inr rfl)) (by decide) (by decide)) (@pe_int _ _ _ _) (fun _ _ => rfl)) (@pe_ix _ _ _ _ _ _ _ (@kix_seq _ K (by rfl)) (@pv _ 1 _ _ (by rfl) (by first | exact Or.inl rfl | exact Or.inr (Or.inl rfl) | exact Or.inr (Or.inr rfl)) (by decide) (by decide)) (@pe_int _ _ _ _) (fun _ _ => rfl))) (@pa_cons _ _ _ _ _ (@pe_op _ _ _ _ _ _ _ _ (@op_mulM _) (@pe_ix _ _ _ _ _ _ _ (@kix_seq _ K (by rfl)) (@pv _ 0 _ _ (by rfl) (by first | exact Or.inl rfl | exact Or.inr (Or.inl rfl) | exact Or.inr (Or.inr rfl)) (by decide) (by decide)) (@pe_int _ _ _ _) (fun _ _ => rfl)) (@pe_ix _ _ _ _ _ _ _ (@kix_seq _ K (by rfl)) (@pv _ 1 _ _ (by rfl) (by first | exact Or.inl rfl | exact Or.inr (Or.inl rfl) | exact Or.inr (Or.inr rfl)) (by decide) (by decide)) (@pe_int _ _ _ _) (fun _ _ => rfl))) (@pa_nil _) (by rfl)) (by rfl)) (by decide) (by rfl) (by rfl)))), ?_⟩
  have nb : (r.den : Int) * s.num ≠ 0 := fun z => by
    rcases Int.mul_eq_zero.mp z with z | z
    · exact Fr.den0 r z
    · exact s0 (Rat.num_eq_zero.mp z)
  refine ⟨_, rfl, .inr (.inl ⟨pa, _, 0, _, rfl, rfl, ha, rfl, _, rfl, .inr (.inl ⟨pb, _, 1, _, rfl, rfl, hb, rfl, _, _, rfl, rfl, ⟨(sx.mid (by omega)), (sv.mid (by omega))⟩, _, rfl, .inr (.inl ⟨pa, _, 1, _, rfl, rfl, ha, rfl, _, rfl, .inr (.inl ⟨pb, _, 0, _, rfl, rfl, hb, rfl, _, _, rfl, rfl, ⟨(sy.mid (by omega)), (su.mid (by omega))⟩, _, _, rfl, (sy.mul su).mid (by omega), fun z => absurd z nb, fun _ => ansR q (Fr.ratdiv r s) nb ((sx.mul sv).mono (by omega)) ((sy.mul su).mono (by omega))⟩)⟩)⟩)⟩)⟩

abbrev s_below : Stmt := top 15
theorem sc_below : FnScope ["a", "b"] ["a", "b"] (defScope s_below) := ⟨rfl, rfl, rfl, by decide +kernel, rfl, by decide +kernel, by decide +kernel⟩
theorem ok_below {P : Program} {w : World} {K : PySem.W.Frag} {mg : Str → Option Value} {base : Heap} {f : Addr} {fd : FuncData} (F : Fun K "below" "below" s_below f fd) (gb : Gb mg) {c : Nat → Addr} (cl : Cl K mg c) : FnOk P w K mg base CX0 1 f fd ["a", "b"] (spBelow K) := by
  refine F.ok sc_below (fun vs H Q E h => ?_) (fun cdv A outer s H vs Q E hr h => ?_)
  · obtain ⟨a, b, r, s, n, m, rfl, _⟩ := h
    rfl
  obtain ⟨_, _, r, s, n, m, rfl, ⟨pa, rfl, ha, sx, sy⟩, ⟨pb, rfl, hb, su, sv⟩, hn, q⟩ := h
  refine ⟨_, (@pss_one _ _ _ (@ps_ret _ _ _ _ (@pe_cmpR _ _ _ _ _ _ _ _ (@op_lt _) (@pe_op _ _ _ _ _ _ _ _ (@op_mulM _) (@pe_ix _ _ _ _ _ _ _ (@kix_seq _ K (by rfl)) (@pv _ 0 _ _ (by rfl) (by first | exact Or.inl rfl | exact Or.inr (Or.inl rfl) | exact Or.inr (Or.inr rfl)) (by decide) (by decide)) (@pe_int _ _ _ _) (fun _ _ => rfl)) (@pe_ix _ _ _ _ _ _ _ (@kix_seq _ K (by rfl)) (@pv _ 1 _ _ (by rfl) (by first | exact Or.inl rfl | exact Or.inr (Or.inl rfl) | exact Or.inr (Or.inr rfl)) (by decide) (by decide)) (@pe_int _ _ _ _) (fun _ _ => rfl))) (@pe_op _ _ _ _ _ _ _ _ (@op_mulM _) (@pe_ix _ _ _ _ _ _ _ (@kix_seq _ K (by rfl)) (@pv _ 1 _ _ (by rfl) (by first | exact Or.inl rfl | exact Or.inr (Or.inl rfl) | exact Or.inr (Or.inr rfl)) (by decide) (by decide)) (@pe_int _ _ _ _) (fun _ _ => rfl)) (@pe_ix _ _ _ _ _ _ _ (@kix_seq _ K (by rfl)) (@pv _ 0 _ _ (by rfl) (by first | exact Or.inl rfl | exact Or.inr (Or.inl rfl) | exact Or.inr (Or.inr rfl)) (by decide) (by decide)) (@pe_int _ _ _ _) (fun _ _ => rfl))) (@nomark _ _ (by decide) (by decide))))), ?_⟩
  refine ⟨_, rfl, .inr (.inl ⟨pa, _, 0, _, rfl, rfl, ha, rfl, _, rfl, .inr (.inl ⟨pb, _, 1, _, rfl, rfl, hb, rfl, _, _, rfl, rfl, ⟨(sx.mid (by omega)), (sv.mid (by omega))⟩, _, rfl, .inr (.inl ⟨pb, _, 0, _, rfl, rfl, hb, rfl, _, rfl, .inr (.inl ⟨pa, _, 1, _, rfl, rfl, ha, rfl, _, _, rfl, rfl, ⟨(su.mid (by omega)), (sy.mid (by omega))⟩, _, _, rfl, rfl, ?_⟩)⟩)⟩)⟩)⟩
  have e : decide (r.num * s.den < s.num * r.den) = decide (r < s) := decide_eq_decide.mpr (Fr.ratlt r s)
  dsimp only
  rw [e]
  exact q

abbrev s_check_kind : Stmt := top 21
theorem sc_check_kind : FnScope ["kind"] ["kind"] (defScope s_check_kind) := ⟨rfl, rfl, rfl, by decide +kernel, rfl, by decide +kernel, by decide +kernel⟩
theorem ok_check_kind {P : Program} {w : World} {K : PySem.W.Frag} {mg : Str → Option Value} {base : Heap} {f : Addr} {fd : FuncData} (F : Fun K "check_kind" "check_kind" s_check_kind f fd) (gb : Gb mg) {c : Nat → Addr} (cl : Cl K mg c) : FnOk P w K mg base (CX1 P w) 1 f fd ["kind"] (spKind (c 3)) := by
  refine F.ok1 sc_check_kind (fun vs H Q E h => ?_) (fun cdv A outer s H vs Q E hr h => ?_)
  · obtain ⟨t, v, rfl, _⟩ := h
    rfl
  obtain ⟨t, v, rfl, ht, e0, q⟩ := h
  refine ⟨_, (@pss_one _ _ _ (@ps_if _ _ _ _ _ _ _ _ (@PW.pt _ _ _ (@pw_or _ _ _ _ _ _ _ (@pt_not _ _ _ _ (@pt_val _ _ _ (@pe_callB _ _ _ _ _ _ _ _ _ (@kcall_isiT _ K (by rfl)) rfl gb.isinstance bt_isinstance (@pa_cons _ _ _ _ _ (@pv _ 0 _ _ (by rfl) (by first | exact Or.inl rfl | exact Or.inr (Or.inl rfl) | exact Or.inr (Or.inr rfl)) (by decide) (by decide)) (@pa_cons _ _ _ _ _ (@pe_bltn _ _ (.ty "str") _ _ rfl gb.str bt_str rfl (by decide) (by decide)) (@pa_nil _) (by rfl)) (by rfl)) (by decide) (by decide) (by rfl) (by rfl)) (by intro _; rfl))) (@pw_or1 _ _ _ _ (@pt_cmpR _ _ _ _ _ _ _ _ (@kop_notIn_seq _ K (by rfl)) (@pv _ 0 _ _ (by rfl) (by first | exact Or.inl rfl | exact Or.inr (Or.inl rfl) | exact Or.inr (Or.inr rfl)) (by decide) (by decide)) (@pe_glob _ _ (.ref _) _ _ rfl cl.g_KINDS rfl (by decide)) (by with_unfolding_all rfl))))) (@pss_one _ _ _ (@ps_raise _ _ _ _ _ _ _ _ _ _ _ _ _ _ _ _ _ _ rfl cl.g_NoKind cl.x_NoKind PySem.F.excBase_ValueError rfl PySem.F.excBase_ValueError rfl (@thrown1 _ _ _ _ _ _ _ _ _ _ _ _ _ _ _) (@pa_cons _ _ _ _ _ (@pe_str _ _ _ _) (@pa_nil _) (by rfl)) (by decide) (by rfl) (by rfl))) (@pss_nil _))), ?_⟩
  refine ⟨_, rfl, _, _, _, isStrB t, rfl, ht.ty, kit_str t, _, rfl, ?_⟩
  cases t with
  | str x =>
    cases ht
    refine ⟨_, rfl, _, _, rfl, .inr cl.t_KINDS.sq, rfl, rfl, _, rfl, ?_⟩
    have eb : inV (.str x) [.str "least", .str "cut", .str "times"] = kindB (.str x) := rfl
    dsimp only
    rw [eb]
    cases hb : kindB (.str x) with
    | false => exact ⟨small9 (by show 1 ≤ 1000; decide), e0 hb⟩
    | true => exact q hb
  | _ => exact ⟨small9 (by show 1 ≤ 1000; decide), e0 rfl⟩

abbrev s_lesser : Stmt := top 25
theorem sc_lesser : FnScope ["a", "b"] ["a", "b"] (defScope s_lesser) := ⟨rfl, rfl, rfl, by decide +kernel, rfl, by decide +kernel, by decide +kernel⟩
theorem ok_lesser {P : Program} {w : World} {K : PySem.W.Frag} {mg : Str → Option Value} {base : Heap} {f : Addr} {fd : FuncData} (F : Fun K "lesser" "lesser" s_lesser f fd) (gb : Gb mg) {c : Nat → Addr} (cl : Cl K mg c) (d_below : Def P w K mg base 1 "below" ["a", "b"] (spBelow K)) : FnOk P w K mg base CX0 2 f fd ["a", "b"] (spLG K lessR) := by
  refine F.ok sc_lesser (fun vs H Q E h => ?_) (fun cdv A outer s H vs Q E hr h => ?_)
  · obtain ⟨a, b, r, s, n, m, rfl, _⟩ := h
    rfl
  obtain ⟨va, vb, r, s, n, m, rfl, fa, fb, hn, q⟩ := h
  refine ⟨_, (@pss_one _ _ _ (@ps_ret _ _ _ _ (@pe_ifExp _ _ _ _ _ _ _ _ (@pt_val _ _ _ (@pe_def _ _ _ _ _ _ _ _ _ _ _ d_below hr (by omega) rfl (@pa_cons _ _ _ _ _ (@pv _ 1 _ _ (by rfl) (by first | exact Or.inl rfl | exact Or.inr (Or.inl rfl) | exact Or.inr (Or.inr rfl)) (by decide) (by decide)) (@pa_cons _ _ _ _ _ (@pv _ 0 _ _ (by rfl) (by first | exact Or.inl rfl | exact Or.inr (Or.inl rfl) | exact Or.inr (Or.inr rfl)) (by decide) (by decide)) (@pa_nil _) (by rfl)) (by rfl)) (by decide) (by rfl) (by rfl)) (by intro _; rfl)) (@pv _ 1 _ _ (by rfl) (by first | exact Or.inl rfl | exact Or.inr (Or.inl rfl) | exact Or.inr (Or.inr rfl)) (by decide) (by decide)) (@pv _ 0 _ _ (by rfl) (by first | exact Or.inl rfl | exact Or.inr (Or.inl rfl) | exact Or.inr (Or.inr rfl)) (by decide) (by decide))))), ?_⟩
  have qa := q va
  have qb := q vb
  unfold lessR at qa qb
  refine ⟨_, rfl, _, rfl, _, _, s, r, m, n, rfl, fb, fa, by omega, _, rfl, ite2 (fun c => ?_) (fun c => ?_)⟩
  · rw [if_pos (of_decide_eq_true c)] at qb
    exact ⟨_, rfl, qb (fb.mono (by omega))⟩
  · rw [if_neg (fun z => c (decide_eq_true z))] at qa
    exact ⟨_, rfl, qa (fa.mono (by omega))⟩

abbrev s_greater : Stmt := top 26
theorem sc_greater : FnScope ["a", "b"] ["a", "b"] (defScope s_greater) := ⟨rfl, rfl, rfl, by decide +kernel, rfl, by decide +kernel, by decide +kernel⟩
theorem ok_greater {P : Program} {w : World} {K : PySem.W.Frag} {mg : Str → Option Value} {base : Heap} {f : Addr} {fd : FuncData} (F : Fun K "greater" "greater" s_greater f fd) (gb : Gb mg) {c : Nat → Addr} (cl : Cl K mg c) (d_below : Def P w K mg base 1 "below" ["a", "b"] (spBelow K)) : FnOk P w K mg base CX0 2 f fd ["a", "b"] (spLG K greatR) := by
  refine F.ok sc_greater (fun vs H Q E h => ?_) (fun cdv A outer s H vs Q E hr h => ?_)
  · obtain ⟨a, b, r, s, n, m, rfl, _⟩ := h
    rfl
  obtain ⟨va, vb, r, s, n, m, rfl, fa, fb, hn, q⟩ := h
  refine ⟨_, (@pss_one _ _ _ (@ps_ret _ _ _ _ (@pe_ifExp _ _ _ _ _ _ _ _ (@pt_val _ _ _ (@pe_def _ _ _ _ _ _ _ _ _ _ _ d_below hr (by omega) rfl (@pa_cons _ _ _ _ _ (@pv _ 0 _ _ (by rfl) (by first | exact Or.inl rfl | exact Or.inr (Or.inl rfl) | exact Or.inr (Or.inr rfl)) (by decide) (by decide)) (@pa_cons _ _ _ _ _ (@pv _ 1 _ _ (by rfl) (by first | exact Or.inl rfl | exact Or.inr (Or.inl rfl) | exact Or.inr (Or.inr rfl)) (by decide) (by decide)) (@pa_nil _) (by rfl)) (by rfl)) (by decide) (by rfl) (by rfl)) (by intro _; rfl)) (@pv _ 1 _ _ (by rfl) (by first | exact Or.inl rfl | exact Or.inr (Or.inl rfl) | exact Or.inr (Or.inr rfl)) (by decide) (by decide)) (@pv _ 0 _ _ (by rfl) (by first | exact Or.inl rfl | exact Or.inr (Or.inl rfl) | exact Or.inr (Or.inr rfl)) (by decide) (by decide))))), ?_⟩
  have qa := q va
  have qb := q vb
  unfold greatR at qa qb
  refine ⟨_, rfl, _, rfl, _, _, r, s, n, m, rfl, fa, fb, by omega, _, rfl, ite2 (fun c => ?_) (fun c => ?_)⟩
  · rw [if_pos (of_decide_eq_true c)] at qb
    exact ⟨_, rfl, qb (fb.mono (by omega))⟩
  · rw [if_neg (fun z => c (decide_eq_true z))] at qa
    exact ⟨_, rfl, qa (fa.mono (by omega))⟩

abbrev s_connected_then : Stmt := top 23
theorem sc_connected_then : FnScope ["kind", "a", "b"] ["kind", "a", "b"] (defScope s_connected_then) := ⟨rfl, rfl, rfl, by decide +kernel, rfl, by decide +kernel, by decide +kernel⟩
theorem ok_connected_then {P : Program} {w : World} {K : PySem.W.Frag} {mg : Str → Option Value} {base : Heap} {f : Addr} {fd : FuncData} (F : Fun K "connected_then" "connected_then" s_connected_then f fd) (gb : Gb mg) {c : Nat → Addr} (cl : Cl K mg c) (d_below : Def P w K mg base 1 "below" ["a", "b"] (spBelow K)) (d_plus : Def P w K mg base 3 "plus" ["a", "b"] (spR K (fun r s => r + s))) (d_minus : Def P w K mg base 3 "minus" ["a", "b"] (spR K (fun r s => r - s))) (d_over : Def P w K mg base 3 "over" ["a", "b"] (spOverR K)) : FnOk P w K mg base CX0 4 f fd ["kind", "a", "b"] (spThen K thenR) := by
  refine F.ok sc_connected_then (fun vs H Q E h => ?_) (fun cdv A outer s H vs Q E hr h => ?_)
  · obtain ⟨k, a, b, r, s, n, m, rfl, _⟩ := h
    rfl
  obtain ⟨k, va, vb, r, s, n, m, rfl, kd, fa, fb, s0, hn, q⟩ := h
  refine ⟨_, (@pss_cons _ _ _ _ _ (@ps_if _ _ _ _ _ _ _ _ (@pt_not _ _ _ _ (@pt_val _ _ _ (@pe_def _ _ _ _ _ _ _ _ _ _ _ d_below hr (by omega) rfl (@pa_cons _ _ _ _ _ (@pv _ 2 _ _ (by rfl) (by first | exact Or.inl rfl | exact Or.inr (Or.inl rfl) | exact Or.inr (Or.inr rfl)) (by decide) (by decide)) (@pa_cons _ _ _ _ _ (@pv _ 1 _ _ (by rfl) (by first | exact Or.inl rfl | exact Or.inr (Or.inl rfl) | exact Or.inr (Or.inr rfl)) (by decide) (by decide)) (@pa_nil _) (by rfl)) (by rfl)) (by decide) (by rfl) (by rfl)) (by intro _; rfl))) (@pss_one _ _ _ (@ps_ret _ _ _ _ (@pe_glob _ _ (.ref _) _ _ rfl cl.g_ONE rfl (by decide)))) (@pss_nil _)) (@pss_cons _ _ _ _ _ (@ps_if _ _ _ _ _ _ _ _ (@pt_cmpR _ _ _ _ _ _ _ _ (@op_eq _) (@pv _ 0 _ _ (by rfl) (by first | exact Or.inl rfl | exact Or.inr (Or.inl rfl) | exact Or.inr (Or.inr rfl)) (by decide) (by decide)) (@pe_str _ _ _ _) (@nomark _ _ (by decide) (by decide))) (@pss_one _ _ _ (@ps_ret _ _ _ _ (@pv _ 2 _ _ (by rfl) (by first | exact Or.inl rfl | exact Or.inr (Or.inl rfl) | exact Or.inr (Or.inr rfl)) (by decide) (by decide)))) (@pss_nil _)) (@pss_cons _ _ _ _ _ (@ps_if _ _ _ _ _ _ _ _ (@pt_cmpR _ _ _ _ _ _ _ _ (@op_eq _) (@pv _ 0 _ _ (by rfl) (by first | exact Or.inl rfl | exact Or.inr (Or.inl rfl) | exact Or.inr (Or.inr rfl)) (by decide) (by decide)) (@pe_str _ _ _ _) (@nomark _ _ (by decide) (by decide))) (@pss_one _ _ _ (@ps_ret _ _ _ _ (@pe_def _ _ _ _ _ _ _ _ _ _ _ d_plus hr (by omega) rfl (@pa_cons _ _ _ _ _ (@pe_def _ _ _ _ _ _ _ _ _ _ _ d_minus hr (by omega) rfl (@pa_cons _ _ _ _ _ (@pe_glob _ _ (.ref _) _ _ rfl cl.g_ONE rfl (by decide)) (@pa_cons _ _ _ _ _ (@pv _ 1 _ _ (by rfl) (by first | exact Or.inl rfl | exact Or.inr (Or.inl rfl) | exact Or.inr (Or.inr rfl)) (by decide) (by decide)) (@pa_nil _) (by rfl)) (by rfl)) (by decide) (by rfl) (by rfl)) (@pa_cons _ _ _ _ _ (@pv _ 2 _ _ (by rfl) (by first | exact Or.inl rfl | exact Or.inr (Or.inl rfl) | exact Or.inr (Or.inr rfl)) (by decide) (by decide)) (@pa_nil _) (by rfl)) (by rfl)) (by decide) (by rfl) (by rfl)))) (@pss_nil _)) (@pss_one _ _ _ (@ps_ret _ _ _ _ (@pe_def _ _ _ _ _ _ _ _ _ _ _ d_over hr (by omega) rfl (@pa_cons _ _ _ _ _ (@pv _ 2 _ _ (by rfl) (by first | exact Or.inl rfl | exact Or.inr (Or.inl rfl) | exact Or.inr (Or.inr rfl)) (by decide) (by decide)) (@pa_cons _ _ _ _ _ (@pv _ 1 _ _ (by rfl) (by first | exact Or.inl rfl | exact Or.inr (Or.inl rfl) | exact Or.inr (Or.inr rfl)) (by decide) (by decide)) (@pa_nil _) (by rfl)) (by rfl)) (by decide) (by rfl) (by rfl))))))), ?_⟩
  have qq := q
  unfold thenR at qq
  have f1 : FR K H (.ref (c 8)) 1 1 := FR.k (r := 1) cl.t_ONE (by unfold Sz; decide) (by unfold Sz; decide)
  refine ⟨_, rfl, _, rfl, vb, va, s, r, m, n, rfl, fb, fa, by omega, _, rfl, ?_⟩
  by_cases h : s < r
  · rw [if_pos h] at qq
    rw [decide_eq_true h]
    refine ⟨_, rfl, rfl, _, rfl, ?_⟩
    by_cases e1 : k = "least"
    · rw [if_pos e1] at qq
      refine iteDT (decide_eq_true (by rw [e1])) ?_
      exact ⟨_, rfl, qq _ _ (Same.refl H) (fb.mono (by omega))⟩
    rw [if_neg e1] at qq
    refine iteDF (decide_eq_false fun z => e1 (V.str.inj z)) ?_
    refine ⟨_, rfl, rfl, _, rfl, ?_⟩
    by_cases e2 : k = "cut"
    · rw [if_pos e2] at qq
      refine iteDT (decide_eq_true (by rw [e2])) ?_
      refine ⟨_, rfl, _, _, _, _, 1, n, rfl, f1, fa, by omega, fun v1 H1 s1 g1 => ?_⟩
      exact ⟨_, rfl, _, _, _, _, 1 + n + 1, m, rfl, g1, fb.same s1, by omega, fun v2 H2 s2 g2 => qq _ _ (s1.trans s2) (g2.mono (by omega))⟩
    rw [if_neg e2] at qq
    refine iteDF (decide_eq_false fun z => e2 (V.str.inj z)) ?_
    refine ⟨_, rfl, _, rfl, _, _, _, _, m, n, rfl, fb, fa, by omega, fun z => ?_, fun v2 H2 s2 g2 => qq _ _ s2 (g2.mono (by omega))⟩
    rw [z] at h
    exact absurd h (Rat.not_lt.mpr s0)
  · rw [if_neg h] at qq
    rw [decide_eq_false h]
    exact qq _ _ (Same.refl H) (f1.mono (by omega))

abbrev s_connected_with : Stmt := top 24
theorem sc_connected_with : FnScope ["kind", "a", "b"] ["kind", "a", "b"] (defScope s_connected_with) := ⟨rfl, rfl, rfl, by decide +kernel, rfl, by decide +kernel, by decide +kernel⟩
theorem ok_connected_with {P : Program} {w : World} {K : PySem.W.Frag} {mg : Str → Option Value} {base : Heap} {f : Addr} {fd : FuncData} (F : Fun K "connected_with" "connected_with" s_connected_with f fd) (gb : Gb mg) {c : Nat → Addr} (cl : Cl K mg c) (d_lesser : Def P w K mg base 2 "lesser" ["a", "b"] (spLG K lessR)) (d_greater : Def P w K mg base 2 "greater" ["a", "b"] (spLG K greatR)) (d_minus : Def P w K mg base 3 "minus" ["a", "b"] (spR K (fun r s => r - s))) (d_plus : Def P w K mg base 3 "plus" ["a", "b"] (spR K (fun r s => r + s))) (d_times : Def P w K mg base 3 "times" ["a", "b"] (spR K (fun r s => r * s))) : FnOk P w K mg base CX0 4 f fd ["kind", "a", "b"] (spThen K withR) := by
  refine F.ok sc_connected_with (fun vs H Q E h => ?_) (fun cdv A outer s H vs Q E hr h => ?_)
  · obtain ⟨k, a, b, r, s, n, m, rfl, _⟩ := h
    rfl
  obtain ⟨k, va, vb, r, s, n, m, rfl, kd, fa, fb, s0, hn, q⟩ := h
  refine ⟨_, (@pss_cons _ _ _ _ _ (@ps_if _ _ _ _ _ _ _ _ (@pt_cmpR _ _ _ _ _ _ _ _ (@op_eq _) (@pv _ 0 _ _ (by rfl) (by first | exact Or.inl rfl | exact Or.inr (Or.inl rfl) | exact Or.inr (Or.inr rfl)) (by decide) (by decide)) (@pe_str _ _ _ _) (@nomark _ _ (by decide) (by decide))) (@pss_one _ _ _ (@ps_ret _ _ _ _ (@pe_def _ _ _ _ _ _ _ _ _ _ _ d_lesser hr (by omega) rfl (@pa_cons _ _ _ _ _ (@pv _ 1 _ _ (by rfl) (by first | exact Or.inl rfl | exact Or.inr (Or.inl rfl) | exact Or.inr (Or.inr rfl)) (by decide) (by decide)) (@pa_cons _ _ _ _ _ (@pv _ 2 _ _ (by rfl) (by first | exact Or.inl rfl | exact Or.inr (Or.inl rfl) | exact Or.inr (Or.inr rfl)) (by decide) (by decide)) (@pa_nil _) (by rfl)) (by rfl)) (by decide) (by rfl) (by rfl)))) (@pss_nil _)) (@pss_cons _ _ _ _ _ (@ps_if _ _ _ _ _ _ _ _ (@pt_cmpR _ _ _ _ _ _ _ _ (@op_eq _) (@pv _ 0 _ _ (by rfl) (by first | exact Or.inl rfl | exact Or.inr (Or.inl rfl) | exact Or.inr (Or.inr rfl)) (by decide) (by decide)) (@pe_str _ _ _ _) (@nomark _ _ (by decide) (by decide))) (@pss_one _ _ _ (@ps_ret _ _ _ _ (@pe_def _ _ _ _ _ _ _ _ _ _ _ d_greater hr (by omega) rfl (@pa_cons _ _ _ _ _ (@pe_def _ _ _ _ _ _ _ _ _ _ _ d_minus hr (by omega) rfl (@pa_cons _ _ _ _ _ (@pe_def _ _ _ _ _ _ _ _ _ _ _ d_plus hr (by omega) rfl (@pa_cons _ _ _ _ _ (@pv _ 1 _ _ (by rfl) (by first | exact Or.inl rfl | exact Or.inr (Or.inl rfl) | exact Or.inr (Or.inr rfl)) (by decide) (by decide)) (@pa_cons _ _ _ _ _ (@pv _ 2 _ _ (by rfl) (by first | exact Or.inl rfl | exact Or.inr (Or.inl rfl) | exact Or.inr (Or.inr rfl)) (by decide) (by decide)) (@pa_nil _) (by rfl)) (by rfl)) (by decide) (by rfl) (by rfl)) (@pa_cons _ _ _ _ _ (@pe_glob _ _ (.ref _) _ _ rfl cl.g_ONE rfl (by decide)) (@pa_nil _) (by rfl)) (by rfl)) (by decide) (by rfl) (by rfl)) (@pa_cons _ _ _ _ _ (@pe_glob _ _ (.ref _) _ _ rfl cl.g_NOUGHT rfl (by decide)) (@pa_nil _) (by rfl)) (by rfl)) (by decide) (by rfl) (by rfl)))) (@pss_nil _)) (@pss_one _ _ _ (@ps_ret _ _ _ _ (@pe_def _ _ _ _ _ _ _ _ _ _ _ d_times hr (by omega) rfl (@pa_cons _ _ _ _ _ (@pv _ 1 _ _ (by rfl) (by first | exact Or.inl rfl | exact Or.inr (Or.inl rfl) | exact Or.inr (Or.inr rfl)) (by decide) (by decide)) (@pa_cons _ _ _ _ _ (@pv _ 2 _ _ (by rfl) (by first | exact Or.inl rfl | exact Or.inr (Or.inl rfl) | exact Or.inr (Or.inr rfl)) (by decide) (by decide)) (@pa_nil _) (by rfl)) (by rfl)) (by decide) (by rfl) (by rfl)))))), ?_⟩
  have qq := q
  unfold withR at qq
  have f1 : ∀ H', FR K H' (.ref (c 8)) 1 1 := fun H' => FR.k (r := 1) cl.t_ONE (by unfold Sz; decide) (by unfold Sz; decide)
  have f0 : ∀ H', FR K H' (.ref (c 7)) 0 1 := fun H' => FR.k (r := 0) cl.t_NOUGHT (by unfold Sz; decide) (by unfold Sz; decide)
  refine ⟨_, rfl, rfl, _, rfl, ?_⟩
  by_cases e1 : k = "least"
  · rw [if_pos e1] at qq
    refine iteDT (decide_eq_true (by rw [e1])) ?_
    exact ⟨_, rfl, _, rfl, _, _, _, _, n, m, rfl, fa, fb, by omega, fun v g => qq _ _ (Same.refl H) (g.mono (by omega))⟩
  rw [if_neg e1] at qq
  refine iteDF (decide_eq_false fun z => e1 (V.str.inj z)) ?_
  refine ⟨_, rfl, rfl, _, rfl, ?_⟩
  by_cases e2 : k = "cut"
  · rw [if_pos e2] at qq
    refine iteDT (decide_eq_true (by rw [e2])) ?_
    refine ⟨_, rfl, _, rfl, _, _, _, _, n, m, rfl, fa, fb, by omega, fun v1 H1 s1 g1 => ?_⟩
    refine ⟨_, _, _, _, n + m + 1, 1, rfl, g1, f1 _, by omega, fun v2 H2 s2 g2 => ?_⟩
    exact ⟨_, _, _, _, n + m + 1 + 1 + 1, 1, rfl, g2, f0 _, by omega, fun v3 g3 => qq _ _ (s1.trans s2) (g3.mono (by omega))⟩
  rw [if_neg e2] at qq
  refine iteDF (decide_eq_false fun z => e2 (V.str.inj z)) ?_
  exact ⟨_, rfl, _, rfl, _, _, _, _, n, m, rfl, fa, fb, by omega, fun v1 H1 s1 g1 => qq _ _ s1 (g1.mono (by omega))⟩

abbrev s_connected : Stmt := top 22
theorem sc_connected : FnScope ["kind", "name", "grades"] ["kind", "name", "grades"] (defScope s_connected) := ⟨rfl, rfl, rfl, by decide +kernel, rfl, by decide +kernel, by decide +kernel⟩
theorem ok_connected {P : Program} {w : World} {K : PySem.W.Frag} {mg : Str → Option Value} {base : Heap} {f : Addr} {fd : FuncData} (F : Fun K "connected" "connected" s_connected f fd) (gb : Gb mg) {c : Nat → Addr} (cl : Cl K mg c) (d_connected_then : Def P w K mg base 4 "connected_then" ["kind", "a", "b"] (spThen K thenR)) (d_connected_with : Def P w K mg base 4 "connected_with" ["kind", "a", "b"] (spThen K withR)) (d_greater : Def P w K mg base 2 "greater" ["a", "b"] (spLG K greatR)) (d_lesser : Def P w K mg base 2 "lesser" ["a", "b"] (spLG K lessR)) : FnOk P w K mg base CX0 5 f fd ["kind", "name", "grades"] (spConn K) := by
  refine F.ok sc_connected (fun vs H Q E h => ?_) (fun cdv A outer s H vs Q E hr h => ?_)
  · obtain ⟨k, nm, g, zs, n, rfl, _⟩ := h
    rfl
  obtain ⟨k, nm, g, zs, n, rfl, kd, hm, hl, hg, fz, z0, hn, q⟩ := h
  refine ⟨_, (@pss_cons _ _ _ _ _ (@ps_if _ _ _ _ _ _ _ _ (@pt_cmpR _ _ _ _ _ _ _ _ (@op_eq _) (@pv _ 1 _ _ (by rfl) (by first | exact Or.inl rfl | exact Or.inr (Or.inl rfl) | exact Or.inr (Or.inr rfl)) (by decide) (by decide)) (@pe_str _ _ _ _) (@nomark _ _ (by decide) (by decide))) (@pss_one _ _ _ (@ps_ret _ _ _ _ (@pe_glob _ _ (.ref _) _ _ rfl cl.g_NOUGHT rfl (by decide)))) (@pss_nil _)) (@pss_cons _ _ _ _ _ (@ps_if _ _ _ _ _ _ _ _ (@pt_cmpR _ _ _ _ _ _ _ _ (@op_eq _) (@pv _ 1 _ _ (by rfl) (by first | exact Or.inl rfl | exact Or.inr (Or.inl rfl) | exact Or.inr (Or.inr rfl)) (by decide) (by decide)) (@pe_str _ _ _ _) (@nomark _ _ (by decide) (by decide))) (@pss_one _ _ _ (@ps_ret _ _ _ _ (@pe_glob _ _ (.ref _) _ _ rfl cl.g_ONE rfl (by decide)))) (@pss_nil _)) (@pss_cons _ _ _ _ _ (@ps_if _ _ _ _ _ _ _ _ (@pt_cmpR _ _ _ _ _ _ _ _ (@op_eq _) (@pv _ 1 _ _ (by rfl) (by first | exact Or.inl rfl | exact Or.inr (Or.inl rfl) | exact Or.inr (Or.inr rfl)) (by decide) (by decide)) (@pe_str _ _ _ _) (@nomark _ _ (by decide) (by decide))) (@pss_one _ _ _ (@ps_ret _ _ _ _ (@pe_def _ _ _ _ _ _ _ _ _ _ _ d_connected_then hr (by omega) rfl (@pa_cons _ _ _ _ _ (@pv _ 0 _ _ (by rfl) (by first | exact Or.inl rfl | exact Or.inr (Or.inl rfl) | exact Or.inr (Or.inr rfl)) (by decide) (by decide)) (@pa_cons _ _ _ _ _ (@pe_ix _ _ _ _ _ _ _ (@kix_seq _ K (by rfl)) (@pv _ 2 _ _ (by rfl) (by first | exact Or.inl rfl | exact Or.inr (Or.inl rfl) | exact Or.inr (Or.inr rfl)) (by decide) (by decide)) (@pe_int _ _ _ _) (fun _ _ => rfl)) (@pa_cons _ _ _ _ _ (@pe_glob _ _ (.ref _) _ _ rfl cl.g_NOUGHT rfl (by decide)) (@pa_nil _) (by rfl)) (by rfl)) (by rfl)) (by decide) (by rfl) (by rfl)))) (@pss_nil _)) (@pss_cons _ _ _ _ _ (@ps_if _ _ _ _ _ _ _ _ (@pt_cmpR _ _ _ _ _ _ _ _ (@op_eq _) (@pv _ 1 _ _ (by rfl) (by first | exact Or.inl rfl | exact Or.inr (Or.inl rfl) | exact Or.inr (Or.inr rfl)) (by decide) (by decide)) (@pe_str _ _ _ _) (@nomark _ _ (by decide) (by decide))) (@pss_one _ _ _ (@ps_ret _ _ _ _ (@pe_def _ _ _ _ _ _ _ _ _ _ _ d_connected_then hr (by omega) rfl (@pa_cons _ _ _ _ _ (@pv _ 0 _ _ (by rfl) (by first | exact Or.inl rfl | exact Or.inr (Or.inl rfl) | exact Or.inr (Or.inr rfl)) (by decide) (by decide)) (@pa_cons _ _ _ _ _ (@pe_ix _ _ _ _ _ _ _ (@kix_seq _ K (by rfl)) (@pv _ 2 _ _ (by rfl) (by first | exact Or.inl rfl | exact Or.inr (Or.inl rfl) | exact Or.inr (Or.inr rfl)) (by decide) (by decide)) (@pe_int _ _ _ _) (fun _ _ => rfl)) (@pa_cons _ _ _ _ _ (@pe_ix _ _ _ _ _ _ _ (@kix_seq _ K (by rfl)) (@pv _ 2 _ _ (by rfl) (by first | exact Or.inl rfl | exact Or.inr (Or.inl rfl) | exact Or.inr (Or.inr rfl)) (by decide) (by decide)) (@pe_int _ _ _ _) (fun _ _ => rfl)) (@pa_nil _) (by rfl)) (by rfl)) (by rfl)) (by decide) (by rfl) (by rfl)))) (@pss_nil _)) (@pss_cons _ _ _ _ _ (@ps_if _ _ _ _ _ _ _ _ (@pt_cmpR _ _ _ _ _ _ _ _ (@op_eq _) (@pv _ 1 _ _ (by rfl) (by first | exact Or.inl rfl | exact Or.inr (Or.inl rfl) | exact Or.inr (Or.inr rfl)) (by decide) (by decide)) (@pe_str _ _ _ _) (@nomark _ _ (by decide) (by decide))) (@pss_one _ _ _ (@ps_ret _ _ _ _ (@pe_def _ _ _ _ _ _ _ _ _ _ _ d_connected_with hr (by omega) rfl (@pa_cons _ _ _ _ _ (@pv _ 0 _ _ (by rfl) (by first | exact Or.inl rfl | exact Or.inr (Or.inl rfl) | exact Or.inr (Or.inr rfl)) (by decide) (by decide)) (@pa_cons _ _ _ _ _ (@pe_ix _ _ _ _ _ _ _ (@kix_seq _ K (by rfl)) (@pv _ 2 _ _ (by rfl) (by first | exact Or.inl rfl | exact Or.inr (Or.inl rfl) | exact Or.inr (Or.inr rfl)) (by decide) (by decide)) (@pe_int _ _ _ _) (fun _ _ => rfl)) (@pa_cons _ _ _ _ _ (@pe_ix _ _ _ _ _ _ _ (@kix_seq _ K (by rfl)) (@pv _ 2 _ _ (by rfl) (by first | exact Or.inl rfl | exact Or.inr (Or.inl rfl) | exact Or.inr (Or.inr rfl)) (by decide) (by decide)) (@pe_int _ _ _ _) (fun _ _ => rfl)) (@pa_nil _) (by rfl)) (by rfl)) (by rfl)) (by decide) (by rfl) (by rfl)))) (@pss_nil _)) (@pss_cons _ _ _ _ _ (@ps_if _ _ _ _ _ _ _ _ (@pt_cmpR _ _ _ _ _ _ _ _ (@op_eq _) (@pv _ 1 _ _ (by rfl) (by first | exact Or.inl rfl | exact Or.inr (Or.inl rfl) | exact Or.inr (Or.inr rfl)) (by decide) (by decide)) (@pe_str _ _ _ _) (@nomark _ _ (by decide) (by decide))) (@pss_one _ _ _ (@ps_ret _ _ _ _ (@pe_def _ _ _ _ _ _ _ _ _ _ _ d_greater hr (by omega) rfl (@pa_cons _ _ _ _ _ (@pe_ix _ _ _ _ _ _ _ (@kix_seq _ K (by rfl)) (@pv _ 2 _ _ (by rfl) (by first | exact Or.inl rfl | exact Or.inr (Or.inl rfl) | exact Or.inr (Or.inr rfl)) (by decide) (by decide)) (@pe_int _ _ _ _) (fun _ _ => rfl)) (@pa_cons _ _ _ _ _ (@pe_ix _ _ _ _ _ _ _ (@kix_seq _ K (by rfl)) (@pv _ 2 _ _ (by rfl) (by first | exact Or.inl rfl | exact Or.inr (Or.inl rfl) | exact Or.inr (Or.inr rfl)) (by decide) (by decide)) (@pe_int _ _ _ _) (fun _ _ => rfl)) (@pa_nil _) (by rfl)) (by rfl)) (by decide) (by rfl) (by rfl)))) (@pss_nil _)) (@pss_one _ _ _ (@ps_ret _ _ _ _ (@pe_def _ _ _ _ _ _ _ _ _ _ _ d_lesser hr (by omega) rfl (@pa_cons _ _ _ _ _ (@pe_ix _ _ _ _ _ _ _ (@kix_seq _ K (by rfl)) (@pv _ 2 _ _ (by rfl) (by first | exact Or.inl rfl | exact Or.inr (Or.inl rfl) | exact Or.inr (Or.inr rfl)) (by decide) (by decide)) (@pe_int _ _ _ _) (fun _ _ => rfl)) (@pa_cons _ _ _ _ _ (@pe_ix _ _ _ _ _ _ _ (@kix_seq _ K (by rfl)) (@pv _ 2 _ _ (by rfl) (by first | exact Or.inl rfl | exact Or.inr (Or.inl rfl) | exact Or.inr (Or.inr rfl)) (by decide) (by decide)) (@pe_int _ _ _ _) (fun _ _ => rfl)) (@pa_nil _) (by rfl)) (by rfl)) (by decide) (by rfl) (by rfl)))))))))), ?_⟩
  have f1 : FR K H (.ref (c 8)) 1 1 := FR.k (r := 1) cl.t_ONE (by unfold Sz; decide) (by unfold Sz; decide)
  have f0 : FR K H (.ref (c 7)) 0 1 := FR.k (r := 0) cl.t_NOUGHT (by unfold Sz; decide) (by unfold Sz; decide)
  unfold names7 at hm
  simp only [List.mem_cons, List.not_mem_nil, or_false] at hm
  rcases hm with rfl | rfl | rfl | rfl | rfl | rfl | rfl
  · obtain ⟨z1, z2, rfl⟩ : ∃ z1 z2, zs = [z1, z2] := two hl
    walk_at "ds"
    exact ⟨_, rfl, .inl ⟨g, _, 0, _, rfl, rfl, SqL.of hg, rfl, _, rfl, .inl ⟨g, _, 1, _, rfl, rfl, SqL.of hg, rfl, _, _, _, _, n, n, rfl, fz z1 (by simp), fz z2 (by simp), by omega, fun v g => q _ _ (Same.refl H) (g.mono (by omega))⟩⟩⟩
  · obtain ⟨z1, z2, rfl⟩ : ∃ z1 z2, zs = [z1, z2] := two hl
    walk_at "ds"
    exact ⟨_, rfl, .inl ⟨g, _, 0, _, rfl, rfl, SqL.of hg, rfl, _, rfl, .inl ⟨g, _, 1, _, rfl, rfl, SqL.of hg, rfl, _, _, _, _, n, n, rfl, fz z1 (by simp), fz z2 (by simp), by omega, fun v g => q _ _ (Same.refl H) (g.mono (by omega))⟩⟩⟩
  · obtain ⟨z1, z2, rfl⟩ : ∃ z1 z2, zs = [z1, z2] := two hl
    walk_at "ds"
    exact ⟨_, rfl, _, rfl, .inl ⟨g, _, 0, _, rfl, rfl, SqL.of hg, rfl, _, rfl, .inl ⟨g, _, 1, _, rfl, rfl, SqL.of hg, rfl, k, _, _, _, _, n, n, rfl, kd, fz z1 (by simp), fz z2 (by simp), z0 z2 (by simp), by omega, fun v H1 s1 g => q _ _ s1 (g.mono (by omega))⟩⟩⟩
  · obtain ⟨z1, z2, rfl⟩ : ∃ z1 z2, zs = [z1, z2] := two hl
    walk_at "ds"
    exact ⟨_, rfl, _, rfl, .inl ⟨g, _, 0, _, rfl, rfl, SqL.of hg, rfl, _, rfl, .inl ⟨g, _, 1, _, rfl, rfl, SqL.of hg, rfl, k, _, _, _, _, n, n, rfl, kd, fz z1 (by simp), fz z2 (by simp), z0 z2 (by simp), by omega, fun v H1 s1 g => q _ _ s1 (g.mono (by omega))⟩⟩⟩
  · obtain ⟨z1, rfl⟩ : ∃ z1, zs = [z1] := one1 hl
    walk_at "ds"
    exact ⟨_, rfl, _, rfl, .inl ⟨g, _, 0, _, rfl, rfl, SqL.of hg, rfl, k, _, _, _, _, n, 1, rfl, kd, fz z1 (by simp), f0, by decide, by omega, fun v H1 s1 g => q _ _ s1 (g.mono (by omega))⟩⟩
  · walk_at "ds"
    exact q _ _ (Same.refl H) (f0.mono (by omega))
  · walk_at "ds"
    exact q _ _ (Same.refl H) (f1.mono (by omega))

abbrev s_power : Stmt := top 29
theorem sc_power : FnScope ["base", "exponent", "product", "step"] ["base", "exponent"] (defScope s_power) := ⟨rfl, rfl, rfl, by decide +kernel, rfl, by decide +kernel, by decide +kernel⟩
theorem ok_power {P : Program} {w : World} {K : PySem.W.Frag} {mg : Str → Option Value} {base : Heap} {f : Addr} {fd : FuncData} (F : Fun K "power" "power" s_power f fd) (gb : Gb mg) {c : Nat → Addr} (cl : Cl K mg c) : FnOk P w K mg base CX0 1 f fd ["base", "exponent"] spPower := by
  refine F.ok sc_power (fun vs H Q E h => ?_) (fun cdv A outer s H vs Q E hr h => ?_)
  · obtain ⟨b, n, rfl, _⟩ := h
    rfl
  obtain ⟨b, n, rfl, b1, b9, n9, q⟩ := h
  refine ⟨_, (@pss_cons _ _ _ _ _ (@ps_set _ _ 2 _ _ _ _ sc_power.nd rfl (Or.inl rfl) (@pe_int _ _ _ _) (by rfl) (by first | exact .inl rfl | exact .inr rfl | assumption)) (@pss_cons _ _ _ _ _ (@ps_for _ _ _ _ _ _ _ _ PassesOwn.never rfl (@pi_range1 _ _ _ _ _ _ rfl gb.range (@pa_cons _ _ _ _ _ (@pv _ 1 _ _ (by rfl) (by first | exact Or.inl rfl | exact Or.inr (Or.inl rfl) | exact Or.inr (Or.inr rfl)) (by decide) (by decide)) (@pa_nil _) (by rfl)) (by rfl)) (@pg_name _ _ 3 _ sc_power.nd rfl (Or.inl rfl) (by first | exact .inl rfl | exact .inr rfl | assumption)) (@pss_one _ _ _ (@ps_set _ _ 2 _ _ _ _ sc_power.nd rfl (Or.inl rfl) (@pe_op _ _ _ _ _ _ _ _ (@op_mul _) (@pv _ 2 _ _ (by rfl) (by first | exact Or.inl rfl | exact Or.inr (Or.inl rfl) | exact Or.inr (Or.inr rfl)) (by decide) (by decide)) (@pv _ 0 _ _ (by rfl) (by first | exact Or.inl rfl | exact Or.inr (Or.inl rfl) | exact Or.inr (Or.inr rfl)) (by decide) (by decide))) (by rfl) (by first | exact .inl rfl | exact .inr rfl | assumption))) (by intro _; rfl)) (@pss_one _ _ _ (@ps_ret _ _ _ _ (@pv _ 2 _ _ (by rfl) (by first | exact Or.inl rfl | exact Or.inr (Or.inl rfl) | exact Or.inr (Or.inr rfl)) (by decide) (by decide)))))), ?_⟩
  refine ⟨_, rfl, _, rfl, by omega, by omega, ?_⟩
  refine for_range (fun i σ H' => H' = H ∧ ∃ st, σ = [some (.int b), some (.int n), some (.int (b ^ i)), st]) ⟨rfl, none, by rw [Int.pow_zero]; rfl⟩ ?_ ?_
  · rintro i σ H' hi ⟨rfl, st, rfl⟩
    refine ⟨_, rfl, _, rfl, _, _, rfl, rfl, .inr ⟨by omega, by omega⟩, rfl, some (.int (0 + i)), ?_⟩
    rw [Int.pow_succ]
    rfl
  · rintro σ H' ⟨rfl, st, rfl⟩
    exact ⟨_, rfl, by rw [Int.toNat_natCast]; exact q⟩

abbrev s_grades_at : Stmt := top 34
theorem sc_grades_at : FnScope ["place", "many", "places"] ["place", "many", "places"] (defScope s_grades_at) := ⟨rfl, rfl, rfl, by decide +kernel, rfl, by decide +kernel, by decide +kernel⟩
theorem ok_grades_at {P : Program} {w : World} {K : PySem.W.Frag} {mg : Str → Option Value} {base : Heap} {f : Addr} {fd : FuncData} (F : Fun K "grades_at" "grades_at" s_grades_at f fd) (gb : Gb mg) {c : Nat → Addr} (cl : Cl K mg c) (j : Nat) (d_grades_at : Def P w K mg base (1 + j) "grades_at" ["place", "many", "places"] (spGA j)) : FnOk P w K mg base CX0 (1 + j + 1) f fd ["place", "many", "places"] (spGA (j + 1)) := by
  refine F.ok sc_grades_at (fun vs H Q E h => ?_) (fun cdv A outer s H vs Q E hr h => ?_)
  · obtain ⟨p, n, pl, rfl, _⟩ := h
    rfl
  obtain ⟨p, n, pl, rfl, hj, h2, n0, n9, q⟩ := h
  refine ⟨_, (@pss_cons _ _ _ _ _ (@ps_if _ _ _ _ _ _ _ _ (@pt_cmpR _ _ _ _ _ _ _ _ (@op_eq _) (@pv _ 2 _ _ (by rfl) (by first | exact Or.inl rfl | exact Or.inr (Or.inl rfl) | exact Or.inr (Or.inr rfl)) (by decide) (by decide)) (@pe_int _ _ _ _) (@nomark _ _ (by decide) (by decide))) (@pss_one _ _ _ (@ps_ret _ _ _ _ (@pe_lst _ _ _ _ (@pa_nil _)))) (@pss_nil _)) (@pss_one _ _ _ (@ps_ret _ _ _ _ (@pe_op _ _ _ _ _ _ _ _ (@op_cat _) (@pe_def _ _ _ _ _ _ _ _ _ _ _ d_grades_at hr (by omega) rfl (@pa_cons _ _ _ _ _ (@pe_op _ _ _ _ _ _ _ _ (@op_fdiv _) (@pv _ 0 _ _ (by rfl) (by first | exact Or.inl rfl | exact Or.inr (Or.inl rfl) | exact Or.inr (Or.inr rfl)) (by decide) (by decide)) (@pv _ 1 _ _ (by rfl) (by first | exact Or.inl rfl | exact Or.inr (Or.inl rfl) | exact Or.inr (Or.inr rfl)) (by decide) (by decide))) (@pa_cons _ _ _ _ _ (@pv _ 1 _ _ (by rfl) (by first | exact Or.inl rfl | exact Or.inr (Or.inl rfl) | exact Or.inr (Or.inr rfl)) (by decide) (by decide)) (@pa_cons _ _ _ _ _ (@pe_op _ _ _ _ _ _ _ _ (@op_sub _) (@pv _ 2 _ _ (by rfl) (by first | exact Or.inl rfl | exact Or.inr (Or.inl rfl) | exact Or.inr (Or.inr rfl)) (by decide) (by decide)) (@pe_int _ _ _ _)) (@pa_nil _) (by rfl)) (by rfl)) (by rfl)) (by decide) (by rfl) (by rfl)) (@pe_lst _ _ _ _ (@pa_cons _ _ _ _ _ (@pe_op _ _ _ _ _ _ _ _ (@op_mod _) (@pv _ 0 _ _ (by rfl) (by first | exact Or.inl rfl | exact Or.inr (Or.inl rfl) | exact Or.inr (Or.inr rfl)) (by decide) (by decide)) (@pv _ 1 _ _ (by rfl) (by first | exact Or.inl rfl | exact Or.inr (Or.inl rfl) | exact Or.inr (Or.inr rfl)) (by decide) (by decide))) (@pa_nil _) (by rfl))))))), ?_⟩
  refine ⟨_, rfl, rfl, _, rfl, ?_⟩
  cases pl with
  | zero =>
    refine iteDT rfl ?_
    exact ⟨small9 (by show 0 ≤ 1000; decide), fun l hl => q l _ (same_new hl _) upd_same⟩
  | succ pl =>
    refine iteDF (decide_eq_false fun z => by have := V.int.inj z; omega) ?_
    refine ⟨_, rfl, _, rfl, _, _, rfl, rfl, ⟨n0, by omega⟩, _, rfl, _, rfl, _, _, rfl, rfl, ?_⟩
    match j, hj, d_grades_at with
    | j + 1, hj, _ =>
    refine ⟨p / n, n, pl, by (show [V.int (p / n), V.int n, V.int (((pl + 1 : Nat) : Int) - 1)] = _; rw [show ((pl + 1 : Nat) : Int) - 1 = (pl : Int) by omega]), by omega, by omega, n0, n9, fun l1 H1 s1 h1 => ?_⟩
    refine ⟨_, rfl, _, rfl, _, _, rfl, rfl, n0, small9 (by show 1 ≤ 1000; decide), fun l2 hl2 => ?_⟩
    have s2 := same_new hl2 (.lst [.int (p % n)])
    refine ⟨l1, l2, _, _, rfl, rfl, s2 _ _ h1, upd_same, ?_, fun l3 hl3 => ?_⟩
    · rw [List.length_map, ga_len]
      exact small9 (by show pl + 1 ≤ 1000; omega)
    · refine q l3 _ (s1.trans (s2.trans (same_new hl3 _))) ?_
      rw [upd_same]
      show some (HO.lst _) = some (.lst ((gaR (p / n) n pl ++ [p % n]).map V.int))
      rw [List.map_append]
      rfl

abbrev s_chain_cells : Stmt := top 33
theorem sc_chain_cells : FnScope ["kind", "many", "name", "places", "cells", "place", "grades", "reached"] ["kind", "many", "name", "places"] (defScope s_chain_cells) := ⟨rfl, rfl, rfl, by decide +kernel, rfl, by decide +kernel, by decide +kernel⟩
theorem ok_chain_cells {P : Program} {w : World} {K : PySem.W.Frag} {mg : Str → Option Value} {base : Heap} {f : Addr} {fd : FuncData} (F : Fun K "chain_cells" "chain_cells" s_chain_cells f fd) (gb : Gb mg) {c : Nat → Addr} (cl : Cl K mg c) (d_power : Def P w K mg base 1 "power" ["base", "exponent"] spPower) (d_fraction : Def1 P w K mg base 2 "fraction" ["top", "bottom"] (spFrac (c 1))) (d_connected : Def P w K mg base 5 "connected" ["kind", "name", "grades"] (spConn K)) (d_grades_at : Def P w K mg base 4 "grades_at" ["place", "many", "places"] (spGA 3)) : FnOk P w K mg base CX0 6 f fd ["kind", "many", "name", "places"] spCells := by
  refine F.ok sc_chain_cells (fun vs H Q E h => ?_) (fun cdv A outer s H vs Q E hr h => ?_)
  · obtain ⟨k, nm, n, rfl, _⟩ := h
    rfl
  obtain ⟨k, nm, n, rfl, kc, n2, n9, hm, q⟩ := h
  have nd0 : (["one", "many"] : List Str).Nodup := by decide +kernel
  refine ⟨_, (@pss_cons _ _ _ _ _ (@ps_set _ _ 4 _ _ _ _ sc_chain_cells.nd rfl (Or.inl rfl) (@pe_lst _ _ _ _ (@pa_nil _)) (by rfl) (by first | exact .inl rfl | exact .inr rfl | assumption)) (@pss_cons _ _ _ _ _ (@ps_for _ _ _ _ _ _ _ _ PassesOwn.never rfl (@pi_range1 _ _ _ _ _ _ rfl gb.range (@pa_cons _ _ _ _ _ (@pe_def _ _ _ _ _ _ _ _ _ _ _ d_power hr (by omega) rfl (@pa_cons _ _ _ _ _ (@pv _ 1 _ _ (by rfl) (by first | exact Or.inl rfl | exact Or.inr (Or.inl rfl) | exact Or.inr (Or.inr rfl)) (by decide) (by decide)) (@pa_cons _ _ _ _ _ (@pv _ 3 _ _ (by rfl) (by first | exact Or.inl rfl | exact Or.inr (Or.inl rfl) | exact Or.inr (Or.inr rfl)) (by decide) (by decide)) (@pa_nil _) (by rfl)) (by rfl)) (by decide) (by rfl) (by rfl)) (@pa_nil _) (by rfl)) (by rfl)) (@pg_name _ _ 5 _ sc_chain_cells.nd rfl (Or.inl rfl) (by first | exact .inl rfl | exact .inr rfl | assumption)) (@pss_cons _ _ _ _ _ (@ps_setComp _ ["one", "many"] [none, some 1] _ 6 _ _ _ _ _ _ _ _ _ _ _ _ (by exact (show CompOk ["kind", "many", "name", "places", "cells", "place", "grades", "reached"] (defScope s_chain_cells) ["one", "many"] [none, some 1] _ from ⟨rfl, by decide +kernel, by decide +kernel, by decide +kernel, by decide +kernel, rfl, by decide +kernel⟩)) rfl (@kpi_list _ K _ _ _ (@pe_def _ _ _ _ _ _ _ _ _ _ _ d_grades_at hr (by omega) rfl (@pa_cons _ _ _ _ _ (@pv _ 5 _ _ (by rfl) (by first | exact Or.inl rfl | exact Or.inr (Or.inl rfl) | exact Or.inr (Or.inr rfl)) (by decide) (by decide)) (@pa_cons _ _ _ _ _ (@pv _ 1 _ _ (by rfl) (by first | exact Or.inl rfl | exact Or.inr (Or.inl rfl) | exact Or.inr (Or.inr rfl)) (by decide) (by decide)) (@pa_cons _ _ _ _ _ (@pv _ 3 _ _ (by rfl) (by first | exact Or.inl rfl | exact Or.inr (Or.inl rfl) | exact Or.inr (Or.inr rfl)) (by decide) (by decide)) (@pa_nil _) (by rfl)) (by rfl)) (by rfl)) (by decide) (by rfl) (by rfl)) (by rfl)) (fun _ _ _ _ => (@pg_name _ _ 0 _ nd0 rfl (Or.inl rfl) (by first | exact .inl rfl | exact .inr rfl | assumption))) (fun _ _ _ _ => (@pf_nil _)) (fun _ _ _ _ => (@pe_def1 _ _ _ _ _ _ _ _ _ _ _ d_fraction hr (by omega) rfl (@pa_cons _ _ _ _ _ (@pv _ 0 _ _ (by rfl) (by first | exact Or.inl rfl | exact Or.inr (Or.inl rfl) | exact Or.inr (Or.inr rfl)) (by decide) (by decide)) (@pa_cons _ _ _ _ _ (@pe_op _ _ _ _ _ _ _ _ (@op_sub _) (@pv _ 1 _ _ (by rfl) (by first | exact Or.inl rfl | exact Or.inr (Or.inl rfl) | exact Or.inr (Or.inr rfl)) (by decide) (by decide)) (@pe_int _ _ _ _)) (@pa_nil _) (by rfl)) (by rfl)) (by decide) (by rfl) (by rfl))) sc_chain_cells.nd rfl rfl rfl (by intro _; rfl)) (@pss_cons _ _ _ _ _ (@ps_set _ _ 7 _ _ _ _ sc_chain_cells.nd rfl (Or.inl rfl) (@pe_def _ _ _ _ _ _ _ _ _ _ _ d_connected hr (by omega) rfl (@pa_cons _ _ _ _ _ (@pv _ 0 _ _ (by rfl) (by first | exact Or.inl rfl | exact Or.inr (Or.inl rfl) | exact Or.inr (Or.inr rfl)) (by decide) (by decide)) (@pa_cons _ _ _ _ _ (@pv _ 2 _ _ (by rfl) (by first | exact Or.inl rfl | exact Or.inr (Or.inl rfl) | exact Or.inr (Or.inr rfl)) (by decide) (by decide)) (@pa_cons _ _ _ _ _ (@pv _ 6 _ _ (by rfl) (by first | exact Or.inl rfl | exact Or.inr (Or.inl rfl) | exact Or.inr (Or.inr rfl)) (by decide) (by decide)) (@pa_nil _) (by rfl)) (by rfl)) (by rfl)) (by decide) (by rfl) (by rfl)) (by rfl) (by first | exact .inl rfl | exact .inr rfl | assumption)) (@pss_one _ _ _ (@ps_expr _ _ _ _ (@kpe_bm _ K _ _ _ _ _ _ _ _ _ _ _ PySem.F.plainAttrs_list PySem.F.slot_list_append PySem.F.type_list_append (@mt_append _) (@pv _ 4 _ _ (by rfl) (by first | exact Or.inl rfl | exact Or.inr (Or.inl rfl) | exact Or.inr (Or.inr rfl)) (by decide) (by decide)) (@pa_cons _ _ _ _ _ (@pe_op _ _ _ _ _ _ _ _ (@op_fdiv _) (@pe_op _ _ _ _ _ _ _ _ (@op_mulM _) (@pe_ix _ _ _ _ _ _ _ (@kix_seq _ K (by rfl)) (@pv _ 7 _ _ (by rfl) (by first | exact Or.inl rfl | exact Or.inr (Or.inl rfl) | exact Or.inr (Or.inr rfl)) (by decide) (by decide)) (@pe_int _ _ _ _) (fun _ _ => rfl)) (@pe_op _ _ _ _ _ _ _ _ (@op_sub _) (@pv _ 1 _ _ (by rfl) (by first | exact Or.inl rfl | exact Or.inr (Or.inl rfl) | exact Or.inr (Or.inr rfl)) (by decide) (by decide)) (@pe_int _ _ _ _))) (@pe_ix _ _ _ _ _ _ _ (@kix_seq _ K (by rfl)) (@pv _ 7 _ _ (by rfl) (by first | exact Or.inl rfl | exact Or.inr (Or.inl rfl) | exact Or.inr (Or.inr rfl)) (by decide) (by decide)) (@pe_int _ _ _ _) (fun _ _ => rfl))) (@pa_nil _) (by rfl)) (by rfl) (by rfl) (by rfl) (by rfl) (by rfl) (by rfl)) (by rfl))))) (by intro _; rfl)) (@pss_one _ _ _ (@ps_ret _ _ _ _ (@pe_callTy _ _ _ _ _ _ _ _ _ (@kcall_tuple_of _ K (by rfl)) rfl gb.tuple bt_tuple (@pa_cons _ _ _ _ _ (@pv _ 4 _ _ (by rfl) (by first | exact Or.inl rfl | exact Or.inr (Or.inl rfl) | exact Or.inr (Or.inr rfl)) (by decide) (by decide)) (@pa_nil _) (by rfl)) (by decide) (by decide) (by rfl) (by rfl)))))), ?_⟩
  have a2 : arity nm ≤ 2 := by unfold arity; split; omega; split <;> omega
  have pw : 0 ≤ n ^ arity nm ∧ n ^ arity nm ≤ 81 := by
    have h : arity nm = 0 ∨ arity nm = 1 ∨ arity nm = 2 := by omega
    rcases h with h | h | h <;> rw [h]
    · rw [Int.pow_zero]; exact ⟨by decide, by decide⟩
    · rw [Int.pow_one]; exact ⟨by omega, by omega⟩
    · have : n = 2 ∨ n = 3 ∨ n = 4 ∨ n = 5 ∨ n = 6 ∨ n = 7 ∨ n = 8 ∨ n = 9 := by omega
      rcases this with h | h | h | h | h | h | h | h <;> rw [h] <;> decide
  refine ⟨small9 (by show 0 ≤ 1000; decide), fun cd hcd => ?_⟩
  refine ⟨_, rfl, _, rfl, n, arity nm, rfl, by omega, n9, by omega, _, rfl, by omega, by omega, ?_⟩
  refine for_range (fun i σ H' => (∃ x1 x2 x3, σ = [some (.str k), some (.int n), some (.str nm), some (.int (arity nm : Nat)), some (.ref cd), x1, x2, x3]) ∧ Same H H' ∧ H' cd = some (.lst (((List.range i).map fun (p : Nat) => cellR k n nm (arity nm) (0 + (p : Int))).map V.int))) ⟨⟨_, _, _, rfl⟩, same_new hcd _, upd_same⟩ ?_ ?_
  · rintro i σ H1 hi ⟨⟨x1, x2, x3, rfl⟩, s1, h1⟩
    refine ⟨_, rfl, _, rfl, _, rfl, _, n, arity nm, rfl, a2, a2, by omega, n9, fun l H2 s2 h2 => ?_⟩
    refine ⟨l, rfl, ⟨_, SqL.of h2⟩, fun D hD => ?_⟩
    refine comp_frl (K := K) (f := fun g => Rat.divInt g (n - 1)) (b := 4) h2 hD (by rw [ga_len]; omega) (fun g H3 Q3 hg s3 k3 => ?_) (fun zs H3 s3 hz fz h3 => ?_)
    · obtain ⟨g0, g1⟩ := ga_mem (by omega) _ _ g hg
      refine ⟨_, rfl, _, rfl, _, _, rfl, rfl, _, _, rfl, ?_, fun z => ?_, fun _ => ?_⟩
      · exact (show Sz 4 (n - 1) by unfold Sz; omega).mid (by decide)
      · omega
      · exact ansR k3 rfl (by omega) (by unfold Sz; omega) (by unfold Sz; omega)
    have hzl : zs.length = arity nm := by
      have := congrArg List.length hz
      rw [List.length_map, List.length_map, ga_len] at this
      exact this
    have z0 : ∀ z ∈ zs, 0 ≤ z.2 := fun z hz' => by
      have : z.2 ∈ zs.map Prod.snd := List.mem_map.mpr ⟨z, hz', rfl⟩
      rw [hz] at this
      obtain ⟨g, hg, e⟩ := List.mem_map.mp this
      rw [← e]
      exact (Rat.divInt_nonneg_iff_of_pos_right (by omega)).mpr (ga_mem (by omega) _ _ g hg).1
    refine ⟨_, rfl, _, rfl, _, rfl, k, nm, D, zs, 4, rfl, kc.elim .inl (fun h => .inr (.inl h)), hm, hzl, h3, fz, z0, by decide, fun v H4 s4 f4 => ?_⟩
    rw [hz] at f4
    obtain ⟨pv, rfl, hpv, sx, sy⟩ := f4
    have h4 := s4 _ _ (s3 _ _ (s2 _ _ h1))
    have nsz : Sz 4 (n - 1) := by unfold Sz; omega
    refine ⟨_, rfl, .inl ⟨rfl, _, SqL.of h4⟩, _, rfl, .inr (.inl ⟨pv, _, 0, _, rfl, rfl, hpv, rfl, ?_⟩)⟩
    refine ⟨_, rfl, _, _, rfl, rfl, _, _, rfl, rfl, ⟨sx.mid (by decide), nsz.mid (by decide)⟩, ?_⟩
    refine ⟨_, rfl, .inr (.inl ⟨pv, _, 1, _, rfl, rfl, hpv, rfl, _, _, rfl, rfl, ⟨Fr.denp _, by have h := sy; unfold Sz at h; omega⟩, ?_⟩)⟩
    refine ⟨cd, _, _, rfl, rfl, h4, ?_, ⟨⟨_, _, _, rfl⟩, (s1.trans (s2.trans (s3.trans s4))).put hcd, ?_⟩⟩
    · rw [List.length_map, List.length_map, List.length_range]
      exact small1000 (by omega)
    · rw [upd_same, List.range_succ, List.map_append, List.map_append]
      rfl
  · rintro σ H1 ⟨⟨x1, x2, x3, rfl⟩, s1, h1⟩
    refine ⟨_, rfl, cd, _, rfl, .inl ⟨SqL.of h1, fun p hp => q p _ (s1.trans (same_new hp _)) upd_same⟩⟩

abbrev s_chain : Stmt := top 32
theorem sc_chain : FnScope ["kind", "many", "connectives"] ["kind", "many"] (defScope s_chain) := ⟨rfl, rfl, rfl, by decide +kernel, rfl, by decide +kernel, by decide +kernel⟩
theorem ok_chain {P : Program} {w : World} {K : PySem.W.Frag} {mg : Str → Option Value} {base : Heap} {f : Addr} {fd : FuncData} (F : Fun K "chain" "chain" s_chain f fd) (gb : Gb mg) {c : Nat → Addr} (cl : Cl K mg c) (d_check_kind : Def1 P w K mg base 1 "check_kind" ["kind"] (spKind (c 3))) (d_is_whole : Def P w K mg base 1 "is_whole" ["thing"] spWholeT) (d_chain_cells : Def P w K mg base 6 "chain_cells" ["kind", "many", "name", "places"] spCells) : FnOk P w K mg base (CX1 P w) 7 f fd ["kind", "many"] (spChain (c 3) (c 4)) := by
  refine F.ok1 sc_chain (fun vs H Q E h => ?_) (fun cdv A outer s H vs Q E hr h => ?_)
  · obtain ⟨tk, tm, vk, vm, rfl, _⟩ := h
    rfl
  obtain ⟨tk, tm, vk, vm, rfl, hk, hm, e1, e2, q⟩ := h
  have nd0 : (["name", "places", "kind", "many"] : List Str).Nodup := by decide +kernel
  refine ⟨_, (@pss_cons _ _ _ _ _ (@ps_expr _ _ _ _ (@pe_defP _ _ _ _ _ _ _ _ _ _ _ _ d_check_kind hr (by omega) rfl (@pass1 _ _ _ _ _ _ _ _ _ _ _ _ _ _ _ _ (fun _ _ _ z => z)) (@pa_cons _ _ _ _ _ (@pv _ 0 _ _ (by rfl) (by first | exact Or.inl rfl | exact Or.inr (Or.inl rfl) | exact Or.inr (Or.inr rfl)) (by decide) (by decide)) (@pa_nil _) (by rfl)) (by decide) (by rfl) (by rfl)) (by rfl)) (@pss_cons _ _ _ _ _ (@ps_if _ _ _ _ _ _ _ _ (@pt_cmpR _ _ _ _ _ _ _ _ (@op_eq _) (@pv _ 0 _ _ (by rfl) (by first | exact Or.inl rfl | exact Or.inr (Or.inl rfl) | exact Or.inr (Or.inr rfl)) (by decide) (by decide)) (@pe_str _ _ _ _) (@nomark _ _ (by decide) (by decide))) (@pss_one _ _ _ (@ps_raise _ _ _ _ _ _ _ _ _ _ _ _ _ _ _ _ _ _ rfl cl.g_NoKind cl.x_NoKind PySem.F.excBase_ValueError rfl PySem.F.excBase_ValueError rfl (@thrown1 _ _ _ _ _ _ _ _ _ _ _ _ _ _ _) (@pa_cons _ _ _ _ _ (@pe_str _ _ _ _) (@pa_nil _) (by rfl)) (by decide) (by rfl) (by rfl))) (@pss_nil _)) (@pss_cons _ _ _ _ _ (@ps_if _ _ _ _ _ _ _ _ (@PW.pt _ _ _ (@pw_or _ _ _ _ _ _ _ (@pt_not _ _ _ _ (@pt_val _ _ _ (@pe_def _ _ _ _ _ _ _ _ _ _ _ d_is_whole hr (by omega) rfl (@pa_cons _ _ _ _ _ (@pv _ 1 _ _ (by rfl) (by first | exact Or.inl rfl | exact Or.inr (Or.inl rfl) | exact Or.inr (Or.inr rfl)) (by decide) (by decide)) (@pa_nil _) (by rfl)) (by decide) (by rfl) (by rfl)) (by intro _; rfl))) (@pw_or1 _ _ _ _ (@pt_not _ _ _ _ (@pt_chain _ _ _ _ _ _ _ _ _ _ _ _ (@op_le _) (@op_le _) (@pe_globR _ _ _ _ rfl gb.LEAST_STEPS (by decide)) (@pv _ 1 _ _ (by rfl) (by first | exact Or.inl rfl | exact Or.inr (Or.inl rfl) | exact Or.inr (Or.inr rfl)) (by decide) (by decide)) (@pe_globR _ _ _ _ rfl gb.MOST_GRADES (by decide)) (by with_unfolding_all rfl)))))) (@pss_one _ _ _ (@ps_raise _ _ _ _ _ _ _ _ _ _ _ _ _ _ _ _ _ _ rfl cl.g_NoCount cl.x_NoCount PySem.F.excBase_ValueError rfl PySem.F.excBase_ValueError rfl (@thrown1 _ _ _ _ _ _ _ _ _ _ _ _ _ _ _) (@pa_cons _ _ _ _ _ (@pe_str _ _ _ _) (@pa_nil _) (by rfl)) (by decide) (by rfl) (by rfl))) (@pss_nil _)) (@pss_cons _ _ _ _ _ (@ps_setComp _ ["name", "places", "kind", "many"] [none, none, some 0, some 1] _ 2 _ _ _ _ _ _ _ _ _ _ _ _ (by exact (show CompOk ["kind", "many", "connectives"] (defScope s_chain) ["name", "places", "kind", "many"] [none, none, some 0, some 1] _ from ⟨rfl, by decide +kernel, by decide +kernel, by decide +kernel, by decide +kernel, rfl, by decide +kernel⟩)) rfl (@kpi_tup _ K _ _ _ (@pe_glob _ _ (.ref _) _ _ rfl cl.g_SHAPES rfl (by decide)) (by rfl)) (fun _ _ _ _ => (@kpg_tup _ K _ _ _ _ 2 rfl (@pgs_cons _ _ _ _ _ (@pg_name _ _ 0 _ nd0 rfl (Or.inl rfl) (by first | exact .inl rfl | exact .inr rfl | assumption)) (@pgs_cons _ _ _ _ _ (@pg_name _ _ 1 _ nd0 rfl (Or.inl rfl) (by first | exact .inl rfl | exact .inr rfl | assumption)) (@pgs_nil _) (by rfl)) (by rfl)) (by rfl) (by rfl) (by rfl))) (fun _ _ _ _ => (@pf_nil _)) (fun _ _ _ _ => (@pe_tup _ _ _ _ _ (@pa_cons _ _ _ _ _ (@pv _ 0 _ _ (by rfl) (by first | exact Or.inl rfl | exact Or.inr (Or.inl rfl) | exact Or.inr (Or.inr rfl)) (by decide) (by decide)) (@pa_cons _ _ _ _ _ (@pv _ 1 _ _ (by rfl) (by first | exact Or.inl rfl | exact Or.inr (Or.inl rfl) | exact Or.inr (Or.inr rfl)) (by decide) (by decide)) (@pa_cons _ _ _ _ _ (@pe_def _ _ _ _ _ _ _ _ _ _ _ d_chain_cells hr (by omega) rfl (@pa_cons _ _ _ _ _ (@pv _ 2 _ _ (by rfl) (by first | exact Or.inl rfl | exact Or.inr (Or.inl rfl) | exact Or.inr (Or.inr rfl)) (by decide) (by decide)) (@pa_cons _ _ _ _ _ (@pv _ 3 _ _ (by rfl) (by first | exact Or.inl rfl | exact Or.inr (Or.inl rfl) | exact Or.inr (Or.inr rfl)) (by decide) (by decide)) (@pa_cons _ _ _ _ _ (@pv _ 0 _ _ (by rfl) (by first | exact Or.inl rfl | exact Or.inr (Or.inl rfl) | exact Or.inr (Or.inr rfl)) (by decide) (by decide)) (@pa_cons _ _ _ _ _ (@pv _ 1 _ _ (by rfl) (by first | exact Or.inl rfl | exact Or.inr (Or.inl rfl) | exact Or.inr (Or.inr rfl)) (by decide) (by decide)) (@pa_nil _) (by rfl)) (by rfl)) (by rfl)) (by rfl)) (by decide) (by rfl) (by rfl)) (@pa_nil _) (by rfl)) (by rfl)) (by rfl)))) sc_chain.nd rfl rfl rfl (by intro _; rfl)) (@pss_one _ _ _ (@ps_ret _ _ _ _ (@pe_tup _ _ _ _ _ (@pa_cons _ _ _ _ _ (@pv _ 1 _ _ (by rfl) (by first | exact Or.inl rfl | exact Or.inr (Or.inl rfl) | exact Or.inr (Or.inr rfl)) (by decide) (by decide)) (@pa_cons _ _ _ _ _ (@pe_tup _ _ _ _ _ (@pa_cons _ _ _ _ _ (@pe_op _ _ _ _ _ _ _ _ (@op_sub _) (@pv _ 1 _ _ (by rfl) (by first | exact Or.inl rfl | exact Or.inr (Or.inl rfl) | exact Or.inr (Or.inr rfl)) (by decide) (by decide)) (@pe_int _ _ _ _)) (@pa_nil _) (by rfl))) (@pa_cons _ _ _ _ _ (@pe_callTy _ _ _ _ _ _ _ _ _ (@kcall_tuple_of _ K (by rfl)) rfl gb.tuple bt_tuple (@pa_cons _ _ _ _ _ (@pv _ 2 _ _ (by rfl) (by first | exact Or.inl rfl | exact Or.inr (Or.inl rfl) | exact Or.inr (Or.inr rfl)) (by decide) (by decide)) (@pa_nil _) (by rfl)) (by decide) (by decide) (by rfl) (by rfl)) (@pa_nil _) (by rfl)) (by rfl)) (by rfl))))))))), ?_⟩
  refine ⟨_, rfl, tk, vk, rfl, hk, fun kb => e1 (by unfold seenB; rw [kb]; rfl), fun kb => ?_⟩
  obtain ⟨k, rfl, kd⟩ := kind_of kb
  have hk' := hk
  cases hk'
  refine ⟨_, rfl, rfl, _, rfl, ite2 (fun c1 => ?_) (fun c1 => ?_)⟩
  · have ek : k = "times" := V.str.inj (of_decide_eq_true c1)
    exact ⟨small9 (by show 1 ≤ 1000; decide), e1 (by unfold seenB; rw [kb, ek]; rfl)⟩
  have kt : k ≠ "times" := fun z => c1 (decide_eq_true (by rw [z]))
  have kc : Kc k := by
    rcases kd with h | h | h
    · exact .inl h
    · exact .inr h
    · exact absurd h kt
  have es : seenB (.str k) tm = if countB tm = true then none else some false := by
    unfold seenB
    rw [kb, show isTimes (.str k) = false from decide_eq_false kt]
    rfl
  rw [es] at e2 q
  refine ⟨_, rfl, tm, vm, rfl, hm, _, rfl, ?_⟩
  cases tm with
  | int n =>
    cases hm
    rw [show countB (.int n) = (decide (2 ≤ n) && decide (n ≤ 9)) from rfl] at e2 q
    refine ⟨_, rfl, _, _, rfl, rfl, _, rfl, ?_⟩
    cases h2 : decide (2 ≤ n) with
    | false =>
      rw [h2, Bool.false_and] at e2
      exact iteF ⟨_, rfl, small9 (by show 1 ≤ 1000; decide), e2 rfl⟩
    | true =>
    refine iteT ⟨_, _, rfl, rfl, _, rfl, ?_⟩
    cases h9 : decide (n ≤ 9) with
    | false =>
      rw [h2, h9] at e2
      exact ⟨small9 (by show 1 ≤ 1000; decide), e2 rfl⟩
    | true =>
    rw [h2, h9] at q
    have q := q rfl
    have n2 := of_decide_eq_true h2
    have n9 := of_decide_eq_true h9
    obtain ⟨a0, a1, a2, a3, a4, a5, a6, tS, t0, t1, t2, t3, t4, t5, t6⟩ := cl.t_SHAPES
    refine ⟨_, rfl, ⟨_, tS.sq⟩, fun D hD => ?_⟩
    refine comp_tt2 (n := 7) (ad := fun i => [a0, a1, a2, a3, a4, a5, a6].getD i 0) (v1 := fun i => .str (names7.getD i "")) (v2 := fun i => .int (arity (names7.getD i "") : Nat)) (fun i ys H' => Same H H' ∧ Ths (cutH (fun b => b = D) H') ((names7.take i).map (connTh k n)) ys) ⟨same_new hD _, .nil⟩ rfl (fun i hi => ?_) (fun i ys H' _ _ => tS.sq) (fun i ys H' hi _ => ?_) ?_ ?_
    · match i, hi with
      | 0, _ => rfl
      | 1, _ => rfl
      | 2, _ => rfl
      | 3, _ => rfl
      | 4, _ => rfl
      | 5, _ => rfl
      | 6, _ => rfl
    · match i, hi with
      | 0, _ => exact t0.sq
      | 1, _ => exact t1.sq
      | 2, _ => exact t2.sq
      | 3, _ => exact t3.sq
      | 4, _ => exact t4.sq
      | 5, _ => exact t5.sq
      | 6, _ => exact t6.sq
    · rintro i ys H1 hi ⟨s1, hT⟩ hD1
      have hnm : names7[i]? = some (names7.getD i "") := by
        simp [List.getD, show i < names7.length from hi]
      generalize names7.getD i "" = nm at *
      refine yes ⟨_, rfl, _, rfl, _, rfl, _, rfl, _, rfl, _, rfl, k, nm, n, rfl, kc, n2, n9, List.mem_of_getElem? hnm, fun p H2 s2 h2 => ?_⟩
      refine ⟨small9 (by show 3 ≤ 1000; decide), fun t ht => ?_⟩
      have n3 := same_new ht (.tup [.str nm, .int (arity nm : Nat), .ref p])
      have hD2 := s2 _ _ hD1
      have tD : ¬ t = D := fun z => by rw [z, hD2] at ht; cases ht
      have pD : ¬ p = D := fun z => by rw [z, hD2] at h2; cases h2
      have hyl := hT.len
      rw [List.length_map, List.length_take] at hyl
      refine cyes hi ⟨_, _, rfl⟩ (n3 _ _ hD2) (small1000 (by omega)) ⟨(s1.trans (s2.trans n3)).put hD, ?_⟩
      rw [cut_upd (X := fun b => b = D) (p := D) rfl, take_snoc hnm, List.map_append]
      refine ths_snoc (hT.same (cut_same (s2.trans n3))) ?_
      refine Ths.tup (vs := [.str nm, .int (arity nm : Nat), .ref p]) (.cons (.str _ ?_) (.cons (.int _) (.cons (ths_ints (by rw [cut_yes (X := fun b => b = D) pD]; exact n3 _ _ h2) ?_) .nil))) (by rw [cut_yes (X := fun b => b = D) tD]; exact upd_same) (by show 3 ≤ 1000; decide)
      · have hmem := List.mem_of_getElem? hnm
        exact names_short nm hmem
      · unfold cellsR
        rw [List.length_map, List.length_range]
        have := cells_len n2 n9 nm
        omega
    · rintro ys H1 ⟨s1, hT⟩ hD1
      rw [show names7.take 7 = names7 from rfl] at hT
      have hT := hT.same uncut
      refine ⟨_, rfl, _, rfl, _, _, rfl, rfl, small9 (by show 1 ≤ 1000; decide), fun t1 ht1 => ?_⟩
      have m1 := same_new ht1 (.tup [.int (n - 1)])
      refine ⟨_, rfl, D, _, rfl, .inl ⟨SqL.of (m1 _ _ hD1), fun t2 ht2 => ?_⟩⟩
      have m2 := same_new ht2 (.tup ys)
      refine ⟨small9 (by show 3 ≤ 1000; decide), fun t3 ht3 => ?_⟩
      have m3 := same_new ht3 (.tup [.int n, .ref t1, .ref t2])
      refine q _ _ (s1.trans (m1.trans (m2.trans m3))) fun k' n' ek en => ?_
      cases ek
      cases en
      refine Ths.tup (vs := [.int n, .ref t1, .ref t2]) (.cons (.int _) (.cons ?_ (.cons ?_ .nil))) upd_same (by show 3 ≤ 1000; decide)
      · exact Ths.tup (vs := [.int (n - 1)]) (.cons (.int _) .nil) (m3 _ _ (m2 _ _ upd_same)) (by show 1 ≤ 1000; decide)
      · exact Ths.tup (hT.same (m1.trans (m2.trans m3))) (m3 _ _ upd_same) (by rw [List.length_map]; decide)
  | _ => exact ⟨small9 (by show 1 ≤ 1000; decide), e2 rfl⟩

abbrev s_law_cells : Stmt := top 36
theorem sc_law_cells : FnScope ["_law_kind", "_law_top", "_law_name", "_law_found", "_law_one", "_law_other"] ["_law_kind", "_law_top", "_law_name"] (defScope s_law_cells) := ⟨rfl, rfl, rfl, by decide +kernel, rfl, by decide +kernel, by decide +kernel⟩
theorem ok_law_cells {P : Program} {w : World} {K : PySem.W.Frag} {mg : Str → Option Value} {base : Heap} {f : Addr} {fd : FuncData} (F : Fun K "_law_cells" "_law_cells" s_law_cells f fd) (gb : Gb mg) {c : Nat → Addr} (cl : Cl K mg c) : FnOk P w K mg base CX0 1 f fd ["_law_kind", "_law_top", "_law_name"] spLC := by
  refine F.ok sc_law_cells (fun vs H Q E h => ?_) (fun cdv A outer s H vs Q E hr h => ?_)
  · obtain ⟨k, nm, t, rfl, _⟩ := h
    rfl
  obtain ⟨k, nm, t, rfl, kc, t1, t8, hm, q⟩ := h
  refine ⟨_, (@pss_cons _ _ _ _ _ (@ps_set _ _ 3 _ _ _ _ sc_law_cells.nd rfl (Or.inl rfl) (@pe_lst _ _ _ _ (@pa_nil _)) (by rfl) (by first | exact .inl rfl | exact .inr rfl | assumption)) (@pss_cons _ _ _ _ _ (@ps_for _ _ _ _ _ _ _ _ PassesOwn.never rfl (@pi_range1 _ _ _ _ _ _ rfl gb.range (@pa_cons _ _ _ _ _ (@pe_op _ _ _ _ _ _ _ _ (@op_add _) (@pv _ 1 _ _ (by rfl) (by first | exact Or.inl rfl | exact Or.inr (Or.inl rfl) | exact Or.inr (Or.inr rfl)) (by decide) (by decide)) (@pe_int _ _ _ _)) (@pa_nil _) (by rfl)) (by rfl)) (@pg_name _ _ 4 _ sc_law_cells.nd rfl (Or.inl rfl) (by first | exact .inl rfl | exact .inr rfl | assumption)) (@pss_one _ _ _ (@ps_for _ _ _ _ _ _ _ _ PassesOwn.never rfl (@pi_range1 _ _ _ _ _ _ rfl gb.range (@pa_cons _ _ _ _ _ (@pe_op _ _ _ _ _ _ _ _ (@op_add _) (@pv _ 1 _ _ (by rfl) (by first | exact Or.inl rfl | exact Or.inr (Or.inl rfl) | exact Or.inr (Or.inr rfl)) (by decide) (by decide)) (@pe_int _ _ _ _)) (@pa_nil _) (by rfl)) (by rfl)) (@pg_name _ _ 5 _ sc_law_cells.nd rfl (Or.inl rfl) (by first | exact .inl rfl | exact .inr rfl | assumption)) (@pss_one _ _ _ (@ps_if _ _ _ _ _ _ _ _ (@PW.pt _ _ _ (@pw_or _ _ _ _ _ _ _ (@pt_cmpR _ _ _ _ _ _ _ _ (@op_eq _) (@pv _ 2 _ _ (by rfl) (by first | exact Or.inl rfl | exact Or.inr (Or.inl rfl) | exact Or.inr (Or.inr rfl)) (by decide) (by decide)) (@pe_str _ _ _ _) (@nomark _ _ (by decide) (by decide))) (@pw_or1 _ _ _ _ (@PW.pt _ _ _ (@pw_and _ _ _ _ _ _ _ (@pt_cmpR _ _ _ _ _ _ _ _ (@op_eq _) (@pv _ 2 _ _ (by rfl) (by first | exact Or.inl rfl | exact Or.inr (Or.inl rfl) | exact Or.inr (Or.inr rfl)) (by decide) (by decide)) (@pe_str _ _ _ _) (@nomark _ _ (by decide) (by decide))) (@pw_and1 _ _ _ _ (@pt_cmpR _ _ _ _ _ _ _ _ (@op_eq _) (@pv _ 0 _ _ (by rfl) (by first | exact Or.inl rfl | exact Or.inr (Or.inl rfl) | exact Or.inr (Or.inr rfl)) (by decide) (by decide)) (@pe_str _ _ _ _) (@nomark _ _ (by decide) (by decide))))))))) (@pss_one _ _ _ (@ps_expr _ _ _ _ (@kpe_bm _ K _ _ _ _ _ _ _ _ _ _ _ PySem.F.plainAttrs_list PySem.F.slot_list_append PySem.F.type_list_append (@mt_append _) (@pv _ 3 _ _ (by rfl) (by first | exact Or.inl rfl | exact Or.inr (Or.inl rfl) | exact Or.inr (Or.inr rfl)) (by decide) (by decide)) (@pa_cons _ _ _ _ _ (@pe_callB _ _ _ _ _ _ _ _ _ (@kcall_min2 _ K rfl) rfl gb.min bt_min (@pa_cons _ _ _ _ _ (@pv _ 4 _ _ (by rfl) (by first | exact Or.inl rfl | exact Or.inr (Or.inl rfl) | exact Or.inr (Or.inr rfl)) (by decide) (by decide)) (@pa_cons _ _ _ _ _ (@pv _ 5 _ _ (by rfl) (by first | exact Or.inl rfl | exact Or.inr (Or.inl rfl) | exact Or.inr (Or.inr rfl)) (by decide) (by decide)) (@pa_nil _) (by rfl)) (by rfl)) (by decide) (by decide) (by rfl) (by rfl)) (@pa_nil _) (by rfl)) (by rfl) (by rfl) (by rfl) (by rfl) (by rfl) (by rfl)) (by rfl))) (@pss_one _ _ _ (@ps_if _ _ _ _ _ _ _ _ (@pt_cmpR _ _ _ _ _ _ _ _ (@op_eq _) (@pv _ 2 _ _ (by rfl) (by first | exact Or.inl rfl | exact Or.inr (Or.inl rfl) | exact Or.inr (Or.inr rfl)) (by decide) (by decide)) (@pe_str _ _ _ _) (@nomark _ _ (by decide) (by decide))) (@pss_one _ _ _ (@ps_expr _ _ _ _ (@kpe_bm _ K _ _ _ _ _ _ _ _ _ _ _ PySem.F.plainAttrs_list PySem.F.slot_list_append PySem.F.type_list_append (@mt_append _) (@pv _ 3 _ _ (by rfl) (by first | exact Or.inl rfl | exact Or.inr (Or.inl rfl) | exact Or.inr (Or.inr rfl)) (by decide) (by decide)) (@pa_cons _ _ _ _ _ (@pe_callB _ _ _ _ _ _ _ _ _ (@kcall_max2 _ K rfl) rfl gb.max bt_max (@pa_cons _ _ _ _ _ (@pv _ 4 _ _ (by rfl) (by first | exact Or.inl rfl | exact Or.inr (Or.inl rfl) | exact Or.inr (Or.inr rfl)) (by decide) (by decide)) (@pa_cons _ _ _ _ _ (@pv _ 5 _ _ (by rfl) (by first | exact Or.inl rfl | exact Or.inr (Or.inl rfl) | exact Or.inr (Or.inr rfl)) (by decide) (by decide)) (@pa_nil _) (by rfl)) (by rfl)) (by decide) (by decide) (by rfl) (by rfl)) (@pa_nil _) (by rfl)) (by rfl) (by rfl) (by rfl) (by rfl) (by rfl) (by rfl)) (by rfl))) (@pss_one _ _ _ (@ps_if _ _ _ _ _ _ _ _ (@pt_cmpR _ _ _ _ _ _ _ _ (@op_eq _) (@pv _ 2 _ _ (by rfl) (by first | exact Or.inl rfl | exact Or.inr (Or.inl rfl) | exact Or.inr (Or.inr rfl)) (by decide) (by decide)) (@pe_str _ _ _ _) (@nomark _ _ (by decide) (by decide))) (@pss_one _ _ _ (@ps_expr _ _ _ _ (@kpe_bm _ K _ _ _ _ _ _ _ _ _ _ _ PySem.F.plainAttrs_list PySem.F.slot_list_append PySem.F.type_list_append (@mt_append _) (@pv _ 3 _ _ (by rfl) (by first | exact Or.inl rfl | exact Or.inr (Or.inl rfl) | exact Or.inr (Or.inr rfl)) (by decide) (by decide)) (@pa_cons _ _ _ _ _ (@pe_callB _ _ _ _ _ _ _ _ _ (@kcall_max2 _ K rfl) rfl gb.max bt_max (@pa_cons _ _ _ _ _ (@pe_int _ _ _ _) (@pa_cons _ _ _ _ _ (@pe_op _ _ _ _ _ _ _ _ (@op_sub _) (@pe_op _ _ _ _ _ _ _ _ (@op_add _) (@pv _ 4 _ _ (by rfl) (by first | exact Or.inl rfl | exact Or.inr (Or.inl rfl) | exact Or.inr (Or.inr rfl)) (by decide) (by decide)) (@pv _ 5 _ _ (by rfl) (by first | exact Or.inl rfl | exact Or.inr (Or.inl rfl) | exact Or.inr (Or.inr rfl)) (by decide) (by decide))) (@pv _ 1 _ _ (by rfl) (by first | exact Or.inl rfl | exact Or.inr (Or.inl rfl) | exact Or.inr (Or.inr rfl)) (by decide) (by decide))) (@pa_nil _) (by rfl)) (by rfl)) (by decide) (by decide) (by rfl) (by rfl)) (@pa_nil _) (by rfl)) (by rfl) (by rfl) (by rfl) (by rfl) (by rfl) (by rfl)) (by rfl))) (@pss_one _ _ _ (@ps_if _ _ _ _ _ _ _ _ (@pt_cmpR _ _ _ _ _ _ _ _ (@op_le _) (@pv _ 4 _ _ (by rfl) (by first | exact Or.inl rfl | exact Or.inr (Or.inl rfl) | exact Or.inr (Or.inr rfl)) (by decide) (by decide)) (@pv _ 5 _ _ (by rfl) (by first | exact Or.inl rfl | exact Or.inr (Or.inl rfl) | exact Or.inr (Or.inr rfl)) (by decide) (by decide)) (@nomark _ _ (by decide) (by decide))) (@pss_one _ _ _ (@ps_expr _ _ _ _ (@kpe_bm _ K _ _ _ _ _ _ _ _ _ _ _ PySem.F.plainAttrs_list PySem.F.slot_list_append PySem.F.type_list_append (@mt_append _) (@pv _ 3 _ _ (by rfl) (by first | exact Or.inl rfl | exact Or.inr (Or.inl rfl) | exact Or.inr (Or.inr rfl)) (by decide) (by decide)) (@pa_cons _ _ _ _ _ (@pv _ 1 _ _ (by rfl) (by first | exact Or.inl rfl | exact Or.inr (Or.inl rfl) | exact Or.inr (Or.inr rfl)) (by decide) (by decide)) (@pa_nil _) (by rfl)) (by rfl) (by rfl) (by rfl) (by rfl) (by rfl) (by rfl)) (by rfl))) (@pss_one _ _ _ (@ps_expr _ _ _ _ (@kpe_bm _ K _ _ _ _ _ _ _ _ _ _ _ PySem.F.plainAttrs_list PySem.F.slot_list_append PySem.F.type_list_append (@mt_append _) (@pv _ 3 _ _ (by rfl) (by first | exact Or.inl rfl | exact Or.inr (Or.inl rfl) | exact Or.inr (Or.inr rfl)) (by decide) (by decide)) (@pa_cons _ _ _ _ _ (@pe_ix _ _ _ _ _ _ _ (@kix_seq _ K (by rfl)) (@pe_lst _ _ _ _ (@pa_cons _ _ _ _ _ (@pv _ 5 _ _ (by rfl) (by first | exact Or.inl rfl | exact Or.inr (Or.inl rfl) | exact Or.inr (Or.inr rfl)) (by decide) (by decide)) (@pa_cons _ _ _ _ _ (@pe_op _ _ _ _ _ _ _ _ (@op_add _) (@pe_op _ _ _ _ _ _ _ _ (@op_sub _) (@pv _ 1 _ _ (by rfl) (by first | exact Or.inl rfl | exact Or.inr (Or.inl rfl) | exact Or.inr (Or.inr rfl)) (by decide) (by decide)) (@pv _ 4 _ _ (by rfl) (by first | exact Or.inl rfl | exact Or.inr (Or.inl rfl) | exact Or.inr (Or.inr rfl)) (by decide) (by decide))) (@pv _ 5 _ _ (by rfl) (by first | exact Or.inl rfl | exact Or.inr (Or.inl rfl) | exact Or.inr (Or.inr rfl)) (by decide) (by decide))) (@pa_nil _) (by rfl)) (by rfl))) (@pe_callTy _ _ _ _ _ _ _ _ _ (@call_int1 _) rfl gb.int bt_int (@pa_cons _ _ _ _ _ (@pe_cmpR _ _ _ _ _ _ _ _ (@op_eq _) (@pv _ 0 _ _ (by rfl) (by first | exact Or.inl rfl | exact Or.inr (Or.inl rfl) | exact Or.inr (Or.inr rfl)) (by decide) (by decide)) (@pe_str _ _ _ _) (@nomark _ _ (by decide) (by decide))) (@pa_nil _) (by rfl)) (by decide) (by decide) (by rfl) (by rfl)) (fun _ _ => rfl)) (@pa_nil _) (by rfl)) (by rfl) (by rfl) (by rfl) (by rfl) (by rfl) (by rfl)) (by rfl))))))))))) (by intro _; rfl))) (by intro _; rfl)) (@pss_one _ _ _ (@ps_ret _ _ _ _ (@pe_callTy _ _ _ _ _ _ _ _ _ (@kcall_tuple_of _ K (by rfl)) rfl gb.tuple bt_tuple (@pa_cons _ _ _ _ _ (@pv _ 3 _ _ (by rfl) (by first | exact Or.inl rfl | exact Or.inr (Or.inl rfl) | exact Or.inr (Or.inr rfl)) (by decide) (by decide)) (@pa_nil _) (by rfl)) (by decide) (by decide) (by rfl) (by rfl)))))), ?_⟩
  refine ⟨small9 (by show 0 ≤ 1000; decide), fun fd hfd => ?_⟩
  refine ⟨_, rfl, _, _, rfl, rfl, _, rfl, by omega, by omega, ?_⟩
  refine for_range (fun i σ H' => (∃ x1 x2, σ = [some (.str k), some (.int t), some (.str nm), some (.ref fd), x1, x2]) ∧ Same H H' ∧ H' fd = some (.lst (((List.range i).flatMap (lrowR k t nm (t + 1).toNat)).map V.int))) ⟨⟨_, _, rfl⟩, same_new hfd _, upd_same⟩ ?_ ?_
  · rintro i σ H1 hi ⟨⟨x1, x2, rfl⟩, s1, h1⟩
    refine ⟨_, rfl, _, _, rfl, rfl, _, rfl, by omega, by omega, ?_⟩
    refine for_range (fun j σ H' => (∃ x2, σ = [some (.str k), some (.int t), some (.str nm), some (.ref fd), some (.int (0 + (i : Int))), x2]) ∧ Same H H' ∧ H' fd = some (.lst ((((List.range i).flatMap (lrowR k t nm (t + 1).toNat)) ++ (List.range j).map (fun (j : Nat) => lcR k t nm (0 + (i : Int)) (0 + (j : Int)))).map V.int))) ⟨⟨_, rfl⟩, s1, by rw [List.range_zero, List.map_nil, List.append_nil]; exact h1⟩ ?_ ?_
    · rintro j σ H2 hj ⟨⟨x2, rfl⟩, s2, h2⟩
      have fin : ∀ H3 v, Same H H3 → H3 fd = some (HO.lst ((((List.range i).flatMap (lrowR k t nm (t + 1).toNat)) ++ (List.range j).map (fun (j : Nat) => lcR k t nm (0 + (i : Int)) (0 + (j : Int)))).map V.int)) → lcR k t nm (0 + (i : Int)) (0 + (j : Int)) = v → (∃ x2, [some (V.str k), some (V.int t), some (V.str nm), some (V.ref fd), some (V.int (0 + (i : Int))), some (V.int (0 + (j : Int)))] = [some (V.str k), some (V.int t), some (V.str nm), some (V.ref fd), some (V.int (0 + (i : Int))), x2]) ∧ Same H (upd H3 fd (HO.lst ((((List.range i).flatMap (lrowR k t nm (t + 1).toNat)) ++ (List.range j).map (fun (j : Nat) => lcR k t nm (0 + (i : Int)) (0 + (j : Int)))).map V.int ++ [V.int v]))) ∧ (upd H3 fd (HO.lst ((((List.range i).flatMap (lrowR k t nm (t + 1).toNat)) ++ (List.range j).map (fun (j : Nat) => lcR k t nm (0 + (i : Int)) (0 + (j : Int)))).map V.int ++ [V.int v]))) fd = some (HO.lst ((((List.range i).flatMap (lrowR k t nm (t + 1).toNat)) ++ (List.range (j + 1)).map (fun (j : Nat) => lcR k t nm (0 + (i : Int)) (0 + (j : Int)))).map V.int)) := fun H3 v s3 h3 lv => by
        refine ⟨⟨_, rfl⟩, s3.put hfd, ?_⟩
        rw [upd_same, List.range_succ, ← lv]
        simp only [List.map_append, List.map_cons, List.map_nil, List.append_assoc]
      have hlen : (((List.range i).flatMap (lrowR k t nm (t + 1).toNat)) ++ (List.range j).map (fun (j : Nat) => lcR k t nm (0 + (i : Int)) (0 + (j : Int)))).length ≤ 900 := by
        rw [List.length_append, flat_len _ _ (row_len k t nm _), List.length_map, List.length_range]
        have h9 : (t + 1).toNat ≤ 9 := by omega
        have h1 : i * (t + 1).toNat ≤ 9 * 9 := Nat.mul_le_mul (by omega) h9
        omega
      generalize hys : (((List.range i).flatMap (lrowR k t nm (t + 1).toNat)) ++ (List.range j).map (fun (j : Nat) => lcR k t nm (0 + (i : Int)) (0 + (j : Int)))) = ys at h2 hlen fin
      generalize (0 + (i : Int)) = a at *
      generalize (0 + (j : Int)) = b at *
      have tail : nm ≠ "and" → ¬ (nm = "with" ∧ k = "least") → nm ≠ "or" → nm ≠ "with" → lcR k t nm a b = if a ≤ b then t else (if k = "cut" then t - a + b else b) := fun e1 e2 e3 e4 => by
        unfold lcR
        rw [if_neg (fun z => z.elim e1 e2), if_neg e3, if_neg e4]
      by_cases e1 : nm = "and"
      · refine ⟨_, rfl, rfl, _, rfl, iteDT (decide_eq_true (by rw [e1])) ?_⟩
        have lv : lcR k t nm a b = (if b < a then b else a) := by
          unfold lcR
          rw [if_pos (.inl e1)]
        exact ⟨_, rfl, .inl ⟨rfl, _, SqL.of h2⟩, _, rfl, _, rfl, _, _, rfl, fd, _, _, rfl, rfl, h2, small1000 (by rw [List.length_map]; omega), fin _ _ s2 h2 lv⟩
      refine ⟨_, rfl, rfl, _, rfl, iteDF (decide_eq_false fun z => e1 (V.str.inj z)) ?_⟩
      by_cases e2 : nm = "with"
      · refine ⟨_, rfl, rfl, _, rfl, iteDT (decide_eq_true (by rw [e2])) ?_⟩
        by_cases e3 : k = "least"
        · refine ⟨_, rfl, rfl, _, rfl, iteDT (decide_eq_true (by rw [e3])) ?_⟩
          have lv : lcR k t nm a b = (if b < a then b else a) := by
            unfold lcR
            rw [if_pos (.inr ⟨e2, e3⟩)]
          exact ⟨_, rfl, .inl ⟨rfl, _, SqL.of h2⟩, _, rfl, _, rfl, _, _, rfl, fd, _, _, rfl, rfl, h2, small1000 (by rw [List.length_map]; omega), fin _ _ s2 h2 lv⟩
        refine ⟨_, rfl, rfl, _, rfl, iteDF (decide_eq_false fun z => e3 (V.str.inj z)) ?_⟩
        refine ⟨_, rfl, rfl, _, rfl, iteDF (decide_eq_false fun z => by have := V.str.inj z; rw [e2] at this; revert this; decide +kernel) ?_⟩
        refine ⟨_, rfl, rfl, _, rfl, iteDT (decide_eq_true (by rw [e2])) ?_⟩
        have lv : lcR k t nm a b = (if a + b - t > 0 then a + b - t else 0) := by
          unfold lcR
          rw [if_neg (fun z => z.elim e1 fun w => e3 w.2), if_neg (by rw [e2]; decide +kernel), if_pos e2]
        exact ⟨_, rfl, .inl ⟨rfl, _, SqL.of h2⟩, _, rfl, _, rfl, _, _, rfl, rfl, _, rfl, _, _, rfl, rfl, _, _, rfl, fd, _, _, rfl, rfl, h2, small1000 (by rw [List.length_map]; omega), fin _ _ s2 h2 lv⟩
      refine ⟨_, rfl, rfl, _, rfl, iteDF (decide_eq_false fun z => e2 (V.str.inj z)) ?_⟩
      by_cases e3 : nm = "or"
      · refine ⟨_, rfl, rfl, _, rfl, iteDT (decide_eq_true (by rw [e3])) ?_⟩
        have lv : lcR k t nm a b = (if b > a then b else a) := by
          unfold lcR
          rw [if_neg (fun z => z.elim e1 fun w => e2 w.1), if_pos e3]
        exact ⟨_, rfl, .inl ⟨rfl, _, SqL.of h2⟩, _, rfl, _, rfl, _, _, rfl, fd, _, _, rfl, rfl, h2, small1000 (by rw [List.length_map]; omega), fin _ _ s2 h2 lv⟩
      refine ⟨_, rfl, rfl, _, rfl, iteDF (decide_eq_false fun z => e3 (V.str.inj z)) ?_⟩
      refine ⟨_, rfl, rfl, _, rfl, iteDF (decide_eq_false fun z => e2 (V.str.inj z)) ?_⟩
      have tl := tail e1 (fun w => e2 w.1) e3 e2
      refine ⟨_, rfl, _, rfl, _, _, rfl, rfl, _, rfl, ite2 (fun c => ?_) (fun c => ?_)⟩
      · have lv : lcR k t nm a b = t := by rw [tl, if_pos (of_decide_eq_true c)]
        exact ⟨_, rfl, .inl ⟨rfl, _, SqL.of h2⟩, _, rfl, fd, _, _, rfl, rfl, h2, small1000 (by rw [List.length_map]; omega), fin _ _ s2 h2 lv⟩
      · rw [if_neg (fun z => c (decide_eq_true z))] at tl
        refine ⟨_, rfl, .inl ⟨rfl, _, SqL.of h2⟩, _, rfl, _, rfl, _, rfl, _, _, rfl, rfl, _, rfl, _, _, rfl, rfl, small9 (by show 2 ≤ 1000; decide), fun L hL => ?_⟩
        have nL := same_new hL (.lst [.int b, .int (t - a + b)])
        have h3 := nL _ _ h2
        refine ⟨_, rfl, rfl, .inr ⟨_, rfl, .inl ⟨L, _, _, .int (if k = "cut" then t - a + b else b), rfl, rfl, SqL.of upd_same, ?_, fd, _, _, rfl, rfl, h3, small1000 (by rw [List.length_map]; omega), fin _ _ (s2.trans nL) h3 tl⟩⟩⟩
        by_cases e5 : k = "cut"
        · rw [if_pos e5, decide_eq_true (show V.str k = V.str "cut" by rw [e5])]
          rfl
        · rw [if_neg e5, decide_eq_false (fun z : V.str k = V.str "cut" => e5 (V.str.inj z))]
          rfl
    · rintro σ H2 ⟨⟨x2, rfl⟩, s2, h2⟩
      refine ⟨⟨_, _, rfl⟩, s2, ?_⟩
      rw [h2, List.range_succ, List.flatMap_append]
      simp only [List.flatMap_cons, List.flatMap_nil, List.append_nil]
      rfl
  · rintro σ H1 ⟨⟨x1, x2, rfl⟩, s1, h1⟩
    exact ⟨_, rfl, fd, _, rfl, .inl ⟨SqL.of h1, fun p hp => q p _ (s1.trans (same_new hp _)) upd_same⟩⟩

abbrev s_law_table : Stmt := top 37
theorem sc_law_table : FnScope ["_law_kind", "_law_many", "_law_top", "_law_found", "_law_cells_here", "_law_one"] ["_law_kind", "_law_many"] (defScope s_law_table) := ⟨rfl, rfl, rfl, by decide +kernel, rfl, by decide +kernel, by decide +kernel⟩
theorem ok_law_table {P : Program} {w : World} {K : PySem.W.Frag} {mg : Str → Option Value} {base : Heap} {f : Addr} {fd : FuncData} (F : Fun K "_law_table" "_law_table" s_law_table f fd) (gb : Gb mg) {c : Nat → Addr} (cl : Cl K mg c) (d_law_cells : Def P w K mg base 1 "_law_cells" ["_law_kind", "_law_top", "_law_name"] spLC) : FnOk P w K mg base CX0 2 f fd ["_law_kind", "_law_many"] spLT := by
  refine F.ok sc_law_table (fun vs H Q E h => ?_) (fun cdv A outer s H vs Q E hr h => ?_)
  · obtain ⟨k, n, rfl, _⟩ := h
    rfl
  obtain ⟨k, n, rfl, kc, n2, n9, q⟩ := h
  have nd0 : (["_law_name", "_law_kind", "_law_top"] : List Str).Nodup := by decide +kernel
  refine ⟨_, (@pss_cons _ _ _ _ _ (@ps_set _ _ 2 _ _ _ _ sc_law_table.nd rfl (Or.inr rfl) (@pe_op _ _ _ _ _ _ _ _ (@op_sub _) (@pv _ 1 _ _ (by rfl) (by first | exact Or.inl rfl | exact Or.inr (Or.inl rfl) | exact Or.inr (Or.inr rfl)) (by decide) (by decide)) (@pe_int _ _ _ _)) (by rfl) (by first | exact .inl rfl | exact .inr rfl | assumption)) (@pss_cons _ _ _ _ _ (@ps_setComp _ ["_law_name", "_law_kind", "_law_top"] [none, some 0, some 2] _ 3 _ _ _ _ _ _ _ _ _ _ _ _ (by exact (show CompOk ["_law_kind", "_law_many", "_law_top", "_law_found", "_law_cells_here", "_law_one"] (defScope s_law_table) ["_law_name", "_law_kind", "_law_top"] [none, some 0, some 2] _ from ⟨rfl, by decide +kernel, by decide +kernel, by decide +kernel, by decide +kernel, rfl, by decide +kernel⟩)) rfl (@kpi_list _ K _ _ _ (@pe_lst _ _ _ _ (@pa_cons _ _ _ _ _ (@pe_str _ _ _ _) (@pa_cons _ _ _ _ _ (@pe_str _ _ _ _) (@pa_cons _ _ _ _ _ (@pe_str _ _ _ _) (@pa_cons _ _ _ _ _ (@pe_str _ _ _ _) (@pa_nil _) (by rfl)) (by rfl)) (by rfl)) (by rfl))) (by rfl)) (fun _ _ _ _ => (@pg_name _ _ 0 _ nd0 rfl (Or.inl rfl) (by first | exact .inl rfl | exact .inr rfl | assumption))) (fun _ _ _ _ => (@pf_nil _)) (fun _ _ _ _ => (@pe_tup _ _ _ _ _ (@pa_cons _ _ _ _ _ (@pv _ 0 _ _ (by rfl) (by first | exact Or.inl rfl | exact Or.inr (Or.inl rfl) | exact Or.inr (Or.inr rfl)) (by decide) (by decide)) (@pa_cons _ _ _ _ _ (@pe_int _ _ _ _) (@pa_cons _ _ _ _ _ (@pe_def _ _ _ _ _ _ _ _ _ _ _ d_law_cells hr (by omega) rfl (@pa_cons _ _ _ _ _ (@pv _ 1 _ _ (by rfl) (by first | exact Or.inl rfl | exact Or.inr (Or.inl rfl) | exact Or.inr (Or.inr rfl)) (by decide) (by decide)) (@pa_cons _ _ _ _ _ (@pv _ 2 _ _ (by rfl) (by first | exact Or.inl rfl | exact Or.inr (Or.inl rfl) | exact Or.inr (Or.inr rfl)) (by decide) (by decide)) (@pa_cons _ _ _ _ _ (@pv _ 0 _ _ (by rfl) (by first | exact Or.inl rfl | exact Or.inr (Or.inl rfl) | exact Or.inr (Or.inr rfl)) (by decide) (by decide)) (@pa_nil _) (by rfl)) (by rfl)) (by rfl)) (by decide) (by rfl) (by rfl)) (@pa_nil _) (by rfl)) (by rfl)) (by rfl)))) sc_law_table.nd rfl rfl rfl (by intro _; rfl)) (@pss_cons _ _ _ _ _ (@ps_set _ _ 4 _ _ _ _ sc_law_table.nd rfl (Or.inl rfl) (@pe_lst _ _ _ _ (@pa_nil _)) (by rfl) (by first | exact .inl rfl | exact .inr rfl | assumption)) (@pss_cons _ _ _ _ _ (@ps_for _ _ _ _ _ _ _ _ PassesOwn.never rfl (@pi_range1 _ _ _ _ _ _ rfl gb.range (@pa_cons _ _ _ _ _ (@pv _ 1 _ _ (by rfl) (by first | exact Or.inl rfl | exact Or.inr (Or.inl rfl) | exact Or.inr (Or.inr rfl)) (by decide) (by decide)) (@pa_nil _) (by rfl)) (by rfl)) (@pg_name _ _ 5 _ sc_law_table.nd rfl (Or.inl rfl) (by first | exact .inl rfl | exact .inr rfl | assumption)) (@pss_one _ _ _ (@ps_expr _ _ _ _ (@kpe_bm _ K _ _ _ _ _ _ _ _ _ _ _ PySem.F.plainAttrs_list PySem.F.slot_list_append PySem.F.type_list_append (@mt_append _) (@pv _ 4 _ _ (by rfl) (by first | exact Or.inl rfl | exact Or.inr (Or.inl rfl) | exact Or.inr (Or.inr rfl)) (by decide) (by decide)) (@pa_cons _ _ _ _ _ (@pe_ix _ _ _ _ _ _ _ (@kix_seq _ K (by rfl)) (@pe_lst _ _ _ _ (@pa_cons _ _ _ _ _ (@pe_op _ _ _ _ _ _ _ _ (@op_mul _) (@pv _ 2 _ _ (by rfl) (by first | exact Or.inl rfl | exact Or.inr (Or.inl rfl) | exact Or.inr (Or.inr rfl)) (by decide) (by decide)) (@pe_callTy _ _ _ _ _ _ _ _ _ (@call_int1 _) rfl gb.int bt_int (@pa_cons _ _ _ _ _ (@pe_cmpR _ _ _ _ _ _ _ _ (@op_eq _) (@pv _ 5 _ _ (by rfl) (by first | exact Or.inl rfl | exact Or.inr (Or.inl rfl) | exact Or.inr (Or.inr rfl)) (by decide) (by decide)) (@pe_int _ _ _ _) (@nomark _ _ (by decide) (by decide))) (@pa_nil _) (by rfl)) (by decide) (by decide) (by rfl) (by rfl))) (@pa_cons _ _ _ _ _ (@pe_op _ _ _ _ _ _ _ _ (@op_sub _) (@pv _ 2 _ _ (by rfl) (by first | exact Or.inl rfl | exact Or.inr (Or.inl rfl) | exact Or.inr (Or.inr rfl)) (by decide) (by decide)) (@pv _ 5 _ _ (by rfl) (by first | exact Or.inl rfl | exact Or.inr (Or.inl rfl) | exact Or.inr (Or.inr rfl)) (by decide) (by decide))) (@pa_nil _) (by rfl)) (by rfl))) (@pe_callTy _ _ _ _ _ _ _ _ _ (@call_int1 _) rfl gb.int bt_int (@pa_cons _ _ _ _ _ (@pe_cmpR _ _ _ _ _ _ _ _ (@op_eq _) (@pv _ 0 _ _ (by rfl) (by first | exact Or.inl rfl | exact Or.inr (Or.inl rfl) | exact Or.inr (Or.inr rfl)) (by decide) (by decide)) (@pe_str _ _ _ _) (@nomark _ _ (by decide) (by decide))) (@pa_nil _) (by rfl)) (by decide) (by decide) (by rfl) (by rfl)) (fun _ _ => rfl)) (@pa_nil _) (by rfl)) (by rfl) (by rfl) (by rfl) (by rfl) (by rfl) (by rfl)) (by rfl))) (by intro _; rfl)) (@pss_one _ _ _ (@ps_ret _ _ _ _ (@pe_tup _ _ _ _ _ (@pa_cons _ _ _ _ _ (@pv _ 1 _ _ (by rfl) (by first | exact Or.inl rfl | exact Or.inr (Or.inl rfl) | exact Or.inr (Or.inr rfl)) (by decide) (by decide)) (@pa_cons _ _ _ _ _ (@pe_tup _ _ _ _ _ (@pa_cons _ _ _ _ _ (@pv _ 2 _ _ (by rfl) (by first | exact Or.inl rfl | exact Or.inr (Or.inl rfl) | exact Or.inr (Or.inr rfl)) (by decide) (by decide)) (@pa_nil _) (by rfl))) (@pa_cons _ _ _ _ _ (@pe_op _ _ _ _ _ _ _ _ (@kop_catT _ K (by rfl)) (@pe_callTy _ _ _ _ _ _ _ _ _ (@kcall_tuple_of _ K (by rfl)) rfl gb.tuple bt_tuple (@pa_cons _ _ _ _ _ (@pv _ 3 _ _ (by rfl) (by first | exact Or.inl rfl | exact Or.inr (Or.inl rfl) | exact Or.inr (Or.inr rfl)) (by decide) (by decide)) (@pa_nil _) (by rfl)) (by decide) (by decide) (by rfl) (by rfl)) (@pe_tup _ _ _ _ _ (@pa_cons _ _ _ _ _ (@pe_tup _ _ _ _ _ (@pa_cons _ _ _ _ _ (@pe_str _ _ _ _) (@pa_cons _ _ _ _ _ (@pe_int _ _ _ _) (@pa_cons _ _ _ _ _ (@pe_callTy _ _ _ _ _ _ _ _ _ (@kcall_tuple_of _ K (by rfl)) rfl gb.tuple bt_tuple (@pa_cons _ _ _ _ _ (@pv _ 4 _ _ (by rfl) (by first | exact Or.inl rfl | exact Or.inr (Or.inl rfl) | exact Or.inr (Or.inr rfl)) (by decide) (by decide)) (@pa_nil _) (by rfl)) (by decide) (by decide) (by rfl) (by rfl)) (@pa_nil _) (by rfl)) (by rfl)) (by rfl))) (@pa_cons _ _ _ _ _ (@pe_tup _ _ _ _ _ (@pa_cons _ _ _ _ _ (@pe_str _ _ _ _) (@pa_cons _ _ _ _ _ (@pe_int _ _ _ _) (@pa_cons _ _ _ _ _ (@pe_tup _ _ _ _ _ (@pa_cons _ _ _ _ _ (@pe_int _ _ _ _) (@pa_nil _) (by rfl))) (@pa_nil _) (by rfl)) (by rfl)) (by rfl))) (@pa_cons _ _ _ _ _ (@pe_tup _ _ _ _ _ (@pa_cons _ _ _ _ _ (@pe_str _ _ _ _) (@pa_cons _ _ _ _ _ (@pe_int _ _ _ _) (@pa_cons _ _ _ _ _ (@pe_tup _ _ _ _ _ (@pa_cons _ _ _ _ _ (@pv _ 2 _ _ (by rfl) (by first | exact Or.inl rfl | exact Or.inr (Or.inl rfl) | exact Or.inr (Or.inr rfl)) (by decide) (by decide)) (@pa_nil _) (by rfl))) (@pa_nil _) (by rfl)) (by rfl)) (by rfl))) (@pa_nil _) (by rfl)) (by rfl)) (by rfl)))) (@pa_nil _) (by rfl)) (by rfl)) (by rfl))))))))), ?_⟩
  refine ⟨_, rfl, _, _, rfl, rfl, ?_⟩
  refine ⟨small9 (by show 4 ≤ 1000; decide), fun L hL => ?_⟩
  refine ⟨L, rfl, ⟨_, SqL.of upd_same⟩, fun D hD => ?_⟩
  have sL : Same H (upd H L (.lst (names4.map V.str))) := same_new hL _
  refine comp_list (xs := names4.map V.str) (fun i ys H' => Same (upd H L (.lst (names4.map V.str))) H' ∧ Ths (cutH (fun b => b = D) H') ((names4.take i).map (c4 k n)) ys) ⟨same_new hD _, .nil⟩ (fun i ys H' h _ => SqL.of (h.1 _ _ upd_same)) ?_ ?_
  · rintro i ys H1 x hx ⟨s1, hT⟩ hD1
    have hi : i < (names4.map V.str).length := (List.getElem?_eq_some_iff.mp hx).1
    rw [List.getElem?_map] at hx
    obtain ⟨nm, hnm, rfl⟩ := Option.map_eq_some_iff.mp hx
    refine yes ⟨_, rfl, _, rfl, _, rfl, _, rfl, k, nm, n - 1, rfl, kc, by omega, by omega, List.mem_of_getElem? hnm, fun p H2 s2 h2 => ?_⟩
    refine ⟨small9 (by show 3 ≤ 1000; decide), fun t ht => ?_⟩
    have n3 := same_new ht (.tup [.str nm, .int 2, .ref p])
    have hD2 := s2 _ _ hD1
    have tD : ¬ t = D := fun z => by rw [z, hD2] at ht; cases ht
    have pD : ¬ p = D := fun z => by rw [z, hD2] at h2; cases h2
    have hyl := hT.len
    rw [List.length_map, List.length_take] at hyl
    rw [List.length_map] at hi
    have h4 : names4.length = 4 := rfl
    refine cyes (by rw [List.length_map]; exact hi) rset1 (n3 _ _ hD2) (small1000 (by omega)) ⟨(s1.trans (s2.trans n3)).put hD, ?_⟩
    rw [cut_upd (X := fun b => b = D) (p := D) rfl, take_snoc hnm, List.map_append]
    refine ths_snoc (hT.same (cut_same (s2.trans n3))) ?_
    refine Ths.tup (vs := [.str nm, .int 2, .ref p]) (.cons (.str _ ?_) (.cons (.int _) (.cons (ths_ints (by rw [cut_yes (X := fun b => b = D) pD]; exact n3 _ _ h2) ?_) .nil))) (by rw [cut_yes (X := fun b => b = D) tD]; exact upd_same) (by show 3 ≤ 1000; decide)
    · have hmem : nm ∈ names7 := by
        have h47 : ∀ x ∈ names4, x ∈ names7 := fun x hx => by
          unfold names4 at hx
          unfold names7
          simp only [List.mem_cons, List.not_mem_nil, or_false] at hx ⊢
          rcases hx with h | h | h | h <;> simp [h]
        exact h47 nm (List.mem_of_getElem? hnm)
      exact names_short nm hmem
    · have := lcells_len (k := k) (nm := nm) (t := n - 1) (by omega) (by omega)
      omega
  · rintro ys H1 ⟨s1, hT⟩ hD1
    rw [show (names4.map V.str).length = 4 from rfl, show names4.take 4 = names4 from rfl] at hT
    have hT := hT.same uncut
    have hyl := hT.len
    rw [List.length_map, show names4.length = 4 from rfl] at hyl
    refine ⟨small9 (by show 0 ≤ 1000; decide), fun cd hcd => ?_⟩
    have s2 := same_new hcd (.lst [])
    refine ⟨_, rfl, _, rfl, by omega, by omega, ?_⟩
    refine for_range (fun i σ H' => (∃ x1, σ = [some (.str k), some (.int n), some (.int (n - 1)), some (.ref D), some (.ref cd), x1]) ∧ Same H1 H' ∧ H' cd = some (.lst (((List.range i).map fun (i : Nat) => if k = "cut" then n - 1 - (0 + (i : Int)) else (n - 1) * (if (0 + (i : Int)) = 0 then 1 else 0)).map V.int))) ⟨⟨_, rfl⟩, s2, upd_same⟩ ?_ ?_
    · rintro i σ H2 hi ⟨⟨x1, rfl⟩, s3, h3⟩
      refine ⟨_, rfl, .inl ⟨rfl, _, SqL.of h3⟩, _, rfl, _, rfl, rfl, .inr ⟨_, rfl, _, _, rfl, rfl, ?_, _, rfl, _, rfl, _, _, rfl, rfl, small9 (by show 2 ≤ 1000; decide), fun L2 hL2 => ?_⟩⟩
      · exact .inr ⟨by split <;> omega, by split <;> omega⟩
      have nL := same_new hL2 (.lst [.int ((n - 1) * (if decide (V.int (0 + (i : Int)) = V.int 0) = true then 1 else 0)), .int (n - 1 - (0 + (i : Int)))])
      have h4 := nL _ _ h3
      refine ⟨_, rfl, rfl, .inr ⟨_, rfl, .inl ⟨L2, _, _, .int (if k = "cut" then n - 1 - (0 + (i : Int)) else (n - 1) * (if (0 + (i : Int)) = 0 then 1 else 0)), rfl, rfl, SqL.of upd_same, ?_, cd, _, _, rfl, rfl, h4, ?_, ⟨⟨_, rfl⟩, (s3.trans nL).put hcd, ?_⟩⟩⟩⟩
      · have e0 : (if decide (V.int (0 + (i : Int)) = V.int 0) = true then (1 : Int) else 0) = if (0 + (i : Int)) = 0 then 1 else 0 := by
          by_cases z : (0 + (i : Int)) = 0
          · rw [if_pos z, if_pos (decide_eq_true (by rw [z]))]
          · rw [if_neg z, if_neg (fun w => z (V.int.inj (of_decide_eq_true w)))]
        rw [e0]
        by_cases e5 : k = "cut"
        · rw [if_pos e5, decide_eq_true (show V.str k = V.str "cut" by rw [e5])]
          rfl
        · rw [if_neg e5, decide_eq_false (fun z : V.str k = V.str "cut" => e5 (V.str.inj z))]
          rfl
      · rw [List.length_map, List.length_map, List.length_range]
        exact small1000 (by omega)
      · rw [upd_same, List.range_succ, List.map_append, List.map_append]
        rfl
    · rintro σ H2 ⟨⟨x1, rfl⟩, s3, h3⟩
      have hD3 := s3 _ _ hD1
      have T3 := hT.same s3
      refine ⟨_, rfl, _, rfl, small9 (by show 1 ≤ 1000; decide), fun t1 ht1 => ?_⟩
      have m1 := same_new ht1 (.tup [.int (n - 1)])
      refine ⟨_, rfl, D, _, rfl, .inl ⟨SqL.of (m1 _ _ hD3), fun t2 ht2 => ?_⟩⟩
      have m2 := same_new ht2 (.tup ys)
      refine ⟨_, rfl, cd, _, rfl, .inl ⟨SqL.of (m2 _ _ (m1 _ _ h3)), fun t3 ht3 => ?_⟩⟩
      have m3 := same_new ht3 (.tup ((lnotR k n).map V.int))
      refine ⟨small9 (by show 3 ≤ 1000; decide), fun t4 ht4 => ?_⟩
      have m4 := same_new ht4 (.tup [.str "not", .int 1, .ref t3])
      refine ⟨small9 (by show 1 ≤ 1000; decide), fun t5 ht5 => ?_⟩
      have m5 := same_new ht5 (.tup [.int 0])
      refine ⟨small9 (by show 3 ≤ 1000; decide), fun t6 ht6 => ?_⟩
      have m6 := same_new ht6 (.tup [.str "false", .int 0, .ref t5])
      refine ⟨_, rfl, small9 (by show 1 ≤ 1000; decide), fun t7 ht7 => ?_⟩
      have m7 := same_new ht7 (.tup [.int (n - 1)])
      refine ⟨small9 (by show 3 ≤ 1000; decide), fun t8 ht8 => ?_⟩
      have m8 := same_new ht8 (.tup [.str "true", .int 0, .ref t7])
      refine ⟨small9 (by show 3 ≤ 1000; decide), fun t9 ht9 => ?_⟩
      have m9 := same_new ht9 (.tup [.ref t4, .ref t6, .ref t8])
      have m39 := m3.trans (m4.trans (m5.trans (m6.trans (m7.trans (m8.trans m9)))))
      refine ⟨t2, t9, _, _, rfl, rfl, SqT.of (m39 _ _ upd_same), SqT.of upd_same, ?_, ?_, (fun z => by cases z), fun _ t10 ht10 => ?_⟩
      · intro z
        rw [z] at hyl
        cases hyl
      · rw [← hyl]
        exact small9 (by show 4 + 3 ≤ 1000; decide)
      have m10 := same_new ht10 (.tup (ys ++ [.ref t4, .ref t6, .ref t8]))
      refine ⟨small9 (by show 3 ≤ 1000; decide), fun t11 ht11 => ?_⟩
      have m11 := same_new ht11 (.tup [.int n, .ref t1, .ref t10])
      have w9 := m9.trans (m10.trans m11)
      have w8 := m8.trans w9
      have w7 := m7.trans w8
      have w6 := m6.trans w7
      have w5 := m5.trans w6
      have w4 := m4.trans w5
      have w3 := m3.trans w4
      have w2 := m2.trans w3
      refine q _ _ (sL.trans (s1.trans (s3.trans (m1.trans w2)))) ?_
      refine Ths.tup (vs := [.int n, .ref t1, .ref t10]) (.cons (.int _) (.cons ?_ (.cons ?_ .nil))) upd_same (by show 3 ≤ 1000; decide)
      · exact Ths.tup (vs := [.int (n - 1)]) (.cons (.int _) .nil) (w2 _ _ upd_same) (by show 1 ≤ 1000; decide)
      · refine Ths.tup (vs := ys ++ [.ref t4, .ref t6, .ref t8]) ?_ (m11 _ _ upd_same) (by show 7 ≤ 1000; decide)
        have c1 := ths_snoc (T3.same (m1.trans w2)) (t := .tup [.str "not", .int 1, .tup ((lnotR k n).map Th.int)]) (v := .ref t4) (Ths.tup (vs := [.str "not", .int 1, .ref t3]) (.cons (.str _ (by decide +kernel)) (.cons (.int _) (.cons (ths_ints (w4 _ _ upd_same) (by unfold lnotR; rw [List.length_map, List.length_range]; omega)) .nil))) (w5 _ _ upd_same) (by show 3 ≤ 1000; decide))
        have c2 := ths_snoc c1 (t := .tup [.str "false", .int 0, .tup [.int 0]]) (v := .ref t6) (Ths.tup (vs := [.str "false", .int 0, .ref t5]) (.cons (.str _ (by decide +kernel)) (.cons (.int _) (.cons (Ths.tup (vs := [.int 0]) (.cons (.int _) .nil) (w6 _ _ upd_same) (by show 1 ≤ 1000; decide)) .nil))) (w7 _ _ upd_same) (by show 3 ≤ 1000; decide))
        have c3 := ths_snoc c2 (t := .tup [.str "true", .int 0, .tup [.int (n - 1)]]) (v := .ref t8) (Ths.tup (vs := [.str "true", .int 0, .ref t7]) (.cons (.str _ (by decide +kernel)) (.cons (.int _) (.cons (Ths.tup (vs := [.int (n - 1)]) (.cons (.int _) .nil) (w8 _ _ upd_same) (by show 1 ≤ 1000; decide)) .nil))) (w9 _ _ upd_same) (by show 3 ≤ 1000; decide))
        simp only [List.append_assoc, List.cons_append, List.nil_append] at c3
        exact c3

abbrev s_law_plain : Stmt := top 38
theorem sc_law_plain : FnScope ["_law_found"] ["_law_found"] (defScope s_law_plain) := ⟨rfl, rfl, rfl, by decide +kernel, rfl, by decide +kernel, by decide +kernel⟩
theorem ok_law_plain {P : Program} {w : World} {K : PySem.W.Frag} {mg : Str → Option Value} {base : Heap} {f : Addr} {fd : FuncData} (F : Fun K "_law_plain" "_law_plain" s_law_plain f fd) (gb : Gb mg) {c : Nat → Addr} (cl : Cl K mg c) (j : Nat) (d_law_plain : Def P w K mg base (1 + j) "_law_plain" ["_law_found"] (spPlain j)) : FnOk P w K mg base CX0 (1 + j + 1) f fd ["_law_found"] (spPlain (j + 1)) := by
  refine F.ok sc_law_plain (fun vs H Q E h => ?_) (fun cdv A outer s H vs Q E hr h => ?_)
  · obtain ⟨t, v, rfl, _⟩ := h
    rfl
  obtain ⟨t, v, rfl, h, ok, q⟩ := h
  have nd0 : (["_law_part"] : List Str).Nodup := by decide +kernel
  refine ⟨_, (@pss_cons _ _ _ _ _ (@ps_if _ _ _ _ _ _ _ _ (@pt_val _ _ _ (@pe_callB _ _ _ _ _ _ _ _ _ (@kcall_isiT _ K (by rfl)) rfl gb.isinstance bt_isinstance (@pa_cons _ _ _ _ _ (@pv _ 0 _ _ (by rfl) (by first | exact Or.inl rfl | exact Or.inr (Or.inl rfl) | exact Or.inr (Or.inr rfl)) (by decide) (by decide)) (@pa_cons _ _ _ _ _ (@pe_bltn _ _ (.ty "tuple") _ _ rfl gb.tuple bt_tuple rfl (by decide) (by decide)) (@pa_nil _) (by rfl)) (by rfl)) (by decide) (by decide) (by rfl) (by rfl)) (by intro _; rfl)) (@pss_one _ _ _ (@ps_ret _ _ _ _ (@pe_callB _ _ _ _ _ _ _ _ _ (@kcall_all _ K rfl (by rfl)) rfl gb.all bt_all (@pa_cons _ _ _ _ _ (@pe_comp _ ["_law_part"] [none] _ _ _ _ _ _ _ _ _ _ (by exact (show CompOk ["_law_found"] (defScope s_law_plain) ["_law_part"] [none] _ from ⟨rfl, by decide +kernel, by decide +kernel, by decide +kernel, by decide +kernel, rfl, by decide +kernel⟩)) rfl (@kpi_tup _ K _ _ _ (@pv _ 0 _ _ (by rfl) (by first | exact Or.inl rfl | exact Or.inr (Or.inl rfl) | exact Or.inr (Or.inr rfl)) (by decide) (by decide)) (by rfl)) (fun _ _ _ _ => (@pg_name _ _ 0 _ nd0 rfl (Or.inl rfl) (by first | exact .inl rfl | exact .inr rfl | assumption))) (fun _ _ _ _ => (@pf_nil _)) (fun _ _ _ _ => (@pe_def _ _ _ _ _ _ _ _ _ _ _ d_law_plain hr (by omega) rfl (@pa_cons _ _ _ _ _ (@pv _ 0 _ _ (by rfl) (by first | exact Or.inl rfl | exact Or.inr (Or.inl rfl) | exact Or.inr (Or.inr rfl)) (by decide) (by decide)) (@pa_nil _) (by rfl)) (by decide) (by rfl) (by rfl))) (by intro _; rfl)) (@pa_nil _) (by rfl)) (by decide) (by decide) (by rfl) (by rfl)))) (@pss_nil _)) (@pss_one _ _ _ (@ps_ret _ _ _ _ (@pe_or _ _ _ _ _ _ _ (@pe_callB _ _ _ _ _ _ _ _ _ (@kcall_isiT _ K (by rfl)) rfl gb.isinstance bt_isinstance (@pa_cons _ _ _ _ _ (@pv _ 0 _ _ (by rfl) (by first | exact Or.inl rfl | exact Or.inr (Or.inl rfl) | exact Or.inr (Or.inr rfl)) (by decide) (by decide)) (@pa_cons _ _ _ _ _ (@pe_bltn _ _ (.ty "str") _ _ rfl gb.str bt_str rfl (by decide) (by decide)) (@pa_nil _) (by rfl)) (by rfl)) (by decide) (by decide) (by rfl) (by rfl)) (@pe_one _ _ _ _ _ (@pe_and _ _ _ _ _ _ _ (@pe_callB _ _ _ _ _ _ _ _ _ (@kcall_isiT _ K (by rfl)) rfl gb.isinstance bt_isinstance (@pa_cons _ _ _ _ _ (@pv _ 0 _ _ (by rfl) (by first | exact Or.inl rfl | exact Or.inr (Or.inl rfl) | exact Or.inr (Or.inr rfl)) (by decide) (by decide)) (@pa_cons _ _ _ _ _ (@pe_bltn _ _ (.ty "int") _ _ rfl gb.int bt_int rfl (by decide) (by decide)) (@pa_nil _) (by rfl)) (by rfl)) (by decide) (by decide) (by rfl) (by rfl)) (@pe_one _ _ _ _ _ (@pe_not _ _ _ _ (@pe_callB _ _ _ _ _ _ _ _ _ (@kcall_isiT _ K (by rfl)) rfl gb.isinstance bt_isinstance (@pa_cons _ _ _ _ _ (@pv _ 0 _ _ (by rfl) (by first | exact Or.inl rfl | exact Or.inr (Or.inl rfl) | exact Or.inr (Or.inr rfl)) (by decide) (by decide)) (@pa_cons _ _ _ _ _ (@pe_bltn _ _ (.ty "bool") _ _ rfl gb.bool bt_bool rfl (by decide) (by decide)) (@pa_nil _) (by rfl)) (by rfl)) (by decide) (by decide) (by rfl) (by rfl)))))))))), ?_⟩
  refine ⟨_, rfl, _, _, _, isTupB t, rfl, h.ty, kit_tup t, _, rfl, ?_⟩
  cases t with
  | tup ts =>
    obtain ⟨a, xs, rfl, ha, hT⟩ := ths_in h
    obtain ⟨xs', ha', hl', h8, _⟩ := h.get
    have ex := ha.symm.trans ha'
    cases ex
    have ok' : ts.all (plainD j) = true := ok
    refine ⟨_, rfl, a, rfl, ⟨_, SqT.of ha⟩, fun D hD => ?_⟩
    have hsn := zip_snd ts xs hl'
    have hzl : (ts.zip xs).length ≤ 1000 := by rw [List.length_zip]; omega
    refine map_tup (ts.zip xs) Prod.snd (fun _ => .bl true) (by rw [hsn]; exact ha) hzl hD (fun z hz H' Q' s1 q' => ?_) (fun H' s1 hD' => ?_)
    · have hm : z.1 ∈ ts := (List.of_mem_zip hz).1
      have hp := List.all_eq_true.mp ok' z.1 hm
      match j, hp, d_law_plain with
      | j + 1, hp, _ => exact ⟨_, rfl, z.1, z.2, rfl, (zip_mem h ha hz).same s1, hp, fun H'' s2 => q' H'' s2⟩
    · rw [trues] at hD'
      refine ⟨D, _, rfl, SqL.of hD', ?_⟩
      rw [all_trues]
      exact q _ s1
  | str x => exact ⟨_, rfl, _, _, _, true, rfl, h.ty, kit_str (.str x), _, rfl, iteT (q _ (Same.refl H))⟩
  | int i => exact ⟨_, rfl, _, _, _, false, rfl, h.ty, kit_str (.int i), _, rfl, iteF ⟨_, rfl, _, _, _, true, rfl, h.ty, kit_int (.int i), _, rfl, iteT ⟨_, rfl, _, _, _, false, rfl, h.ty, kit_bool (.int i), _, rfl, q _ (Same.refl H)⟩⟩⟩
  | _ => cases ok

abbrev s_law_seen : Stmt := top 39
theorem sc_law_seen : FnScope ["_law_kind", "_law_many", "_law_seen_here", "e"] ["_law_kind", "_law_many"] (defScope s_law_seen) := ⟨rfl, rfl, rfl, by decide +kernel, rfl, by decide +kernel, by decide +kernel⟩
theorem ok_law_seen {P : Program} {w : World} {K : PySem.W.Frag} {mg : Str → Option Value} {base : Heap} {f : Addr} {fd : FuncData} (F : Fun K "_law_seen" "_law_seen" s_law_seen f fd) (gb : Gb mg) {c : Nat → Addr} (cl : Cl K mg c) (d_chain : Def1 P w K mg base 7 "chain" ["kind", "many"] (spChain (c 3) (c 4))) : FnOk P w K mg base CX0 8 f fd ["_law_kind", "_law_many"] spSeen := by
  refine F.ok sc_law_seen (fun vs H Q E h => ?_) (fun cdv A outer s H vs Q E hr h => ?_)
  · obtain ⟨tk, tm, vk, vm, kb, rfl, _⟩ := h
    rfl
  obtain ⟨tk, tm, vk, vm, kb, rfl, hk, hm, sb, q⟩ := h
  refine ⟨_, (@pss_cons _ _ _ _ _ (@ps_set _ _ 2 _ _ _ _ sc_law_seen.nd rfl (Or.inl rfl) (@pe_non _ _ _) (by rfl) (by first | exact .inl rfl | exact .inr rfl | assumption)) (@pss_cons _ _ _ _ _ (@ps_tryAs _ _ _ _ 3 _ _ _ _ _ _ _ _ rfl rfl rfl sc_law_seen.nd rfl rfl rfl cl.g_GradeError (@psx_expr _ _ _ _ (@pex_def _ _ _ _ _ _ _ _ _ _ _ d_chain hr (by omega) rfl (@pa_cons _ _ _ _ _ (@pv _ 0 _ _ (by rfl) (by first | exact Or.inl rfl | exact Or.inr (Or.inl rfl) | exact Or.inr (Or.inr rfl)) (by decide) (by decide)) (@pa_cons _ _ _ _ _ (@pv _ 1 _ _ (by rfl) (by first | exact Or.inl rfl | exact Or.inr (Or.inl rfl) | exact Or.inr (Or.inr rfl)) (by decide) (by decide)) (@pa_nil _) (by rfl)) (by rfl)) (by decide) (by rfl) (by rfl)) (by rfl)) (fun _ => (@pss_cons _ _ _ _ _ (@ps_set _ _ 2 _ _ _ _ sc_law_seen.nd rfl (Or.inl rfl) (@pe_str _ _ _ _) (by rfl) (by first | exact .inl rfl | exact .inr rfl | assumption)) (@pss_one _ _ _ (@ps_if _ _ _ _ _ _ _ _ (@PW.pt _ _ _ (@pw_and _ _ _ _ _ _ _ (@pt_val _ _ _ (@pe_callB _ _ _ _ _ _ _ _ _ (@callR_or _ _ _ _ (@kcall_isiXT _ K _ cl.h_NoKind (by rfl)) (@kcall_isiXT _ K _ cl.h_NoCount (by rfl))) rfl gb.isinstance bt_isinstance (@pa_cons _ _ _ _ _ (@pv _ 3 _ _ (by rfl) (by first | exact Or.inl rfl | exact Or.inr (Or.inl rfl) | exact Or.inr (Or.inr rfl)) (by decide) (by decide)) (@pa_cons _ _ _ _ _ (@pe_bltn _ _ (.ty "ValueError") _ _ rfl gb.ValueError bt_ValueError rfl (by decide) (by decide)) (@pa_nil _) (by rfl)) (by rfl)) (by decide) (by decide) (by rfl) (by rfl)) (by intro _; rfl)) (@pw_and1 _ _ _ _ (@pt_not _ _ _ _ (@pt_val _ _ _ (@pe_callB _ _ _ _ _ _ _ _ _ (@callR_or _ _ _ _ (@kcall_isiX _ K _ cl.h_NoKind (by rfl)) (@kcall_isiX _ K _ cl.h_NoCount (by rfl))) rfl gb.isinstance bt_isinstance (@pa_cons _ _ _ _ _ (@pv _ 3 _ _ (by rfl) (by first | exact Or.inl rfl | exact Or.inr (Or.inl rfl) | exact Or.inr (Or.inr rfl)) (by decide) (by decide)) (@pa_cons _ _ _ _ _ (@pe_glob _ _ (.ref _) _ _ rfl cl.g_NoTable rfl (by decide)) (@pa_nil _) (by rfl)) (by rfl)) (by decide) (by decide) (by rfl) (by rfl)) (by intro _; rfl)))))) (@pss_one _ _ _ (@ps_set _ _ 2 _ _ _ _ sc_law_seen.nd rfl (Or.inl rfl) (@pe_lst _ _ _ _ (@pa_cons _ _ _ _ _ (@pe_callB _ _ _ _ _ _ _ _ _ (@callR_or _ _ _ _ (@kcall_isiX _ K _ cl.h_NoKind (by rfl)) (@kcall_isiX _ K _ cl.h_NoCount (by rfl))) rfl gb.isinstance bt_isinstance (@pa_cons _ _ _ _ _ (@pv _ 3 _ _ (by rfl) (by first | exact Or.inl rfl | exact Or.inr (Or.inl rfl) | exact Or.inr (Or.inr rfl)) (by decide) (by decide)) (@pa_cons _ _ _ _ _ (@pe_glob _ _ (.ref _) _ _ rfl cl.g_NoKind rfl (by decide)) (@pa_nil _) (by rfl)) (by rfl)) (by decide) (by decide) (by rfl) (by rfl)) (@pa_cons _ _ _ _ _ (@pe_callB _ _ _ _ _ _ _ _ _ (@callR_or _ _ _ _ (@kcall_isiX _ K _ cl.h_NoKind (by rfl)) (@kcall_isiX _ K _ cl.h_NoCount (by rfl))) rfl gb.isinstance bt_isinstance (@pa_cons _ _ _ _ _ (@pv _ 3 _ _ (by rfl) (by first | exact Or.inl rfl | exact Or.inr (Or.inl rfl) | exact Or.inr (Or.inr rfl)) (by decide) (by decide)) (@pa_cons _ _ _ _ _ (@pe_glob _ _ (.ref _) _ _ rfl cl.g_NoCount rfl (by decide)) (@pa_nil _) (by rfl)) (by rfl)) (by decide) (by decide) (by rfl) (by rfl)) (@pa_nil _) (by rfl)) (by rfl))) (by rfl) (by first | exact .inl rfl | exact .inr rfl | assumption))) (@pss_nil _))))) (by decide)) (@pss_one _ _ _ (@ps_ret _ _ _ _ (@pv _ 2 _ _ (by rfl) (by first | exact Or.inl rfl | exact Or.inr (Or.inl rfl) | exact Or.inr (Or.inr rfl)) (by decide) (by decide)))))), ?_⟩
  refine ⟨_, rfl, _, rfl, tk, tm, vk, vm, rfl, hk, hm, fun h1 => ⟨cl.m_NoKind, fun e he => ?_⟩, fun h1 => ⟨cl.m_NoCount, fun e he => ?_⟩, fun h1 => by rw [h1] at sb; cases sb⟩
  · refine ⟨_, rfl, .inl ⟨e, _, _, rfl, upd_same, cl.v_NoKind, true, rfl, ?_⟩⟩
    refine ⟨_, rfl, .inl ⟨e, _, _, rfl, upd_same, cl.k_NoKind_NoTable, false, rfl, ?_⟩⟩
    refine ⟨_, rfl, .inl ⟨e, _, _, rfl, upd_same, cl.k_NoKind_NoKind, _, rfl, .inl ⟨e, _, _, rfl, upd_same, cl.k_NoKind_NoCount, small9 (by show 2 ≤ 1000; decide), fun l hl => ?_⟩⟩⟩
    rw [h1] at sb
    cases sb
    exact ⟨_, rfl, q l _ ((same_new he _).trans (same_new hl _)) upd_same⟩
  · refine ⟨_, rfl, .inr ⟨e, _, _, rfl, upd_same, cl.v_NoCount, true, rfl, ?_⟩⟩
    refine ⟨_, rfl, .inr ⟨e, _, _, rfl, upd_same, cl.k_NoCount_NoTable, false, rfl, ?_⟩⟩
    refine ⟨_, rfl, .inr ⟨e, _, _, rfl, upd_same, cl.k_NoCount_NoKind, _, rfl, .inr ⟨e, _, _, rfl, upd_same, cl.k_NoCount_NoCount, small9 (by show 2 ≤ 1000; decide), fun l hl => ?_⟩⟩⟩
    rw [h1] at sb
    cases sb
    exact ⟨_, rfl, q l _ ((same_new he _).trans (same_new hl _)) upd_same⟩

abbrev s_law : Stmt := top 40
theorem sc_law : FnScope ["_law_script", "_law_first", "_law_k", "_law_many", "_law_kind", "_law_found", "_law_counts"] ["_law_script"] (defScope s_law) := ⟨rfl, rfl, rfl, by decide +kernel, rfl, by decide +kernel, by decide +kernel⟩
theorem ok_law {P : Program} {w : World} {K : PySem.W.Frag} {mg : Str → Option Value} {base : Heap} {f : Addr} {fd : FuncData} (F : Fun K "law" "law" s_law f fd) (gb : Gb mg) {c : Nat → Addr} (cl : Cl K mg c) (d_chain : Def1 P w K mg base 7 "chain" ["kind", "many"] (spChain (c 3) (c 4))) (d_law_table : Def P w K mg base 2 "_law_table" ["_law_kind", "_law_many"] spLT) (d_law_seen : Def P w K mg base 8 "_law_seen" ["_law_kind", "_law_many"] spSeen) (d_law_plain : Def P w K mg base 6 "_law_plain" ["_law_found"] (spPlain 5)) : FnOk P w K mg base CX0 9 f fd ["_law_script"] (spLaw K) := by
  refine F.ok sc_law (fun vs H Q E h => ?_) (fun cdv A outer s H vs Q E hr h => ?_)
  · obtain ⟨a, ns, rfl, _⟩ := h
    rfl
  obtain ⟨a, ns, rfl, hS, hn, q⟩ := h
  refine ⟨_, (@pss_cons _ _ _ _ _ (@ps_set _ _ 1 _ _ _ _ sc_law.nd rfl (Or.inl rfl) (@pe_int _ _ _ _) (by rfl) (by first | exact .inl rfl | exact .inr rfl | assumption)) (@pss_cons _ _ _ _ _ (@ps_if _ _ _ _ _ _ _ _ (@pt_cmpR _ _ _ _ _ _ _ _ (@op_gt _) (@pe_callB _ _ _ _ _ _ _ _ _ (@kcall_len _ K (by rfl)) rfl gb.len bt_len (@pa_cons _ _ _ _ _ (@pv _ 0 _ _ (by rfl) (by first | exact Or.inl rfl | exact Or.inr (Or.inl rfl) | exact Or.inr (Or.inr rfl)) (by decide) (by decide)) (@pa_nil _) (by rfl)) (by decide) (by decide) (by rfl) (by rfl)) (@pe_int _ _ _ _) (@nomark _ _ (by decide) (by decide))) (@pss_one _ _ _ (@ps_set _ _ 1 _ _ _ _ sc_law.nd rfl (Or.inl rfl) (@pe_op _ _ _ _ _ _ _ _ (@op_mod _) (@pe_ix _ _ _ _ _ _ _ (@kix_seq _ K (by rfl)) (@pv _ 0 _ _ (by rfl) (by first | exact Or.inl rfl | exact Or.inr (Or.inl rfl) | exact Or.inr (Or.inr rfl)) (by decide) (by decide)) (@pe_int _ _ _ _) (fun _ _ => rfl)) (@pe_int _ _ _ _)) (by rfl) (by first | exact .inl rfl | exact .inr rfl | assumption))) (@pss_nil _)) (@pss_cons _ _ _ _ _ (@ps_for _ _ _ _ _ _ _ _ PassesOwn.never rfl (@pi_range1 _ _ _ _ _ _ rfl gb.range (@pa_cons _ _ _ _ _ (@pe_int _ _ _ _) (@pa_nil _) (by rfl)) (by rfl)) (@pg_name _ _ 2 _ sc_law.nd rfl (Or.inl rfl) (by first | exact .inl rfl | exact .inr rfl | assumption)) (@pss_cons _ _ _ _ _ (@ps_set _ _ 3 _ _ _ _ sc_law.nd rfl (Or.inl rfl) (@pe_op _ _ _ _ _ _ _ _ (@op_add _) (@pe_int _ _ _ _) (@pe_op _ _ _ _ _ _ _ _ (@op_mod _) (@pe_op _ _ _ _ _ _ _ _ (@op_add _) (@pv _ 1 _ _ (by rfl) (by first | exact Or.inl rfl | exact Or.inr (Or.inl rfl) | exact Or.inr (Or.inr rfl)) (by decide) (by decide)) (@pv _ 2 _ _ (by rfl) (by first | exact Or.inl rfl | exact Or.inr (Or.inl rfl) | exact Or.inr (Or.inr rfl)) (by decide) (by decide))) (@pe_int _ _ _ _))) (by rfl) (by first | exact .inl rfl | exact .inr rfl | assumption)) (@pss_one _ _ _ (@ps_for _ _ _ _ _ _ _ _ PassesOwn.never rfl (@kpi_list _ K _ _ _ (@pe_lst _ _ _ _ (@pa_cons _ _ _ _ _ (@pe_str _ _ _ _) (@pa_cons _ _ _ _ _ (@pe_str _ _ _ _) (@pa_nil _) (by rfl)) (by rfl))) (by rfl)) (@pg_name _ _ 4 _ sc_law.nd rfl (Or.inl rfl) (by first | exact .inl rfl | exact .inr rfl | assumption)) (@pss_cons _ _ _ _ _ (@ps_set _ _ 5 _ _ _ _ sc_law.nd rfl (Or.inl rfl) (@pe_def1 _ _ _ _ _ _ _ _ _ _ _ d_chain hr (by omega) rfl (@pa_cons _ _ _ _ _ (@pv _ 4 _ _ (by rfl) (by first | exact Or.inl rfl | exact Or.inr (Or.inl rfl) | exact Or.inr (Or.inr rfl)) (by decide) (by decide)) (@pa_cons _ _ _ _ _ (@pv _ 3 _ _ (by rfl) (by first | exact Or.inl rfl | exact Or.inr (Or.inl rfl) | exact Or.inr (Or.inr rfl)) (by decide) (by decide)) (@pa_nil _) (by rfl)) (by rfl)) (by decide) (by rfl) (by rfl)) (by rfl) (by first | exact .inl rfl | exact .inr rfl | assumption)) (@pss_one _ _ _ (@ps_if _ _ _ _ _ _ _ _ (@PW.pt _ _ _ (@pw_or _ _ _ _ _ _ _ (@pt_not _ _ _ _ (@pt_val _ _ _ (@pe_callB _ _ _ _ _ _ _ _ _ (@kcall_isiT _ K (by rfl)) rfl gb.isinstance bt_isinstance (@pa_cons _ _ _ _ _ (@pv _ 5 _ _ (by rfl) (by first | exact Or.inl rfl | exact Or.inr (Or.inl rfl) | exact Or.inr (Or.inr rfl)) (by decide) (by decide)) (@pa_cons _ _ _ _ _ (@pe_bltn _ _ (.ty "tuple") _ _ rfl gb.tuple bt_tuple rfl (by decide) (by decide)) (@pa_nil _) (by rfl)) (by rfl)) (by decide) (by decide) (by rfl) (by rfl)) (by intro _; rfl))) (@pw_or _ _ _ _ _ _ _ (@pt_cmpR _ _ _ _ _ _ _ _ (@op_neD _ 3 _ hr (by decide)) (@pv _ 5 _ _ (by rfl) (by first | exact Or.inl rfl | exact Or.inr (Or.inl rfl) | exact Or.inr (Or.inr rfl)) (by decide) (by decide)) (@pe_def _ _ _ _ _ _ _ _ _ _ _ d_law_table hr (by omega) rfl (@pa_cons _ _ _ _ _ (@pv _ 4 _ _ (by rfl) (by first | exact Or.inl rfl | exact Or.inr (Or.inl rfl) | exact Or.inr (Or.inr rfl)) (by decide) (by decide)) (@pa_cons _ _ _ _ _ (@pv _ 3 _ _ (by rfl) (by first | exact Or.inl rfl | exact Or.inr (Or.inl rfl) | exact Or.inr (Or.inr rfl)) (by decide) (by decide)) (@pa_nil _) (by rfl)) (by rfl)) (by decide) (by rfl) (by rfl)) (@nomark _ _ (by decide) (by decide))) (@pw_or1 _ _ _ _ (@pt_not _ _ _ _ (@pt_val _ _ _ (@pe_def _ _ _ _ _ _ _ _ _ _ _ d_law_plain hr (by omega) rfl (@pa_cons _ _ _ _ _ (@pv _ 5 _ _ (by rfl) (by first | exact Or.inl rfl | exact Or.inr (Or.inl rfl) | exact Or.inr (Or.inr rfl)) (by decide) (by decide)) (@pa_nil _) (by rfl)) (by decide) (by rfl) (by rfl)) (by intro _; rfl))))))) (@pss_one _ _ _ (@ps_ret _ _ _ _ (@pe_bl _ _ _ _))) (@pss_nil _)))) (by intro _; rfl)))) (by intro _; rfl)) (@pss_cons _ _ _ _ _ (@ps_set _ _ 6 _ _ _ _ sc_law.nd rfl (Or.inl rfl) (@pe_lst _ _ _ _ (@pa_cons _ _ _ _ _ (@pe_int _ _ _ _) (@pa_cons _ _ _ _ _ (@pe_int _ _ _ _) (@pa_cons _ _ _ _ _ (@pe_int _ _ _ _) (@pa_cons _ _ _ _ _ (@pe_un _ _ _ _ _ _ (@un_neg _) (@pe_int _ _ _ _)) (@pa_cons _ _ _ _ _ (@pe_un _ _ _ _ _ _ (@un_neg _) (@pe_int _ _ _ _)) (@pa_cons _ _ _ _ _ (@pe_int _ _ _ _) (@pa_cons _ _ _ _ _ (@pe_bl _ _ _ _) (@pa_cons _ _ _ _ _ (@pe_bl _ _ _ _) (@pa_cons _ _ _ _ _ (@pe_non _ _ _) (@pa_cons _ _ _ _ _ (@pe_str _ _ _ _) (@pa_cons _ _ _ _ _ (@pe_tup _ _ _ _ _ (@pa_cons _ _ _ _ _ (@pe_int _ _ _ _) (@pa_cons _ _ _ _ _ (@pe_int _ _ _ _) (@pa_nil _) (by rfl)) (by rfl))) (@pa_cons _ _ _ _ _ (@pe_lst _ _ _ _ (@pa_cons _ _ _ _ _ (@pe_int _ _ _ _) (@pa_nil _) (by rfl))) (@pa_cons _ _ _ _ _ (@pe_op _ _ _ _ _ _ _ _ (@op_pow _) (@pe_int _ _ _ _) (@pe_int _ _ _ _)) (@pa_nil _) (by rfl)) (by rfl)) (by rfl)) (by rfl)) (by rfl)) (by rfl)) (by rfl)) (by rfl)) (by rfl)) (by rfl)) (by rfl)) (by rfl)) (by rfl))) (by rfl) (by first | exact .inl rfl | exact .inr rfl | assumption)) (@pss_cons _ _ _ _ _ (@ps_for _ _ _ _ _ _ _ _ PassesOwn.never rfl (@kpi_list _ K _ _ _ (@pv _ 6 _ _ (by rfl) (by first | exact Or.inl rfl | exact Or.inr (Or.inl rfl) | exact Or.inr (Or.inr rfl)) (by decide) (by decide)) (by rfl)) (@pg_name _ _ 3 _ sc_law.nd rfl (Or.inl rfl) (by first | exact .inl rfl | exact .inr rfl | assumption)) (@pss_cons _ _ _ _ _ (@ps_if _ _ _ _ _ _ _ _ (@PW.pt _ _ _ (@pw_or _ _ _ _ _ _ _ (@pt_cmpR _ _ _ _ _ _ _ _ (@op_neL _ K _ hr (by rfl)) (@pe_def _ _ _ _ _ _ _ _ _ _ _ d_law_seen hr (by omega) rfl (@pa_cons _ _ _ _ _ (@pe_str _ _ _ _) (@pa_cons _ _ _ _ _ (@pv _ 3 _ _ (by rfl) (by first | exact Or.inl rfl | exact Or.inr (Or.inl rfl) | exact Or.inr (Or.inr rfl)) (by decide) (by decide)) (@pa_nil _) (by rfl)) (by rfl)) (by decide) (by rfl) (by rfl)) (@pe_lst _ _ _ _ (@pa_cons _ _ _ _ _ (@pe_bl _ _ _ _) (@pa_cons _ _ _ _ _ (@pe_bl _ _ _ _) (@pa_nil _) (by rfl)) (by rfl))) (@nomark _ _ (by decide) (by decide))) (@pw_or1 _ _ _ _ (@pt_cmpR _ _ _ _ _ _ _ _ (@op_neL _ K _ hr (by rfl)) (@pe_def _ _ _ _ _ _ _ _ _ _ _ d_law_seen hr (by omega) rfl (@pa_cons _ _ _ _ _ (@pe_str _ _ _ _) (@pa_cons _ _ _ _ _ (@pv _ 3 _ _ (by rfl) (by first | exact Or.inl rfl | exact Or.inr (Or.inl rfl) | exact Or.inr (Or.inr rfl)) (by decide) (by decide)) (@pa_nil _) (by rfl)) (by rfl)) (by decide) (by rfl) (by rfl)) (@pe_lst _ _ _ _ (@pa_cons _ _ _ _ _ (@pe_bl _ _ _ _) (@pa_cons _ _ _ _ _ (@pe_bl _ _ _ _) (@pa_nil _) (by rfl)) (by rfl))) (@nomark _ _ (by decide) (by decide)))))) (@pss_one _ _ _ (@ps_ret _ _ _ _ (@pe_bl _ _ _ _))) (@pss_nil _)) (@pss_one _ _ _ (@ps_if _ _ _ _ _ _ _ _ (@pt_cmpR _ _ _ _ _ _ _ _ (@op_neL _ K _ hr (by rfl)) (@pe_def _ _ _ _ _ _ _ _ _ _ _ d_law_seen hr (by omega) rfl (@pa_cons _ _ _ _ _ (@pe_str _ _ _ _) (@pa_cons _ _ _ _ _ (@pv _ 3 _ _ (by rfl) (by first | exact Or.inl rfl | exact Or.inr (Or.inl rfl) | exact Or.inr (Or.inr rfl)) (by decide) (by decide)) (@pa_nil _) (by rfl)) (by rfl)) (by decide) (by rfl) (by rfl)) (@pe_lst _ _ _ _ (@pa_cons _ _ _ _ _ (@pe_bl _ _ _ _) (@pa_cons _ _ _ _ _ (@pe_bl _ _ _ _) (@pa_nil _) (by rfl)) (by rfl))) (@nomark _ _ (by decide) (by decide))) (@pss_one _ _ _ (@ps_ret _ _ _ _ (@pe_bl _ _ _ _))) (@pss_nil _)))) (by intro _; rfl)) (@pss_cons _ _ _ _ _ (@ps_for _ _ _ _ _ _ _ _ PassesOwn.never rfl (@kpi_list _ K _ _ _ (@pe_lst _ _ _ _ (@pa_cons _ _ _ _ _ (@pe_str _ _ _ _) (@pa_cons _ _ _ _ _ (@pe_str _ _ _ _) (@pa_cons _ _ _ _ _ (@pe_str _ _ _ _) (@pa_cons _ _ _ _ _ (@pe_str _ _ _ _) (@pa_cons _ _ _ _ _ (@pe_int _ _ _ _) (@pa_cons _ _ _ _ _ (@pe_non _ _ _) (@pa_cons _ _ _ _ _ (@pe_lst _ _ _ _ (@pa_cons _ _ _ _ _ (@pe_str _ _ _ _) (@pa_nil _) (by rfl))) (@pa_cons _ _ _ _ _ (@pe_tup _ _ _ _ _ (@pa_cons _ _ _ _ _ (@pe_str _ _ _ _) (@pa_nil _) (by rfl))) (@pa_cons _ _ _ _ _ (@pe_str _ _ _ _) (@pa_nil _) (by rfl)) (by rfl)) (by rfl)) (by rfl)) (by rfl)) (by rfl)) (by rfl)) (by rfl)) (by rfl))) (by rfl)) (@pg_name _ _ 4 _ sc_law.nd rfl (Or.inl rfl) (by first | exact .inl rfl | exact .inr rfl | assumption)) (@pss_one _ _ _ (@ps_if _ _ _ _ _ _ _ _ (@pt_cmpR _ _ _ _ _ _ _ _ (@op_neL _ K _ hr (by rfl)) (@pe_def _ _ _ _ _ _ _ _ _ _ _ d_law_seen hr (by omega) rfl (@pa_cons _ _ _ _ _ (@pv _ 4 _ _ (by rfl) (by first | exact Or.inl rfl | exact Or.inr (Or.inl rfl) | exact Or.inr (Or.inr rfl)) (by decide) (by decide)) (@pa_cons _ _ _ _ _ (@pe_op _ _ _ _ _ _ _ _ (@op_add _) (@pe_int _ _ _ _) (@pv _ 1 _ _ (by rfl) (by first | exact Or.inl rfl | exact Or.inr (Or.inl rfl) | exact Or.inr (Or.inr rfl)) (by decide) (by decide))) (@pa_nil _) (by rfl)) (by rfl)) (by decide) (by rfl) (by rfl)) (@pe_lst _ _ _ _ (@pa_cons _ _ _ _ _ (@pe_bl _ _ _ _) (@pa_cons _ _ _ _ _ (@pe_bl _ _ _ _) (@pa_nil _) (by rfl)) (by rfl))) (@nomark _ _ (by decide) (by decide))) (@pss_one _ _ _ (@ps_ret _ _ _ _ (@pe_bl _ _ _ _))) (@pss_nil _))) (by intro _; rfl)) (@pss_one _ _ _ (@ps_ret _ _ _ _ (@pe_bl _ _ _ _))))))))), ?_⟩
  refine ⟨_, rfl, _, _, rfl, .inl ⟨_, hS, rfl⟩, _, _, rfl, rfl, _, rfl, ite2 (fun c => ?_) (fun c => ?_)⟩
  · have c1 : (0 : Int) < ((ns.map V.int).length : Nat) := of_decide_eq_true c
    have e : ∃ i, (ns.map V.int)[0]? = some (.int i) := by
      cases ns with
      | nil => simp at c1
      | cons m ms => exact ⟨m, rfl⟩
    obtain ⟨i0, hi0⟩ := e
    refine ⟨_, rfl, .inl ⟨a, _, 0, _, rfl, rfl, hS, atI_nat (j := 0) hi0, _, _, rfl, rfl, (show (0 : Int) < 8 by decide), ?_⟩⟩
    dsimp only
    obtain ⟨f, ef, f0, f8⟩ : ∃ f : Int, i0 % 8 = f ∧ 0 ≤ f ∧ f < 8 := ⟨_, rfl, by omega, by omega⟩
    rw [ef]
    refine ⟨8, rfl, by decide, by decide, ?_⟩
    refine for_range (fun _ σ H' => (∃ x1 x2 x3 x4 x5, σ = [some (.ref a), some (.int f), x1, x2, x3, x4, x5]) ∧ Same H H') ⟨⟨_, _, _, _, _, rfl⟩, Same.refl H⟩ ?_ ?_
    · rintro i σ H1 hi ⟨⟨x1, x2, x3, x4, x5, rfl⟩, s1⟩
      refine ⟨_, rfl, _, rfl, _, _, rfl, rfl, _, _, rfl, rfl, (show (0 : Int) < 8 by decide), _, _, rfl, rfl, ?_⟩
      dsimp only
      obtain ⟨n, en, n2, n9⟩ : ∃ n : Int, 2 + (f + (0 + (i : Int))) % 8 = n ∧ 2 ≤ n ∧ n ≤ 9 := ⟨_, rfl, by omega, by omega⟩
      rw [en]
      refine ⟨small9 (by show 2 ≤ 1000; decide), fun L hL => ?_⟩
      refine ⟨L, rfl, ⟨_, SqL.of upd_same⟩, ?_⟩
      have nL := same_new hL (.lst [.str "least", .str "cut"])
      refine for_list (xs := [.str "least", .str "cut"]) (fun _ σ H' => (∃ x1 x2 x4 x5, σ = [some (.ref a), some (.int f), x1, some (.int n), x2, x4, x5]) ∧ Same (upd H1 L (.lst [.str "least", .str "cut"])) H') ⟨⟨_, _, _, _, rfl⟩, Same.refl _⟩ (fun i σ H' _ h => SqL.of (h.2 _ _ upd_same)) ?_ ?_
      · rintro i' x σ H2 hx ⟨⟨y1, y2, y4, y5, rfl⟩, s2⟩
        obtain ⟨k, rfl, kc⟩ : ∃ k, x = .str k ∧ Kc k := by
          match i', hx with
          | 0, hx => exact ⟨_, (Option.some.inj hx).symm, .inl rfl⟩
          | 1, hx => exact ⟨_, (Option.some.inj hx).symm, .inr rfl⟩
        have sg := seen_good kc n2 n9
        refine ⟨_, rfl, _, rfl, .str k, .int n, _, _, rfl, .str _ (str_short kc), .int _, fun z => by (rw [sg] at z; cases z), fun z => by (rw [sg] at z; cases z), fun _ v H3 s3 h3 => ?_⟩
        have ht := h3 k n rfl rfl
        refine ⟨_, rfl, _, _, _, true, rfl, ht.ty, kit_tup _, true, rfl, ?_⟩
        refine ⟨_, rfl, _, rfl, _, rfl, k, n, rfl, kc, n2, n9, fun u H4 s4 h4 => ?_⟩
        rw [← chain_law kc n2 n9] at h4
        have ht4 := ht.same s4
        rcases alike_th 4 (okD_chain k n) ht4 h4 with al | ⟨va, vb, xs, ys, rfl, rfl, ea, eb, pr⟩
        · obtain ⟨aa, e⟩ := ht.ref
          rw [e] at al
          cases al.2
        refine ⟨va, vb, xs, ys, rfl, rfl, ea, eb, pr, false, rfl, ?_⟩
        refine ⟨_, rfl, chainTh k n, _, rfl, ht4, plain_chain k n, fun H5 s5 => ⟨true, rfl, ?_⟩⟩
        exact ⟨⟨_, _, _, _, rfl⟩, s2.trans (s3.trans (s4.trans s5))⟩
      · rintro σ H2 ⟨⟨y1, y2, y4, y5, rfl⟩, s2⟩
        exact ⟨⟨_, _, _, _, _, rfl⟩, s1.trans (nL.trans s2)⟩
    rintro σ H1 ⟨⟨x1, x2, x3, x4, x5, rfl⟩, _⟩
    refine ⟨_, rfl, _, rfl, small9 (by show 2 ≤ 1000; decide), fun tt ht => ?_⟩
    refine ⟨small9 (by show 1 ≤ 1000; decide), fun tl hl => ?_⟩
    refine ⟨_, _, rfl, rfl, ⟨by decide, by decide, by decide⟩, small9 (by show 13 ≤ 1000; decide), fun L hL => ?_⟩
    generalize hxs : ([.int 1, .int 10, .int 0, .int (-1), .int (-2), .int 100, .bl true, .bl false, .non, .str "2", .ref tt, .ref tl, .int (10 ^ (30 : Int).toNat)] : List V) = xs at *
    have nt := same_new ht (.tup [.int 2, .int 1])
    have nl := same_new hl (.lst [.int 3])
    have nL := same_new hL (.lst xs)
    obtain ⟨ts, hT, hts⟩ : ∃ ts, Ths (upd (upd (upd H1 tt (.tup [.int 2, .int 1])) tl (.lst [.int 3])) L (.lst xs)) ts xs ∧ ts.all (fun t => !countB t) = true := by
      subst hxs
      refine ⟨[.int 1, .int 10, .int 0, .int (-1), .int (-2), .int 100, .bl true, .bl false, .non, .str "2", .tup [.int 2, .int 1], .lst, .int (10 ^ (30 : Int).toNat)], ?_, by decide +kernel⟩
      exact .cons (.int _) (.cons (.int _) (.cons (.int _) (.cons (.int _) (.cons (.int _) (.cons (.int _) (.cons (.bl _) (.cons (.bl _) (.cons .non (.cons (.str _ (by decide +kernel)) (.cons (Ths.tup (vs := [.int 2, .int 1]) (.cons (.int _) (.cons (.int _) .nil)) (nL _ _ (nl _ _ upd_same)) (by show 2 ≤ 1000; decide)) (.cons (.lst (nL _ _ upd_same)) (.cons (.int _) .nil))))))))))))
    have hL1 := upd_same (H := upd (upd H1 tt (.tup [.int 2, .int 1])) tl (.lst [.int 3])) (a := L) (o := .lst xs)
    generalize upd (upd (upd H1 tt (.tup [.int 2, .int 1])) tl (.lst [.int 3])) L (.lst xs) = HL at *
    clear nL nl nt hxs
    refine ⟨_, rfl, L, rfl, ⟨_, SqL.of hL1⟩, ?_⟩
    refine for_list (xs := xs) (fun _ σ H' => (∃ x1 x2 x3 x4 x5, σ = [some (.ref a), some (.int f), x1, x2, x3, x4, x5]) ∧ Same HL H') ⟨⟨_, _, _, _, _, rfl⟩, Same.refl _⟩ (fun i σ H' _ h => SqL.of (h.2 _ _ hL1)) ?_ ?_
    · rintro i x σ H2 hx ⟨⟨y1, y2, y3, y4, y5, rfl⟩, S⟩
      obtain ⟨t, htm, hit⟩ := hT.get hx
      have hc : countB t = false := by simpa using List.all_eq_true.mp hts t htm
      refine ⟨_, rfl, .str "least", t, _, _, false, rfl, .str "least" (by decide +kernel), hit.same S, (seen_count (.inl rfl) hc), fun l1 H1' s1' h1' => ?_⟩
      refine ⟨small9 (by show 2 ≤ 1000; decide), fun l2 hl2 => ?_⟩
      refine ⟨l1, l2, _, _, rfl, rfl, SqL.of (same_new hl2 _ _ _ h1'), SqL.of upd_same, rfl, rfl, rfl, false, rfl, ?_⟩
      have S := S.trans (s1'.trans (same_new hl2 (.lst [.bl false, .bl true])))
      clear h1' s1'
      refine ⟨_, rfl, .str "cut", t, _, _, false, rfl, .str "cut" (by decide +kernel), hit.same S, (seen_count (.inr rfl) hc), fun l1 H1' s1' h1' => ?_⟩
      refine ⟨small9 (by show 2 ≤ 1000; decide), fun l2 hl2 => ?_⟩
      refine ⟨l1, l2, _, _, rfl, rfl, SqL.of (same_new hl2 _ _ _ h1'), SqL.of upd_same, rfl, rfl, rfl, false, rfl, ?_⟩
      have S := S.trans (s1'.trans (same_new hl2 (.lst [.bl false, .bl true])))
      clear h1' s1'
      refine ⟨_, rfl, .str "times", t, _, _, true, rfl, .str "times" (by decide +kernel), hit.same S, (seen_kind t (by decide +kernel)), fun l1 H1' s1' h1' => ?_⟩
      refine ⟨small9 (by show 2 ≤ 1000; decide), fun l2 hl2 => ?_⟩
      refine ⟨l1, l2, _, _, rfl, rfl, SqL.of (same_new hl2 _ _ _ h1'), SqL.of upd_same, rfl, rfl, rfl, false, rfl, ?_⟩
      have S := S.trans (s1'.trans (same_new hl2 (.lst [.bl true, .bl false])))
      clear h1' s1'
      exact ⟨⟨_, _, _, _, _, rfl⟩, S⟩
    rintro σ H2 ⟨⟨y1, y2, y3, y4, y5, rfl⟩, _⟩
    refine ⟨small9 (by show 1 ≤ 1000; decide), fun tl hl => ?_⟩
    refine ⟨small9 (by show 1 ≤ 1000; decide), fun tt ht => ?_⟩
    refine ⟨small9 (by show 9 ≤ 1000; decide), fun L hL => ?_⟩
    have nt := same_new ht (.tup [.str "least"])
    have nL := same_new hL (.lst [.str "times", .str "Least", .str "", .str "cu", .int 0, .non, .ref tl, .ref tt, .str "least cut"])
    have hT2 : Ths (upd (upd (upd H2 tl (.lst [.str "cut"])) tt (.tup [.str "least"])) L (.lst [.str "times", .str "Least", .str "", .str "cu", .int 0, .non, .ref tl, .ref tt, .str "least cut"])) [.str "times", .str "Least", .str "", .str "cu", .int 0, .non, .lst, .tup [.str "least"], .str "least cut"] [.str "times", .str "Least", .str "", .str "cu", .int 0, .non, .ref tl, .ref tt, .str "least cut"] :=
      .cons (.str _ (by decide +kernel)) (.cons (.str _ (by decide +kernel)) (.cons (.str _ (by decide +kernel)) (.cons (.str _ (by decide +kernel)) (.cons (.int _) (.cons .non (.cons (.lst (nL _ _ (nt _ _ upd_same))) (.cons (Ths.tup (vs := [.str "least"]) (.cons (.str _ (by decide +kernel)) .nil) (nL _ _ upd_same) (by show 1 ≤ 1000; decide)) (.cons (.str _ (by decide +kernel)) .nil))))))))
    have hts2 : ([.str "times", .str "Least", .str "", .str "cu", .int 0, .non, .lst, .tup [.str "least"], .str "least cut"] : List Th).all (fun t => !kindB t || isTimes t) = true := by decide +kernel
    have hL1 := upd_same (H := upd (upd H2 tl (.lst [.str "cut"])) tt (.tup [.str "least"])) (a := L) (o := .lst [.str "times", .str "Least", .str "", .str "cu", .int 0, .non, .ref tl, .ref tt, .str "least cut"])
    generalize upd (upd (upd H2 tl (.lst [.str "cut"])) tt (.tup [.str "least"])) L (.lst [.str "times", .str "Least", .str "", .str "cu", .int 0, .non, .ref tl, .ref tt, .str "least cut"]) = HL2 at *
    refine ⟨L, rfl, ⟨_, SqL.of hL1⟩, ?_⟩
    refine for_list (xs := [.str "times", .str "Least", .str "", .str "cu", .int 0, .non, .ref tl, .ref tt, .str "least cut"]) (fun _ σ H' => (∃ x1 x2 x3 x4 x5, σ = [some (.ref a), some (.int f), x1, x2, x3, x4, x5]) ∧ Same HL2 H') ⟨⟨_, _, _, _, _, rfl⟩, Same.refl _⟩ (fun i σ H' _ h => SqL.of (h.2 _ _ hL1)) ?_ (fun σ H' _ => q H')
    rintro i x σ H3 hx ⟨⟨y1, y2, y3, y4, y5, rfl⟩, S⟩
    obtain ⟨t, htm, hit⟩ := hT2.get hx
    have hc := List.all_eq_true.mp hts2 t htm
    refine ⟨_, rfl, _, rfl, _, _, rfl, rfl, t, .int (2 + f), _, _, true, rfl, hit.same S, .int _, (seen_kind _ hc), fun l1 H1' s1' h1' => ?_⟩
    refine ⟨small9 (by show 2 ≤ 1000; decide), fun l2 hl2 => ?_⟩
    refine ⟨l1, l2, _, _, rfl, rfl, SqL.of (same_new hl2 _ _ _ h1'), SqL.of upd_same, rfl, rfl, rfl, false, rfl, ?_⟩
    have S := S.trans (s1'.trans (same_new hl2 (.lst [.bl true, .bl false])))
    clear h1' s1'
    exact ⟨⟨_, _, _, _, _, rfl⟩, S⟩
  · have f0 : (0 : Int) ≤ 0 := by decide
    have f8 : (0 : Int) < 8 := by decide
    refine ⟨8, rfl, by decide, by decide, ?_⟩
    refine for_range (fun _ σ H' => (∃ x1 x2 x3 x4 x5, σ = [some (.ref a), some (.int (0 : Int)), x1, x2, x3, x4, x5]) ∧ Same H H') ⟨⟨_, _, _, _, _, rfl⟩, Same.refl H⟩ ?_ ?_
    · rintro i σ H1 hi ⟨⟨x1, x2, x3, x4, x5, rfl⟩, s1⟩
      refine ⟨_, rfl, _, rfl, _, _, rfl, rfl, _, _, rfl, rfl, (show (0 : Int) < 8 by decide), _, _, rfl, rfl, ?_⟩
      dsimp only
      obtain ⟨n, en, n2, n9⟩ : ∃ n : Int, 2 + ((0 : Int) + (0 + (i : Int))) % 8 = n ∧ 2 ≤ n ∧ n ≤ 9 := ⟨_, rfl, by omega, by omega⟩
      rw [en]
      refine ⟨small9 (by show 2 ≤ 1000; decide), fun L hL => ?_⟩
      refine ⟨L, rfl, ⟨_, SqL.of upd_same⟩, ?_⟩
      have nL := same_new hL (.lst [.str "least", .str "cut"])
      refine for_list (xs := [.str "least", .str "cut"]) (fun _ σ H' => (∃ x1 x2 x4 x5, σ = [some (.ref a), some (.int (0 : Int)), x1, some (.int n), x2, x4, x5]) ∧ Same (upd H1 L (.lst [.str "least", .str "cut"])) H') ⟨⟨_, _, _, _, rfl⟩, Same.refl _⟩ (fun i σ H' _ h => SqL.of (h.2 _ _ upd_same)) ?_ ?_
      · rintro i' x σ H2 hx ⟨⟨y1, y2, y4, y5, rfl⟩, s2⟩
        obtain ⟨k, rfl, kc⟩ : ∃ k, x = .str k ∧ Kc k := by
          match i', hx with
          | 0, hx => exact ⟨_, (Option.some.inj hx).symm, .inl rfl⟩
          | 1, hx => exact ⟨_, (Option.some.inj hx).symm, .inr rfl⟩
        have sg := seen_good kc n2 n9
        refine ⟨_, rfl, _, rfl, .str k, .int n, _, _, rfl, .str _ (str_short kc), .int _, fun z => by (rw [sg] at z; cases z), fun z => by (rw [sg] at z; cases z), fun _ v H3 s3 h3 => ?_⟩
        have ht := h3 k n rfl rfl
        refine ⟨_, rfl, _, _, _, true, rfl, ht.ty, kit_tup _, true, rfl, ?_⟩
        refine ⟨_, rfl, _, rfl, _, rfl, k, n, rfl, kc, n2, n9, fun u H4 s4 h4 => ?_⟩
        rw [← chain_law kc n2 n9] at h4
        have ht4 := ht.same s4
        rcases alike_th 4 (okD_chain k n) ht4 h4 with al | ⟨va, vb, xs, ys, rfl, rfl, ea, eb, pr⟩
        · obtain ⟨aa, e⟩ := ht.ref
          rw [e] at al
          cases al.2
        refine ⟨va, vb, xs, ys, rfl, rfl, ea, eb, pr, false, rfl, ?_⟩
        refine ⟨_, rfl, chainTh k n, _, rfl, ht4, plain_chain k n, fun H5 s5 => ⟨true, rfl, ?_⟩⟩
        exact ⟨⟨_, _, _, _, rfl⟩, s2.trans (s3.trans (s4.trans s5))⟩
      · rintro σ H2 ⟨⟨y1, y2, y4, y5, rfl⟩, s2⟩
        exact ⟨⟨_, _, _, _, _, rfl⟩, s1.trans (nL.trans s2)⟩
    rintro σ H1 ⟨⟨x1, x2, x3, x4, x5, rfl⟩, _⟩
    refine ⟨_, rfl, _, rfl, small9 (by show 2 ≤ 1000; decide), fun tt ht => ?_⟩
    refine ⟨small9 (by show 1 ≤ 1000; decide), fun tl hl => ?_⟩
    refine ⟨_, _, rfl, rfl, ⟨by decide, by decide, by decide⟩, small9 (by show 13 ≤ 1000; decide), fun L hL => ?_⟩
    generalize hxs : ([.int 1, .int 10, .int 0, .int (-1), .int (-2), .int 100, .bl true, .bl false, .non, .str "2", .ref tt, .ref tl, .int (10 ^ (30 : Int).toNat)] : List V) = xs at *
    have nt := same_new ht (.tup [.int 2, .int 1])
    have nl := same_new hl (.lst [.int 3])
    have nL := same_new hL (.lst xs)
    obtain ⟨ts, hT, hts⟩ : ∃ ts, Ths (upd (upd (upd H1 tt (.tup [.int 2, .int 1])) tl (.lst [.int 3])) L (.lst xs)) ts xs ∧ ts.all (fun t => !countB t) = true := by
      subst hxs
      refine ⟨[.int 1, .int 10, .int 0, .int (-1), .int (-2), .int 100, .bl true, .bl false, .non, .str "2", .tup [.int 2, .int 1], .lst, .int (10 ^ (30 : Int).toNat)], ?_, by decide +kernel⟩
      exact .cons (.int _) (.cons (.int _) (.cons (.int _) (.cons (.int _) (.cons (.int _) (.cons (.int _) (.cons (.bl _) (.cons (.bl _) (.cons .non (.cons (.str _ (by decide +kernel)) (.cons (Ths.tup (vs := [.int 2, .int 1]) (.cons (.int _) (.cons (.int _) .nil)) (nL _ _ (nl _ _ upd_same)) (by show 2 ≤ 1000; decide)) (.cons (.lst (nL _ _ upd_same)) (.cons (.int _) .nil))))))))))))
    have hL1 := upd_same (H := upd (upd H1 tt (.tup [.int 2, .int 1])) tl (.lst [.int 3])) (a := L) (o := .lst xs)
    generalize upd (upd (upd H1 tt (.tup [.int 2, .int 1])) tl (.lst [.int 3])) L (.lst xs) = HL at *
    clear nL nl nt hxs
    refine ⟨_, rfl, L, rfl, ⟨_, SqL.of hL1⟩, ?_⟩
    refine for_list (xs := xs) (fun _ σ H' => (∃ x1 x2 x3 x4 x5, σ = [some (.ref a), some (.int (0 : Int)), x1, x2, x3, x4, x5]) ∧ Same HL H') ⟨⟨_, _, _, _, _, rfl⟩, Same.refl _⟩ (fun i σ H' _ h => SqL.of (h.2 _ _ hL1)) ?_ ?_
    · rintro i x σ H2 hx ⟨⟨y1, y2, y3, y4, y5, rfl⟩, S⟩
      obtain ⟨t, htm, hit⟩ := hT.get hx
      have hc : countB t = false := by simpa using List.all_eq_true.mp hts t htm
      refine ⟨_, rfl, .str "least", t, _, _, false, rfl, .str "least" (by decide +kernel), hit.same S, (seen_count (.inl rfl) hc), fun l1 H1' s1' h1' => ?_⟩
      refine ⟨small9 (by show 2 ≤ 1000; decide), fun l2 hl2 => ?_⟩
      refine ⟨l1, l2, _, _, rfl, rfl, SqL.of (same_new hl2 _ _ _ h1'), SqL.of upd_same, rfl, rfl, rfl, false, rfl, ?_⟩
      have S := S.trans (s1'.trans (same_new hl2 (.lst [.bl false, .bl true])))
      clear h1' s1'
      refine ⟨_, rfl, .str "cut", t, _, _, false, rfl, .str "cut" (by decide +kernel), hit.same S, (seen_count (.inr rfl) hc), fun l1 H1' s1' h1' => ?_⟩
      refine ⟨small9 (by show 2 ≤ 1000; decide), fun l2 hl2 => ?_⟩
      refine ⟨l1, l2, _, _, rfl, rfl, SqL.of (same_new hl2 _ _ _ h1'), SqL.of upd_same, rfl, rfl, rfl, false, rfl, ?_⟩
      have S := S.trans (s1'.trans (same_new hl2 (.lst [.bl false, .bl true])))
      clear h1' s1'
      refine ⟨_, rfl, .str "times", t, _, _, true, rfl, .str "times" (by decide +kernel), hit.same S, (seen_kind t (by decide +kernel)), fun l1 H1' s1' h1' => ?_⟩
      refine ⟨small9 (by show 2 ≤ 1000; decide), fun l2 hl2 => ?_⟩
      refine ⟨l1, l2, _, _, rfl, rfl, SqL.of (same_new hl2 _ _ _ h1'), SqL.of upd_same, rfl, rfl, rfl, false, rfl, ?_⟩
      have S := S.trans (s1'.trans (same_new hl2 (.lst [.bl true, .bl false])))
      clear h1' s1'
      exact ⟨⟨_, _, _, _, _, rfl⟩, S⟩
    rintro σ H2 ⟨⟨y1, y2, y3, y4, y5, rfl⟩, _⟩
    refine ⟨small9 (by show 1 ≤ 1000; decide), fun tl hl => ?_⟩
    refine ⟨small9 (by show 1 ≤ 1000; decide), fun tt ht => ?_⟩
    refine ⟨small9 (by show 9 ≤ 1000; decide), fun L hL => ?_⟩
    have nt := same_new ht (.tup [.str "least"])
    have nL := same_new hL (.lst [.str "times", .str "Least", .str "", .str "cu", .int 0, .non, .ref tl, .ref tt, .str "least cut"])
    have hT2 : Ths (upd (upd (upd H2 tl (.lst [.str "cut"])) tt (.tup [.str "least"])) L (.lst [.str "times", .str "Least", .str "", .str "cu", .int 0, .non, .ref tl, .ref tt, .str "least cut"])) [.str "times", .str "Least", .str "", .str "cu", .int 0, .non, .lst, .tup [.str "least"], .str "least cut"] [.str "times", .str "Least", .str "", .str "cu", .int 0, .non, .ref tl, .ref tt, .str "least cut"] :=
      .cons (.str _ (by decide +kernel)) (.cons (.str _ (by decide +kernel)) (.cons (.str _ (by decide +kernel)) (.cons (.str _ (by decide +kernel)) (.cons (.int _) (.cons .non (.cons (.lst (nL _ _ (nt _ _ upd_same))) (.cons (Ths.tup (vs := [.str "least"]) (.cons (.str _ (by decide +kernel)) .nil) (nL _ _ upd_same) (by show 1 ≤ 1000; decide)) (.cons (.str _ (by decide +kernel)) .nil))))))))
    have hts2 : ([.str "times", .str "Least", .str "", .str "cu", .int 0, .non, .lst, .tup [.str "least"], .str "least cut"] : List Th).all (fun t => !kindB t || isTimes t) = true := by decide +kernel
    have hL1 := upd_same (H := upd (upd H2 tl (.lst [.str "cut"])) tt (.tup [.str "least"])) (a := L) (o := .lst [.str "times", .str "Least", .str "", .str "cu", .int 0, .non, .ref tl, .ref tt, .str "least cut"])
    generalize upd (upd (upd H2 tl (.lst [.str "cut"])) tt (.tup [.str "least"])) L (.lst [.str "times", .str "Least", .str "", .str "cu", .int 0, .non, .ref tl, .ref tt, .str "least cut"]) = HL2 at *
    refine ⟨L, rfl, ⟨_, SqL.of hL1⟩, ?_⟩
    refine for_list (xs := [.str "times", .str "Least", .str "", .str "cu", .int 0, .non, .ref tl, .ref tt, .str "least cut"]) (fun _ σ H' => (∃ x1 x2 x3 x4 x5, σ = [some (.ref a), some (.int (0 : Int)), x1, x2, x3, x4, x5]) ∧ Same HL2 H') ⟨⟨_, _, _, _, _, rfl⟩, Same.refl _⟩ (fun i σ H' _ h => SqL.of (h.2 _ _ hL1)) ?_ (fun σ H' _ => q H')
    rintro i x σ H3 hx ⟨⟨y1, y2, y3, y4, y5, rfl⟩, S⟩
    obtain ⟨t, htm, hit⟩ := hT2.get hx
    have hc := List.all_eq_true.mp hts2 t htm
    refine ⟨_, rfl, _, rfl, _, _, rfl, rfl, t, .int (2 + (0 : Int)), _, _, true, rfl, hit.same S, .int _, (seen_kind _ hc), fun l1 H1' s1' h1' => ?_⟩
    refine ⟨small9 (by show 2 ≤ 1000; decide), fun l2 hl2 => ?_⟩
    refine ⟨l1, l2, _, _, rfl, rfl, SqL.of (same_new hl2 _ _ _ h1'), SqL.of upd_same, rfl, rfl, rfl, false, rfl, ?_⟩
    have S := S.trans (s1'.trans (same_new hl2 (.lst [.bl true, .bl false])))
    clear h1' s1'
    exact ⟨⟨_, _, _, _, _, rfl⟩, S⟩

theorem lenK1 {α : Type} : ∀ {us : List α}, us.length = 1 → ∃ x0, us = [x0]
  | [x0], _ => ⟨x0, rfl⟩
theorem lenK2 {α : Type} : ∀ {us : List α}, us.length = 2 → ∃ x0 x1, us = [x0, x1]
  | [x0, x1], _ => ⟨x0, x1, rfl⟩
theorem lenK3 {α : Type} : ∀ {us : List α}, us.length = 3 → ∃ x0 x1 x2, us = [x0, x1, x2]
  | [x0, x1, x2], _ => ⟨x0, x1, x2, rfl⟩
theorem lenK4 {α : Type} : ∀ {us : List α}, us.length = 4 → ∃ x0 x1 x2 x3, us = [x0, x1, x2, x3]
  | [x0, x1, x2, x3], _ => ⟨x0, x1, x2, x3, rfl⟩
theorem all_mk {l : PySem.W.OpenLaw} {w : World} {K : PySem.W.Frag} {h : Heap} {mg : Str → Option Value} {fa f0 f1 f2 f3 f4 f5 f6 f7 f8 f9 f10 f11 f12 f13 f14 f15 f16 f17 f18 f19 f20 f21 f22 : Addr} (X : K.In h) (G : h.Ns mainGlobals mg) (hfa : mg "law" = some (.ref fa))
    {od0 an0 od1 an1 od2 an2 od3 an3 od4 an4 od5 an5 od6 an6 od7 an7 od8 an8 od9 an9 od10 an10 od11 an11 od12 an12 od13 an13 od14 an14 od15 an15 od16 an16 od17 an17 od18 an18 od19 an19 od20 an20 od21 an21 od22 an22 : Option Addr} {sl0 sl1 sl2 sl3 sl4 sl5 sl6 sl7 sl8 sl9 sl10 sl11 sl12 sl13 sl14 sl15 sl16 sl17 sl18 sl19 sl20 sl21 sl22 : Array (Option Value)} {oc0 kV0 dc0 pm0 cd0 ct0 oc1 kV1 dc1 pm1 cd1 ct1 oc2 kV2 dc2 pm2 cd2 ct2 oc3 kV3 dc3 pm3 cd3 ct3 oc4 kV4 dc4 pm4 cd4 ct4 oc5 kV5 dc5 pm5 cd5 ct5 oc6 kV6 dc6 pm6 cd6 ct6 oc7 kV7 dc7 pm7 cd7 ct7 oc8 kV8 dc8 pm8 cd8 ct8 oc9 kV9 dc9 pm9 cd9 ct9 oc10 kV10 dc10 pm10 cd10 ct10 oc11 kV11 dc11 pm11 cd11 ct11 oc12 kV12 dc12 pm12 cd12 ct12 oc13 kV13 dc13 pm13 cd13 ct13 oc14 kV14 dc14 pm14 cd14 ct14 oc15 kV15 dc15 pm15 cd15 ct15 oc16 kV16 dc16 pm16 cd16 ct16 oc17 kV17 dc17 pm17 cd17 ct17 oc18 kV18 dc18 pm18 cd18 ct18 oc19 kV19 dc19 pm19 cd19 ct19 oc20 kV20 dc20 pm20 cd20 ct20 oc21 kV21 dc21 pm21 cd21 ct21 oc22 kV22 dc22 pm22 cd22 ct22 : Value}
    (a0 : PySem.W.nsIn K mainGlobals "is_whole" = some (some (.ref f0))) (l0 : K.lookup f0 = some ⟨oc0, od0, .func (PySem.W.fnOf "is_whole" "is_whole" (defArgs s_is_whole) (defBody s_is_whole) (defScope s_is_whole) .none kV0 dc0 pm0 an0 cd0 ct0), sl0⟩) (c0 : PySem.W.codeIn K cd0 "is_whole" = true) (k0 : PySem.W.keepIn K (.ref f0) = true)
    (a1 : PySem.W.nsIn K mainGlobals "shared_part" = some (some (.ref f1))) (l1 : K.lookup f1 = some ⟨oc1, od1, .func (PySem.W.fnOf "shared_part" "shared_part" (defArgs s_shared_part) (defBody s_shared_part) (defScope s_shared_part) .none kV1 dc1 pm1 an1 cd1 ct1), sl1⟩) (c1 : PySem.W.codeIn K cd1 "shared_part" = true) (k1 : PySem.W.keepIn K (.ref f1) = true)
    (a2 : PySem.W.nsIn K mainGlobals "fraction" = some (some (.ref f2))) (l2 : K.lookup f2 = some ⟨oc2, od2, .func (PySem.W.fnOf "fraction" "fraction" (defArgs s_fraction) (defBody s_fraction) (defScope s_fraction) .none kV2 dc2 pm2 an2 cd2 ct2), sl2⟩) (c2 : PySem.W.codeIn K cd2 "fraction" = true) (k2 : PySem.W.keepIn K (.ref f2) = true)
    (a3 : PySem.W.nsIn K mainGlobals "plus" = some (some (.ref f3))) (l3 : K.lookup f3 = some ⟨oc3, od3, .func (PySem.W.fnOf "plus" "plus" (defArgs s_plus) (defBody s_plus) (defScope s_plus) .none kV3 dc3 pm3 an3 cd3 ct3), sl3⟩) (c3 : PySem.W.codeIn K cd3 "plus" = true) (k3 : PySem.W.keepIn K (.ref f3) = true)
    (a4 : PySem.W.nsIn K mainGlobals "minus" = some (some (.ref f4))) (l4 : K.lookup f4 = some ⟨oc4, od4, .func (PySem.W.fnOf "minus" "minus" (defArgs s_minus) (defBody s_minus) (defScope s_minus) .none kV4 dc4 pm4 an4 cd4 ct4), sl4⟩) (c4 : PySem.W.codeIn K cd4 "minus" = true) (k4 : PySem.W.keepIn K (.ref f4) = true)
    (a5 : PySem.W.nsIn K mainGlobals "times" = some (some (.ref f5))) (l5 : K.lookup f5 = some ⟨oc5, od5, .func (PySem.W.fnOf "times" "times" (defArgs s_times) (defBody s_times) (defScope s_times) .none kV5 dc5 pm5 an5 cd5 ct5), sl5⟩) (c5 : PySem.W.codeIn K cd5 "times" = true) (k5 : PySem.W.keepIn K (.ref f5) = true)
    (a6 : PySem.W.nsIn K mainGlobals "over" = some (some (.ref f6))) (l6 : K.lookup f6 = some ⟨oc6, od6, .func (PySem.W.fnOf "over" "over" (defArgs s_over) (defBody s_over) (defScope s_over) .none kV6 dc6 pm6 an6 cd6 ct6), sl6⟩) (c6 : PySem.W.codeIn K cd6 "over" = true) (k6 : PySem.W.keepIn K (.ref f6) = true)
    (a7 : PySem.W.nsIn K mainGlobals "below" = some (some (.ref f7))) (l7 : K.lookup f7 = some ⟨oc7, od7, .func (PySem.W.fnOf "below" "below" (defArgs s_below) (defBody s_below) (defScope s_below) .none kV7 dc7 pm7 an7 cd7 ct7), sl7⟩) (c7 : PySem.W.codeIn K cd7 "below" = true) (k7 : PySem.W.keepIn K (.ref f7) = true)
    (a8 : PySem.W.nsIn K mainGlobals "check_kind" = some (some (.ref f8))) (l8 : K.lookup f8 = some ⟨oc8, od8, .func (PySem.W.fnOf "check_kind" "check_kind" (defArgs s_check_kind) (defBody s_check_kind) (defScope s_check_kind) .none kV8 dc8 pm8 an8 cd8 ct8), sl8⟩) (c8 : PySem.W.codeIn K cd8 "check_kind" = true) (k8 : PySem.W.keepIn K (.ref f8) = true)
    (a9 : PySem.W.nsIn K mainGlobals "lesser" = some (some (.ref f9))) (l9 : K.lookup f9 = some ⟨oc9, od9, .func (PySem.W.fnOf "lesser" "lesser" (defArgs s_lesser) (defBody s_lesser) (defScope s_lesser) .none kV9 dc9 pm9 an9 cd9 ct9), sl9⟩) (c9 : PySem.W.codeIn K cd9 "lesser" = true) (k9 : PySem.W.keepIn K (.ref f9) = true)
    (a10 : PySem.W.nsIn K mainGlobals "greater" = some (some (.ref f10))) (l10 : K.lookup f10 = some ⟨oc10, od10, .func (PySem.W.fnOf "greater" "greater" (defArgs s_greater) (defBody s_greater) (defScope s_greater) .none kV10 dc10 pm10 an10 cd10 ct10), sl10⟩) (c10 : PySem.W.codeIn K cd10 "greater" = true) (k10 : PySem.W.keepIn K (.ref f10) = true)
    (a11 : PySem.W.nsIn K mainGlobals "connected_then" = some (some (.ref f11))) (l11 : K.lookup f11 = some ⟨oc11, od11, .func (PySem.W.fnOf "connected_then" "connected_then" (defArgs s_connected_then) (defBody s_connected_then) (defScope s_connected_then) .none kV11 dc11 pm11 an11 cd11 ct11), sl11⟩) (c11 : PySem.W.codeIn K cd11 "connected_then" = true) (k11 : PySem.W.keepIn K (.ref f11) = true)
    (a12 : PySem.W.nsIn K mainGlobals "connected_with" = some (some (.ref f12))) (l12 : K.lookup f12 = some ⟨oc12, od12, .func (PySem.W.fnOf "connected_with" "connected_with" (defArgs s_connected_with) (defBody s_connected_with) (defScope s_connected_with) .none kV12 dc12 pm12 an12 cd12 ct12), sl12⟩) (c12 : PySem.W.codeIn K cd12 "connected_with" = true) (k12 : PySem.W.keepIn K (.ref f12) = true)
    (a13 : PySem.W.nsIn K mainGlobals "connected" = some (some (.ref f13))) (l13 : K.lookup f13 = some ⟨oc13, od13, .func (PySem.W.fnOf "connected" "connected" (defArgs s_connected) (defBody s_connected) (defScope s_connected) .none kV13 dc13 pm13 an13 cd13 ct13), sl13⟩) (c13 : PySem.W.codeIn K cd13 "connected" = true) (k13 : PySem.W.keepIn K (.ref f13) = true)
    (a14 : PySem.W.nsIn K mainGlobals "power" = some (some (.ref f14))) (l14 : K.lookup f14 = some ⟨oc14, od14, .func (PySem.W.fnOf "power" "power" (defArgs s_power) (defBody s_power) (defScope s_power) .none kV14 dc14 pm14 an14 cd14 ct14), sl14⟩) (c14 : PySem.W.codeIn K cd14 "power" = true) (k14 : PySem.W.keepIn K (.ref f14) = true)
    (a15 : PySem.W.nsIn K mainGlobals "grades_at" = some (some (.ref f15))) (l15 : K.lookup f15 = some ⟨oc15, od15, .func (PySem.W.fnOf "grades_at" "grades_at" (defArgs s_grades_at) (defBody s_grades_at) (defScope s_grades_at) .none kV15 dc15 pm15 an15 cd15 ct15), sl15⟩) (c15 : PySem.W.codeIn K cd15 "grades_at" = true) (k15 : PySem.W.keepIn K (.ref f15) = true)
    (a16 : PySem.W.nsIn K mainGlobals "chain_cells" = some (some (.ref f16))) (l16 : K.lookup f16 = some ⟨oc16, od16, .func (PySem.W.fnOf "chain_cells" "chain_cells" (defArgs s_chain_cells) (defBody s_chain_cells) (defScope s_chain_cells) .none kV16 dc16 pm16 an16 cd16 ct16), sl16⟩) (c16 : PySem.W.codeIn K cd16 "chain_cells" = true) (k16 : PySem.W.keepIn K (.ref f16) = true)
    (a17 : PySem.W.nsIn K mainGlobals "chain" = some (some (.ref f17))) (l17 : K.lookup f17 = some ⟨oc17, od17, .func (PySem.W.fnOf "chain" "chain" (defArgs s_chain) (defBody s_chain) (defScope s_chain) .none kV17 dc17 pm17 an17 cd17 ct17), sl17⟩) (c17 : PySem.W.codeIn K cd17 "chain" = true) (k17 : PySem.W.keepIn K (.ref f17) = true)
    (a18 : PySem.W.nsIn K mainGlobals "_law_cells" = some (some (.ref f18))) (l18 : K.lookup f18 = some ⟨oc18, od18, .func (PySem.W.fnOf "_law_cells" "_law_cells" (defArgs s_law_cells) (defBody s_law_cells) (defScope s_law_cells) .none kV18 dc18 pm18 an18 cd18 ct18), sl18⟩) (c18 : PySem.W.codeIn K cd18 "_law_cells" = true) (k18 : PySem.W.keepIn K (.ref f18) = true)
    (a19 : PySem.W.nsIn K mainGlobals "_law_table" = some (some (.ref f19))) (l19 : K.lookup f19 = some ⟨oc19, od19, .func (PySem.W.fnOf "_law_table" "_law_table" (defArgs s_law_table) (defBody s_law_table) (defScope s_law_table) .none kV19 dc19 pm19 an19 cd19 ct19), sl19⟩) (c19 : PySem.W.codeIn K cd19 "_law_table" = true) (k19 : PySem.W.keepIn K (.ref f19) = true)
    (a20 : PySem.W.nsIn K mainGlobals "_law_plain" = some (some (.ref f20))) (l20 : K.lookup f20 = some ⟨oc20, od20, .func (PySem.W.fnOf "_law_plain" "_law_plain" (defArgs s_law_plain) (defBody s_law_plain) (defScope s_law_plain) .none kV20 dc20 pm20 an20 cd20 ct20), sl20⟩) (c20 : PySem.W.codeIn K cd20 "_law_plain" = true) (k20 : PySem.W.keepIn K (.ref f20) = true)
    (a21 : PySem.W.nsIn K mainGlobals "_law_seen" = some (some (.ref f21))) (l21 : K.lookup f21 = some ⟨oc21, od21, .func (PySem.W.fnOf "_law_seen" "_law_seen" (defArgs s_law_seen) (defBody s_law_seen) (defScope s_law_seen) .none kV21 dc21 pm21 an21 cd21 ct21), sl21⟩) (c21 : PySem.W.codeIn K cd21 "_law_seen" = true) (k21 : PySem.W.keepIn K (.ref f21) = true)
    (a22 : PySem.W.nsIn K mainGlobals "law" = some (some (.ref f22))) (l22 : K.lookup f22 = some ⟨oc22, od22, .func (PySem.W.fnOf "law" "law" (defArgs s_law) (defBody s_law) (defScope s_law) .none kV22 dc22 pm22 an22 cd22 ct22), sl22⟩) (c22 : PySem.W.codeIn K cd22 "law" = true) (k22 : PySem.W.keepIn K (.ref f22) = true)
    (z0 : PySem.W.nsIn K mainGlobals "abs" = some none)
    (z1 : PySem.W.nsIn K mainGlobals "range" = some none)
    (z2 : PySem.W.nsIn K mainGlobals "tuple" = some none)
    (z3 : PySem.W.nsIn K mainGlobals "isinstance" = some none)
    (z4 : PySem.W.nsIn K mainGlobals "int" = some none)
    (z5 : PySem.W.nsIn K mainGlobals "bool" = some none)
    (z6 : PySem.W.nsIn K mainGlobals "len" = some none)
    (z7 : PySem.W.nsIn K mainGlobals "str" = some none)
    (z8 : PySem.W.nsIn K mainGlobals "min" = some none)
    (z9 : PySem.W.nsIn K mainGlobals "max" = some none)
    (z10 : PySem.W.nsIn K mainGlobals "all" = some none)
    (z11 : PySem.W.nsIn K mainGlobals "ValueError" = some none)
    {yt0 : Tok} (y0 : PySem.W.nsIn K mainGlobals "MOST_GRADES" = some (some (.int 9 yt0)))
    {yt1 : Tok} (y1 : PySem.W.nsIn K mainGlobals "LEAST_STEPS" = some (some (.int 2 yt1)))
    (g0 : PySem.W.nsIn K mainGlobals "GradeError" = some (some (.ref cc0)))
    (g1 : PySem.W.nsIn K mainGlobals "NoFraction" = some (some (.ref cc1)))
    (g2 : PySem.W.nsIn K mainGlobals "NoTable" = some (some (.ref cc2)))
    (g3 : PySem.W.nsIn K mainGlobals "NoKind" = some (some (.ref cc3)))
    (g4 : PySem.W.nsIn K mainGlobals "NoCount" = some (some (.ref cc4)))
    (g5 : PySem.W.nsIn K mainGlobals "KINDS" = some (some (.ref cc5)))
    (g6 : PySem.W.nsIn K mainGlobals "SHAPES" = some (some (.ref cc6)))
    (g7 : PySem.W.nsIn K mainGlobals "NOUGHT" = some (some (.ref cc7)))
    (g8 : PySem.W.nsIn K mainGlobals "ONE" = some (some (.ref cc8)))
    (w0 : PySem.W.excIn K cc1 [.type "ValueError", .type "Exception", .type "BaseException", .type "object"] "ValueError.__new__" = true)
    (w1 : PySem.W.excIn K cc3 [.type "ValueError", .type "Exception", .type "BaseException", .type "object"] "ValueError.__new__" = true)
    (w2 : PySem.W.excIn K cc4 [.type "ValueError", .type "Exception", .type "BaseException", .type "object"] "ValueError.__new__" = true)
    (w3 : PySem.W.exmOne K (.ref cc3) (.ref cc0) = some true)
    (w4 : excLook K cc3 = true)
    (w5 : PySem.W.kitOne K (.ref cc3) (.type "ValueError") = some true)
    (w6 : PySem.W.kitOne K (.ref cc3) (.ref cc2) = some false)
    (w7 : PySem.W.kitOne K (.ref cc3) (.ref cc3) = some true)
    (w8 : PySem.W.kitOne K (.ref cc3) (.ref cc4) = some false)
    (w9 : PySem.W.exmOne K (.ref cc4) (.ref cc0) = some true)
    (w10 : excLook K cc4 = true)
    (w11 : PySem.W.kitOne K (.ref cc4) (.type "ValueError") = some true)
    (w12 : PySem.W.kitOne K (.ref cc4) (.ref cc2) = some false)
    (w13 : PySem.W.kitOne K (.ref cc4) (.ref cc3) = some false)
    (w14 : PySem.W.kitOne K (.ref cc4) (.ref cc4) = some true)
    {q0_d : Option Addr} {q0_n : Nat} {q0_s : Array (Option Value)} {q0_k0 q0_k1 q0_k2 : Tok}  (q0_h : K.lookup cc5 = some ⟨.type "tuple", q0_d, .seq #[(.str "least" q0_k0), (.str "cut" q0_k1), (.str "times" q0_k2)] q0_n, q0_s⟩)
    {q1_d : Option Addr} {q1_n : Nat} {q1_s : Array (Option Value)} {q1_a0 q1_a1 q1_a2 q1_a3 q1_a4 q1_a5 q1_a6 : Addr} (q1_h : K.lookup cc6 = some ⟨.type "tuple", q1_d, .seq #[(.ref q1_a0), (.ref q1_a1), (.ref q1_a2), (.ref q1_a3), (.ref q1_a4), (.ref q1_a5), (.ref q1_a6)] q1_n, q1_s⟩)
    {q1_0_d : Option Addr} {q1_0_n : Nat} {q1_0_s : Array (Option Value)} {q1_0_k0 q1_0_k1 : Tok}  (q1_0_h : K.lookup q1_a0 = some ⟨.type "tuple", q1_0_d, .seq #[(.str "and" q1_0_k0), (.int 2 q1_0_k1)] q1_0_n, q1_0_s⟩)
    {q1_1_d : Option Addr} {q1_1_n : Nat} {q1_1_s : Array (Option Value)} {q1_1_k0 q1_1_k1 : Tok}  (q1_1_h : K.lookup q1_a1 = some ⟨.type "tuple", q1_1_d, .seq #[(.str "or" q1_1_k0), (.int 2 q1_1_k1)] q1_1_n, q1_1_s⟩)
    {q1_2_d : Option Addr} {q1_2_n : Nat} {q1_2_s : Array (Option Value)} {q1_2_k0 q1_2_k1 : Tok}  (q1_2_h : K.lookup q1_a2 = some ⟨.type "tuple", q1_2_d, .seq #[(.str "then" q1_2_k0), (.int 2 q1_2_k1)] q1_2_n, q1_2_s⟩)
    {q1_3_d : Option Addr} {q1_3_n : Nat} {q1_3_s : Array (Option Value)} {q1_3_k0 q1_3_k1 : Tok}  (q1_3_h : K.lookup q1_a3 = some ⟨.type "tuple", q1_3_d, .seq #[(.str "with" q1_3_k0), (.int 2 q1_3_k1)] q1_3_n, q1_3_s⟩)
    {q1_4_d : Option Addr} {q1_4_n : Nat} {q1_4_s : Array (Option Value)} {q1_4_k0 q1_4_k1 : Tok}  (q1_4_h : K.lookup q1_a4 = some ⟨.type "tuple", q1_4_d, .seq #[(.str "not" q1_4_k0), (.int 1 q1_4_k1)] q1_4_n, q1_4_s⟩)
    {q1_5_d : Option Addr} {q1_5_n : Nat} {q1_5_s : Array (Option Value)} {q1_5_k0 q1_5_k1 : Tok}  (q1_5_h : K.lookup q1_a5 = some ⟨.type "tuple", q1_5_d, .seq #[(.str "false" q1_5_k0), (.int 0 q1_5_k1)] q1_5_n, q1_5_s⟩)
    {q1_6_d : Option Addr} {q1_6_n : Nat} {q1_6_s : Array (Option Value)} {q1_6_k0 q1_6_k1 : Tok}  (q1_6_h : K.lookup q1_a6 = some ⟨.type "tuple", q1_6_d, .seq #[(.str "true" q1_6_k0), (.int 0 q1_6_k1)] q1_6_n, q1_6_s⟩)
    {q2_d : Option Addr} {q2_n : Nat} {q2_s : Array (Option Value)} {q2_k0 q2_k1 : Tok}  (q2_h : K.lookup cc7 = some ⟨.type "tuple", q2_d, .seq #[(.int 0 q2_k0), (.int 1 q2_k1)] q2_n, q2_s⟩)
    {q3_d : Option Addr} {q3_n : Nat} {q3_s : Array (Option Value)} {q3_k0 q3_k1 : Tok}  (q3_h : K.lookup cc8 = some ⟨.type "tuple", q3_d, .seq #[(.int 1 q3_k0), (.int 1 q3_k1)] q3_n, q3_s⟩)
    : ∃ fd : FuncData, (∀ (s : Shared) (v : Value), BindsTo s fd ⟨[v], []⟩ [("_law_script", v)]) ∧ ∀ base : Heap, K.In base → base.Ns mainGlobals mg → FnOk l.prog w K mg base CX0 9 fa fd ["_law_script"] (spLaw K) := by
  have e := hfa.symm.trans (PySem.W.mg_of X G a22)
  cases e
  have F0 := fun_mk (st := s_is_whole) l0 c0 k0
  have b0 := F0.binds (ps := ["thing"]) fun _ _ _ _ _ _ us hl => by obtain ⟨z0_, rfl⟩ := lenK1 hl; rfl
  have F1 := fun_mk (st := s_shared_part) l1 c1 k1
  have b1 := F1.binds (ps := ["one", "other"]) fun _ _ _ _ _ _ us hl => by obtain ⟨z0_, z1_, rfl⟩ := lenK2 hl; rfl
  have F2 := fun_mk (st := s_fraction) l2 c2 k2
  have b2 := F2.binds (ps := ["top", "bottom"]) fun _ _ _ _ _ _ us hl => by obtain ⟨z0_, z1_, rfl⟩ := lenK2 hl; rfl
  have F3 := fun_mk (st := s_plus) l3 c3 k3
  have b3 := F3.binds (ps := ["a", "b"]) fun _ _ _ _ _ _ us hl => by obtain ⟨z0_, z1_, rfl⟩ := lenK2 hl; rfl
  have F4 := fun_mk (st := s_minus) l4 c4 k4
  have b4 := F4.binds (ps := ["a", "b"]) fun _ _ _ _ _ _ us hl => by obtain ⟨z0_, z1_, rfl⟩ := lenK2 hl; rfl
  have F5 := fun_mk (st := s_times) l5 c5 k5
  have b5 := F5.binds (ps := ["a", "b"]) fun _ _ _ _ _ _ us hl => by obtain ⟨z0_, z1_, rfl⟩ := lenK2 hl; rfl
  have F6 := fun_mk (st := s_over) l6 c6 k6
  have b6 := F6.binds (ps := ["a", "b"]) fun _ _ _ _ _ _ us hl => by obtain ⟨z0_, z1_, rfl⟩ := lenK2 hl; rfl
  have F7 := fun_mk (st := s_below) l7 c7 k7
  have b7 := F7.binds (ps := ["a", "b"]) fun _ _ _ _ _ _ us hl => by obtain ⟨z0_, z1_, rfl⟩ := lenK2 hl; rfl
  have F8 := fun_mk (st := s_check_kind) l8 c8 k8
  have b8 := F8.binds (ps := ["kind"]) fun _ _ _ _ _ _ us hl => by obtain ⟨z0_, rfl⟩ := lenK1 hl; rfl
  have F9 := fun_mk (st := s_lesser) l9 c9 k9
  have b9 := F9.binds (ps := ["a", "b"]) fun _ _ _ _ _ _ us hl => by obtain ⟨z0_, z1_, rfl⟩ := lenK2 hl; rfl
  have F10 := fun_mk (st := s_greater) l10 c10 k10
  have b10 := F10.binds (ps := ["a", "b"]) fun _ _ _ _ _ _ us hl => by obtain ⟨z0_, z1_, rfl⟩ := lenK2 hl; rfl
  have F11 := fun_mk (st := s_connected_then) l11 c11 k11
  have b11 := F11.binds (ps := ["kind", "a", "b"]) fun _ _ _ _ _ _ us hl => by obtain ⟨z0_, z1_, z2_, rfl⟩ := lenK3 hl; rfl
  have F12 := fun_mk (st := s_connected_with) l12 c12 k12
  have b12 := F12.binds (ps := ["kind", "a", "b"]) fun _ _ _ _ _ _ us hl => by obtain ⟨z0_, z1_, z2_, rfl⟩ := lenK3 hl; rfl
  have F13 := fun_mk (st := s_connected) l13 c13 k13
  have b13 := F13.binds (ps := ["kind", "name", "grades"]) fun _ _ _ _ _ _ us hl => by obtain ⟨z0_, z1_, z2_, rfl⟩ := lenK3 hl; rfl
  have F14 := fun_mk (st := s_power) l14 c14 k14
  have b14 := F14.binds (ps := ["base", "exponent"]) fun _ _ _ _ _ _ us hl => by obtain ⟨z0_, z1_, rfl⟩ := lenK2 hl; rfl
  have F15 := fun_mk (st := s_grades_at) l15 c15 k15
  have b15 := F15.binds (ps := ["place", "many", "places"]) fun _ _ _ _ _ _ us hl => by obtain ⟨z0_, z1_, z2_, rfl⟩ := lenK3 hl; rfl
  have F16 := fun_mk (st := s_chain_cells) l16 c16 k16
  have b16 := F16.binds (ps := ["kind", "many", "name", "places"]) fun _ _ _ _ _ _ us hl => by obtain ⟨z0_, z1_, z2_, z3_, rfl⟩ := lenK4 hl; rfl
  have F17 := fun_mk (st := s_chain) l17 c17 k17
  have b17 := F17.binds (ps := ["kind", "many"]) fun _ _ _ _ _ _ us hl => by obtain ⟨z0_, z1_, rfl⟩ := lenK2 hl; rfl
  have F18 := fun_mk (st := s_law_cells) l18 c18 k18
  have b18 := F18.binds (ps := ["_law_kind", "_law_top", "_law_name"]) fun _ _ _ _ _ _ us hl => by obtain ⟨z0_, z1_, z2_, rfl⟩ := lenK3 hl; rfl
  have F19 := fun_mk (st := s_law_table) l19 c19 k19
  have b19 := F19.binds (ps := ["_law_kind", "_law_many"]) fun _ _ _ _ _ _ us hl => by obtain ⟨z0_, z1_, rfl⟩ := lenK2 hl; rfl
  have F20 := fun_mk (st := s_law_plain) l20 c20 k20
  have b20 := F20.binds (ps := ["_law_found"]) fun _ _ _ _ _ _ us hl => by obtain ⟨z0_, rfl⟩ := lenK1 hl; rfl
  have F21 := fun_mk (st := s_law_seen) l21 c21 k21
  have b21 := F21.binds (ps := ["_law_kind", "_law_many"]) fun _ _ _ _ _ _ us hl => by obtain ⟨z0_, z1_, rfl⟩ := lenK2 hl; rfl
  have F22 := fun_mk (st := s_law) l22 c22 k22
  have b22 := F22.binds (ps := ["_law_script"]) fun _ _ _ _ _ _ us hl => by obtain ⟨z0_, rfl⟩ := lenK1 hl; rfl
  have gb : Gb mg := ⟨PySem.W.mg_none_of X G z0, PySem.W.mg_none_of X G z1, PySem.W.mg_none_of X G z2, PySem.W.mg_none_of X G z3, PySem.W.mg_none_of X G z4, PySem.W.mg_none_of X G z5, PySem.W.mg_none_of X G z6, PySem.W.mg_none_of X G z7, PySem.W.mg_none_of X G z8, PySem.W.mg_none_of X G z9, PySem.W.mg_none_of X G z10, PySem.W.mg_none_of X G z11, ⟨_, PySem.W.mg_of X G y0, _, rfl⟩, ⟨_, PySem.W.mg_of X G y1, _, rfl⟩⟩
  obtain ⟨c, cl⟩ : ∃ c : Nat → Addr, Cl K mg c := ⟨fun i => [cc0, cc1, cc2, cc3, cc4, cc5, cc6, cc7, cc8].getD i 0, ⟨PySem.W.mg_of X G g0, PySem.W.mg_of X G g1, PySem.W.mg_of X G g2, PySem.W.mg_of X G g3, PySem.W.mg_of X G g4, PySem.W.mg_of X G g5, PySem.W.mg_of X G g6, PySem.W.mg_of X G g7, PySem.W.mg_of X G g8, w0, w1, w2, w3, w4, w5, w6, w7, w8, w9, w10, w11, w12, w13, w14, ⟨_, _, _, q0_h, rfl, rfl, small9 (by show 3 ≤ 1000; decide), .cons (⟨_, rfl⟩) (.cons (⟨_, rfl⟩) (.cons (⟨_, rfl⟩) (.nil)))⟩, ⟨_, _, _, _, _, _, _, ⟨_, _, _, q1_h, rfl, rfl, small9 (by show 7 ≤ 1000; decide), .cons (rfl) (.cons (rfl) (.cons (rfl) (.cons (rfl) (.cons (rfl) (.cons (rfl) (.cons (rfl) (.nil)))))))⟩, ⟨_, _, _, q1_0_h, rfl, rfl, small9 (by show 2 ≤ 1000; decide), .cons (⟨_, rfl⟩) (.cons (⟨_, rfl⟩) (.nil))⟩, ⟨_, _, _, q1_1_h, rfl, rfl, small9 (by show 2 ≤ 1000; decide), .cons (⟨_, rfl⟩) (.cons (⟨_, rfl⟩) (.nil))⟩, ⟨_, _, _, q1_2_h, rfl, rfl, small9 (by show 2 ≤ 1000; decide), .cons (⟨_, rfl⟩) (.cons (⟨_, rfl⟩) (.nil))⟩, ⟨_, _, _, q1_3_h, rfl, rfl, small9 (by show 2 ≤ 1000; decide), .cons (⟨_, rfl⟩) (.cons (⟨_, rfl⟩) (.nil))⟩, ⟨_, _, _, q1_4_h, rfl, rfl, small9 (by show 2 ≤ 1000; decide), .cons (⟨_, rfl⟩) (.cons (⟨_, rfl⟩) (.nil))⟩, ⟨_, _, _, q1_5_h, rfl, rfl, small9 (by show 2 ≤ 1000; decide), .cons (⟨_, rfl⟩) (.cons (⟨_, rfl⟩) (.nil))⟩, ⟨_, _, _, q1_6_h, rfl, rfl, small9 (by show 2 ≤ 1000; decide), .cons (⟨_, rfl⟩) (.cons (⟨_, rfl⟩) (.nil))⟩⟩, ⟨_, _, _, q2_h, rfl, rfl, small9 (by show 2 ≤ 1000; decide), .cons (⟨_, rfl⟩) (.cons (⟨_, rfl⟩) (.nil))⟩, ⟨_, _, _, q3_h, rfl, rfl, small9 (by show 2 ≤ 1000; decide), .cons (⟨_, rfl⟩) (.cons (⟨_, rfl⟩) (.nil))⟩⟩⟩
  refine ⟨PySem.W.fnOf "law" "law" (defArgs s_law) (defBody s_law) (defScope s_law) .none kV22 dc22 pm22 an22 cd22 ct22, fun s v => .of_eq rfl, fun base _ _ => ?_⟩
  have d_is_whole : Def l.prog w K mg base 1 "is_whole" ["thing"] spWholeT := ⟨f0, _, ok_is_whole F0 gb cl, PySem.W.mg_of X G a0, k0, b0⟩
  have d_shared_part : Def l.prog w K mg base 1 "shared_part" ["one", "other"] spShared := ⟨f1, _, ok_shared_part F1 gb cl, PySem.W.mg_of X G a1, k1, b1⟩
  have d_fraction : Def1 l.prog w K mg base 2 "fraction" ["top", "bottom"] (spFrac (c 1)) := ⟨f2, _, ok_fraction F2 gb cl d_is_whole d_shared_part, PySem.W.mg_of X G a2, k2, b2⟩
  have d_plus : Def l.prog w K mg base 3 "plus" ["a", "b"] (spR K (fun r s => r + s)) := ⟨f3, _, ok_plus F3 gb cl d_fraction, PySem.W.mg_of X G a3, k3, b3⟩
  have d_minus : Def l.prog w K mg base 3 "minus" ["a", "b"] (spR K (fun r s => r - s)) := ⟨f4, _, ok_minus F4 gb cl d_fraction, PySem.W.mg_of X G a4, k4, b4⟩
  have d_times : Def l.prog w K mg base 3 "times" ["a", "b"] (spR K (fun r s => r * s)) := ⟨f5, _, ok_times F5 gb cl d_fraction, PySem.W.mg_of X G a5, k5, b5⟩
  have d_over : Def l.prog w K mg base 3 "over" ["a", "b"] (spOverR K) := ⟨f6, _, ok_over F6 gb cl d_fraction, PySem.W.mg_of X G a6, k6, b6⟩
  have d_below : Def l.prog w K mg base 1 "below" ["a", "b"] (spBelow K) := ⟨f7, _, ok_below F7 gb cl, PySem.W.mg_of X G a7, k7, b7⟩
  have d_check_kind : Def1 l.prog w K mg base 1 "check_kind" ["kind"] (spKind (c 3)) := ⟨f8, _, ok_check_kind F8 gb cl, PySem.W.mg_of X G a8, k8, b8⟩
  have d_lesser : Def l.prog w K mg base 2 "lesser" ["a", "b"] (spLG K lessR) := ⟨f9, _, ok_lesser F9 gb cl d_below, PySem.W.mg_of X G a9, k9, b9⟩
  have d_greater : Def l.prog w K mg base 2 "greater" ["a", "b"] (spLG K greatR) := ⟨f10, _, ok_greater F10 gb cl d_below, PySem.W.mg_of X G a10, k10, b10⟩
  have d_connected_then : Def l.prog w K mg base 4 "connected_then" ["kind", "a", "b"] (spThen K thenR) := ⟨f11, _, ok_connected_then F11 gb cl d_below d_plus d_minus d_over, PySem.W.mg_of X G a11, k11, b11⟩
  have d_connected_with : Def l.prog w K mg base 4 "connected_with" ["kind", "a", "b"] (spThen K withR) := ⟨f12, _, ok_connected_with F12 gb cl d_lesser d_greater d_minus d_plus d_times, PySem.W.mg_of X G a12, k12, b12⟩
  have d_connected : Def l.prog w K mg base 5 "connected" ["kind", "name", "grades"] (spConn K) := ⟨f13, _, ok_connected F13 gb cl d_connected_then d_connected_with d_greater d_lesser, PySem.W.mg_of X G a13, k13, b13⟩
  have d_power : Def l.prog w K mg base 1 "power" ["base", "exponent"] spPower := ⟨f14, _, ok_power F14 gb cl, PySem.W.mg_of X G a14, k14, b14⟩
  have r_grades_at : ∀ j, Def l.prog w K mg base (1 + j) "grades_at" ["place", "many", "places"] (spGA j) := fun j => by
    induction j with
    | zero => exact ⟨f15, _, ⟨fun _ _ _ _ h => False.elim h, fun _ _ _ _ _ _ _ _ _ _ _ _ _ h => False.elim h⟩, PySem.W.mg_of X G a15, k15, b15⟩
    | succ j ih => exact ⟨f15, _, ok_grades_at F15 gb cl j ih, PySem.W.mg_of X G a15, k15, b15⟩
  have d_grades_at := r_grades_at 3
  have d_chain_cells : Def l.prog w K mg base 6 "chain_cells" ["kind", "many", "name", "places"] spCells := ⟨f16, _, ok_chain_cells F16 gb cl d_power d_fraction d_connected d_grades_at, PySem.W.mg_of X G a16, k16, b16⟩
  have d_chain : Def1 l.prog w K mg base 7 "chain" ["kind", "many"] (spChain (c 3) (c 4)) := ⟨f17, _, ok_chain F17 gb cl d_check_kind d_is_whole d_chain_cells, PySem.W.mg_of X G a17, k17, b17⟩
  have d_law_cells : Def l.prog w K mg base 1 "_law_cells" ["_law_kind", "_law_top", "_law_name"] spLC := ⟨f18, _, ok_law_cells F18 gb cl, PySem.W.mg_of X G a18, k18, b18⟩
  have d_law_table : Def l.prog w K mg base 2 "_law_table" ["_law_kind", "_law_many"] spLT := ⟨f19, _, ok_law_table F19 gb cl d_law_cells, PySem.W.mg_of X G a19, k19, b19⟩
  have r_law_plain : ∀ j, Def l.prog w K mg base (1 + j) "_law_plain" ["_law_found"] (spPlain j) := fun j => by
    induction j with
    | zero => exact ⟨f20, _, ⟨fun _ _ _ _ h => False.elim h, fun _ _ _ _ _ _ _ _ _ _ _ _ _ h => False.elim h⟩, PySem.W.mg_of X G a20, k20, b20⟩
    | succ j ih => exact ⟨f20, _, ok_law_plain F20 gb cl j ih, PySem.W.mg_of X G a20, k20, b20⟩
  have d_law_plain := r_law_plain 5
  have d_law_seen : Def l.prog w K mg base 8 "_law_seen" ["_law_kind", "_law_many"] spSeen := ⟨f21, _, ok_law_seen F21 gb cl d_chain, PySem.W.mg_of X G a21, k21, b21⟩
  exact ok_law F22 gb cl d_chain d_law_table d_law_seen d_law_plain
theorem walk {l : PySem.W.OpenLaw} {q : Program} {loose : List Str} {XP : (Str → Option Value) → Heap → Prop} {YP : World → Heap → Prop} {d : DefRec} {K : Params → PySem.W.Frag} (hn : l.most = some 63) (hdf : d.params.defaults = [])
    (hY : ∀ (w : World) (h : Heap), YP w h → (K w.params).In h)
    (F : ∀ (w : World) (mg : Str → Option Value) (fa : Addr) (h : Heap), (K w.params).In h → h.Ns mainGlobals mg → mg d.name = some (.ref fa) →
      ∃ fd : FuncData, (∀ (s : Shared) (u : Value), BindsTo s fd ⟨[u], []⟩ [("_law_script", u)]) ∧ ∀ base : Heap, (K w.params).In base → base.Ns mainGlobals mg → FnOk l.prog w (K w.params) mg base CX0 9 fa fd ["_law_script"] (spLaw (K w.params))) :
    PySem.W.WalkO q loose XP YP l.row.toRowW d [] (fun f vs => PySem.call f vs) :=
  L2.walk_of (n := 63) (k := 9) (x := "_law_script") (CX := fun _ => CX0) (sp := fun w => spLaw (K w.params)) hn (by decide) hdf ⟨rfl, by decide, by decide⟩ hY F (fun _ _ a ns hl _ hS => ⟨a, ns, rfl, hS, hl, fun _ => rfl⟩) fun _ _ _ _ _ z => z
end K43
open PySem PySem.W PyProof.Rows
set_option maxRecDepth 100000 in
set_option maxHeartbeats 0 in
theorem PySem.Challenge.cw_truthgrades_k43_chain_tables_holds : PySem.Challenge.rw_truthgrades_k43_chain_tables.Holds := by
  w_on; o_law; k_head; (case hw => w_witness2)
  k_fill
  refine K43.walk (l := PySem.Challenge.rw_truthgrades_k43_chain_tables) rfl rfl (fun w h Y => PySem.W.kIn_of Y) ?F
  case F =>
    intro w mg fa h KX G hmg
    refine' K43.all_mk KX G hmg ?a0 ?l0 ?c0 ?k0 ?a1 ?l1 ?c1 ?k1 ?a2 ?l2 ?c2 ?k2 ?a3 ?l3 ?c3 ?k3 ?a4 ?l4 ?c4 ?k4 ?a5 ?l5 ?c5 ?k5 ?a6 ?l6 ?c6 ?k6 ?a7 ?l7 ?c7 ?k7 ?a8 ?l8 ?c8 ?k8 ?a9 ?l9 ?c9 ?k9 ?a10 ?l10 ?c10 ?k10 ?a11 ?l11 ?c11 ?k11 ?a12 ?l12 ?c12 ?k12 ?a13 ?l13 ?c13 ?k13 ?a14 ?l14 ?c14 ?k14 ?a15 ?l15 ?c15 ?k15 ?a16 ?l16 ?c16 ?k16 ?a17 ?l17 ?c17 ?k17 ?a18 ?l18 ?c18 ?k18 ?a19 ?l19 ?c19 ?k19 ?a20 ?l20 ?c20 ?k20 ?a21 ?l21 ?c21 ?k21 ?a22 ?l22 ?c22 ?k22 ?z0 ?z1 ?z2 ?z3 ?z4 ?z5 ?z6 ?z7 ?z8 ?z9 ?z10 ?z11 ?y0 ?y1 ?gg0 ?gg1 ?gg2 ?gg3 ?gg4 ?gg5 ?gg6 ?gg7 ?gg8 ?ww0 ?ww1 ?ww2 ?ww3 ?ww4 ?ww5 ?ww6 ?ww7 ?ww8 ?ww9 ?ww10 ?ww11 ?ww12 ?ww13 ?ww14 ?hh0 ?hh1 ?hh2 ?hh3 ?hh4 ?hh5 ?hh6 ?hh7 ?hh8 ?hh9 ?hh10
    (case a0 => k_is); (case l0 => k_is); (case c0 => k_is); (case k0 => k_is)
    (case a1 => k_is); (case l1 => k_is); (case c1 => k_is); (case k1 => k_is)
    (case a2 => k_is); (case l2 => k_is); (case c2 => k_is); (case k2 => k_is)
    (case a3 => k_is); (case l3 => k_is); (case c3 => k_is); (case k3 => k_is)
    (case a4 => k_is); (case l4 => k_is); (case c4 => k_is); (case k4 => k_is)
    (case a5 => k_is); (case l5 => k_is); (case c5 => k_is); (case k5 => k_is)
    (case a6 => k_is); (case l6 => k_is); (case c6 => k_is); (case k6 => k_is)
    (case a7 => k_is); (case l7 => k_is); (case c7 => k_is); (case k7 => k_is)
    (case a8 => k_is); (case l8 => k_is); (case c8 => k_is); (case k8 => k_is)
    (case a9 => k_is); (case l9 => k_is); (case c9 => k_is); (case k9 => k_is)
    (case a10 => k_is); (case l10 => k_is); (case c10 => k_is); (case k10 => k_is)
    (case a11 => k_is); (case l11 => k_is); (case c11 => k_is); (case k11 => k_is)
    (case a12 => k_is); (case l12 => k_is); (case c12 => k_is); (case k12 => k_is)
    (case a13 => k_is); (case l13 => k_is); (case c13 => k_is); (case k13 => k_is)
    (case a14 => k_is); (case l14 => k_is); (case c14 => k_is); (case k14 => k_is)
    (case a15 => k_is); (case l15 => k_is); (case c15 => k_is); (case k15 => k_is)
    (case a16 => k_is); (case l16 => k_is); (case c16 => k_is); (case k16 => k_is)
    (case a17 => k_is); (case l17 => k_is); (case c17 => k_is); (case k17 => k_is)
    (case a18 => k_is); (case l18 => k_is); (case c18 => k_is); (case k18 => k_is)
    (case a19 => k_is); (case l19 => k_is); (case c19 => k_is); (case k19 => k_is)
    (case a20 => k_is); (case l20 => k_is); (case c20 => k_is); (case k20 => k_is)
    (case a21 => k_is); (case l21 => k_is); (case c21 => k_is); (case k21 => k_is)
    (case a22 => k_is); (case l22 => k_is); (case c22 => k_is); (case k22 => k_is)
    (case z0 => k_is)
    (case z1 => k_is)
    (case z2 => k_is)
    (case z3 => k_is)
    (case z4 => k_is)
    (case z5 => k_is)
    (case z6 => k_is)
    (case z7 => k_is)
    (case z8 => k_is)
    (case z9 => k_is)
    (case z10 => k_is)
    (case z11 => k_is)
    (case y0 => k_is)
    (case y1 => k_is)
    (case gg0 => k_is)
    (case gg1 => k_is)
    (case gg2 => k_is)
    (case gg3 => k_is)
    (case gg4 => k_is)
    (case gg5 => k_is)
    (case gg6 => k_is)
    (case gg7 => k_is)
    (case gg8 => k_is)
    (case ww0 => first | k_is | kit_is | kernel_rfl)
    (case ww1 => first | k_is | kit_is | kernel_rfl)
    (case ww2 => first | k_is | kit_is | kernel_rfl)
    (case ww3 => first | k_is | kit_is | kernel_rfl)
    (case ww4 => first | k_is | kit_is | kernel_rfl)
    (case ww5 => first | k_is | kit_is | kernel_rfl)
    (case ww6 => first | k_is | kit_is | kernel_rfl)
    (case ww7 => first | k_is | kit_is | kernel_rfl)
    (case ww8 => first | k_is | kit_is | kernel_rfl)
    (case ww9 => first | k_is | kit_is | kernel_rfl)
    (case ww10 => first | k_is | kit_is | kernel_rfl)
    (case ww11 => first | k_is | kit_is | kernel_rfl)
    (case ww12 => first | k_is | kit_is | kernel_rfl)
    (case ww13 => first | k_is | kit_is | kernel_rfl)
    (case ww14 => first | k_is | kit_is | kernel_rfl)
    (case hh0 => k_is)
    (case hh1 => k_is)
    (case hh2 => k_is)
    (case hh3 => k_is)
    (case hh4 => k_is)
    (case hh5 => k_is)
    (case hh6 => k_is)
    (case hh7 => k_is)
    (case hh8 => k_is)
    (case hh9 => k_is)
    (case hh10 => k_is)
