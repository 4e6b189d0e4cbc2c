import PyProof.Rows.All
import Wide.All
import OpenK.AllK
import Wide.FinOn
import Lean
import PyProof.EqAt
import PyProof.EqKinds
import PyProof.TupleCall
import PySem.Challenge.RW_truthgrades_k51_whole_rows_turned
set_option bootstrap.genMatcherCode false
set_option genSizeOfSpec false
local macro_rules | `(tactic| omega) => `(tactic| lia)
set_option Elab.async false
set_option linter.all false
set_option maxRecDepth 100000
/-! THE HAND LAYER, for ints, bools, texts, own classes, LISTS and tuples (index, slices, in, append, pop ..), calls, loops. Paste it whole ahead of your own text; what your proof does not reach may be deleted. -/
namespace L2
open PySem PySem.Spec PyProof.Rows

/-- a key: an int or a str -/
abbrev Key := Sum Int Str
def keyIs : Key → Value → Bool
  | .inl k, v => Value.isInt k v
  | .inr x, v => Value.isStrOf x v
def keyH (w : World) : Key → Int
  | .inl k => hashInt k
  | .inr x => hashStr w x
theorem keyIs_shape : ∀ {k : Key} {v : Value}, keyIs k v = true → (∃ i t, k = Sum.inl i ∧ v = Value.int i t) ∨ (∃ x t, k = Sum.inr x ∧ v = Value.str x t)
  | .inl i, v, h => by
    obtain ⟨t, e⟩ := Value.isInt_shape (k := i) (v := v) h
    exact .inl ⟨i, t, rfl, e⟩
  | .inr x, v, h => by
    obtain ⟨t, e⟩ := Value.isStrOf_shape (x := x) (v := v) h
    exact .inr ⟨x, t, rfl, e⟩
theorem key_ll (a b : Int) : decide ((Sum.inl a : Key) = Sum.inl b) = (a == b) := by
  by_cases e : a = b
  · subst e; simp
  · have h : ¬ (Sum.inl a : Key) = Sum.inl b := fun q => e (Sum.inl.inj q)
    rw [decide_eq_false h]
    exact (beq_eq_false_iff_ne.mpr e).symm
theorem key_rr (a b : Str) : decide ((Sum.inr a : Key) = Sum.inr b) = decide (a = b) := by
  by_cases e : a = b
  · subst e; simp
  · have h : ¬ (Sum.inr a : Key) = Sum.inr b := fun q => e (Sum.inr.inj q)
    rw [decide_eq_false h, decide_eq_false e]
theorem key_lr (a : Int) (b : Str) : decide ((Sum.inl a : Key) = Sum.inr b) = false := decide_eq_false (fun q => nomatch q)
theorem key_rl (a : Str) (b : Int) : decide ((Sum.inr a : Key) = Sum.inl b) = false := decide_eq_false (fun q => nomatch q)

def mixKind (prog : Program) (w : World) : PySem.KeyKind prog w Key where
  is := keyIs
  hash := keyH w
  inj := fun v a b ha hb => by
    rcases keyIs_shape ha with ⟨i, t, rfl, rfl⟩ | ⟨x, t, rfl, rfl⟩
    · rcases keyIs_shape hb with ⟨j, u, rfl, e⟩ | ⟨y, u, rfl, e⟩
      · injection e with e1 _; rw [e1]
      · exact nomatch e
    · rcases keyIs_shape hb with ⟨j, u, rfl, e⟩ | ⟨y, u, rfl, e⟩
      · exact nomatch e
      · injection e with e1 _; rw [e1]
  byValue := fun k v h => by
    rcases keyIs_shape h with ⟨i, t, rfl, rfl⟩ | ⟨x, t, rfl, rfl⟩ <;> rfl
  pyHash := fun hv h => by
    rcases keyIs_shape hv with ⟨i, t, rfl, rfl⟩ | ⟨x, t, rfl, rfl⟩
    · exact wpAny_pyHash_int h
    · exact wpAny_pyHash_str h
  eqBool := fun hu hv h => by
    rcases keyIs_shape hu with ⟨i, t, rfl, rfl⟩ | ⟨x, t, rfl, rfl⟩
    · rcases keyIs_shape hv with ⟨j, u, rfl, rfl⟩ | ⟨y, u, rfl, rfl⟩
      · rw [key_ll] at h; exact wpAny_eqBool_int h
      · rw [key_lr] at h; exact SeqAt.EqAt.int_str i t y u _ _ _ _ h
    · rcases keyIs_shape hv with ⟨j, u, rfl, rfl⟩ | ⟨y, u, rfl, rfl⟩
      · rw [key_rl] at h; exact SeqAt.EqAt.str_int x t j u _ _ _ _ h
      · rw [key_rr] at h; exact wpAny_eqBool_str h
  «strs» := fun k x t v h => by
    rcases keyIs_shape h with ⟨i, u, rfl, e⟩ | ⟨y, u, rfl, e⟩
    · exact nomatch e
    · injection e with e1 _
      subst e1
      cases v <;> rfl

end L2

namespace L2
open PySem PySem.Spec PyProof.Rows

/-- a value, without the heap -/
inductive V where
  | non | bl (b : Bool) | int (i : Int) | str (x : Str) | byt (b : Array UInt8) | flt (b : UInt64) | ref (a : Addr) | ty (n : String)
  deriving DecidableEq

def RelV : V → Value → Prop
  | .non, u => u = Value.none
  | .bl b, u => u = Value.bool b
  | .int i, u => ∃ t, u = Value.int i t
  | .str x, u => ∃ t, u = Value.str x t
  | .byt b, u => ∃ t, u = Value.bytes b t
  | .flt b, u => ∃ t, u = Value.float b t
  | .ref a, u => u = Value.ref a
  | .ty n, u => u = Value.type n

abbrev Vals : List V → List Value → Prop := Paired RelV
theorem Vals.length {xs : List V} {us : List Value} (r : Vals xs us) : xs.length = us.length := Paired.length r
theorem Vals.get : ∀ {xs : List V} {us : List Value} {i : Nat} {x : V}, Vals xs us → xs[i]? = some x → ∃ u, us[i]? = some u ∧ RelV x u
  | _, _, _, _, .nil, e => by simp at e
  | _, _, 0, _, .cons r _, e => by simp at e; subst e; exact ⟨_, rfl, r⟩
  | _, _, i + 1, x, .cons _ t, e => by
    obtain ⟨u, h1, h2⟩ := Vals.get (i := i) (x := x) t (by simpa using e)
    exact ⟨u, by simpa using h1, h2⟩
theorem Vals.set {x : V} {u : Value} (r : RelV x u) : ∀ {xs : List V} {us : List Value} (i : Nat), Vals xs us → Vals (xs.set i x) (us.set i u)
  | _, _, _, .nil => .nil
  | _, _, 0, .cons _ t => .cons r t
  | _, _, i + 1, .cons q t => .cons q (Vals.set r i t)
theorem Vals.append : ∀ {xs ys : List V} {us ws : List Value}, Vals xs us → Vals ys ws → Vals (xs ++ ys) (us ++ ws)
  | _, _, _, _, .nil, s => s
  | _, _, _, _, .cons r t, s => .cons r (Vals.append t s)
theorem Vals.take : ∀ {xs : List V} {us : List Value} (n : Nat), Vals xs us → Vals (xs.take n) (us.take n)
  | _, _, 0, _ => .nil
  | _, _, _ + 1, .nil => .nil
  | _, _, n + 1, .cons r t => .cons r (Vals.take n t)
theorem Vals.drop : ∀ {xs : List V} {us : List Value} (n : Nat), Vals xs us → Vals (xs.drop n) (us.drop n)
  | _, _, 0, r => r
  | _, _, _ + 1, .nil => .nil
  | _, _, n + 1, .cons _ t => Vals.drop n t
def RelO : Option V → Option Value → Prop
  | some v, some u => RelV v u
  | none, none => True
  | _, _ => False
def KV {κ : Type} : List (κ × V) → List (κ × Value) → Prop := Paired fun (p : κ × V) (q : κ × Value) => p.1 = q.1 ∧ RelV p.2 q.2

/-- a key of a dict (00_mix): an int or a text -/
def kV : Key → V
  | .inl i => .int i
  | .inr x => .str x

/-- a plain tuple: no dict of its own -/
def PTup (h : Heap) (a : Addr) (items : Array Value) : Prop := ∃ o, h.get? a = some o ∧ o.cls = .type "tuple" ∧ (∃ n, o.data = .seq items n) ∧ o.dict = none
theorem PTup.lt {h : Heap} {a : Addr} {items : Array Value} (x : PTup h a items) : a < h.objs.size := let ⟨_, e, _⟩ := x; Heap.lt_size e
theorem PTup.isTup {h : Heap} {a : Addr} {items : Array Value} (x : PTup h a items) : IsTup h a items := let ⟨o, e, c, n, _⟩ := x; ⟨o, e, c, n⟩
theorem PTup.new (h : Heap) (items : Array Value) : PTup (h.push { cls := .type "tuple", data := .seq items }) h.objs.size items := ⟨_, Heap.get?_push_size _ rfl, rfl, ⟨_, rfl⟩, rfl⟩
/-- what stands at a tracked address -/
inductive HO where
  /-- a list -/
  | lst (xs : List V)
  /-- a tuple (never changes) -/
  | tup (xs : List V)
  /-- a dict whose keys are ints and texts; one whose keys are tuples of ints and texts (the empty one is both) -/
  | dK (kvs : List (Key × V)) | dT (kvs : List (List Key × V))
  /-- a set of ints: its members, its size -/
  | set (S : Int → Bool) (n : Nat)
  /-- an instance of the class at C, its dict at dx, its attributes -/
  | ins (C dx : Addr) (fs : List (Str × V))
  /-- the dict of the instance at x -/
  | own (x : Addr)
  /-- the dict of an exception -/
  | xd (fs : List (Str × V))
  /-- a bound method, f of x -/
  | met (f x : Addr)
  /-- a range object lo, lo + 1, .. below hi -/
  | rng (lo hi : Int)
  /-- a thing that is known to the object (the script; a dict while a loop walks it): read, never written while it is so -/
  | frz (o : Obj) (u : HO)
  /-- a code object's table -/
  | tbl (ps : Array Value)
  /-- any other thing, by what is true of its one object (a def of one's own: SetO a S n := HO.ext fun h => ..) -/
  | ext (φ : Heap → Prop)

abbrev Hp := Addr → Option HO
def upd (H : Hp) (a : Addr) (o : HO) : Hp := fun b => if b = a then some o else H b
theorem upd_same {H : Hp} {a : Addr} {o : HO} : upd H a o a = some o := by unfold upd; rw [if_pos rfl]
theorem upd_ne {H : Hp} {a b : Addr} {o : HO} (h : b ≠ a) : upd H a o b = H b := by unfold upd; rw [if_neg h]
/-- two objects of different content stand apart -/
theorem ne_of {H : Hp} {a b : Addr} {o u : HO} (h : H a = some o) (h' : H b = some u) (d : o ≠ u) : a ≠ b := by
  intro e; subst e; rw [h] at h'; exact d (Option.some.inj h')
theorem ne_of_none {H : Hp} {a b : Addr} {o : HO} (h : H a = some o) (h' : H b = none) : a ≠ b := by
  intro e; subst e; rw [h] at h'; cases h'

section
variable (P : Program) (w : World)
def ObjOk (H : Hp) (h : Heap) (a : Addr) : HO → Prop
  | .lst xs => xs.length ≤ sizeLine ∧ ∃ (its : List Value) (n : Nat), Vals xs its ∧ h.get? a = some { cls := .type "list", data := .seq its.toArray n }
  | .tup xs => xs.length ≤ sizeLine ∧ ∃ its : List Value, Vals xs its ∧ PTup h a its.toArray
  | .dK kvs => kvs.length ≤ sizeLine ∧ (a == sysModules) = false ∧ ∃ vs, KV kvs vs ∧ h.DictOf (mixKind P w) a vs
  | .dT kvs => kvs.length ≤ sizeLine ∧ (a == sysModules) = false ∧ ∃ xs : List (List Key × Addr × Value),
      Paired (fun (p : List Key × V) (q : List Key × Addr × Value) => p.1 = q.1 ∧ H q.2.1 = some (.tup (p.1.map kV)) ∧ RelV p.2 q.2.2) kvs xs ∧
      ∃ o es ep, h.get? a = some o ∧ o.ExactDict ∧ o.data = .dict es ep ∧ es.toList = xs.map (entryOfKey (tupleKind (mixKind P w))) ∧ (xs.map (·.1)).Nodup
  | .set S n => h.SetOf (intKind P w) a S n
  | .ins C dx fs => H dx = some (.own a) ∧ fs.length ≤ 1000 ∧ dx ≠ a ∧ h.get? a = some (PySem.W.instObj C dx) ∧
      ∃ mA, h.Ns1 dx mA ∧ (∀ f, RelO (fs.lookup f) (mA f)) ∧ PySem.Within mA (fs.map (·.1))
  | .own _ => ∃ o, h.get? a = some o
  | .xd fs => ∃ mA, h.Ns1 a mA ∧ ∀ f, RelO (fs.lookup f) (mA f)
  | .rng lo hi => ∃ t u v, h.get? a = some { cls := .type "range", data := .fields #[.int lo t, .int hi u, .int 1 v] }
  | .frz o u => h.get? a = some o ∧ ObjOk H h a u
  | .tbl ps => h.get? a = some { cls := .none, data := .fields ps }
  | .met f x => h.get? a = some (PySem.W.methodObj (.ref f) (.ref x))
  | .ext φ => φ h ∧ (∃ o, h.get? a = some o) ∧ ∀ h1 h2 : Heap, φ h1 → (∀ o, h1.get? a = some o → h2.get? a = some o) → φ h2
/-- the abstract heap is held -/
def HOk (H : Hp) (h : Heap) : Prop := ∀ a o, H a = some o → ObjOk P w H h a o
end

section
variable {P : Program} {w : World} {H H' : Hp} {h h' : Heap} {a : Addr} {o : HO}
theorem ObjOk.lt (x : ObjOk P w H h a o) : a < h.objs.size := by
  cases o with
  | lst xs => obtain ⟨_, _, _, _, e⟩ := x; exact Heap.lt_size e
  | tup xs => obtain ⟨_, _, _, p⟩ := x; exact p.lt
  | dK kvs => obtain ⟨_, _, _, _, o, _, _, e, _⟩ := x; exact Heap.lt_size e
  | dT kvs => obtain ⟨_, _, _, _, o, _, _, e, _⟩ := x; exact Heap.lt_size e
  | set S n => obtain ⟨o, _, _, _, e, _⟩ := x; exact Heap.lt_size e
  | ins C dx fs => obtain ⟨_, _, _, e, _⟩ := x; exact Heap.lt_size e
  | own y => obtain ⟨_, e⟩ := x; exact Heap.lt_size e
  | xd fs => obtain ⟨_, ⟨_, _, _, e, _⟩, _⟩ := x; exact Heap.lt_size e
  | rng lo hi => obtain ⟨_, _, _, e⟩ := x; exact Heap.lt_size e
  | frz ob u => obtain ⟨e, _⟩ := x; exact Heap.lt_size e
  | tbl ps => exact Heap.lt_size (show h.get? a = some _ from x)
  | met f y => exact Heap.lt_size (show h.get? a = some _ from x)
  | ext φ => obtain ⟨_, ⟨_, e⟩, _⟩ := x; exact Heap.lt_size e
theorem Paired.mapP {α β : Type} {F G : α → β → Prop} : ∀ {l₁ : List α} {l₂ : List β}, Paired F l₁ l₂ → (∀ a b, F a b → G a b) → Paired G l₁ l₂
  | _, _, .nil, _ => .nil
  | _, _, .cons r t, f => .cons (f _ _ r) (Paired.mapP t f)
/-- what an object's description leans on: its own object, its own dict, the tuples -/
theorem ObjOk.stay (x : ObjOk P w H h a o) (k : ∀ b u, (b = a ∨ H b = some (.own a)) → h.get? b = some u → h'.get? b = some u)
    (ho : ∀ b, H b = some (.own a) → H' b = some (.own a)) (ht : ∀ b xs, H b = some (.tup xs) → H' b = some (.tup xs)) : ObjOk P w H' h' a o := by
  induction o with
  | lst xs => obtain ⟨z, its, n, r, e⟩ := x; exact ⟨z, its, n, r, k _ _ (.inl rfl) e⟩
  | tup xs => obtain ⟨z, its, r, ob, e, c⟩ := x; exact ⟨z, its, r, ob, k _ _ (.inl rfl) e, c⟩
  | dK kvs => obtain ⟨z, y, vs, r, ob, es, ep, e, c⟩ := x; exact ⟨z, y, vs, r, ob, es, ep, k _ _ (.inl rfl) e, c⟩
  | dT kvs =>
    obtain ⟨z, y, xs, r, ob, es, ep, e, c⟩ := x
    exact ⟨z, y, xs, Paired.mapP r fun p q z => ⟨z.1, ht _ _ z.2.1, z.2.2⟩, ob, es, ep, k _ _ (.inl rfl) e, c⟩
  | set S n => obtain ⟨ob, es, ep, t, e, c⟩ := x; exact ⟨ob, es, ep, t, k _ _ (.inl rfl) e, c⟩
  | ins C dx fs =>
    obtain ⟨d, z, ne, e, mA, ⟨od, es, ep, e2, c⟩, r⟩ := x
    exact ⟨ho _ d, z, ne, k _ _ (.inl rfl) e, mA, ⟨od, es, ep, k _ _ (.inr d) e2, c⟩, r⟩
  | own y => obtain ⟨ob, e⟩ := x; exact ⟨ob, k _ _ (.inl rfl) e⟩
  | xd fs => obtain ⟨mA, ⟨od, es, ep, e, c⟩, r⟩ := x; exact ⟨mA, ⟨od, es, ep, k _ _ (.inl rfl) e, c⟩, r⟩
  | rng lo hi => obtain ⟨t, u, v, e⟩ := x; exact ⟨t, u, v, k _ _ (.inl rfl) e⟩
  | frz ob u ih => obtain ⟨e, q⟩ := x; exact ⟨k _ _ (.inl rfl) e, ih q⟩
  | tbl ps =>
    have e : h.get? a = some { cls := .none, data := .fields ps } := x
    show h'.get? a = some { cls := .none, data := .fields ps }
    exact k a _ (.inl rfl) e
  | met f y =>
    have e : h.get? a = some (PySem.W.methodObj (.ref f) (.ref y)) := x
    show h'.get? a = some (PySem.W.methodObj (.ref f) (.ref y))
    exact k a _ (.inl rfl) e
  | ext φ => obtain ⟨p, ⟨o, e⟩, st⟩ := x; exact ⟨st _ _ p fun o q => k _ _ (.inl rfl) q, ⟨o, k _ _ (.inl rfl) e⟩, st⟩
theorem HOk.lt (x : HOk P w H h) (e : H a = some o) : a < h.objs.size := (x a o e).lt
theorem HOk.fresh (x : HOk P w H h) (e : h.objs.size ≤ a) : H a = none := by
  cases q : H a with
  | none => rfl
  | some u => exact absurd (Nat.lt_of_lt_of_le (x.lt q) e) (Nat.lt_irrefl _)
/-- every object of the heap is kept -/
theorem HOk.kept (x : HOk P w H h) (k : ∀ b u, h.get? b = some u → h'.get? b = some u) : HOk P w H h' := fun a o e =>
  (x a o e).stay (fun b u _ q => k b u q) (fun _ q => q) fun _ _ q => q
/-- a new object is laid and tracked -/
theorem HOk.laid (x : HOk P w H h) (k : ∀ b u, h.get? b = some u → h'.get? b = some u) (hp : h.objs.size ≤ a) (new : ObjOk P w (upd H a o) h' a o) : HOk P w (upd H a o) h' := fun b u e => by
  have hn := x.fresh hp
  by_cases hb : b = a
  · subst hb; rw [upd_same] at e; cases e; exact new
  · rw [upd_ne hb] at e
    exact (x b u e).stay (fun c v _ q => k c v q) (fun c q => by rw [upd_ne (ne_of_none q hn)]; exact q) fun c xs q => by rw [upd_ne (ne_of_none q hn)]; exact q
end

/-- what may be read as u: it is u, or a known u -/
def Rd (H : Hp) (a : Addr) (u : HO) : Prop := H a = some u ∨ ∃ o, H a = some (.frz o u)
theorem Rd.ok {P : Program} {w : World} {H : Hp} {h : Heap} {a : Addr} {u : HO} (r : Rd H a u) (x : HOk P w H h) : ObjOk P w H h a u := by
  rcases r with r | ⟨o, r⟩
  · exact x a u r
  · obtain ⟨_, q⟩ := x a _ r
    exact q
/-- what may be written -/
def Mut : Option HO → Prop
  | some (.lst _) => True
  | some (.dK _) => True
  | some (.dT _) => True
  | some (.set _ _) => True
  | some (.ins _ _ _) => True
  | some (.ext _) => True
  | _ => False
section
variable {P : Program} {w : World} {H : Hp} {h h' : Heap} {x e : Addr} {o' : HO}
/-- the object at e is changed: x itself, or the dict of the instance x -/
theorem HOk.write (ok : HOk P w H h) (mu : Mut (H x)) (he : e = x ∨ H e = some (.own x)) (k : ∀ b u, b ≠ e → h.get? b = some u → h'.get? b = some u) (heo : ∃ u, h'.get? e = some u)
    (new : ObjOk P w (upd H x o') h' x o') : HOk P w (upd H x o') h' := fun b u q => by
  have nown : ∀ c y, H c = some (.own y) → c ≠ x := fun c y r z => by subst z; rw [r] at mu; exact mu
  have ntup : ∀ c xs, H c = some (.tup xs) → c ≠ x := fun c xs r z => by subst z; rw [r] at mu; exact mu
  by_cases hb : b = x
  · subst hb; rw [upd_same] at q; cases q; exact new
  · rw [upd_ne hb] at q
    by_cases hbe : b = e
    · have q' : H b = some (.own x) := by
        rcases he with z | z
        · exact absurd (hbe.trans z) hb
        · rw [hbe]; exact z
      rw [q] at q'; cases q'
      obtain ⟨v, hv⟩ := heo
      exact ⟨v, by rw [hbe]; exact hv⟩
    · refine (ok b u q).stay (fun c v hc r => k c v ?_ r) (fun c r => by rw [upd_ne (nown c b r)]; exact r) fun c xs r => by rw [upd_ne (ntup c xs r)]; exact r
      rcases hc with rfl | hc
      · exact hbe
      · rintro rfl
        rcases he with z | z
        · exact nown c b hc z
        · rw [hc] at z; cases z; exact hb rfl
end

/-! ### kept unless tracked; of the frames at fs (the callers') the slots may change (an exception that passes writes there); of the records at ex (iterators) nothing is said -/
structure Un (fs ex : List Addr) (H H' : Hp) (h h' : Heap) : Prop where
  keep : ∀ b o, h.get? b = some o → H b = none → b ∉ fs → b ∉ ex → h'.get? b = some o
  slot : ∀ b o, h.get? b = some o → H b = none → b ∈ fs → b ∉ ex → ∃ sl, h'.get? b = some { o with slots := sl }
  free : ∀ b o, h.get? b = some o → H b = none → b ∉ ex → H' b = none
  there : ∀ b o, h.get? b = some o → b ∉ ex → ∃ o', h'.get? b = some o'
  tups : ∀ b xs, H b = some (.tup xs) → H' b = some (.tup xs)
  frzs : ∀ b o u, H b = some (.frz o u) → H' b = some (.frz o u)
  tbls : ∀ b ps, H b = some (.tbl ps) → ∃ more, H' b = some (.tbl (ps ++ more))
section
variable {fs fs' ex ex' : List Addr} {H H1 H2 : Hp} {h h1 h2 h' : Heap} {a x e : Addr} {o : HO}
theorem Un.any (u : Un fs ex H H1 h h1) {b : Addr} {ob : Obj} (q : h.get? b = some ob) (n : H b = none) (hx : b ∉ ex) : ∃ sl, h1.get? b = some { ob with slots := sl } := by
  by_cases hb : b ∈ fs
  · exact u.slot b ob q n hb hx
  · exact ⟨ob.slots, u.keep b ob q n hb hx⟩
theorem Un.kept (k : ∀ b u, h.get? b = some u → h'.get? b = some u) : Un fs ex H H h h' :=
  ⟨fun b ob q _ _ _ => k b ob q, fun b ob q _ _ _ => ⟨ob.slots, k b ob q⟩, fun _ _ _ n _ => n, fun b ob q _ => ⟨ob, k b ob q⟩, fun _ _ q => q, fun _ _ _ q => q, fun _ ps q => ⟨#[], by rw [q]; simp⟩⟩
theorem Un.refl : Un fs ex H H h h := Un.kept fun _ _ q => q
theorem Un.laid (k : ∀ b u, h.get? b = some u → h'.get? b = some u) (hp : h.objs.size ≤ a) (hn : H a = none) : Un fs ex H (upd H a o) h h' where
  keep := fun b u q _ _ _ => k b u q
  slot := fun b u q _ _ _ => ⟨u.slots, k b u q⟩
  free := fun b u q n _ => by rw [upd_ne (Nat.ne_of_lt (Nat.lt_of_lt_of_le (Heap.lt_size q) hp))]; exact n
  there := fun b u q _ => ⟨u, k b u q⟩
  tups := fun b xs q => by rw [upd_ne (ne_of_none q hn)]; exact q
  frzs := fun b u xs q => by rw [upd_ne (ne_of_none q hn)]; exact q
  tbls := fun b ps q => ⟨#[], by rw [upd_ne (ne_of_none q hn), q]; simp⟩
theorem Un.write (mu : Mut (H x)) (he : e = x ∨ H e = some (.own x)) (k : ∀ b u, b ≠ e → h.get? b = some u → h'.get? b = some u) (heo : ∃ u, h'.get? e = some u) : Un fs ex H (upd H x o) h h' := by
  have hx : ∀ b, H b = none → b ≠ x := fun b n z => by subst z; rw [n] at mu; exact mu
  have hb : ∀ b, H b = none → b ≠ e := fun b n z => by
    subst z
    rcases he with r | r
    · exact hx b n r
    · rw [n] at r; cases r
  have hm : ∀ b u, H b = some u → ¬ Mut (some u) → b ≠ x := fun b u q nm z => by subst z; rw [q] at mu; exact nm mu
  refine ⟨fun b u q n _ _ => k b u (hb b n) q, fun b u q n _ _ => ⟨u.slots, k b u (hb b n) q⟩, fun b u q n _ => by rw [upd_ne (hx b n)]; exact n, fun b u q _ => ?_,
    fun b xs q => by rw [upd_ne (hm b _ q fun z => z)]; exact q, fun b u xs q => by rw [upd_ne (hm b _ q fun z => z)]; exact q, fun b ps q => ⟨#[], by rw [upd_ne (hm b _ q fun z => z), q]; simp⟩⟩
  by_cases hbe : b = e
  · subst hbe; exact heo
  · exact ⟨u, k b u hbe q⟩
end

/-! ### the heap without what is tracked -/
def trk (h : Heap) (H : Hp) : List Addr := (List.range h.objs.size).filter fun a => (H a).isSome
def hidT (h : Heap) (H : Hp) : Heap := PySem.W.hideAll h (trk h H)
theorem hidT_size (h : Heap) (H : Hp) : (hidT h H).objs.size = h.objs.size := PySem.W.hideAll_size _ _
theorem hidT_get {h : Heap} {H : Hp} {b : Addr} {o : Obj} (e : h.get? b = some o) (n : H b = none) : (hidT h H).get? b = some o :=
  PySem.W.hideAll_get _ e fun hm => by
    have q : (H b).isSome = true := (List.mem_filter.mp hm).2
    rw [n] at q; simp at q
theorem of_hidT {h : Heap} {H : Hp} {b : Addr} {o : Obj} (e : (hidT h H).get? b = some o) : h.get? b = some o ∧ H b = none := by
  have e' : h.get? b = some o := PySem.W.of_hideAll (trk h H) e
  refine ⟨e', ?_⟩
  cases q : H b with
  | none => rfl
  | some x =>
    have hm : b ∈ trk h H := List.mem_filter.mpr ⟨List.mem_range.mpr (Heap.lt_size e'), by simp [q]⟩
    have z : (hidT h H).get? b = none := PySem.W.hideAll_none (trk h H) hm
    rw [z] at e; cases e

/-! ### OpenK's ledger, filled with every new object but one -/
end L2

namespace L2
open PySem PySem.Spec PyProof.Rows

/-- the module's facts, over the base: the heap at the law's entry without what is tracked there -/
structure Mod (K : PySem.W.Frag) (mg : Str → Option Value) (base : Heap) : Prop where
  kin : K.In base
  glob : base.Ns mainGlobals mg
  blt : ∃ mb, base.Ns builtinsNs mb ∧ ∀ x : Str, x ≠ "__name__" → mb x = bootBuiltins x
  nolimit : base.NoLimit

/-- the context: a def's body (or a comprehension's block) running. base: fixed through the whole law; s₀, H₀: the entry; outer: the frames whose slots others may change (a def's callers); stack: all frames that run;
   ex: iterators that were made ahead of the entry and are walked here (a comprehension's); fn: the names whose cells were made at the entry (a def: all; a comprehension's block: its own); calm: not within an except suite; pn: pins that every state bears; xe: what is wanted of an exception that leaves the code -/
structure Cx where
  prog : Program
  w : World
  K : PySem.W.Frag
  mg : Str → Option Value
  base : Heap
  A : Around
  N : List Str
  s₀ : Shared
  H₀ : Hp
  env : Env
  outer : List Env
  stack : List Env
  ex : List Addr
  fn : Str → Bool
  calm : Bool
  pn : List (Addr × Obj)
  xe : Value → Shared → Prop
/-- the callers' frames -/
def frs (l : List Env) : List Addr := l.filterMap (·.frame)
abbrev Cx.fs (X : Cx) : List Addr := frs X.outer

def Vis (sc : Scope) (x : Str) : Prop := sc.names.lookup x = some .local ∨ sc.names.lookup x = some .cell ∨ sc.names.lookup x = some .free
def Loc (sc : Scope) (x : Str) : Prop := sc.names.lookup x = some .local ∨ sc.names.lookup x = some .cell
def Look (env : Env) (h : Heap) (m : Str → Option Value) (x : Str) (u : Value) : Prop :=
  (env.kindOf x = some .local ∧ m x = some u) ∨ ((env.kindOf x = some .cell ∨ env.kindOf x = some .free) ∧ ∃ c, env.cells.lookup x = some c ∧ h.IsCell c (some u))

structure Cx.Ok (X : Cx) : Prop where
  mod : Mod X.K X.mg X.base
  kind : X.env.scope.kind = .function
  glob : X.env.globals = mainGlobals
  blt : X.env.builtins = builtinsNs
  above : X.s₀.heap.objs.size ≤ X.env.locals
  inj : ∀ x y c, X.env.cells.lookup x = some c → X.env.cells.lookup y = some c → x = y
  has : ∀ x, (X.env.kindOf x = some .cell ∨ X.env.kindOf x = some .free) → ∃ c, X.env.cells.lookup x = some c
  cab : ∀ x c, X.fn x = true → X.env.cells.lookup x = some c → X.s₀.heap.objs.size ≤ c
  hd : X.calm = true → X.A.handled = none
  frames : X.A.frames = some X.stack
  stk : X.stack = X.outer ∨ (X.stack = X.env :: X.outer ∧ X.env.frame = some X.env.locals)
  exf : ∀ b ∈ X.ex, b ≠ X.env.locals ∧ ∀ x c, X.env.cells.lookup x = some c → c ≠ b
  bs : ∀ b o, X.base.get? b = some o → X.s₀.heap.get? b = some o ∧ X.H₀ b = none
  bsz : X.base.objs.size ≤ X.s₀.heap.objs.size
  noex : ∀ b o, X.base.get? b = some o → b ∉ X.ex
  exfs : ∀ b ∈ X.ex, b ∉ X.fs
  funs : X.s₀.heap.FunFrames X.base X.outer
  frf : ∀ b ∈ X.fs, X.H₀ b = none

structure Inv (X : Cx) (pins : List (Addr × Obj)) (σ : List (Option V)) (H : Hp) (s : Shared) : Prop where
  ok : X.Ok
  os : s.os = X.s₀.os
  bare : AllBare s.gens
  base : Un X.fs X.ex X.H₀ H X.s₀.heap s.heap
  loc : ∃ m, s.heap.Ns X.env.locals m ∧ ∀ (i : Nat) (x : Str) (v : V), X.N[i]? = some x → σ[i]? = some (some v) → Vis X.env.scope x → ∃ u, RelV v u ∧ Look X.env s.heap m x u
  cell : ∀ x c, X.env.cells.lookup x = some c → ∃ v, s.heap.IsCell c v
  free : H X.env.locals = none
  freeC : ∀ x c, X.env.cells.lookup x = some c → H c = none
  pin : ∀ p ∈ X.pn ++ pins, s.heap.get? p.1 = some p.2 ∧ H p.1 = none ∧ p.1 ≠ X.env.locals ∧ p.1 ∉ X.fs ∧ ∀ v, p.2.data ≠ .cell v
  hok : HOk X.prog X.w H s.heap
  len : σ.length = X.N.length

section
variable {X : Cx} {pins : List (Addr × Obj)} {σ : List (Option V)} {H H' : Hp} {s : Shared} {h' : Heap}

theorem Cx.Ok.nofr (ok : X.Ok) {b : Addr} {o : Obj} (e : X.base.get? b = some o) : b ∉ X.fs := fun hb => by
  have := (ok.funs.mem hb).1
  rw [e] at this; cases this
theorem Inv.bs (I : Inv X pins σ H s) : ∀ b o, X.base.get? b = some o → s.heap.get? b = some o ∧ H b = none := fun b o e =>
  ⟨I.base.keep b o (I.ok.bs b o e).1 (I.ok.bs b o e).2 (I.ok.nofr e) (I.ok.noex b o e), I.base.free b o (I.ok.bs b o e).1 (I.ok.bs b o e).2 (I.ok.noex b o e)⟩
theorem Inv.bk (I : Inv X pins σ H s) : ∀ b o, X.base.get? b = some o → s.heap.get? b = some o := fun b o e => (I.bs b o e).1
theorem Inv.mod (I : Inv X pins σ H s) : Mod X.K X.mg X.base := I.ok.mod
theorem Inv.kIn (I : Inv X pins σ H s) : X.K.In s.heap := I.ok.mod.kin.keeps I.bk
theorem Inv.lt (I : Inv X pins σ H s) : X.env.locals < s.heap.objs.size := let ⟨_, hn, _⟩ := I.loc; hn.lt
theorem Inv.sz (I : Inv X pins σ H s) : X.s₀.heap.objs.size ≤ s.heap.objs.size := Nat.le_trans I.ok.above (Nat.le_of_lt I.lt)
theorem Inv.nofs (I : Inv X pins σ H s) {a : Addr} (h : s.heap.objs.size ≤ a) : a ∉ X.fs := fun hb => by
  obtain ⟨_, o, ho, _⟩ := I.ok.funs.mem hb
  exact absurd (Nat.lt_of_lt_of_le (Heap.lt_size ho) (Nat.le_trans I.sz h)) (Nat.lt_irrefl _)
theorem Inv.cne (I : Inv X pins σ H s) : ∀ x c, X.env.cells.lookup x = some c → c ≠ X.env.locals := fun x c e z => by
  obtain ⟨v, o, ho, hd⟩ := I.cell x c e
  obtain ⟨m, ⟨o', es, ep, ho', hd', _⟩, _⟩ := I.loc
  rw [z, ho'] at ho; cases ho; rw [hd'] at hd; cases hd
theorem Inv.funs (I : Inv X pins σ H s) : s.heap.FunFrames X.base X.outer := by
  have all : ∀ (l : List Env), (∀ b ∈ frs l, b ∈ X.fs) → X.s₀.heap.FunFrames X.base l → s.heap.FunFrames X.base l := by
    intro l
    induction l with
    | nil => intro _ _; trivial
    | cons env r ih =>
      intro hs hl
      obtain ⟨hk, ⟨L, o, hf, hn, ho, hd⟩, hr⟩ := hl
      have hL : L ∈ X.fs := hs L (by unfold frs; rw [List.filterMap_cons, hf]; exact List.mem_cons_self)
      obtain ⟨sl, e⟩ := I.base.slot L o ho (I.ok.frf L hL) hL fun z => I.ok.exfs L z hL
      exact ⟨hk, ⟨L, _, hf, hn, e, hd⟩, ih (fun b hb => hs b (by unfold frs; rw [List.filterMap_cons, hf]; exact List.mem_cons_of_mem _ hb)) hr⟩
  exact all X.outer (fun _ hb => hb) I.ok.funs

/-- the frames that run, for a call -/
theorem Inv.stack (I : Inv X pins σ H s) : s.heap.FunFrames X.base X.stack := by
  rcases I.ok.stk with e | ⟨e, hf⟩
  · rw [e]; exact I.funs
  · rw [e]
    obtain ⟨m, hn, _⟩ := I.loc
    refine .cons (by rw [I.ok.kind]; decide) hf hn ?_ I.funs
    exact Heap.get?_none_of_le (Nat.le_trans I.ok.bsz I.ok.above)
theorem Inv.stkSub (I : Inv X pins σ H s) : ∀ b ∈ frs X.stack, b ∈ X.env.locals :: X.fs := fun b hb => by
  rcases I.ok.stk with e | ⟨e, hf⟩
  · rw [e] at hb; exact List.mem_cons_of_mem _ hb
  · rw [e] at hb
    unfold frs at hb
    rw [List.filterMap_cons, hf] at hb
    exact hb
theorem Inv.stkFree (I : Inv X pins σ H s) : ∀ b ∈ frs X.stack, H b = none := fun b hb => by
  rcases List.mem_cons.mp (I.stkSub b hb) with e | hb
  · rw [e]; exact I.free
  · obtain ⟨_, o, ho, _⟩ := I.ok.funs.mem hb
    exact I.base.free b o ho (I.ok.frf b hb) fun z => I.ok.exfs b z hb

/-- THE STEP: the untracked objects but the frame and the records at ch are kept (the callers' frames up to slots), the frame's map is kept, the new abstract heap is held -/
theorem Inv.step {g' : Array GenState} {t' : Nat} {d' : Drawn} {ch : List Addr} (I : Inv X pins σ H s)
    (hch : ∀ b ∈ ch, (b ∈ X.ex ∨ X.s₀.heap.objs.size ≤ b) ∧ b ≠ X.env.locals ∧ (∀ x c, X.env.cells.lookup x = some c → c ≠ b) ∧ ∀ p ∈ X.pn ++ pins, p.1 ≠ b)
    (keep : ∀ b o, b ≠ X.env.locals → b ∉ X.fs → b ∉ ch → s.heap.get? b = some o → H b = none → h'.get? b = some o)
    (slot : ∀ b o, b ≠ X.env.locals → b ∈ X.fs → b ∉ ch → s.heap.get? b = some o → H b = none → ∃ sl, h'.get? b = some { o with slots := sl }) (free : ∀ b o, b ∉ ch → s.heap.get? b = some o → H b = none → H' b = none)
    (there : ∀ b o, b ∉ ch → s.heap.get? b = some o → ∃ o', h'.get? b = some o')
    (tups : ∀ b xs, H b = some (.tup xs) → H' b = some (.tup xs)) (frzs : ∀ b o u, H b = some (.frz o u) → H' b = some (.frz o u)) (tbls : ∀ b ps, H b = some (.tbl ps) → ∃ more, H' b = some (.tbl (ps ++ more)))
    (ns : ∀ m, s.heap.Ns X.env.locals m → h'.Ns X.env.locals m) (hok : HOk X.prog X.w H' h') (hg : AllBare g') :
    Inv X pins σ H' { s with heap := h', gens := g', drawn := d', toks := t' } := by
  have neL : ∀ b o, X.s₀.heap.get? b = some o → b ≠ X.env.locals := fun b o e => Nat.ne_of_lt (Nat.lt_of_lt_of_le (Heap.lt_size e) I.ok.above)
  have neC : ∀ b o, X.s₀.heap.get? b = some o → b ∉ X.ex → b ∉ ch := fun b o e hx hb => by
    rcases (hch b hb).1 with z | z
    · exact hx z
    · exact absurd (Nat.lt_of_lt_of_le (Heap.lt_size e) z) (Nat.lt_irrefl _)
  have cellK : ∀ x c, X.env.cells.lookup x = some c → ∀ v, s.heap.IsCell c v → h'.IsCell c v := fun x c e v ⟨o, ho, hd⟩ => by
    have nch : c ∉ ch := fun z => (hch c z).2.2.1 x c e rfl
    by_cases hc : c ∈ X.fs
    · obtain ⟨sl, q⟩ := slot c o (I.cne x c e) hc nch ho (I.freeC x c e)
      exact ⟨_, q, hd⟩
    · exact ⟨o, keep c o (I.cne x c e) hc nch ho (I.freeC x c e), hd⟩
  refine ⟨I.ok, I.os, hg, ⟨fun b o e n hb hx => ?_, fun b o e n hb hx => ?_, fun b o e n hx => ?_, fun b o e hx => ?_, fun b xs e => tups b xs (I.base.tups b xs e), fun b o xs e => frzs b o xs (I.base.frzs b o xs e), fun b ps e => ?_⟩, ?_, fun x c e => ?_, ?_, fun x c e => ?_, fun p hp => ?_, hok, I.len⟩
  · exact keep b o (neL b o e) hb (neC b o e hx) (I.base.keep b o e n hb hx) (I.base.free b o e n hx)
  · obtain ⟨sl, e1⟩ := I.base.slot b o e n hb hx
    obtain ⟨sl', e2⟩ := slot b _ (neL b o e) hb (neC b o e hx) e1 (I.base.free b o e n hx)
    exact ⟨sl', e2⟩
  · obtain ⟨o', e1⟩ := I.base.there b o e hx
    exact free b o' (neC b o e hx) e1 (I.base.free b o e n hx)
  · obtain ⟨o', e1⟩ := I.base.there b o e hx
    exact there b o' (neC b o e hx) e1
  · obtain ⟨m1, e1⟩ := I.base.tbls b ps e
    obtain ⟨m2, e2⟩ := tbls b _ e1
    exact ⟨m1 ++ m2, by rw [e2, Array.append_assoc]⟩
  · obtain ⟨m, hn, hl⟩ := I.loc
    refine ⟨m, ns m hn, fun i x v e1 e2 e3 => ?_⟩
    obtain ⟨u, r, l⟩ := hl i x v e1 e2 e3
    refine ⟨u, r, ?_⟩
    rcases l with l | ⟨k, c, e, z⟩
    · exact .inl l
    · exact .inr ⟨k, c, e, cellK x c e _ z⟩
  · obtain ⟨v, z⟩ := I.cell x c e
    exact ⟨v, cellK x c e v z⟩
  · obtain ⟨m, ⟨o, _, _, ho, _⟩, _⟩ := I.loc
    exact free _ o (fun z => (hch _ z).2.1 rfl) ho I.free
  · obtain ⟨v, o, ho, hd⟩ := I.cell x c e
    exact free c o (fun z => (hch c z).2.2.1 x c e rfl) ho (I.freeC x c e)
  · obtain ⟨e, n, ne, nf, d⟩ := I.pin p hp
    have nch : p.1 ∉ ch := fun z => (hch p.1 z).2.2.2 p hp rfl
    exact ⟨keep p.1 p.2 ne nf nch e n, free p.1 p.2 nch e n, ne, nf, d⟩
/-- .. where the frame's own object is kept too -/
theorem Inv.un {t' : Nat} (I : Inv X pins σ H s) (u : Un X.fs [] H H' s.heap h') (hok : HOk X.prog X.w H' h') : Inv X pins σ H' { s with heap := h', toks := t' } := by
  obtain ⟨m, ⟨o, es, ep, ho, r⟩, _⟩ := id I.loc
  obtain ⟨sl, hL⟩ := u.any ho I.free (by simp)
  exact I.step (g' := s.gens) (d' := s.drawn) (ch := []) (fun _ z => nomatch z) (fun b o _ hb _ e n => u.keep b o e n hb (by simp)) (fun b o _ hb _ e n => u.slot b o e n hb (by simp)) (fun b o _ e n => u.free b o e n (by simp)) (fun b o _ e => u.there b o e (by simp)) u.tups u.frzs u.tbls (fun m' hm => by
    obtain ⟨o', es', ep', ho', r'⟩ := hm
    rw [ho] at ho'; cases ho'
    exact ⟨_, es', ep', hL, r'⟩) hok I.bare
/-- behind a call (or a comprehension's block): the slots of this frame may have changed too, the records at ch may have turned -/
theorem Inv.call {g' : Array GenState} {t' : Nat} {d' : Drawn} {ch : List Addr} (I : Inv X pins σ H s) (u : Un (frs X.stack) ch H H' s.heap h') (hok : HOk X.prog X.w H' h') (hg : AllBare g')
    (hch : ∀ b ∈ ch, (b ∈ X.ex ∨ X.s₀.heap.objs.size ≤ b) ∧ b ≠ X.env.locals ∧ (∀ x c, X.env.cells.lookup x = some c → c ≠ b) ∧ ∀ p ∈ X.pn ++ pins, p.1 ≠ b) :
    Inv X pins σ H' { s with heap := h', gens := g', drawn := d', toks := t' } := by
  obtain ⟨m, ⟨o, es, ep, ho, r⟩, _⟩ := id I.loc
  obtain ⟨sl, hL⟩ := u.any ho I.free fun z => (hch _ z).2.1 rfl
  exact I.step (ch := ch) hch (fun b o hL hb hc e n => u.keep b o e n (fun z => (List.mem_cons.mp (I.stkSub b z)).elim hL hb) hc) (fun b o _ _ hc e n => u.any e n hc) (fun b o hc e n => u.free b o e n hc) (fun b o hc e => u.there b o e hc) u.tups u.frzs u.tbls (fun m' hm => by
    obtain ⟨o', es', ep', ho', r'⟩ := hm
    rw [ho] at ho'; cases ho'
    exact ⟨_, es', ep', hL, r'⟩) hok hg
/-- an untracked record of ours (an iterator) has turned -/
theorem Inv.turned {t' : Nat} {it : Addr} (I : Inv X pins σ H s) (k : ∀ b o, b ≠ it → s.heap.get? b = some o → h'.get? b = some o) (hn : H it = none) (hL : it ≠ X.env.locals)
    (h1 : it ∈ X.ex ∨ X.s₀.heap.objs.size ≤ it) (h2 : ∀ x c, X.env.cells.lookup x = some c → c ≠ it) (h3 : ∀ p ∈ X.pn ++ pins, p.1 ≠ it) : Inv X pins σ H { s with heap := h', toks := t' } := by
  have nit : ∀ b u, H b = some u → b ≠ it := fun b u e z => by rw [z, hn] at e; cases e
  refine I.step (g' := s.gens) (d' := s.drawn) (ch := [it]) (fun b hb => ?_) (fun b o _ _ hc e _ => k b o (fun z => hc (by simp [z])) e) (fun b o _ _ hc e _ => ⟨o.slots, k b o (fun z => hc (by simp [z])) e⟩) (fun _ _ _ _ n => n)
    (fun b o hc e => ⟨o, k b o (fun z => hc (by simp [z])) e⟩) (fun _ _ e => e) (fun _ _ _ e => e) (fun b ps e => ⟨#[], by rw [e]; simp⟩) (fun m hm => ?_) (fun b u e => ?_) I.bare
  · have e : b = it := by simpa using hb
    subst e
    exact ⟨h1, hL, h2, h3⟩
  · obtain ⟨o, es, ep, ho, r⟩ := hm
    exact ⟨o, es, ep, k _ o (Ne.symm hL) ho, r⟩
  · refine (I.hok b u e).stay (fun c v hc q => k c v ?_ q) (fun _ q => q) fun _ _ q => q
    rcases hc with z | z
    · rw [z]; exact nit b u e
    · exact nit c _ z
theorem Inv.tok (I : Inv X pins σ H s) (t : Nat) : Inv X pins σ H { s with toks := t } := I.un (h' := s.heap) (t' := t) Un.refl I.hok
/-- all objects kept -/
theorem Inv.kept {t' : Nat} (I : Inv X pins σ H s) (k : ∀ b u, s.heap.get? b = some u → h'.get? b = some u) : Inv X pins σ H { s with heap := h', toks := t' } := I.un (Un.kept k) (I.hok.kept k)
/-- a new object laid and tracked -/
theorem Inv.laid {a : Addr} {o : HO} {t' : Nat} (I : Inv X pins σ H s) (k : ∀ b u, s.heap.get? b = some u → h'.get? b = some u) (hp : s.heap.objs.size ≤ a) (new : ObjOk X.prog X.w (upd H a o) h' a o) :
    Inv X pins σ (upd H a o) { s with heap := h', toks := t' } := I.un (Un.laid k hp (I.hok.fresh hp)) (I.hok.laid k hp new)
/-- an object written -/
theorem Inv.write {x e : Addr} {o : HO} {t' : Nat} (I : Inv X pins σ H s) (mu : Mut (H x)) (he : e = x ∨ H e = some (.own x)) (k : ∀ b u, b ≠ e → s.heap.get? b = some u → h'.get? b = some u) (heo : ∃ u, h'.get? e = some u)
    (new : ObjOk X.prog X.w (upd H x o) h' x o) : Inv X pins σ (upd H x o) { s with heap := h', toks := t' } := I.un (Un.write mu he k heo) (I.hok.write mu he k heo new)
theorem Inv.pins_of {pins' : List (Addr × Obj)} (I : Inv X pins σ H s) (h : ∀ p ∈ pins', s.heap.get? p.1 = some p.2 ∧ H p.1 = none ∧ p.1 ≠ X.env.locals ∧ p.1 ∉ X.fs ∧ ∀ v, p.2.data ≠ .cell v) : Inv X pins' σ H s :=
  ⟨I.ok, I.os, I.bare, I.base, I.loc, I.cell, I.free, I.freeC, fun p hp => (List.mem_append.mp hp).elim (fun z => I.pin p (List.mem_append_left _ z)) (h p), I.hok, I.len⟩

theorem nodup_ix {N : List Str} (hN : N.Nodup) {i j : Nat} {x : Str} (a : N[i]? = some x) (b : N[j]? = some x) : i = j := by
  obtain ⟨h1, e1⟩ := List.getElem?_eq_some_iff.mp a
  obtain ⟨h2, e2⟩ := List.getElem?_eq_some_iff.mp b
  exact (List.getElem_inj hN).mp (e1.trans e2.symm)

/-- a name is stored; what changed -/
theorem store_ok2 {M : Model} {A : Around} {E : Value → Shared → Prop} {i : Nat} {x : Str} {v : V} {u : Value} {Q : Unit → Shared → Prop} (I : Inv X pins σ H s) (hN : X.N.Nodup) (hi : X.N[i]? = some x) (hx : Loc X.env.scope x) (r : RelV v u)
    (h : ∀ s', Inv X pins (σ.set i (some v)) H s' → (∃ a, Heap.SameBut a s.heap s'.heap ∧ (a = X.env.locals ∨ X.env.cells.lookup x = some a)) → Q () s') (hf : X.fn x = true ∨ X.env.scope.names.lookup x = some .local := by first | exact .inl rfl | exact .inr rfl | assumption) : wpAny M A (storeName X.env x u) Q E s := by
  obtain ⟨m, hn, hl⟩ := id I.loc
  have hcls : (X.env.scope.kind == .class || (X.env.scope.kind == .module && X.env.locals != X.env.globals)) = false := by rw [I.ok.kind]; rfl
  have hiσ : i < σ.length := by rw [I.len]; exact (List.getElem?_eq_some_iff.mp hi).1
  have cne := I.cne
  have tracked : ∀ {a : Addr} {h' : Heap}, (∃ o, s.heap.get? a = some o ∧ H a = none) → Heap.SameBut a s.heap h' → HOk X.prog X.w H h' := fun {a h'} ha hs b ob e => by
    obtain ⟨_, _, hfree⟩ := ha
    refine (I.hok b ob e).stay (fun c w' hc q => (hs.2 c ?_).trans q) (fun _ q => q) fun _ _ q => q
    rintro rfl
    rcases hc with rfl | hc
    · rw [hfree] at e; cases e
    · rw [hfree] at hc; cases hc
  rcases hx with hk | hk
  · refine wpAny_storeName_local hk hn (fun h' hn' hs => ?_) hcls
    obtain ⟨oL, _, _, hoL, _⟩ := id hn
    refine h _ ⟨I.ok, I.os, I.bare, ⟨fun b o e n hb hx => ?_, fun b o e n hb hx => ?_, I.base.free, fun b o e hx => ?_, I.base.tups, I.base.frzs, I.base.tbls⟩, ⟨_, hn', fun j y v' e1 e2 e3 => ?_⟩, fun y c e => ?_, I.free, I.freeC, fun p hp => ?_, tracked ⟨oL, hoL, I.free⟩ hs, by simpa using I.len⟩ ⟨_, hs, .inl rfl⟩
    · exact (hs.2 b (Nat.ne_of_lt (Nat.lt_of_lt_of_le (Heap.lt_size e) I.ok.above))).trans (I.base.keep b o e n hb hx)
    · obtain ⟨sl, e1⟩ := I.base.slot b o e n hb hx
      exact ⟨sl, (hs.2 b (Nat.ne_of_lt (Nat.lt_of_lt_of_le (Heap.lt_size e) I.ok.above))).trans e1⟩
    · obtain ⟨o', e1⟩ := I.base.there b o e hx
      exact ⟨o', (hs.2 b (Nat.ne_of_lt (Nat.lt_of_lt_of_le (Heap.lt_size e) I.ok.above))).trans e1⟩
    · by_cases hj : j = i
      · subst hj
        rw [hi] at e1; cases e1
        rw [List.getElem?_set_self hiσ] at e2
        cases e2
        exact ⟨u, r, .inl ⟨hk, by simp⟩⟩
      · rw [List.getElem?_set_ne (Ne.symm hj)] at e2
        obtain ⟨u', r', q⟩ := hl j y v' e1 e2 e3
        refine ⟨u', r', ?_⟩
        rcases q with ⟨k, e⟩ | ⟨k, c, e, z⟩
        · refine .inl ⟨k, ?_⟩
          have : y ≠ x := fun e => hj (nodup_ix hN e1 (e ▸ hi))
          simp [this, e]
        · exact .inr ⟨k, c, e, z.sameBut hs (cne y c e)⟩
    · obtain ⟨w', z⟩ := I.cell y c e
      exact ⟨w', z.sameBut hs (cne y c e)⟩
    · obtain ⟨e, n, ne, nf, d⟩ := I.pin p hp
      exact ⟨(hs.2 p.1 ne).trans e, n, ne, nf, d⟩
  · have hfn : X.fn x = true := by
      rcases hf with z | z
      · exact z
      · rw [z] at hk; cases hk
    obtain ⟨c, hc⟩ := I.ok.has x (.inl hk)
    obtain ⟨w', z⟩ := I.cell x c hc
    refine wpAny_storeName_cell I.ok.kind hk hc z (fun h' hc' hs => ?_)
    obtain ⟨oc, hoc, hocd⟩ := id z
    refine h { s with heap := h' } ⟨I.ok, I.os, I.bare, ⟨fun b o e n hb hx => ?_, fun b o e n hb hx => ?_, I.base.free, fun b o e hx => ?_, I.base.tups, I.base.frzs, I.base.tbls⟩, ⟨m, hn.sameBut hs (Ne.symm (cne x c hc)), fun j y v' e1 e2 e3 => ?_⟩, fun y c' e => ?_, I.free, I.freeC, fun p hp => ?_, tracked ⟨oc, hoc, I.freeC x c hc⟩ hs, by simpa using I.len⟩ ⟨c, hs, .inr hc⟩
    · exact (hs.2 b (Nat.ne_of_lt (Nat.lt_of_lt_of_le (Heap.lt_size e) (I.ok.cab x c hfn hc)))).trans (I.base.keep b o e n hb hx)
    · obtain ⟨sl, e1⟩ := I.base.slot b o e n hb hx
      exact ⟨sl, (hs.2 b (Nat.ne_of_lt (Nat.lt_of_lt_of_le (Heap.lt_size e) (I.ok.cab x c hfn hc)))).trans e1⟩
    · obtain ⟨o', e1⟩ := I.base.there b o e hx
      exact ⟨o', (hs.2 b (Nat.ne_of_lt (Nat.lt_of_lt_of_le (Heap.lt_size e) (I.ok.cab x c hfn hc)))).trans e1⟩
    · by_cases hj : j = i
      · subst hj
        rw [hi] at e1; cases e1
        rw [List.getElem?_set_self hiσ] at e2
        cases e2
        exact ⟨u, r, .inr ⟨.inl hk, c, hc, hc'⟩⟩
      · rw [List.getElem?_set_ne (Ne.symm hj)] at e2
        obtain ⟨u', r', q⟩ := hl j y v' e1 e2 e3
        refine ⟨u', r', ?_⟩
        rcases q with q | ⟨k, c', e, z'⟩
        · exact .inl q
        · refine .inr ⟨k, c', e, z'.sameBut hs ?_⟩
          rintro rfl
          exact hj (nodup_ix hN e1 (I.ok.inj _ _ _ e hc ▸ hi))
    · by_cases hcc : c' = c
      · subst hcc; exact ⟨_, hc'⟩
      · obtain ⟨w2, z2⟩ := I.cell y c' e
        exact ⟨w2, z2.sameBut hs hcc⟩
    · obtain ⟨e, n, ne, nf, d⟩ := I.pin p hp
      refine ⟨(hs.2 p.1 ?_).trans e, n, ne, nf, d⟩
      intro q
      rw [q, hoc] at e
      have q' : oc = p.2 := Option.some.inj e
      exact d w' (by rw [← q']; exact hocd)
theorem store_ok {M : Model} {A : Around} {E : Value → Shared → Prop} {i : Nat} {x : Str} {v : V} {u : Value} {Q : Unit → Shared → Prop} (I : Inv X pins σ H s) (hN : X.N.Nodup) (hi : X.N[i]? = some x) (hx : Loc X.env.scope x) (r : RelV v u)
    (h : ∀ s', Inv X pins (σ.set i (some v)) H s' → Q () s') (hf : X.fn x = true ∨ X.env.scope.names.lookup x = some .local := by first | exact .inl rfl | exact .inr rfl | assumption) : wpAny M A (storeName X.env x u) Q E s :=
  store_ok2 I hN hi hx r (fun s' I' _ => h s' I') hf
/-- behind a call or a block, the state as it is -/
theorem Inv.call' {s' : Shared} {ch : List Addr} (I : Inv X pins σ H s) (ho : s'.os = s.os) (u : Un (frs X.stack) ch H H' s.heap s'.heap) (hok : HOk X.prog X.w H' s'.heap) (hg : AllBare s'.gens)
    (hch : ∀ b ∈ ch, (b ∈ X.ex ∨ X.s₀.heap.objs.size ≤ b) ∧ b ≠ X.env.locals ∧ (∀ x c, X.env.cells.lookup x = some c → c ≠ b) ∧ ∀ p ∈ X.pn ++ pins, p.1 ≠ b) : Inv X pins σ H' s' := by
  obtain ⟨h', g', d', t', o'⟩ := s'
  have e : o' = s.os := ho
  subst e
  exact I.call (g' := g') (t' := t') (d' := d') u hok hg hch
end

/-! ### the judgements -/
/-- an exception: its class, its own dict's address (where it has one), the abstract heap behind it -/
abbrev XK := Value → Option Addr → Hp → Prop
abbrev St := List (Option V)
abbrev VK := V → Hp → Prop
/-- an expression's reading; a test's; an argument list's -/
abbrev TE := St → Hp → VK → Prop
abbrev TT := St → Hp → (Bool → Hp → Prop) → Prop
abbrev TA := St → Hp → (List V → Hp → Prop) → Prop
/-- what is wanted behind a statement -/
structure Ends where
  nx : St → Hp → Prop
  rt : VK
  bk : St → Hp → Prop := fun _ _ => False
  ct : St → Hp → Prop := fun _ _ => False
abbrev TS := Ends → St → Hp → Prop

def EP (X : Cx) (pins : List (Addr × Obj)) (σ : St) (Q : VK) (u : Value) (s' : Shared) : Prop := ∃ v H', Inv X pins σ H' s' ∧ RelV v u ∧ Q v H'
def TP (X : Cx) (pins : List (Addr × Obj)) (σ : St) (Q : Bool → Hp → Prop) (b : Bool) (s' : Shared) : Prop := ∃ H', Inv X pins σ H' s' ∧ Q b H'
def AP (X : Cx) (pins : List (Addr × Obj)) (σ : St) (Q : List V → Hp → Prop) (us : List Value) (s' : Shared) : Prop := ∃ vs H', Inv X pins σ H' s' ∧ Vals vs us ∧ Q vs H'
def SP (X : Cx) (pins : List (Addr × Obj)) (D : Ends) (f : Flow) (s' : Shared) : Prop :=
  match f with
  | .next => ∃ σ' H', Inv X pins σ' H' s' ∧ D.nx σ' H'
  | .brk => ∃ σ' H', Inv X pins σ' H' s' ∧ D.bk σ' H'
  | .cont => ∃ σ' H', Inv X pins σ' H' s' ∧ D.ct σ' H'
  | .ret u => ∃ v σ' H', Inv X pins σ' H' s' ∧ RelV v u ∧ D.rt v H'

def PE (X : Cx) (e : Expr) (t : TE) : Prop :=
  ∀ (pins : List (Addr × Obj)) (s : Shared) (σ : St) (H : Hp) (Q : VK), Inv X pins σ H s → t σ H Q → wpAny (model X.prog X.w) X.A (eval e X.env) (EP X pins σ Q) X.xe s
def PT (X : Cx) (e : Expr) (t : TT) : Prop :=
  ∀ (pins : List (Addr × Obj)) (s : Shared) (σ : St) (H : Hp) (Q : Bool → Hp → Prop), Inv X pins σ H s → t σ H Q → wpAny (model X.prog X.w) X.A (isTrue e X.env (eval e X.env)) (TP X pins σ Q) X.xe s
/-- a test whatever its 'whole' is (and, or) -/
def PW (X : Cx) (e : Expr) (t : TT) : Prop :=
  ∀ (whole : Sem Value) (pins : List (Addr × Obj)) (s : Shared) (σ : St) (H : Hp) (Q : Bool → Hp → Prop), Inv X pins σ H s → t σ H Q → wpAny (model X.prog X.w) X.A (isTrue e X.env whole) (TP X pins σ Q) X.xe s
theorem PW.pt {X : Cx} {e : Expr} {t : TT} (h : PW X e t) : PT X e t := h _
/-- an argument list (no star), from the left -/
def PA (X : Cx) (es : List Expr) (t : TA) : Prop :=
  ∀ (pos : Pos) (pins : List (Addr × Obj)) (s : Shared) (σ : St) (H : Hp) (Q : List V → Hp → Prop), Inv X pins σ H s → t σ H Q → wpAny (model X.prog X.w) X.A (spliced (backTo pos (starEach es X.env))) (AP X pins σ Q) X.xe s
def PS (X : Cx) (st : Stmt) (t : TS) : Prop :=
  ∀ (pins : List (Addr × Obj)) (s : Shared) (σ : St) (H : Hp) (D : Ends), Inv X pins σ H s → t D σ H → wpAny (model X.prog X.w) X.A (exec st X.env) (SP X pins D) X.xe s
def PSs (X : Cx) (st : List Stmt) (t : TS) : Prop :=
  ∀ (pins : List (Addr × Obj)) (s : Shared) (σ : St) (H : Hp) (D : Ends), Inv X pins σ H s → t D σ H → wpAny (model X.prog X.w) X.A (execs st X.env) (SP X pins D) X.xe s
/-- weaken the end -/
theorem thn {α : Type} {t : Sem α} {Q Q' : α → Shared → Prop} {M : Model} {A : Around} {E : Value → Shared → Prop} {s : Shared} (h : wpAny M A t Q E s) (hQ : ∀ a s, Q a s → Q' a s) : wpAny M A t Q' E s := wpAny_mono h hQ fun _ _ x => x
end L2

namespace L2
open PySem PySem.Spec PyProof.Rows
section
variable {X : Cx}

/-! ### names and constants -/
def tVar (i : Nat) : TE := fun σ H Q => ∃ v, σ[i]? = some (some v) ∧ Q v H
def tC (v : V) : TE := fun _ H Q => Q v H
theorem pe_var {i : Nat} {x : Str} {pos : Pos} (hN : X.N[i]? = some x) (hv : Vis X.env.scope x) (hd : (x == ("__debug__" : Str)) = false := by decide) (hcd : (x == ("__classdict__" : Str)) = false := by decide) : PE X (.Name x pos) (tVar i) := by
  intro pins s σ H Q I h
  obtain ⟨v, e, h⟩ := h
  obtain ⟨m, hn, hl⟩ := I.loc
  obtain ⟨u, r, l⟩ := hl i x v hN e hv
  have fin : EP X pins σ Q u s := ⟨v, H, I, r, h⟩
  rcases l with ⟨hk, hm⟩ | ⟨hk, c, hc, hcell⟩
  · exact wpAny_Name (wpAny_loadName_local I.ok.kind hk hn hm fin) hd
  · rcases hk with hk | hk
    · exact wpAny_Name (wpAny_loadName_cell I.ok.kind hk hc hcell fin) hd
    · exact wpAny_Name (wpAny_loadName_free I.ok.kind hk hc hcell fin hcd) hd
theorem pe_int {i j pos} : PE X (.Constant (.int i) j pos) (tC (.int i)) := fun _ _ _ H _ I h => wpAny_Constant_int ⟨.int i, H, I.tok _, ⟨_, rfl⟩, h⟩
theorem pe_bl {b j pos} : PE X (.Constant (.bool b) j pos) (tC (.bl b)) := fun _ _ _ H _ I h => Constant_bool ⟨.bl b, H, I, rfl, h⟩
theorem pe_non {j pos} : PE X (.Constant .none j pos) (tC .non) := fun _ _ _ H _ I h => Constant_none ⟨.non, H, I, rfl, h⟩
theorem pe_str {x j pos} : PE X (.Constant (.str x) j pos) (tC (.str x)) := fun _ _ _ H _ I h => Calls.Constant_str ⟨.str x, H, I.tok _, ⟨_, rfl⟩, h⟩

/-- a global name of the def -/
def Gl (X : Cx) (x : Str) : Prop := X.env.kindOf x = some .globalImplicit
theorem ld_glob {E : Value → Shared → Prop} {pins : List (Addr × Obj)} {s : Shared} {σ : St} {H : Hp} {x : Str} {u : Value} {pos : Pos} {Q : Value → Shared → Prop} (I : Inv X pins σ H s) (hg : Gl X x) (hm : X.mg x = some u) (h : Q u s)
    (hd : (x == ("__debug__" : Str)) = false := by decide) : wpAny (model X.prog X.w) X.A (eval (.Name x pos) X.env) Q E s :=
  Calls.Name_function_global I.ok.kind hg (Calls.loadGlobal_global (by rw [I.ok.glob]; exact I.mod.glob.keeps I.bk) hm h) hd
theorem ld_blt {E : Value → Shared → Prop} {pins : List (Addr × Obj)} {s : Shared} {σ : St} {H : Hp} {x : Str} {u : Value} {pos : Pos} {Q : Value → Shared → Prop} (I : Inv X pins σ H s) (hg : Gl X x) (hm : X.mg x = none) (hv : bootBuiltins x = some u) (h : Q u s)
    (hn : x ≠ "__name__" := by decide) (hd : (x == ("__debug__" : Str)) = false := by decide) : wpAny (model X.prog X.w) X.A (eval (.Name x pos) X.env) Q E s := by
  obtain ⟨mb, h1, h2⟩ := I.mod.blt
  exact Calls.Name_function_global I.ok.kind hg (Calls.loadGlobal_builtin (by rw [I.ok.glob]; exact I.mod.glob.keeps I.bk) hm (by rw [I.ok.blt]; exact h1.keeps I.bk) ((h2 x hn).trans hv) h) hd
theorem pe_bltn {x : Str} {v : V} {u : Value} {pos : Pos} (hg : Gl X x) (hm : X.mg x = none) (hv : bootBuiltins x = some u) (r : RelV v u) (hn : x ≠ "__name__" := by decide) (hd : (x == ("__debug__" : Str)) = false := by decide) : PE X (.Name x pos) (tC v) :=
  fun _ _ _ H _ I h => ld_blt I hg hm hv ⟨v, H, I, r, h⟩ hn hd

/-! ### arithmetic -/
variable {a b : Expr} {ta tb : TE} {pos : Pos}
/-! ### comparisons -/
/-- a comparison as a value, as a test -/
def tB (t : TE) : TT := fun σ H Q => t σ H fun x H1 => ∃ c, x = .bl c ∧ Q c H1
/-- an expression whose value is a bool, as a test -/
theorem pt_val {e : Expr} {t : TE} (h : PE X e t) (he : ∀ whole, isTrue e X.env whole = (do let v ← whole; standAt e.pos; holding [v] (truthy v)) := by intro _; rfl) : PT X e (tB t) := by
  intro pins s σ H Q I hw
  refine isTrue_plain (thn (h pins s σ H _ I hw) fun v s1 ⟨x, H1, I1, r1, q1⟩ => ?_) (he _)
  obtain ⟨d, rfl, q⟩ := q1
  cases r1
  exact wpAny_truthy_bool ⟨H1, I1, q⟩

/-! ### and, or, not -/
variable {tA tB' : TT} {rest : List Expr}
def tAnd (t u : TT) : TT := fun σ H Q => t σ H fun c H1 => if c = true then u σ H1 Q else Q false H1
def tOr (t u : TT) : TT := fun σ H Q => t σ H fun c H1 => if c = true then Q true H1 else u σ H1 Q
def tNot (t : TT) : TT := fun σ H Q => t σ H fun c H1 => Q (!c) H1
theorem pw_and1 (ha : PT X a tA) : PW X (.BoolOp .And [a] pos) tA := by
  intro wh pins s σ H Q I h
  refine isTrue_and (thn (ha pins s σ H Q I h) fun c s1 e => ?_)
  cases c with
  | true => exact isTrue_and_nil e
  | false => exact e
theorem pw_or1 (ha : PT X a tA) : PW X (.BoolOp .Or [a] pos) tA := by
  intro wh pins s σ H Q I h
  refine isTrue_or (thn (ha pins s σ H Q I h) fun c s1 e => ?_)
  cases c with
  | false => exact isTrue_or_nil e
  | true => exact e
theorem pw_and (ha : PT X a tA) (hb : PW X (.BoolOp .And (b :: rest) pos) tB') : PW X (.BoolOp .And (a :: b :: rest) pos) (tAnd tA tB') := by
  intro wh pins s σ H Q I h
  refine isTrue_and (thn (ha pins s σ H _ I h) fun c s1 ⟨H1, I1, q1⟩ => ?_)
  cases c with
  | true => exact hb wh pins s1 σ H1 Q I1 q1
  | false => exact ⟨H1, I1, q1⟩
theorem pw_or (ha : PT X a tA) (hb : PW X (.BoolOp .Or (b :: rest) pos) tB') : PW X (.BoolOp .Or (a :: b :: rest) pos) (tOr tA tB') := by
  intro wh pins s σ H Q I h
  refine isTrue_or (thn (ha pins s σ H _ I h) fun c s1 ⟨H1, I1, q1⟩ => ?_)
  cases c with
  | true => exact ⟨H1, I1, q1⟩
  | false => exact hb wh pins s1 σ H1 Q I1 q1
theorem pt_not (ha : PT X a tA) : PT X (.UnaryOp .Not a pos) (tNot tA) := by
  intro pins s σ H Q I h
  exact isTrue_not (ha pins s σ H (fun c H1 => Q (!c) H1) I h)
/-- .. as values (bools) -/
def tAndV (ta tb : TE) : TE := fun σ H Q => ta σ H fun x H1 => ∃ c, x = .bl c ∧ if c = true then tb σ H1 Q else Q (.bl false) H1
def tOrV (ta tb : TE) : TE := fun σ H Q => ta σ H fun x H1 => ∃ c, x = .bl c ∧ if c = true then Q (.bl true) H1 else tb σ H1 Q
def tNotV (ta : TE) : TE := fun σ H Q => ta σ H fun x H1 => ∃ c, x = .bl c ∧ Q (.bl (!c)) H1
theorem pe_one {op} {t : TE} (h : PE X a t) : PE X (.BoolOp op [a] pos) t := fun pins s σ H Q I hw => BoolOp_one (h pins s σ H Q I hw)
theorem pe_and (ha : PE X a ta) (hb : PE X (.BoolOp .And (b :: rest) pos) tb) : PE X (.BoolOp .And (a :: b :: rest) pos) (tAndV ta tb) := by
  intro pins s σ H Q I h
  refine BoolOp_and (thn (ha pins s σ H _ I h) fun v s1 ⟨x, H1, I1, r1, q1⟩ => ?_)
  obtain ⟨c, rfl, q1⟩ := q1
  cases r1
  refine wpAny_truthy_bool ?_
  cases c with
  | true => exact hb pins s1 σ H1 Q I1 q1
  | false => exact ⟨.bl false, H1, I1, rfl, q1⟩
theorem pe_or (ha : PE X a ta) (hb : PE X (.BoolOp .Or (b :: rest) pos) tb) : PE X (.BoolOp .Or (a :: b :: rest) pos) (tOrV ta tb) := by
  intro pins s σ H Q I h
  refine BoolOp_or (thn (ha pins s σ H _ I h) fun v s1 ⟨x, H1, I1, r1, q1⟩ => ?_)
  obtain ⟨c, rfl, q1⟩ := q1
  cases r1
  refine wpAny_truthy_bool ?_
  cases c with
  | false => exact hb pins s1 σ H1 Q I1 q1
  | true => exact ⟨.bl true, H1, I1, rfl, q1⟩
theorem pe_not (ha : PE X a ta) : PE X (.UnaryOp .Not a pos) (tNotV ta) := by
  intro pins s σ H Q I h
  refine UnaryOp_ (thn (ha pins s σ H _ I h) fun v s1 ⟨x, H1, I1, r1, q1⟩ => ?_)
  obtain ⟨c, rfl, q1⟩ := q1
  cases r1
  exact not_of (wpAny_truthy_bool ⟨.bl (!c), H1, I1, rfl, q1⟩)
/-- a if t else b -/
def tIf (t : TT) (ta tb : TE) : TE := fun σ H Q => t σ H fun c H1 => if c = true then ta σ H1 Q else tb σ H1 Q
theorem pe_ifExp {c : Expr} (hc : PT X c tA) (ha : PE X a ta) (hb : PE X b tb) : PE X (.IfExp c a b pos) (tIf tA ta tb) := by
  intro pins s σ H Q I h
  refine wpAny_IfExp (thn (hc pins s σ H _ I h) fun d s1 ⟨H1, I1, q1⟩ => ?_)
  cases d with
  | true => exact ha pins s1 σ H1 Q I1 q1
  | false => exact hb pins s1 σ H1 Q I1 q1
end
end L2

namespace L2
open PySem PySem.Spec PyProof.Rows

/-! ### a list, a tuple that is read: tracked, frozen, or an object of the module -/
def SqL (K : PySem.W.Frag) (H : Hp) (a : Addr) (xs : List V) : Prop :=
  Rd H a (.lst xs) ∨
    ∃ (o : Obj) (its : Array Value) (n : Nat), K.lookup a = some o ∧ o.cls = .type "list" ∧ o.dict = none ∧ o.data = .seq its n ∧ its.size ≤ sizeLine ∧ Vals xs its.toList
def SqT (K : PySem.W.Frag) (H : Hp) (a : Addr) (xs : List V) : Prop :=
  Rd H a (.tup xs) ∨
    ∃ (o : Obj) (its : Array Value) (n : Nat), K.lookup a = some o ∧ o.cls = .type "tuple" ∧ o.data = .seq its n ∧ its.size ≤ sizeLine ∧ Vals xs its.toList
def absV : Value → Option V
  | .none => some .non
  | .bool b => some (.bl b)
  | .int i _ => some (.int i)
  | .str x _ => some (.str x)
  | .bytes b _ => some (.byt b)
  | .float b _ => some (.flt b)
  | .ref a => some (.ref a)
  | .type n => some (.ty n)
  | _ => none
theorem RelV.abs {x : V} {u : Value} (r : RelV x u) : absV u = some x := by
  cases x with
  | non => cases r; rfl
  | bl _ => cases r; rfl
  | int _ => obtain ⟨t, rfl⟩ := r; rfl
  | str _ => obtain ⟨t, rfl⟩ := r; rfl
  | byt _ => obtain ⟨t, rfl⟩ := r; rfl
  | flt _ => obtain ⟨t, rfl⟩ := r; rfl
  | ref _ => cases r; rfl
  | ty _ => cases r; rfl
theorem RelV.inj {x y : V} {u : Value} (r : RelV x u) (q : RelV y u) : x = y := Option.some.inj (r.abs.symm.trans q.abs)
theorem Vals.inj : ∀ {xs ys : List V} {us : List Value}, Vals xs us → Vals ys us → xs = ys
  | _, _, _, .nil, .nil => rfl
  | _, _, _, .cons r t, .cons r' t' => by rw [r.inj r', Vals.inj t t']
section
variable {X : Cx} {pins : List (Addr × Obj)} {σ : St} {H : Hp} {s : Shared} {a : Addr} {xs ys : List V}
theorem SqL.of {K : PySem.W.Frag} (h : H a = some (.lst xs)) : SqL K H a xs := .inl (.inl h)
theorem SqT.of {K : PySem.W.Frag} (h : H a = some (.tup xs)) : SqT K H a xs := .inl (.inl h)
theorem Inv.list (I : Inv X pins σ H s) (h : SqL X.K H a xs) : ∃ its : List Value, Vals xs its ∧ PlainL s.heap a its.toArray ∧ xs.length ≤ sizeLine := by
  rcases h with h | ⟨o, its, n, hk, hc, hd, hs, hz, r⟩
  · obtain ⟨z, its, n, r, e⟩ := h.ok I.hok
    exact ⟨its, r, ⟨_, n, e, rfl, rfl, rfl⟩, z⟩
  · refine ⟨its.toList, r, ⟨o, n, I.kIn a o hk, hc, hd, by simpa using hs⟩, ?_⟩
    have e := r.length
    simp only [Array.length_toList] at e
    omega
theorem Inv.tuple (I : Inv X pins σ H s) (h : SqT X.K H a xs) : ∃ its : List Value, Vals xs its ∧ IsTup s.heap a its.toArray ∧ xs.length ≤ sizeLine := by
  rcases h with h | ⟨o, its, n, hk, hc, hs, hz, r⟩
  · obtain ⟨z, its, r, p⟩ := h.ok I.hok
    exact ⟨its, r, p.isTup, z⟩
  · refine ⟨its.toList, r, ⟨o, I.kIn a o hk, hc, n, by simpa using hs⟩, ?_⟩
    have e := r.length
    simp only [Array.length_toList] at e
    omega
theorem Inv.list_inj (I : Inv X pins σ H s) (h : SqL X.K H a xs) (h' : SqL X.K H a ys) : xs = ys := by
  obtain ⟨its, r, ⟨o, n, e, _, _, d⟩, _⟩ := I.list h
  obtain ⟨its', r', ⟨o', n', e', _, _, d'⟩, _⟩ := I.list h'
  rw [e] at e'; cases e'
  rw [d] at d'
  injection d' with d1 _
  have : its = its' := by simpa using congrArg Array.toList d1
  subst this
  exact r.inj r'
theorem Inv.tuple_inj (I : Inv X pins σ H s) (h : SqT X.K H a xs) (h' : SqT X.K H a ys) : xs = ys := by
  obtain ⟨its, r, ⟨o, e, _, n, d⟩, _⟩ := I.tuple h
  obtain ⟨its', r', ⟨o', e', _, n', d'⟩, _⟩ := I.tuple h'
  rw [e] at e'; cases e'
  rw [d] at d'
  injection d' with d1 _
  have : its = its' := by simpa using congrArg Array.toList d1
  subst this
  exact r.inj r'
end

/-! ### another wish about exceptions -/
abbrev Cx.wish (X : Cx) (E : Value → Shared → Prop) : Cx := { X with xe := E }
/-- no exception leaves -/
abbrev Cx.nox (X : Cx) : Cx := X.wish fun _ _ => False
theorem Cx.Ok.wish {X : Cx} (ok : X.Ok) (E : Value → Shared → Prop) : (X.wish E).Ok :=
  ⟨ok.mod, ok.kind, ok.glob, ok.blt, ok.above, ok.inj, ok.has, ok.cab, ok.hd, ok.frames, ok.stk, ok.exf, ok.bs, ok.bsz, ok.noex, ok.exfs, ok.funs, ok.frf⟩
theorem Cx.Ok.unwish {X : Cx} {E : Value → Shared → Prop} (ok : (X.wish E).Ok) : X.Ok :=
  ⟨ok.mod, ok.kind, ok.glob, ok.blt, ok.above, ok.inj, ok.has, ok.cab, ok.hd, ok.frames, ok.stk, ok.exf, ok.bs, ok.bsz, ok.noex, ok.exfs, ok.funs, ok.frf⟩
section
variable {X : Cx} {pins : List (Addr × Obj)} {σ : St} {H : Hp} {s : Shared} {E : Value → Shared → Prop}
theorem Inv.wish (I : Inv X pins σ H s) (E : Value → Shared → Prop) : Inv (X.wish E) pins σ H s := ⟨I.ok.wish E, I.os, I.bare, I.base, I.loc, I.cell, I.free, I.freeC, I.pin, I.hok, I.len⟩
theorem Inv.unwish (I : Inv (X.wish E) pins σ H s) : Inv X pins σ H s := ⟨I.ok.unwish, I.os, I.bare, I.base, I.loc, I.cell, I.free, I.freeC, I.pin, I.hok, I.len⟩
theorem SP.unwish {D : Ends} {f : Flow} {s' : Shared} (h : SP (X.wish E) pins D f s') : SP X pins D f s' := by
  cases f with
  | next => obtain ⟨σ', H', I, q⟩ := h; exact ⟨σ', H', I.unwish, q⟩
  | brk => obtain ⟨σ', H', I, q⟩ := h; exact ⟨σ', H', I.unwish, q⟩
  | cont => obtain ⟨σ', H', I, q⟩ := h; exact ⟨σ', H', I.unwish, q⟩
  | ret u => obtain ⟨v, σ', H', I, r, q⟩ := h; exact ⟨v, σ', H', I.unwish, r, q⟩
theorem PSs.nox {st : List Stmt} {t : TS} (h : PSs X.nox st t) : PSs X st t := fun pins s σ H D I hw =>
  wpAny_mono (h pins s σ H D (I.wish _) hw) (fun _ _ q => q.unwish) fun _ _ z => False.elim z
end

/-! ### blocks and small statements -/
section
variable {X : Cx} {st : Stmt} {rest : List Stmt} {t u : TS} {e : Expr} {te : TE} {pos : Pos}
def tNext : TS := fun D σ H => D.nx σ H
def tSeq (t u : TS) : TS := fun D σ H => t { D with nx := u D } σ H
theorem pss_nil : PSs X [] tNext := fun _ _ σ H _ I h => wpAny_execs_nil ⟨σ, H, I, h⟩
theorem pss_cons (h1 : PS X st t) (h2 : PSs X rest u) : PSs X (st :: rest) (tSeq t u) := by
  intro pins s σ H D I h
  refine wpAny_execs_cons (thn (h1 pins s σ H { D with nx := u D } I h) fun f s1 q => ?_)
  cases f with
  | next =>
    obtain ⟨σ', H', I', q⟩ := q
    exact h2 pins s1 σ' H' D I' q
  | ret v => exact q
  | brk => exact q
  | cont => exact q
theorem pss_one (h1 : PS X st t) : PSs X [st] t := by
  intro pins s σ H D I h
  refine wpAny_execs_cons (thn (h1 pins s σ H D I h) fun f s1 q => ?_)
  cases f with
  | next => exact wpAny_execs_nil q
  | ret v => exact q
  | brk => exact q
  | cont => exact q
/-- in a def's body nothing is shown -/
theorem Inv.quiet {pins : List (Addr × Obj)} {σ : St} {H : Hp} {s : Shared} (I : Inv X pins σ H s) : interactive X.env = false := by simp [interactive, I.ok.kind]
/-- an expression whose value is dropped -/
def tDrop (te : TE) : TS := fun D σ H => te σ H fun _ H1 => D.nx σ H1
theorem ps_expr (he : PE X e te) (hs : swapsWith e none pos.line X.env = pure false := by rfl) : PS X (.Expr e pos) (tDrop te) := by
  intro pins s σ H D I h
  exact wpAny_Expr_any (thn (he pins s σ H _ I h) fun v s1 ⟨x, H1, I1, r1, q1⟩ => ⟨σ, H1, I1, q1⟩) I.quiet hs
def tRet (te : TE) : TS := fun D σ H => te σ H D.rt
theorem ps_ret (he : PE X e te) : PS X (.Return (some e) pos) (tRet te) := by
  intro pins s σ H D I h
  exact wpAny_Return_some (thn (he pins s σ H _ I h) fun v s1 ⟨x, H1, I1, r1, q1⟩ => ⟨x, σ, H1, I1, r1, q1⟩)
def tIfS (c : TT) (t u : TS) : TS := fun D σ H => c σ H fun b H1 => if b = true then t D σ H1 else u D σ H1
theorem ps_if {c : Expr} {a b : List Stmt} {tc : TT} (hc : PT X c tc) (ha : PSs X a t) (hb : PSs X b u) : PS X (.If c a b pos) (tIfS tc t u) := by
  intro pins s σ H D I h
  refine wpAny_If (thn (hc pins s σ H _ I h) fun d s1 ⟨H1, I1, q1⟩ => ?_)
  cases d with
  | true => exact ha pins s1 σ H1 D I1 q1
  | false => exact hb pins s1 σ H1 D I1 q1
end

/-! ### targets -/
abbrev TG := V → St → Hp → (St → Hp → Prop) → Prop
abbrev TGs := List V → St → Hp → (St → Hp → Prop) → Prop
def PG (X : Cx) (target : Expr) (t : TG) : Prop :=
  ∀ (pins : List (Addr × Obj)) (s : Shared) (σ : St) (H : Hp) (v : V) (u : Value) (Q : St → Hp → Prop), Inv X pins σ H s → RelV v u → t v σ H Q →
    wpAny (model X.prog X.w) X.A (assign target X.env u) (fun _ s' => ∃ σ' H', Inv X pins σ' H' s' ∧ Q σ' H') X.xe s
/-- several targets, one after another -/
def PGs (X : Cx) (ts : List Expr) (t : TGs) : Prop :=
  ∀ (pins : List (Addr × Obj)) (s : Shared) (σ : St) (H : Hp) (vs : List V) (us : List Value) (Q : St → Hp → Prop), Inv X pins σ H s → Vals vs us → t vs σ H Q →
    wpAny (model X.prog X.w) X.A (assignInOrder ((assignEach ts X.env).map (·.2)) us) (fun _ s' => ∃ σ' H', Inv X pins σ' H' s' ∧ Q σ' H') X.xe s
/-- o[i] = v, by values -/
abbrev TSet := V → V → V → Hp → (Hp → Prop) → Prop
def PSet (X : Cx) (t : TSet) : Prop :=
  ∀ (pins : List (Addr × Obj)) (s : Shared) (σ : St) (H : Hp) (o i v : V) (ov iv u : Value) (Q : Hp → Prop), Inv X pins σ H s → RelV o ov → RelV i iv → RelV v u → t o i v H Q →
    wpAny (model X.prog X.w) X.A (setItem ov iv u) (fun _ s' => ∃ H', Inv X pins σ H' s' ∧ Q H') X.xe s
section
variable {X : Cx} {pos : Pos}
def gName (i : Nat) : TG := fun v σ H Q => Q (σ.set i (some v)) H
theorem pg_name {i : Nat} {x : Str} (hN : X.N.Nodup) (hi : X.N[i]? = some x) (hx : Loc X.env.scope x) (hf : X.fn x = true ∨ X.env.scope.names.lookup x = some .local := by first | exact .inl rfl | exact .inr rfl | assumption) : PG X (.Name x pos) (gName i) := by
  intro pins s σ H v u Q I r h
  exact wpAny_assign_Name (store_ok I hN hi hx r (fun s' I' => ⟨_, H, I', h⟩) hf)
def gNil : TGs := fun vs σ H Q => vs = [] ∧ Q σ H
def gCons (t : TG) (u : TGs) : TGs := fun vs σ H Q => ∃ v r, vs = v :: r ∧ t v σ H fun σ' H' => u r σ' H' Q
theorem pgs_nil : PGs X [] gNil := by
  intro pins s σ H vs us Q I r h
  obtain ⟨e, h⟩ := h
  subst e
  cases r
  exact assignInOrder_nil ⟨σ, H, I, h⟩
theorem pgs_cons {e : Expr} {es : List Expr} {t : TG} {u : TGs} (h1 : PG X e t) (h2 : PGs X es u)
    (hs : (assignEach (e :: es) X.env).map (·.2) = assign e X.env :: (assignEach es X.env).map (·.2) := by rfl) : PGs X (e :: es) (gCons t u) := by
  intro pins s σ H vs us Q I r h
  obtain ⟨v, vr, e1, h⟩ := h
  subst e1
  cases r with
  | cons r rr =>
    rw [hs]
    refine assignInOrder_cons (thn (h1 pins s σ H _ _ _ I r h) fun _ s1 ⟨σ1, H1, I1, q1⟩ => ?_)
    exact h2 pins s1 σ1 H1 _ _ Q I1 rr q1
/-- (a, b, ..) = a tuple of that length -/
def gTup (K : PySem.W.Frag) (n : Nat) (t : TGs) : TG := fun v σ H Q => ∃ a xs, v = .ref a ∧ SqT K H a xs ∧ xs.length = n ∧ t xs σ H Q
theorem pg_tup {es : List Expr} {k : Nat} {t : TGs} {n : Nat} (hc : X.calm = true) (h : PGs X es t)
    (hn : (assignEach es X.env).length = n := by rfl) (hst : (assignEach es X.env).findIdx? (·.1) = none := by rfl) : PG X (.Tuple es k pos) (gTup X.K n t) := by
  intro pins s σ H v u Q I r hw
  obtain ⟨a, xs, e1, hq, hl, hw⟩ := hw
  subst e1
  cases r
  obtain ⟨its, rv, ht, hz⟩ := I.tuple hq
  refine assign_Tuple_tuple (I.ok.hd hc) ht (by simp [hn, ← hl, rv.length]) hst fun h' hx => ?_
  have I1 : Inv X pins σ H { s with heap := h' } := I.kept (t' := s.toks) fun b o e => hx b o (Nat.ne_of_lt (Heap.lt_size e)) e
  exact h pins _ σ H xs _ Q I1 (by simpa using rv) hw
/-- o[i] = .. -/
def gSub (to ti : TE) (t : TSet) : TG := fun v σ H Q => to σ H fun o H1 => ti σ H1 fun i H2 => t o i v H2 fun H3 => Q σ H3
theorem pg_sub {o i : Expr} {to ti : TE} {t : TSet} (ho : PE X o to) (hi : PE X i ti) (hs : PSet X t)
    (ha : ∀ v, assign (.Subscript o i pos) X.env v = (do
      let ov ← holding [v] (eval o X.env)
      let iv ← holding [v, ov] (eval i X.env)
      standAt pos
      holding [v, ov, iv] (setItem ov iv v)
      release [v, ov, iv] []) := by intro _; rfl) : PG X (.Subscript o i pos) (gSub to ti t) := by
  intro pins s σ H v u Q I r h
  rw [ha]
  refine wpAny_bind (wpAny_holding (thn (ho pins s σ H _ I h) fun ov s1 ⟨x, H1, I1, r1, q1⟩ => ?_))
  refine wpAny_bind (wpAny_holding (thn (hi pins s1 σ H1 _ I1 q1) fun iv s2 ⟨y, H2, I2, r2, q2⟩ => ?_))
  refine wpAny_bind (wpAny_standAt (wpAny_bind (wpAny_holding (thn (hs pins s2 σ H2 x y v ov iv u _ I2 r1 r2 r q2) fun _ s3 ⟨H3, I3, q3⟩ => ?_))))
  exact wpAny_release ⟨σ, H3, I3, q3⟩
/-- target = value -/
def tAsg (te : TE) (g : TG) : TS := fun D σ H => te σ H fun x H1 => g x σ H1 D.nx
theorem ps_asg {tg e : Expr} {te : TE} {g : TG} (he : PE X e te) (hg : PG X tg g) (hs : swapsWithSole [tg] e pos.line X.env = pure false := by rfl) (hw : swappedStores [tg] e X.env = pure none := by rfl)
    (h1 : (assignEach [tg] X.env).map (·.2) = [assign tg X.env] := by rfl) : PS X (.Assign [tg] e pos) (tAsg te g) := by
  intro pins s σ H D I h
  refine wpAny_Assign_stores (thn (he pins s σ H _ I h) fun v s1 ⟨x, H1, I1, r1, q1⟩ => ?_) hs hw
  rw [h1]
  exact thn (hg pins s1 σ H1 x v _ I1 r1 q1) fun _ s2 q => q
/-- name = value -/
theorem ps_set {i : Nat} {x : Str} {e : Expr} {te : TE} {pos' : Pos} (hN : X.N.Nodup) (hi : X.N[i]? = some x) (hx : Loc X.env.scope x) (he : PE X e te) (hs : swapsWith e (some (.Name x pos')) pos.line X.env = pure false := by rfl) (hf : X.fn x = true ∨ X.env.scope.names.lookup x = some .local := by first | exact .inl rfl | exact .inr rfl | assumption) :
    PS X (.Assign [.Name x pos'] e pos) (tAsg te (gName i)) := by
  intro pins s σ H D I h
  refine wpAny_Assign_Name (thn (he pins s σ H _ I h) fun v s1 ⟨y, H1, I1, r1, q1⟩ => ?_) hs
  exact store_ok I1 hN hi hx r1 (fun s2 I2 => ⟨_, H1, I2, q1⟩) hf
/-- a, b = x, y with plain local names: stored from the right; the pair itself is not tracked (the opening rows as in PyProof/Rows/TupAssign.lean:23) -/
def tPar (i j : Nat) (ta : TA) : TS := fun D σ H => ta σ H fun vs H1 => ∃ v w, vs = [v, w] ∧ D.nx ((σ.set i (some v)).set j (some w)) H1
theorem ps_par {i j : Nat} {x y : Str} {a b : Expr} {ta : TA} {px py pt : Pos} {kt k2 pt2} (hc : X.calm = true) (hN : X.N.Nodup) (hi : X.N[i]? = some x) (hj : X.N[j]? = some y) (hij : i ≠ j)
    (hx : X.env.scope.names.lookup x = some .local) (hy : X.env.scope.names.lookup y = some .local) (ha : PA X [a, b] ta)
    (hw : swappedStores [.Tuple [.Name x px, .Name y py] kt pt] (.Tuple [a, b] k2 pt2) X.env = pure (some [x, y]))
    (hs : swapsWithSole [.Tuple [.Name x px, .Name y py] kt pt] (.Tuple [a, b] k2 pt2) pos.line X.env = pure false := by rfl) :
    PS X (.Assign [.Tuple [.Name x px, .Name y py] kt pt] (.Tuple [a, b] k2 pt2) pos) (tPar i j ta) := by
  intro pins s σ H D I h
  rw [exec_Assign_arm]
  refine wpAny_bind (wpAny_standAt ?_)
  rw [hs]
  refine wpAny_bind (wpAny_pure ?_)
  rw [if_neg (by decide)]
  refine wpAny_bind (Tuple_ (thn (ha _ pins s σ H _ I h) fun us s1 ⟨vs, H1, I1, r1, q1⟩ => ?_))
  obtain ⟨v, w, e1, q1⟩ := q1
  subst e1
  obtain ⟨u1, u2, rfl, rv, rw'⟩ : ∃ u1 u2, us = [u1, u2] ∧ RelV v u1 ∧ RelV w u2 := by
    cases r1 with
    | cons p q =>
      cases q with
      | cons p' q' =>
        cases q'
        exact ⟨_, _, rfl, p, p'⟩
  refine wpAny_newObj_type ?_ (by show 2 ≤ sizeLine; decide)
  have I2 : Inv X pins σ H1 { s1 with heap := s1.heap.push { cls := .type "tuple", data := .seq [u1, u2].toArray } } := I1.kept (t' := s1.toks) fun b o e => Heap.get?_push_of_some _ e
  rw [hw]
  refine wpAny_bind (wpAny_pure ?_)
  show wpAny (model X.prog X.w) X.A (do rule "assign.swapped-stores"; let items ← unpackItems (.ref s1.heap.objs.size) 2 none; assignInOrder [fun v => bindName X.env y v, fun v => bindName X.env x v] items.reverse; pure Flow.next) _ _ _
  refine wpAny_bind (wpAny_rule (wpAny_bind (unpackItems_tuple (items := #[u1, u2]) (I.ok.hd hc) (IsTup.new s1.heap _) fun h' hx' => ?_)))
  have I3 := I2.kept (h' := h') (t' := s1.toks) fun b o e => hx' b o (Nat.ne_of_lt (Heap.lt_size e)) e
  show wpAny _ _ (assignInOrder [fun v => bindName X.env y v, fun v => bindName X.env x v] [u2, u1] >>= fun _ => pure Flow.next) _ _ _
  refine wpAny_bind (assignInOrder_cons (wpAny_bindName (store_ok I3 hN hj (.inl hy) rw' (fun s2 I4 => ?_) (.inr hy))))
  refine assignInOrder_cons (wpAny_bindName (store_ok I4 hN hi (.inl hx) rv (fun s3 I5 => assignInOrder_nil (wpAny_pure ?_)) (.inr hx)))
  rw [List.set_comm _ _ (Ne.symm hij)] at I5
  exact ⟨_, H1, I5, q1⟩
end

/-! ### while -/
section
variable {X : Cx} {pos : Pos}
/-- the invariant W with its measure -/
def tWhile (c : TT) (tb : TS) : TS := fun D σ H => ∃ W : Nat → St → Hp → Prop, (∃ m, W m σ H) ∧ ∀ m σ H, W m σ H →
  c σ H fun b H1 => if b = true then ∃ N : St → Hp → Prop, (∀ σ' H', N σ' H' → ∃ m', m' < m ∧ W m' σ' H') ∧ tb { D with nx := N, ct := N, bk := D.nx } σ H1 else D.nx σ H1
theorem ps_while {c : Expr} {body : List Stmt} {tc : TT} {tb : TS} (hp : PassesOwn (model X.prog X.w) X.A X.env X.xe) (hc : PT X c tc) (hb : PSs X body tb) : PS X (.While c body [] pos) (tWhile tc tb) := by
  intro pins s σ H D I h
  obtain ⟨W, ⟨m0, w0⟩, turn⟩ := h
  refine wpAny_While (codeAny_whileLoop (fun n s' => ∃ σ' H', Inv X pins σ' H' s' ∧ W n σ' H') ?_ m0 ⟨σ, H, I, w0⟩)
  rintro n s1 ⟨σ1, H1, I1, w1⟩
  refine wpAny_passesOwn hp (thn (hc pins s1 σ1 H1 _ I1 (turn n σ1 H1 w1)) fun b s2 ⟨H2, I2, q2⟩ => ?_)
  cases b with
  | true =>
    obtain ⟨N, hN, q2⟩ := q2
    rw [if_pos rfl]
    refine wpAny_passesOwn hp (thn (hb pins s2 σ1 H2 _ I2 q2) fun f s3 q3 => ?_)
    cases f with
    | next =>
      obtain ⟨σ3, H3, I3, n3⟩ := q3
      obtain ⟨m', hm, w3⟩ := hN σ3 H3 n3
      exact ⟨m', hm, σ3, H3, I3, w3⟩
    | cont =>
      obtain ⟨σ3, H3, I3, n3⟩ := q3
      obtain ⟨m', hm, w3⟩ := hN σ3 H3 n3
      exact ⟨m', hm, σ3, H3, I3, w3⟩
    | brk => exact q3
    | ret v => exact q3
  | false =>
    rw [if_neg Bool.false_ne_true]
    exact wpAny_execs_nil ⟨σ1, H2, I2, q2⟩
end

/-! ### what a loop or a comprehension walks -/
/-- at turn i: it yields x (the heap may grow), or it stops -/
structure It where
  go : Nat → Hp → Prop
  yld : Nat → Hp → V → Hp → Prop
  stop : Nat → Hp → Prop
/-- the iterator's own objects may turn: they are not the frame's, not pinned, younger than the entry (or a comprehension's own) -/
def FpOk (X : Cx) (pins : List (Addr × Obj)) (H : Hp) (b : Addr) : Prop :=
  H b = none ∧ b ≠ X.env.locals ∧ b ∉ X.fs ∧ (b ∈ X.ex ∨ X.s₀.heap.objs.size ≤ b) ∧ (∀ x c, X.env.cells.lookup x = some c → c ≠ b) ∧ ∀ p ∈ X.pn ++ pins, p.1 ≠ b
theorem Inv.fpOk {X : Cx} {pins : List (Addr × Obj)} {σ : St} {H H' : Hp} {s : Shared} {b : Addr} (I : Inv X pins σ H s) (hb : s.heap.objs.size ≤ b) (hn : H' b = none) : FpOk X pins H' b := by
  refine ⟨hn, Nat.ne_of_gt (Nat.lt_of_lt_of_le I.lt hb), I.nofs hb, .inr (Nat.le_trans I.sz hb), fun x c e z => ?_, fun p hp z => ?_⟩
  · obtain ⟨v, q⟩ := I.cell x c e
    exact absurd (Nat.lt_of_lt_of_le q.lt (by rw [z]; exact hb)) (Nat.lt_irrefl _)
  · exact absurd (Nat.lt_of_lt_of_le (Heap.lt_size (I.pin p hp).1) (by rw [z]; exact hb)) (Nat.lt_irrefl _)
structure Turn (P : Program) (w : World) (K : PySem.W.Frag) (tg : Expr) (J : It) (fp : List Addr) (it : Addr) (tn : Nat → Heap → Prop) : Prop where
  mem : it ∈ fp
  obj : ∀ i h, tn i h → ∀ b ∈ fp, ∃ o, h.get? b = some o ∧ ∀ v, o.data ≠ .cell v
  keep : ∀ i h h', tn i h → (∀ b ∈ fp, ∀ o, h.get? b = some o → h'.get? b = some o) → tn i h'
  item : ∀ (X : Cx), X.prog = P → X.w = w → X.K = K → X.calm = true → ∀ (i : Nat) (pins : List (Addr × Obj)) (s : Shared) (σ : St) (H : Hp) (E : Value → Shared → Prop), Inv X pins σ H s → (∀ b ∈ fp, FpOk X pins H b) → tn i s.heap → J.go i H →
    wpAny (model P w) X.A (pyNext (.ref it)) (fun r s1 => ∃ u, r = some u ∧
      wpAny (model P w) X.A (letOwnedTupleGo tg (.ref it) u) (fun _ s2 => ∃ x H', Inv X pins σ H' s2 ∧ RelV x u ∧ J.yld i H x H' ∧ tn (i + 1) s2.heap ∧ ∀ b ∈ fp, H' b = none) E s1) E s
  done : ∀ (X : Cx), X.prog = P → X.w = w → X.K = K → X.calm = true → ∀ (i : Nat) (pins : List (Addr × Obj)) (s : Shared) (σ : St) (H : Hp) (E : Value → Shared → Prop), Inv X pins σ H s → (∀ b ∈ fp, FpOk X pins H b) → tn i s.heap → J.stop i H →
    wpAny (model P w) X.A (pyNext (.ref it)) (fun r s1 => r = none ∧ Inv X pins σ H s1) E s
  self : ∀ (A : Around) (i : Nat) (s : Shared) (Q : Value → Shared → Prop) (E : Value → Shared → Prop), tn i s.heap → Q (.ref it) s → wpAny (model P w) A (pyIter (.ref it)) Q E s
abbrev TI := St → Hp → (It → Hp → Prop) → Prop
/-- an iterator has come -/
def PIE (X : Cx) (pins : List (Addr × Obj)) (σ : St) (tg : Expr) (R : It → Hp → Prop) (itv : Value) (s2 : Shared) : Prop :=
  ∃ (it : Addr) (fp : List Addr) (tn : Nat → Heap → Prop) (J : It) (H' : Hp), itv = .ref it ∧ Inv X pins σ H' s2 ∧ Turn X.prog X.w X.K tg J fp it tn ∧ tn 0 s2.heap ∧ (∀ b ∈ fp, FpOk X pins H' b) ∧ R J H'
def PI (X : Cx) (tg iter : Expr) (wi : TI) : Prop :=
  ∀ (pins : List (Addr × Obj)) (s : Shared) (σ : St) (H : Hp) (R : It → Hp → Prop), Inv X pins σ H s → wi σ H R →
    wpAny (model X.prog X.w) X.A (eval iter X.env) (fun v s1 => wpAny (model X.prog X.w) X.A (pyIter v) (PIE X pins σ tg R) X.xe s1) X.xe s

/-- the step ahead of the store is nothing for an iterator that keeps no tuple -/
theorem go_of {M : Model} {A : Around} {E : Value → Shared → Prop} {s : Shared} {tg : Expr} {it : Addr} {u : Value} {o : Obj} {n : String} {vs : Array Value} {Q : Unit → Shared → Prop} (ho : s.heap.get? it = some o) (hc : o.cls = .type n) (hd : o.data = .fields vs)
    (hn : ["enumerate", "zip", "dict_itemiterator", "dict_reverseitemiterator", "odict_iterator", "itertools.zip_longest", "itertools.pairwise"].contains n = false) (hQ : Q () s) : wpAny M A (letOwnedTupleGo tg (.ref it) u) Q E s := by
  unfold letOwnedTupleGo
  cases tg <;> first
    | exact wpAny_pure hQ
    | (cases u <;> first
        | exact wpAny_pure hQ
        | (refine wpAny_bind (wpAny_load ho ?_)
           rw [hc, hd]
           show wpAny M A (if (["enumerate", "zip", "dict_itemiterator", "dict_reverseitemiterator", "odict_iterator", "itertools.zip_longest", "itertools.pairwise"].contains n && vs[0]? == some (rawInt _)) = true then _ else _) Q E s
           rw [if_neg (by intro h; rw [hn, Bool.false_and] at h; cases h)]
           exact wpAny_pure hQ))

/-- the list at a, as it stands at each turn (a loop may append to it) -/
def Itl (K : PySem.W.Frag) (a : Addr) : It :=
  ⟨fun i H => ∃ xs x, SqL K H a xs ∧ xs[i]? = some x, fun i H x H' => H' = H ∧ ∀ xs, SqL K H a xs → xs[i]? = some x, fun i H => ∃ xs, SqL K H a xs ∧ xs.length ≤ i⟩
def Itt (K : PySem.W.Frag) (a : Addr) : It :=
  ⟨fun i H => ∃ xs x, SqT K H a xs ∧ xs[i]? = some x, fun i H x H' => H' = H ∧ ∀ xs, SqT K H a xs → xs[i]? = some x, fun i H => ∃ xs, SqT K H a xs ∧ xs.length ≤ i⟩
/-- lo, lo + 1, .. (n of them) -/
def Itr (lo : Int) (n : Nat) : It := ⟨fun i _ => i < n, fun i H x H' => H' = H ∧ x = .int (lo + i), fun i _ => n ≤ i⟩
theorem turn_list {P : Program} {w : World} {K : PySem.W.Frag} {tg : Expr} (a it : Addr) : Turn P w K tg (Itl K a) [it] it (fun i h => h.IsListIter it a i) where
  mem := by simp
  obj := fun i h st b hb => by
    have e : b = it := by simpa using hb
    subst e
    obtain ⟨o, e, c, d⟩ := st
    exact ⟨o, e, fun v z => by rw [d] at z; cases z⟩
  keep := fun i h h' st k => st.at fun o e => k it (by simp) o e
  item := by
    intro X hP hw hK hc i pins s σ H E I hf st hg
    subst hP hw hK
    obtain ⟨xs, x, hq, hx⟩ := hg
    obtain ⟨its, rv, p, hz⟩ := I.list hq
    obtain ⟨u, hu, ru⟩ := rv.get hx
    obtain ⟨f0, f1, f2, f3, f4, f5⟩ := hf it (by simp)
    refine wpAny_pyNext_list_item st p.isList (x := u) (by simpa using hu) fun h' st' sb => ?_
    have I1 : Inv X pins σ H { s with heap := h' } := I.turned (t' := s.toks) (fun b o hb e => (sb.2 b hb).trans e) f0 f1 f3 f4 f5
    obtain ⟨o, e, c, d⟩ := id st'
    exact ⟨u, rfl, go_of (s := { s with heap := h' }) e c d (by decide) ⟨x, H, I1, ru, ⟨rfl, fun ys hy => by rw [I.list_inj hy hq]; exact hx⟩, st', fun b hb => (hf b hb).1⟩⟩
  done := by
    intro X hP hw hK hc i pins s σ H E I hf st hg
    subst hP hw hK
    obtain ⟨xs, hq, hx⟩ := hg
    obtain ⟨its, rv, p, hz⟩ := I.list hq
    obtain ⟨f0, f1, f2, f3, f4, f5⟩ := hf it (by simp)
    have hl := rv.length
    exact wpAny_pyNext_list_end (I.ok.hd hc) st p.isList (by simp; omega) fun h' eb => ⟨rfl, I.turned (t' := s.toks) (fun b o hb e => eb b o hb e) f0 f1 f3 f4 f5⟩
  self := fun _ _ _ _ _ st h => wpAny_pyIter_listiter st h
theorem turn_tuple {P : Program} {w : World} {K : PySem.W.Frag} {tg : Expr} (a it : Addr) : Turn P w K tg (Itt K a) [it] it (fun i h => h.IsTupleIter it a i) where
  mem := by simp
  obj := fun i h st b hb => by
    have e : b = it := by simpa using hb
    subst e
    obtain ⟨o, e, c, d⟩ := st
    exact ⟨o, e, fun v z => by rw [d] at z; cases z⟩
  keep := fun i h h' st k => st.at fun o e => k it (by simp) o e
  item := by
    intro X hP hw hK hc i pins s σ H E I hf st hg
    subst hP hw hK
    obtain ⟨xs, x, hq, hx⟩ := hg
    obtain ⟨its, rv, p, hz⟩ := I.tuple hq
    obtain ⟨u, hu, ru⟩ := rv.get hx
    obtain ⟨f0, f1, f2, f3, f4, f5⟩ := hf it (by simp)
    refine wpAny_pyNext_tuple_item st (show s.heap.IsTuple a its.toArray from p) (x := u) (by simpa using hu) fun h' st' sb => ?_
    have I1 : Inv X pins σ H { s with heap := h' } := I.turned (t' := s.toks) (fun b o hb e => (sb.2 b hb).trans e) f0 f1 f3 f4 f5
    obtain ⟨o, e, c, d⟩ := id st'
    exact ⟨u, rfl, go_of (s := { s with heap := h' }) e c d (by decide) ⟨x, H, I1, ru, ⟨rfl, fun ys hy => by rw [I.tuple_inj hy hq]; exact hx⟩, st', fun b hb => (hf b hb).1⟩⟩
  done := by
    intro X hP hw hK hc i pins s σ H E I hf st hg
    subst hP hw hK
    obtain ⟨xs, hq, hx⟩ := hg
    obtain ⟨its, rv, p, hz⟩ := I.tuple hq
    obtain ⟨f0, f1, f2, f3, f4, f5⟩ := hf it (by simp)
    have hl := rv.length
    exact wpAny_pyNext_tuple_end (I.ok.hd hc) st (show s.heap.IsTuple a its.toArray from p) (by simp; omega) fun h' eb => ⟨rfl, I.turned (t' := s.toks) (fun b o hb e => eb b o hb e) f0 f1 f3 f4 f5⟩
  self := fun _ _ _ _ _ st h => wpAny_pyIter_tupleiter st h
theorem turn_range {P : Program} {w : World} {K : PySem.W.Frag} {tg : Expr} (it : Addr) (lo : Int) (n : Nat) : Turn P w K tg (Itr lo n) [it] it (fun i h => IsRangeIter h it (lo + (i : Nat) * 1) ((n : Int) - (i : Nat)) 1) where
  mem := by simp
  obj := fun i h st b hb => by
    have e : b = it := by simpa using hb
    subst e
    exact ⟨_, st, fun v z => by
      have z' : Data.fields _ = Data.cell v := z
      cases z'⟩
  keep := fun i h h' st k => k it (by simp) _ st
  item := by
    intro X hP hw hK hc i pins s σ H E I hf st hg
    subst hP hw hK
    obtain ⟨f0, f1, f2, f3, f4, f5⟩ := hf it (by simp)
    have W := Walks.range (prog := X.prog) (w := X.w) (I.ok.hd hc) it lo 1 n
    refine W.item i s _ _ hg st fun v h' tk hv st' kk => ?_
    obtain ⟨t, rfl⟩ := hv
    have I1 : Inv X pins σ H { s with heap := h', toks := tk } := I.turned (fun b o hb e => kk b o (by simpa using hb) e) f0 f1 f3 f4 f5
    refine ⟨_, rfl, go_of (s := { s with heap := h', toks := tk }) (n := "range_iterator") st' rfl rfl (by decide) ⟨.int (lo + i), H, I1, ⟨t, ?_⟩, ⟨rfl, rfl⟩, st', fun b hb => (hf b hb).1⟩⟩
    rw [Int.mul_one]
  done := by
    intro X hP hw hK hc i pins s σ H E I hf st hg
    subst hP hw hK
    obtain ⟨f0, f1, f2, f3, f4, f5⟩ := hf it (by simp)
    exact wpAny_pyNext_range_end (I.ok.hd hc) st (by have : n ≤ i := hg; omega) fun h' eb => ⟨rfl, I.turned (t' := s.toks) (fun b o hb e => eb b o hb e) f0 f1 f3 f4 f5⟩
  self := fun _ _ _ _ _ st h => wpAny_pyIter_rangeiter st h
end L2

namespace L2
open PySem PySem.Spec PyProof.Rows
section
variable {X : Cx} {tg : Expr}
def iList (K : PySem.W.Frag) (tl : TE) : TI := fun σ H R => tl σ H fun x H1 => ∃ a, x = .ref a ∧ (∃ xs, SqL K H1 a xs) ∧ R (Itl K a) H1
def iTup (K : PySem.W.Frag) (tl : TE) : TI := fun σ H R => tl σ H fun x H1 => ∃ a, x = .ref a ∧ (∃ xs, SqT K H1 a xs) ∧ R (Itt K a) H1
theorem pi_list {l : Expr} {tl : TE} (hl : PE X l tl) : PI X tg l (iList X.K tl) := by
  intro pins s σ H R I h
  refine thn (hl pins s σ H _ I h) fun v s1 ⟨x, H1, I1, r1, q1⟩ => ?_
  obtain ⟨a, e, ⟨xs, hq⟩, q⟩ := q1
  subst e
  cases r1
  obtain ⟨its, rv, p, hz⟩ := I1.list hq
  refine wpAny_pyIter_list p.isList ?_
  refine ⟨s1.heap.objs.size, [s1.heap.objs.size], _, _, H1, rfl, I1.kept (t' := s1.toks) fun b o e => Heap.get?_push_of_some _ e, turn_list a _, ⟨_, Heap.get?_push_size _ rfl, rfl, rfl⟩, fun b hb => ?_, q⟩
  have e : b = s1.heap.objs.size := by simpa using hb
  subst e
  exact I1.fpOk (Nat.le_refl _) (I1.hok.fresh (Nat.le_refl _))
theorem pi_tup {l : Expr} {tl : TE} (hl : PE X l tl) : PI X tg l (iTup X.K tl) := by
  intro pins s σ H R I h
  refine thn (hl pins s σ H _ I h) fun v s1 ⟨x, H1, I1, r1, q1⟩ => ?_
  obtain ⟨a, e, ⟨xs, hq⟩, q⟩ := q1
  subst e
  cases r1
  obtain ⟨its, rv, p, hz⟩ := I1.tuple hq
  refine wpAny_pyIter_tuple (show s1.heap.IsTuple a its.toArray from p) ?_
  refine ⟨s1.heap.objs.size, [s1.heap.objs.size], _, _, H1, rfl, I1.kept (t' := s1.toks) fun b o e => Heap.get?_push_of_some _ e, turn_tuple a _, ⟨_, Heap.get?_push_size _ rfl, rfl, rfl⟩, fun b hb => ?_, q⟩
  have e : b = s1.heap.objs.size := by simpa using hb
  subst e
  exact I1.fpOk (Nat.le_refl _) (I1.hok.fresh (Nat.le_refl _))
/-- a range object just made, walked -/
theorem range_it {pins : List (Addr × Obj)} {σ : St} {H : Hp} {s : Shared} {R : It → Hp → Prop} {E : Value → Shared → Prop} {lo hi : Int} {t u v : Tok} {tk : Nat} (I : Inv X pins σ H s) (h1 : -(2 ^ 62) ≤ lo) (h2 : lo < 2 ^ 62) (h3 : -(2 ^ 62) ≤ hi) (h4 : hi < 2 ^ 62)
    (q : R (Itr lo (hi - lo).toNat) H) : wpAny (model X.prog X.w) X.A (pyIter (.ref s.heap.objs.size)) (PIE X pins σ tg R) E { s with heap := s.heap.push { cls := .type "range", data := .fields #[.int lo t, .int hi u, .int 1 v] }, toks := tk } := by
  refine wpAny_pyIter_range (IsRange.new ..) (small_one h1 h2 h3 h4) ?_
  have I1 : Inv X pins σ H { s with heap := s.heap.push { cls := .type "range", data := .fields #[.int lo t, .int hi u, .int 1 v] }, toks := tk } := I.kept fun b o e => Heap.get?_push_of_some _ e
  refine ⟨(s.heap.push { cls := .type "range", data := .fields #[.int lo t, .int hi u, .int 1 v] }).objs.size, [(s.heap.push { cls := .type "range", data := .fields #[.int lo t, .int hi u, .int 1 v] }).objs.size], _, _, H, rfl,
    I1.kept (t' := tk) fun b o e => Heap.get?_push_of_some _ e, turn_range _ lo (hi - lo).toNat, ?_, fun b hb => ?_, q⟩
  · have e1 : lo + ((0 : Nat) : Int) * 1 = lo := by simp
    have e2 : (((hi - lo).toNat : Nat) : Int) - ((0 : Nat) : Int) = Builtin.Range.rangeSize lo hi 1 := by rw [rangeSize_one]; split <;> omega
    show IsRangeIter _ _ (lo + ((0 : Nat) : Int) * 1) ((((hi - lo).toNat : Nat) : Int) - ((0 : Nat) : Int)) 1
    rw [e1, e2]
    exact Heap.get?_push_size _ rfl
  · have e : b = (s.heap.push { cls := .type "range", data := .fields #[.int lo t, .int hi u, .int 1 v] }).objs.size := by simpa using hb
    subst e
    exact I1.fpOk (Nat.le_refl _) (I1.hok.fresh (Nat.le_refl _))
def iRng1 (ta : TA) : TI := fun σ H R => ta σ H fun vs H1 => ∃ j : Int, vs = [.int j] ∧ -(2 ^ 62) ≤ j ∧ j < 2 ^ 62 ∧ R (Itr 0 j.toNat) H1
theorem pi_range1 {a : Expr} {ta : TA} {p pos : Pos} (hg : Gl X "range") (hm : X.mg "range" = none) (ha : PA X [a] ta) (hs : starEach [a] X.env = [(false, eval a X.env)] := by rfl) : PI X tg (.Call (.Name "range" p) [a] [] pos) (iRng1 ta) := by
  intro pins s σ H R I h
  refine Call_ (ld_blt I hg hm boot_range (PyProof.Rows.callWith_type1 (thn (ha pos pins s σ H _ I h) fun us s1 ⟨vs, H1, I1, r1, q1⟩ => ?_) hs rfl))
  obtain ⟨j, e, q1, q2, q⟩ := q1
  subst e
  cases r1 with
  | cons r rr =>
    cases rr
    obtain ⟨t, rfl⟩ := r
    exact call_range_1 (range_it I1 (by omega) (by omega) q1 q2 (by simpa using q))
/-! ### for -/
/-- W: the invariant by the turn and a measure; N: what the body is to reach -/
def tFor (wi : TI) (g : TG) (tb : TS) : TS := fun D σ H => wi σ H fun J H1 => ∃ W : Nat → Nat → St → Hp → Prop, (∃ m, W 0 m σ H1) ∧ ∀ i m σ H, W i m σ H →
  (J.stop i H ∧ D.nx σ H) ∨ (J.go i H ∧ ∃ N : St → Hp → Prop, (∀ σ' H', N σ' H' → ∃ m', m' < m ∧ W (i + 1) m' σ' H') ∧ ∀ x H', J.yld i H x H' → g x σ H' fun σ2 H2 => tb { D with nx := N, ct := N, bk := D.nx } σ2 H2)
/-- the records at fp as they stand -/
def pinsAt (fp : List Addr) (h : Heap) : List (Addr × Obj) := fp.filterMap fun b => (h.get? b).map fun o => (b, o)
theorem mem_pinsAt {fp : List Addr} {h : Heap} {b : Addr} {o : Obj} (hb : b ∈ fp) (e : h.get? b = some o) : (b, o) ∈ pinsAt fp h := List.mem_filterMap.mpr ⟨b, hb, by rw [e]; rfl⟩
theorem of_pinsAt {fp : List Addr} {h : Heap} {p : Addr × Obj} (hp : p ∈ pinsAt fp h) : p.1 ∈ fp ∧ h.get? p.1 = some p.2 := by
  obtain ⟨b, hb, e⟩ := List.mem_filterMap.mp hp
  cases q : h.get? b with
  | none => rw [q] at e; cases e
  | some o =>
    rw [q] at e
    have e' : (b, o) = p := Option.some.inj e
    subst e'
    exact ⟨hb, q⟩
theorem Inv.pinned {pins : List (Addr × Obj)} {σ : St} {H : Hp} {s : Shared} {fp : List Addr} (I : Inv X pins σ H s) (hf : ∀ b ∈ fp, FpOk X pins H b) (ho : ∀ b ∈ fp, ∃ o, s.heap.get? b = some o ∧ ∀ v, o.data ≠ .cell v) : Inv X (pins ++ pinsAt fp s.heap) σ H s :=
  I.pins_of fun p hp => (List.mem_append.mp hp).elim (fun z => I.pin p (List.mem_append_right _ z)) fun z => by
    obtain ⟨hb, e⟩ := of_pinsAt z
    obtain ⟨f0, f1, f2, _⟩ := hf p.1 hb
    obtain ⟨o, e', d⟩ := ho p.1 hb
    rw [e] at e'; cases e'
    exact ⟨e, f0, f1, f2, d⟩
theorem Inv.unpinned {pins pl : List (Addr × Obj)} {σ : St} {H : Hp} {s : Shared} (I : Inv X (pins ++ pl) σ H s) : Inv X pins σ H s := I.pins_of fun p hp => I.pin p (List.mem_append_right _ (List.mem_append_left _ hp))
theorem ps_for {iter : Expr} {body : List Stmt} {wi : TI} {g : TG} {tb : TS} {pos : Pos} (hp : PassesOwn (model X.prog X.w) X.A X.env X.xe) (hc : X.calm = true) (hi : PI X tg iter wi) (hg : PG X tg g) (hb : PSs X body tb)
    (hs : ∀ x, foldedSetIterable iter X.env x = pure x := by intro _; rfl) : PS X (.For tg iter body [] pos) (tFor wi g tb) := by
  intro pins s σ H D I h
  refine wpAny_For (thn (hi pins s σ H _ I h) fun v s1 h1 => thn h1 fun itv s2 h2 => ?_) hs
  obtain ⟨it, fp, tn, J, H2, e, I2, T, st2, f2, W, ⟨m0, w0⟩, turn⟩ := h2
  subst e
  -- what stays true of the iterator's objects through the loop
  have stat : ∀ {H' : Hp}, (∀ b ∈ fp, H' b = none) → ∀ b ∈ fp, FpOk X pins H' b := fun hn b hb => ⟨hn b hb, (f2 b hb).2⟩
  refine codeAny_forLoop_any (fun n s' => ∃ i σ' H', Inv X pins σ' H' s' ∧ tn i s'.heap ∧ (∀ b ∈ fp, H' b = none) ∧ W i n σ' H') ?_ m0 ⟨0, σ, H2, I2, st2, fun b hb => (f2 b hb).1, w0⟩
  rintro n s3 ⟨i, σ3, H3, I3, st3, fr3, w3⟩
  rcases turn i n σ3 H3 w3 with ⟨stop, qn⟩ | ⟨go, N, hN, step⟩
  · refine wpAny_passesOwn hp (thn (T.done X rfl rfl rfl hc i pins s3 σ3 H3 X.xe I3 (stat fr3) st3 stop) fun r s4 ⟨hr, I4⟩ => ?_)
    subst hr
    exact wpAny_execs_nil ⟨σ3, H3, I4, qn⟩
  · refine wpAny_passesOwn hp (thn (T.item X rfl rfl rfl hc i pins s3 σ3 H3 X.xe I3 (stat fr3) st3 go) fun r s4 ⟨u, hr, h4⟩ => ?_)
    subst hr
    refine wpAny_passesOwn hp (thn h4 fun _ s5 ⟨x, H5, I5, r5, y5, st5, fr5⟩ => ?_)
    have I5' := I5.pinned (stat fr5) (T.obj _ _ st5)
    refine wpAny_passesOwn hp (thn (hg _ s5 σ3 H5 x u _ I5' r5 (step x H5 y5)) fun _ s6 ⟨σ6, H6, I6, q6⟩ => ?_)
    refine wpAny_passesOwn hp (thn (hb _ s6 σ6 H6 _ I6 q6) fun f s7 q7 => ?_)
    have again : ∀ {σ7 : St} {H7 : Hp}, Inv X (pins ++ pinsAt fp s5.heap) σ7 H7 s7 → N σ7 H7 → ∃ m, m < n ∧ ∃ i σ' H', Inv X pins σ' H' s7 ∧ tn i s7.heap ∧ (∀ b ∈ fp, H' b = none) ∧ W i m σ' H' := fun {σ7 H7} I7 n7 => by
      obtain ⟨m', hm, w7⟩ := hN σ7 H7 n7
      refine ⟨m', hm, i + 1, σ7, H7, I7.unpinned, T.keep _ _ _ st5 fun b hb o e => (I7.pin (b, o) (List.mem_append_right _ (List.mem_append_right _ (mem_pinsAt hb e)))).1, fun b hb => ?_, w7⟩
      obtain ⟨o, e, d⟩ := T.obj _ _ st5 b hb
      exact (I7.pin (b, o) (List.mem_append_right _ (List.mem_append_right _ (mem_pinsAt hb e)))).2.1
    cases f with
    | next => obtain ⟨σ7, H7, I7, n7⟩ := q7; exact again I7 n7
    | cont => obtain ⟨σ7, H7, I7, n7⟩ := q7; exact again I7 n7
    | brk => obtain ⟨σ7, H7, I7, q7⟩ := q7; exact ⟨σ7, H7, I7.unpinned, q7⟩
    | ret v => obtain ⟨x7, σ7, H7, I7, r7, q7⟩ := q7; exact ⟨x7, σ7, H7, I7.unpinned, r7, q7⟩
end

/-! ### the forms one uses -/
/-- over a list that the body leaves as it is -/
theorem for_list {K : PySem.W.Frag} {a : Addr} {xs : List V} {g : TG} {tb : TS} {D : Ends} {σ : St} {H : Hp} (Pv : Nat → St → Hp → Prop) (h0 : Pv 0 σ H) (hl : ∀ i σ H, i ≤ xs.length → Pv i σ H → SqL K H a xs)
    (hs : ∀ i x σ H, xs[i]? = some x → Pv i σ H → g x σ H fun σ2 H2 => tb { D with nx := Pv (i + 1), ct := Pv (i + 1), bk := D.nx } σ2 H2) (hd : ∀ σ H, Pv xs.length σ H → D.nx σ H) :
    ∃ W : Nat → Nat → St → Hp → Prop, (∃ m, W 0 m σ H) ∧ ∀ i m σ H, W i m σ H →
      ((Itl K a).stop i H ∧ D.nx σ H) ∨ ((Itl K a).go i H ∧ ∃ N : St → Hp → Prop, (∀ σ' H', N σ' H' → ∃ m', m' < m ∧ W (i + 1) m' σ' H') ∧ ∀ x H', (Itl K a).yld i H x H' → g x σ H' fun σ2 H2 => tb { D with nx := N, ct := N, bk := D.nx } σ2 H2) := by
  refine ⟨fun i m σ H => m = xs.length - i ∧ i ≤ xs.length ∧ Pv i σ H, ⟨xs.length, by simp, Nat.zero_le _, h0⟩, ?_⟩
  rintro i m σ H ⟨rfl, hi, p⟩
  have q := hl i σ H hi p
  by_cases hlt : i < xs.length
  · refine .inr ⟨⟨xs, xs[i], q, by simp [hlt]⟩, Pv (i + 1), fun σ' H' p' => ⟨xs.length - (i + 1), by omega, rfl, hlt, p'⟩, fun x H' y => ?_⟩
    obtain ⟨e, y⟩ := y
    subst e
    exact hs i x σ _ (y xs q) p
  · have e : i = xs.length := by omega
    subst e
    exact .inl ⟨⟨xs, q, Nat.le_refl _⟩, hd σ H p⟩
theorem for_tup {K : PySem.W.Frag} {a : Addr} {xs : List V} {g : TG} {tb : TS} {D : Ends} {σ : St} {H : Hp} (Pv : Nat → St → Hp → Prop) (h0 : Pv 0 σ H) (hl : ∀ i σ H, i ≤ xs.length → Pv i σ H → SqT K H a xs)
    (hs : ∀ i x σ H, xs[i]? = some x → Pv i σ H → g x σ H fun σ2 H2 => tb { D with nx := Pv (i + 1), ct := Pv (i + 1), bk := D.nx } σ2 H2) (hd : ∀ σ H, Pv xs.length σ H → D.nx σ H) :
    ∃ W : Nat → Nat → St → Hp → Prop, (∃ m, W 0 m σ H) ∧ ∀ i m σ H, W i m σ H →
      ((Itt K a).stop i H ∧ D.nx σ H) ∨ ((Itt K a).go i H ∧ ∃ N : St → Hp → Prop, (∀ σ' H', N σ' H' → ∃ m', m' < m ∧ W (i + 1) m' σ' H') ∧ ∀ x H', (Itt K a).yld i H x H' → g x σ H' fun σ2 H2 => tb { D with nx := N, ct := N, bk := D.nx } σ2 H2) := by
  refine ⟨fun i m σ H => m = xs.length - i ∧ i ≤ xs.length ∧ Pv i σ H, ⟨xs.length, by simp, Nat.zero_le _, h0⟩, ?_⟩
  rintro i m σ H ⟨rfl, hi, p⟩
  have q := hl i σ H hi p
  by_cases hlt : i < xs.length
  · refine .inr ⟨⟨xs, xs[i], q, by simp [hlt]⟩, Pv (i + 1), fun σ' H' p' => ⟨xs.length - (i + 1), by omega, rfl, hlt, p'⟩, fun x H' y => ?_⟩
    obtain ⟨e, y⟩ := y
    subst e
    exact hs i x σ _ (y xs q) p
  · have e : i = xs.length := by omega
    subst e
    exact .inl ⟨⟨xs, q, Nat.le_refl _⟩, hd σ H p⟩
theorem for_range {lo : Int} {n : Nat} {g : TG} {tb : TS} {D : Ends} {σ : St} {H : Hp} (Pv : Nat → St → Hp → Prop) (h0 : Pv 0 σ H)
    (hs : ∀ i σ H, i < n → Pv i σ H → g (.int (lo + i)) σ H fun σ2 H2 => tb { D with nx := Pv (i + 1), ct := Pv (i + 1), bk := D.nx } σ2 H2) (hd : ∀ σ H, Pv n σ H → D.nx σ H) :
    ∃ W : Nat → Nat → St → Hp → Prop, (∃ m, W 0 m σ H) ∧ ∀ i m σ H, W i m σ H →
      ((Itr lo n).stop i H ∧ D.nx σ H) ∨ ((Itr lo n).go i H ∧ ∃ N : St → Hp → Prop, (∀ σ' H', N σ' H' → ∃ m', m' < m ∧ W (i + 1) m' σ' H') ∧ ∀ x H', (Itr lo n).yld i H x H' → g x σ H' fun σ2 H2 => tb { D with nx := N, ct := N, bk := D.nx } σ2 H2) := by
  refine ⟨fun i m σ H => m = n - i ∧ i ≤ n ∧ Pv i σ H, ⟨n, by simp, Nat.zero_le _, h0⟩, ?_⟩
  rintro i m σ H ⟨rfl, hi, p⟩
  by_cases hlt : i < n
  · refine .inr ⟨hlt, Pv (i + 1), fun σ' H' p' => ⟨n - (i + 1), by omega, rfl, hlt, p'⟩, fun x H' y => ?_⟩
    obtain ⟨e, y⟩ := y
    subst e y
    exact hs i σ _ hlt p
  · have e : i = n := by omega
    subst e
    exact .inl ⟨Nat.le_refl _, hd σ H p⟩
/-- while, by a word and a measure of the state -/
theorem while_by {c : TT} {tb : TS} {D : Ends} {σ : St} {H : Hp} (Pv : St → Hp → Prop) (μ : St → Hp → Nat) (h0 : Pv σ H)
    (hs : ∀ σ H, Pv σ H → c σ H fun b H1 => if b = true then tb { D with nx := fun σ' H' => Pv σ' H' ∧ μ σ' H' < μ σ H, ct := fun σ' H' => Pv σ' H' ∧ μ σ' H' < μ σ H, bk := D.nx } σ H1 else D.nx σ H1)
    (mono : ∀ σ H Q Q', (∀ b H1, Q b H1 → Q' b H1) → c σ H Q → c σ H Q') : tWhile c tb D σ H := by
  refine ⟨fun m σ H => m = μ σ H ∧ Pv σ H, ⟨_, rfl, h0⟩, ?_⟩
  rintro m σ H ⟨rfl, p⟩
  refine mono σ H _ _ (fun b H1 q => ?_) (hs σ H p)
  cases b with
  | true => exact ⟨_, fun σ' H' ⟨p', l⟩ => ⟨_, l, rfl, p'⟩, q⟩
  | false => exact q
end L2

namespace L2
open PySem PySem.Spec PyProof.Rows

abbrev R2 := V → V → Hp → VK → Prop
/-- a two-place operation on values: f is binaryOp op, inplaceOp op or compareOp op -/
def OpR (X : Cx) (f : Value → Value → Sem Value) (r : R2) : Prop :=
  ∀ (pins : List (Addr × Obj)) (s : Shared) (σ : St) (H : Hp) (x y : V) (v u : Value) (Q : VK), Inv X pins σ H s → RelV x v → RelV y u → r x y H Q →
    wpAny (model X.prog X.w) X.A (f v u) (EP X pins σ Q) X.xe s
/-- a one-place operation -/
def UnR (X : Cx) (f : Value → Sem Value) (r : V → Hp → VK → Prop) : Prop :=
  ∀ (pins : List (Addr × Obj)) (s : Shared) (σ : St) (H : Hp) (x : V) (v : Value) (Q : VK), Inv X pins σ H s → RelV x v → r x H Q →
    wpAny (model X.prog X.w) X.A (f v) (EP X pins σ Q) X.xe s
/-- a call of a value that is known (a builtin, a type) with values -/
def CallR (X : Cx) (f : Value) (r : List V → Hp → VK → Prop) : Prop :=
  ∀ (pins : List (Addr × Obj)) (s : Shared) (σ : St) (H : Hp) (xs : List V) (us : List Value) (Q : VK), Inv X pins σ H s → Vals xs us → r xs H Q →
    wpAny (model X.prog X.w) X.A (call f us) (EP X pins σ Q) X.xe s
def tOp (r : R2) (ta tb : TE) : TE := fun σ H Q => ta σ H fun x H1 => tb σ H1 fun y H2 => r x y H2 Q
def tUn (r : V → Hp → VK → Prop) (ta : TE) : TE := fun σ H Q => ta σ H fun x H1 => r x H1 Q
/-- ints in, under C, and a value out -/
def rI (C : Int → Int → Prop) (g : Int → Int → V) : R2 := fun x y H Q => ∃ i j, x = .int i ∧ y = .int j ∧ C i j ∧ Q (g i j) H
def rI0 (g : Int → Int → V) : R2 := fun x y H Q => ∃ i j, x = .int i ∧ y = .int j ∧ Q (g i j) H
def rU (g : Int → V) : V → Hp → VK → Prop := fun x H Q => ∃ i, x = .int i ∧ Q (g i) H

section
variable {X : Cx} {a b c : Expr} {ta tb tc : TE} {pos : Pos}

theorem binT (ha : PE X a ta) (hb : PE X b tb) {pins : List (Addr × Obj)} {s : Shared} {σ : St} {H : Hp} {R : V → V → Hp → Prop} (I : Inv X pins σ H s)
    (h : ta σ H fun x H1 => tb σ H1 fun y H2 => R x y H2) {Q : Value → Shared → Prop} {f : Value → Value → Sem Value}
    (hf : ∀ v u s2 x y H2, Inv X pins σ H2 s2 → RelV x v → RelV y u → R x y H2 → wpAny (model X.prog X.w) X.A (f v u) Q X.xe s2) :
    wpAny (model X.prog X.w) X.A (eval a X.env) (fun v s₁ => wpAny (model X.prog X.w) X.A (eval b X.env) (fun u s₂ => wpAny (model X.prog X.w) X.A (f v u) Q X.xe s₂) X.xe s₁) X.xe s := by
  refine thn (ha pins s σ H _ I h) fun v s1 ⟨x, H1, I1, r1, q1⟩ => ?_
  refine thn (hb pins s1 σ H1 _ I1 q1) fun u s2 ⟨y, H2, I2, r2, q2⟩ => ?_
  exact hf v u s2 x y H2 I2 r1 r2 q2

theorem pe_op {op : Operator} {r : R2} (ho : OpR X (binaryOp op) r) (ha : PE X a ta) (hb : PE X b tb) : PE X (.BinOp a op b pos) (tOp r ta tb) := by
  intro pins s σ H Q I h
  exact wpAny_BinOp (binT ha hb I h fun v u s2 x y H2 I2 rx ry q => ho pins s2 σ H2 x y v u Q I2 rx ry q)
theorem pe_un {op : UnaryOp} {r : V → Hp → VK → Prop} (ho : UnR X (unaryOp op) r) (ha : PE X a ta) : PE X (.UnaryOp op a pos) (tUn r ta) := by
  intro pins s σ H Q I h
  exact UnaryOp_ (thn (ha pins s σ H _ I h) fun v s1 ⟨x, H1, I1, r1, q1⟩ => ho pins s1 σ H1 x v Q I1 r1 q1)
/-! ### ints -/
theorem opI {f : Value → Value → Sem Value} {C : Int → Int → Prop} {g : Int → Int → Int}
    (rule : ∀ (i j : Int) (t u : Tok) (s : Shared) (Q : Value → Shared → Prop) (E : Value → Shared → Prop), C i j → Q (.int (g i j) s.toks) { s with toks := s.toks + 1 } → wpAny (model X.prog X.w) X.A (f (.int i t) (.int j u)) Q E s) :
    OpR X f (rI C fun i j => .int (g i j)) := by
  intro pins s σ H x y v u Q I rx ry h
  obtain ⟨i, j, rfl, rfl, hc, q⟩ := h
  obtain ⟨t, rfl⟩ := rx
  obtain ⟨t', rfl⟩ := ry
  exact rule i j t t' s _ _ hc ⟨.int (g i j), H, I.tok _, ⟨_, rfl⟩, q⟩
theorem opI0 {f : Value → Value → Sem Value} {g : Int → Int → Int}
    (rule : ∀ (i j : Int) (t u : Tok) (s : Shared) (Q : Value → Shared → Prop) (E : Value → Shared → Prop), Q (.int (g i j) s.toks) { s with toks := s.toks + 1 } → wpAny (model X.prog X.w) X.A (f (.int i t) (.int j u)) Q E s) :
    OpR X f (rI0 fun i j => .int (g i j)) := by
  intro pins s σ H x y v u Q I rx ry h
  obtain ⟨i, j, rfl, rfl, q⟩ := h
  obtain ⟨t, rfl⟩ := rx
  obtain ⟨t', rfl⟩ := ry
  exact rule i j t t' s _ _ ⟨.int (g i j), H, I.tok _, ⟨_, rfl⟩, q⟩
theorem opB0 {f : Value → Value → Sem Value} {g : Int → Int → Bool}
    (rule : ∀ (i j : Int) (t u : Tok) (s : Shared) (Q : Value → Shared → Prop) (E : Value → Shared → Prop), Q (.bool (g i j)) s → wpAny (model X.prog X.w) X.A (f (.int i t) (.int j u)) Q E s) :
    OpR X f (rI0 fun i j => .bl (g i j)) := by
  intro pins s σ H x y v u Q I rx ry h
  obtain ⟨i, j, rfl, rfl, q⟩ := h
  obtain ⟨t, rfl⟩ := rx
  obtain ⟨t', rfl⟩ := ry
  exact rule i j t t' s _ _ ⟨.bl (g i j), H, I, rfl, q⟩

def CDiv (i j : Int) : Prop := 0 < j ∧ j < 1073741824
def CPow (i j : Int) : Prop := 0 ≤ j ∧ j ≤ 1000000 ∧ i.natAbs < 2 ^ 64
def CMul (i j : Int) : Prop := (-(2 ^ 64) < i ∧ i < 2 ^ 64) ∨ (-(2 ^ 64) < j ∧ j < 2 ^ 64)
theorem CMul.ok {i j : Int} (h : CMul i j) : IntMulOk i j := by
  rcases h with ⟨h1, h2⟩ | ⟨h1, h2⟩
  · exact .of_left (intBits_le_64 h1 h2)
  · exact .of_right (intBits_le_64 h1 h2)
theorem op_add : OpR X (binaryOp .Add) (rI0 fun i j => .int (i + j)) := opI0 fun _ _ _ _ _ _ _ q => add_int q
theorem op_sub : OpR X (binaryOp .Sub) (rI0 fun i j => .int (i - j)) := opI0 fun _ _ _ _ _ _ _ q => sub_int q
theorem op_mul : OpR X (binaryOp .Mult) (rI CMul fun i j => .int (i * j)) := opI fun _ _ _ _ _ _ _ hc q => mul_int q hc.ok
/-- // by a positive divisor -/
theorem op_fdiv : OpR X (binaryOp .FloorDiv) (rI CDiv fun i j => .int (i / j)) := opI fun i j _ _ _ _ _ hc q => by
  have h1 : (0 : Int) < j := hc.1
  have h2 : j < 1073741824 := hc.2
  exact floordiv_int (by omega) (by rw [Int.fdiv_eq_ediv_of_nonneg i (by omega)]; exact q) (.inl (PyProof.noPylong_small (by omega)))
/-- % by a positive divisor of any size -/
theorem op_mod : OpR X (binaryOp .Mod) (rI (fun _ j => 0 < j) fun i j => .int (i % j)) := opI fun i j _ _ _ _ _ hc q => by
  have h1 : (0 : Int) < j := hc
  exact mod_int' (by omega) (by rw [Int.fmod_eq_emod_of_nonneg i (by omega)]; exact q)
theorem op_pow : OpR X (binaryOp .Pow) (rI CPow fun i j => .int (i ^ j.toNat)) := opI fun _ _ _ _ _ _ _ hc q => pow_int_small hc.1 hc.2.1 hc.2.2 q
theorem unI {f : Value → Sem Value} {g : Int → Int}
    (rule : ∀ (i : Int) (t : Tok) (s : Shared) (Q : Value → Shared → Prop) (E : Value → Shared → Prop), Q (.int (g i) s.toks) { s with toks := s.toks + 1 } → wpAny (model X.prog X.w) X.A (f (.int i t)) Q E s) :
    UnR X f (rU fun i => .int (g i)) := by
  intro pins s σ H x v Q I rx h
  obtain ⟨i, rfl, q⟩ := h
  obtain ⟨t, rfl⟩ := rx
  exact rule i t s _ _ ⟨.int (g i), H, I.tok _, ⟨_, rfl⟩, q⟩
theorem un_neg : UnR X (unaryOp .USub) (rU fun i => .int (-i)) := unI fun _ _ _ _ _ q => neg_int q
/-! ### bools among ints: n += (a < b) -/
end

/-! ### comparisons -/
/-- the scalars that == tells apart as data does -/
def scal : V → V → Bool
  | .non, .non => true | .non, .int _ => true | .int _, .non => true | .non, .bl _ => true | .bl _, .non => true | .non, .str _ => true | .str _, .non => true
  | .int _, .int _ => true | .bl _, .bl _ => true | .str _, .str _ => true | .byt _, .byt _ => true
  | .int _, .str _ => true | .str _, .int _ => true | .bl _, .str _ => true | .str _, .bl _ => true
  | _, _ => false
def rEq : R2 := fun x y H Q => scal x y = true ∧ Q (.bl (decide (x = y))) H
def rNe : R2 := fun x y H Q => scal x y = true ∧ Q (.bl (!decide (x = y))) H

theorem dec_int {i j : Int} : decide (V.int i = V.int j) = (i == j) := by
  rw [Bool.eq_iff_iff]
  simp
theorem dec_bl {i j : Bool} : decide (V.bl i = V.bl j) = (i == j) := by
  rw [Bool.eq_iff_iff]
  simp
theorem dec_str {i j : Str} : decide (V.str i = V.str j) = (i == j) := by
  rw [Bool.eq_iff_iff]
  simp
theorem dec_byt {i j : Array UInt8} : decide (V.byt i = V.byt j) = (i.toList == j.toList) := by
  rw [Bool.eq_iff_iff]
  cases i
  cases j
  simp

section
variable {X : Cx} {a b c : Expr} {ta tb tc : TE} {pos : Pos}
theorem fin_bl {pins : List (Addr × Obj)} {σ : St} {H : Hp} {s : Shared} {Q : VK} {k k' : Bool} (I : Inv X pins σ H s) (q : Q (.bl k) H) (e : k = k') : EP X pins σ Q (.bool k') s := by
  subst e
  exact ⟨.bl k, H, I, rfl, q⟩
theorem op_eq : OpR X (compareOp .Eq) rEq := by
  intro pins s σ H x y v u Q I rx ry h
  obtain ⟨hs, q⟩ := h
  cases x with
  | non =>
    cases rx
    cases y with
    | non => cases ry; exact PySem.EqNone.eq_none_none (fin_bl I q (by simp))
    | bl j => cases ry; exact PySem.EqNone.eq_none_bool (fin_bl I q (by simp))
    | int j => obtain ⟨t', rfl⟩ := ry; exact PySem.EqNone.eq_none_int (fin_bl I q (by simp))
    | str j => obtain ⟨t', rfl⟩ := ry; exact PySem.EqNone.eq_none_str (fin_bl I q (by simp))
    | _ => exact absurd (show false = true from hs) Bool.false_ne_true
  | bl i =>
    cases rx
    cases y with
    | non => cases ry; exact PySem.EqNone.eq_bool_none (fin_bl I q (by simp))
    | bl j => cases ry; exact eq_bool (fin_bl I q dec_bl)
    | str j => obtain ⟨t', rfl⟩ := ry; exact PySem.EqMixed.eq_bool_str (fin_bl I q (by simp))
    | _ => exact absurd (show false = true from hs) Bool.false_ne_true
  | int i =>
    obtain ⟨t, rfl⟩ := rx
    cases y with
    | non => cases ry; exact PySem.EqNone.eq_int_none (fin_bl I q (by simp))
    | int j => obtain ⟨t', rfl⟩ := ry; exact eq_int (fin_bl I q dec_int)
    | str j => obtain ⟨t', rfl⟩ := ry; exact PySem.EqMixed.eq_int_str (fin_bl I q (by simp))
    | _ => exact absurd (show false = true from hs) Bool.false_ne_true
  | str i =>
    obtain ⟨t, rfl⟩ := rx
    cases y with
    | non => cases ry; exact PySem.EqNone.eq_str_none (fin_bl I q (by simp))
    | bl j => cases ry; exact PySem.EqMixed.eq_str_bool (fin_bl I q (by simp))
    | int j => obtain ⟨t', rfl⟩ := ry; exact PySem.EqMixed.eq_str_int (fin_bl I q (by simp))
    | str j => obtain ⟨t', rfl⟩ := ry; exact eq_str (fin_bl I q dec_str)
    | _ => exact absurd (show false = true from hs) Bool.false_ne_true
  | byt i =>
    obtain ⟨t, rfl⟩ := rx
    cases y with
    | byt j => obtain ⟨t', rfl⟩ := ry; exact PySem.W.eq_bytes (fin_bl I q dec_byt)
    | _ => exact absurd (show false = true from hs) Bool.false_ne_true
  | _ => cases y <;> exact absurd (show false = true from hs) Bool.false_ne_true
theorem op_ne : OpR X (compareOp .NotEq) rNe := by
  intro pins s σ H x y v u Q I rx ry h
  obtain ⟨hs, q⟩ := h
  cases x with
  | non =>
    cases rx
    cases y with
    | non => cases ry; exact PySem.EqNone.ne_none_none (fin_bl I q (by simp))
    | bl j => cases ry; exact PySem.EqNone.ne_none_bool (fin_bl I q (by simp))
    | int j => obtain ⟨t', rfl⟩ := ry; exact PySem.EqNone.ne_none_int (fin_bl I q (by simp))
    | str j => obtain ⟨t', rfl⟩ := ry; exact PySem.EqNone.ne_none_str (fin_bl I q (by simp))
    | _ => exact absurd (show false = true from hs) Bool.false_ne_true
  | bl i =>
    cases rx
    cases y with
    | non => cases ry; exact PySem.EqNone.ne_bool_none (fin_bl I q (by simp))
    | bl j => cases ry; exact ne_bool (fin_bl I q (congrArg not dec_bl))
    | str j => obtain ⟨t', rfl⟩ := ry; exact PySem.EqMixed.ne_bool_str (fin_bl I q (by simp))
    | _ => exact absurd (show false = true from hs) Bool.false_ne_true
  | int i =>
    obtain ⟨t, rfl⟩ := rx
    cases y with
    | non => cases ry; exact PySem.EqNone.ne_int_none (fin_bl I q (by simp))
    | int j => obtain ⟨t', rfl⟩ := ry; exact ne_int (fin_bl I q (congrArg not dec_int))
    | str j => obtain ⟨t', rfl⟩ := ry; exact PySem.EqMixed.ne_int_str (fin_bl I q (by simp))
    | _ => exact absurd (show false = true from hs) Bool.false_ne_true
  | str i =>
    obtain ⟨t, rfl⟩ := rx
    cases y with
    | non => cases ry; exact PySem.EqNone.ne_str_none (fin_bl I q (by simp))
    | bl j => cases ry; exact PySem.EqMixed.ne_str_bool (fin_bl I q (by simp))
    | int j => obtain ⟨t', rfl⟩ := ry; exact PySem.EqMixed.ne_str_int (fin_bl I q (by simp))
    | str j => obtain ⟨t', rfl⟩ := ry; exact ne_str (fin_bl I q (congrArg not dec_str))
    | _ => exact absurd (show false = true from hs) Bool.false_ne_true
  | byt i =>
    obtain ⟨t, rfl⟩ := rx
    cases y with
    | byt j => obtain ⟨t', rfl⟩ := ry; exact PySem.W.ne_bytes (fin_bl I q (congrArg not dec_byt))
    | _ => exact absurd (show false = true from hs) Bool.false_ne_true
  | _ => cases y <;> exact absurd (show false = true from hs) Bool.false_ne_true

theorem op_lt : OpR X (compareOp .Lt) (rI0 fun i j => .bl (decide (i < j))) := opB0 fun _ _ _ _ _ _ _ q => lt_int q
theorem op_gt : OpR X (compareOp .Gt) (rI0 fun i j => .bl (decide (j < i))) := opB0 fun _ _ _ _ _ _ _ q => gt_int q
theorem op_ge : OpR X (compareOp .GtE) (rI0 fun i j => .bl (decide (j ≤ i))) := opB0 fun _ _ _ _ _ _ _ q => ge_int q
/-- is None, is not None: the right side a value none -/
theorem op_isN : OpR X (compareOp .Is) (fun x y H Q => y = .non ∧ Q (.bl (decide (x = .non))) H) := by
  intro pins s σ H x y v u Q I rx ry h
  obtain ⟨rfl, q⟩ := h
  cases ry
  refine is_none_gen (fin_bl I q ?_)
  cases x <;> first
    | (cases rx; rfl)
    | (obtain ⟨t, rfl⟩ := rx; rfl)
theorem op_notN : OpR X (compareOp .IsNot) (fun x y H Q => y = .non ∧ Q (.bl (!decide (x = .non))) H) := by
  intro pins s σ H x y v u Q I rx ry h
  obtain ⟨rfl, q⟩ := h
  cases ry
  refine isnot_none_gen (fin_bl I q ?_)
  cases x <;> first
    | (cases rx; rfl)
    | (obtain ⟨t, rfl⟩ := rx; rfl)

theorem nomark (b : Expr) {op : CmpOp} (h : op ≠ .In := by decide) (h2 : op ≠ .NotIn := by decide) : behindInMarks op b = false := by
  have e1 : (op == CmpOp.In) = false := by cases op <;> first | rfl | exact absurd rfl h
  have e2 : (op == CmpOp.NotIn) = false := by cases op <;> first | rfl | exact absurd rfl h2
  cases b <;> simp [behindInMarks, e1, e2]
/-- a comparison as a value; hm: nomark b, or (for in, not in) by with_unfolding_all rfl -/
theorem pe_cmpR {op : CmpOp} {r : R2} (ho : OpR X (compareOp op) r) (ha : PE X a ta) (hb : PE X b tb) (hm : behindInMarks op b = false) : PE X (.Compare a [op] [b] pos) (tOp r ta tb) := by
  intro pins s σ H Q I h
  exact wpAny_Compare1 (binT ha hb I h fun v u s2 x y H2 I2 rx ry q => ho pins s2 σ H2 x y v u Q I2 rx ry q) hm
/-- a reading of a value as a test -/
def tTest (t : TE) : TT := fun σ H Q => t σ H fun x H' => ∃ k, x = .bl k ∧ Q k H'
theorem pt_cmpR {op : CmpOp} {r : R2} (ho : OpR X (compareOp op) r) (ha : PE X a ta) (hb : PE X b tb) (hm : behindInMarks op b = false) : PT X (.Compare a [op] [b] pos) (tTest (tOp r ta tb)) := by
  intro pins s σ H Q I h
  refine wpAny_isTrue_Compare1 (thn (ha pins s σ H _ I h) fun v s1 ⟨x, H1, I1, r1, q1⟩ => thn (hb pins s1 σ H1 _ I1 q1) fun u s2 ⟨y, H2, I2, r2, q2⟩ =>
    thn (ho pins s2 σ H2 x y v u _ I2 r1 r2 q2) fun c s3 ⟨z, H3, I3, r3, k, e, q3⟩ => ?_) hm
  subst e
  cases r3
  exact wpAny_truthy_bool ⟨H3, I3, q3⟩
/-! ### truth -/
theorem line63 : (sizeLine : Nat) < 2 ^ 63 := by rw [sizeLine_eq]; decide
/-! ### strs and bytes -/
/-! ### scalar builtins, by CallR -/
theorem vals1 {x : V} {us : List Value} (r : Vals [x] us) : ∃ u, us = [u] ∧ RelV x u := by
  cases r with
  | cons r1 r2 => cases r2; exact ⟨_, rfl, r1⟩
theorem vals2 {x y : V} {us : List Value} (r : Vals [x, y] us) : ∃ u w', us = [u, w'] ∧ RelV x u ∧ RelV y w' := by
  cases r with
  | cons r1 r2 =>
    cases r2 with
    | cons r3 r4 => cases r4; exact ⟨_, _, rfl, r1, r3⟩
theorem call_abs : CallR X (.builtin "abs") (fun xs H Q => ∃ i, xs = [.int i] ∧ Q (.int (if i < 0 then -i else i)) H) := by
  intro pins s σ H xs us Q I r h
  obtain ⟨i, rfl, q⟩ := h
  obtain ⟨u, rfl, t, rfl⟩ := vals1 r
  exact call_abs_int fun u tk => ⟨.int (if i < 0 then -i else i), H, I.tok _, ⟨_, rfl⟩, q⟩
/-- len of a str, a bytes, a list, a tuple -/
def LenV (K : PySem.W.Frag) (x : V) (H : Hp) (n : Nat) : Prop :=
  match x with
  | .str y => y.length ≤ sizeLine ∧ n = y.length
  | .byt y => y.size ≤ sizeLine ∧ n = y.size
  | .ref p => (∃ xs, SqL K H p xs ∧ n = xs.length) ∨ ∃ xs, SqT K H p xs ∧ n = xs.length
  | _ => False
theorem call_len : CallR X (.builtin "len") (fun xs H Q => ∃ x n, xs = [x] ∧ LenV X.K x H n ∧ Q (.int n) H) := by
  intro pins s σ H xs us Q I r h
  obtain ⟨x, n, rfl, e, q⟩ := h
  obtain ⟨u, rfl, rx⟩ := vals1 r
  have hl := line63
  have hs : sizeLine = 16777216 := sizeLine_eq
  cases x with
  | str y =>
    obtain ⟨t, rfl⟩ := rx
    obtain ⟨hy, e'⟩ : y.length ≤ sizeLine ∧ n = y.length := e
    subst e'
    exact len_str (by omega) ⟨.int _, H, I.tok _, ⟨_, rfl⟩, q⟩
  | byt y =>
    obtain ⟨t, rfl⟩ := rx
    obtain ⟨hy, e'⟩ : y.size ≤ sizeLine ∧ n = y.size := e
    subst e'
    exact PySem.W.len_bytes (by omega) ⟨.int _, H, I.tok _, ⟨_, rfl⟩, q⟩
  | ref p =>
    cases rx
    have e' : (∃ xs, SqL X.K H p xs ∧ n = xs.length) ∨ ∃ xs, SqT X.K H p xs ∧ n = xs.length := e
    rcases e' with ⟨xs, hx, e'⟩ | ⟨xs, hx, e'⟩
    · subst e'
      obtain ⟨its, r', pl, hz⟩ := I.list hx
      have hlen := r'.length
      exact Calls.call_len_list pl.isList (by simp only [List.size_toArray]; omega) ⟨.int xs.length, H, I.tok _, ⟨_, by simp only [List.size_toArray]; rw [hlen]⟩, q⟩
    · subst e'
      obtain ⟨its, r', pl, hz⟩ := I.tuple hx
      have hlen := r'.length
      exact len_tuple pl (by simp only [List.size_toArray]; omega) ⟨.int xs.length, H, I.tok _, ⟨_, by simp only [List.size_toArray]; rw [hlen]⟩, q⟩
  | _ => exact (show False from e).elim
end
end L2

namespace L2
open PySem PySem.Spec PyProof.Rows

/-! ### an instance, its attributes a map -/
structure ObjM (h : Heap) (x dx C : Addr) (mA : Str → Option Value) : Prop where
  obj : h.get? x = some (PySem.W.instObj C dx)
  ns : h.Ns1 dx mA
  ne : dx ≠ x

theorem lookIn_ns {h : Heap} {dx : Addr} {mA : Str → Option Value} (n : h.Ns1 dx mA) : ∃ od, h.get? dx = some od ∧ ∀ name, PySem.W.lookIn name od = some (mA name) := by
  obtain ⟨o, es, ep, ho, hd, hk, _, hm⟩ := n
  refine ⟨o, ho, fun name => ?_⟩
  have e := hm name
  unfold nsFind findBy at e
  rw [← Array.find?_toList] at e
  unfold PySem.W.lookIn
  rw [hd]
  dsimp only
  split
  · rename_i y q
    rw [q] at e
    exact congrArg some e
  · rename_i q
    rw [q] at e
    have a : es.toList.any (·.refKey) = false := by
      rw [List.any_eq_false]
      intro y hy
      obtain ⟨z, t, hkey⟩ := hk y (Array.mem_toList_iff.mp hy)
      simp [DictEntry.refKey, hkey]
    have a' : ¬ es.toList.any (·.refKey) = true := by rw [a]; exact Bool.false_ne_true
    rw [if_neg a']
    exact congrArg some e

theorem ObjM.look {h : Heap} {x dx C : Addr} {mA : Str → Option Value} (I : ObjM h x dx C mA) : ∃ od, PySem.W.InstAt h x (PySem.W.instObj C dx) C (some od) ∧ ∀ name, PySem.W.lookIn name od = some (mA name) :=
  let ⟨od, ho, hl⟩ := lookIn_ns I.ns
  ⟨od, ⟨I.obj, rfl, rfl, ho⟩, hl⟩

section
variable {prog : Program} {w : World} {A : Around} {E : Value → Shared → Prop} {s : Shared} {K : PySem.W.Frag} {x dx C f : Addr} {mA : Str → Option Value} {name : Str} {v : Value}

theorem get_map {expr : Bool} {Q : Value → Shared → Prop} (X : K.In s.heap) (I : ObjM s.heap x dx C mA) (hg : PySem.W.plainGet K C name = true) (hh : PySem.W.hasDictIn K C = true)
    (ha : PySem.W.findIn K (.ref C) name = some none) (hv : mA name = some v) (hv' : PySem.W.handedIn v = true) (h : Q v { s with toks := s.toks + 1 }) :
    wpAny (model prog w) A (getAttr (.ref x) name expr) Q E s := by
  obtain ⟨od, J, hl⟩ := I.look
  exact PySem.W.get_value X J (PySem.W.plainGet_of hg).1 (PySem.W.findObj_own hh ha rfl (by rw [hl, hv])) hv' h

theorem get_meth {pl : Sem Bool} {Q : Value × List Value → Shared → Prop} (X : K.In s.heap) (I : ObjM s.heap x dx C mA) (hg : PySem.W.plainGet K C name = true)
    (hf : PySem.W.findIn K (.ref C) name = some (some (.ref f))) (ht : PySem.W.isFn K (.ref f) = true) (hv : mA name = none) (h : Q (.ref f, [.ref x]) s) :
    wpAny (model prog w) A (getMethod (.ref x) name pl) Q E s := by
  obtain ⟨od, J, hl⟩ := I.look
  exact PySem.W.method_fn X J (PySem.W.plainGet_of hg).1 (PySem.W.plainGet_of hg).2 hf (beq_iff_eq.mp ht) (by show (PySem.W.lookIn name od).map (·.isSome) = some false; rw [hl, hv]; rfl) h

theorem set_map {ns : List Str} {Q : Unit → Shared → Prop} (X : K.In s.heap) (I : ObjM s.heap x dx C mA)
    (hs : PySem.W.findIn K (.ref C) "__setattr__" = some (some (.builtin "object.__setattr__"))) (hp : PySem.W.plainOver K C = true) (ht : PySem.W.takerIn K C name = some none) (hh : PySem.W.hasDictIn K C = true)
    (hw : PySem.Within mA ns) (hsz : ns.length ≤ sizeLine)
    (h : ∀ h', ObjM h' x dx C (fun y => if y = name then some v else mA y) → Heap.SameBut dx s.heap h' → Q () { s with heap := h', toks := s.toks + 2 }) :
    wpAny (model prog w) A (setAttr (.ref x) name v) Q E s := by
  obtain ⟨od, J, hl⟩ := I.look
  refine PySem.W.set_plain X J hs (PySem.W.osa_open (s := { s with toks := s.toks + 1 }) (r := none) X J hp ht fun b => ?_)
  obtain ⟨cd, hc, hd'⟩ := PySem.W.any_some hh
  have hx : s.heap.get? x = some ⟨.ref C, some dx, .plain, #[]⟩ := I.obj
  refine wpAny_bind (wpAny_pure (wpAny_bind (wpAny_bind (wpAny_loadPart hx (wpAny_bind (PySem.W.Looks.here (s := { s with toks := s.toks + 1 }) (PySem.W.looks_clsIn X hc) ?_))))))
  rw [hd']
  refine wpAny_pure (a := some dx) (wpAny_bind (wpAny_pure (wpAny_bind ?_)))
  refine wpAny_nsSet1 (s := { s with toks := s.toks + 1 }) I.ns fun h' hn2 hs2 => ?_
  obtain ⟨oD, esD, epD, hoD, hdD, hcD⟩ := hn2.count (PySem.Within.cons name v hw)
  refine wpAny_bind (wpAny_lookBehind hoD (by rw [hdD]; exact pastItsLine_dict (Nat.le_trans hcD (by rw [List.length_cons]; omega))) ?_)
  exact wpAny_pure (h _ ⟨(hs2.2 _ (Ne.symm I.ne)).trans I.obj, hn2, I.ne⟩ hs2)

/-- C(..): the dict at the heap's end, the instance behind it; then its __init__ -/
theorem make_map {R : Result → Shared → Prop} {vs : List Value} {kw : List (Str × Value)} (X : K.In s.heap) (hm : PySem.W.makesIn K C = true)
    (hi : PySem.W.findIn K (.ref C) "__init__" = some (some (.ref f))) (hf : PySem.W.typeIn K (.ref f) = some (.type "function"))
    (h : codeAny (model prog w) (A.under (.builtin "type.__call__" ⟨.ref C :: vs, kw⟩)) (.call (.ref f) ⟨.ref (s.heap.objs.size + 1) :: vs, kw⟩) (PySem.W.InitBack (s.heap.objs.size + 1) R)
      { s with heap := (s.heap.push PySem.W.emptyDict).push (PySem.W.instObj C s.heap.objs.size) }) :
    codeAny (model prog w) A (.call (.ref C) ⟨vs, kw⟩) R s := by
  obtain ⟨hh, g, d, t, os⟩ := s
  exact PySem.W.make_core (PySem.W.makes_of X hm) (PySem.W.looks_findIn X hi) (fun self => PySem.W.bind_fn X self hf) (.inl rfl) h
end

/-! ### the attributes as a list of pairs -/
def putF (f : Str) (v : V) : List (Str × V) → List (Str × V)
  | [] => [(f, v)]
  | (g, x) :: r => if g = f then (g, v) :: r else (g, x) :: putF f v r
theorem lookup_putF (f g : Str) (v : V) : ∀ fs : List (Str × V), (putF f v fs).lookup g = if g = f then some v else fs.lookup g
  | [] => by
    show List.lookup g [(f, v)] = _
    by_cases h : g = f
    · have hb : (g == f) = true := beq_iff_eq.mpr h
      simp only [List.lookup, hb, if_pos h]
    · have hb : (g == f) = false := beq_eq_false_iff_ne.mpr h
      simp only [List.lookup, hb, if_neg h]
  | (k, x) :: r => by
    have ih := lookup_putF f g v r
    rw [show putF f v ((k, x) :: r) = (if k = f then (k, v) :: r else (k, x) :: putF f v r) from rfl]
    by_cases hk : k = f
    · rw [if_pos hk]
      by_cases h : g = k
      · have hb : (g == k) = true := beq_iff_eq.mpr h
        simp only [List.lookup, hb, if_pos (h.trans hk)]
      · have hb : (g == k) = false := beq_eq_false_iff_ne.mpr h
        simp only [List.lookup, hb, if_neg (fun e : g = f => h (e.trans hk.symm))]
    · rw [if_neg hk]
      by_cases h : g = k
      · have hb : (g == k) = true := beq_iff_eq.mpr h
        simp only [List.lookup, hb, if_neg (fun e : g = f => hk (h.symm.trans e))]
      · have hb : (g == k) = false := beq_eq_false_iff_ne.mpr h
        simp only [List.lookup, hb]
        exact ih
theorem keys_putF (f : Str) (v : V) : ∀ fs : List (Str × V), f ∈ (putF f v fs).map (·.1) ∧ ∀ g, g ∈ fs.map (·.1) → g ∈ (putF f v fs).map (·.1)
  | [] => ⟨by simp [putF], fun g h => by simp at h⟩
  | (k, x) :: r => by
    obtain ⟨i1, i2⟩ := keys_putF f v r
    rw [show putF f v ((k, x) :: r) = (if k = f then (k, v) :: r else (k, x) :: putF f v r) from rfl]
    by_cases hk : k = f
    · rw [if_pos hk]
      subst hk
      exact ⟨by simp, fun g h => by simpa using h⟩
    · rw [if_neg hk]
      refine ⟨?_, fun g h => ?_⟩
      · rw [List.map_cons]
        exact List.mem_cons_of_mem _ i1
      · rw [List.map_cons] at h ⊢
        rcases List.mem_cons.mp h with e | e
        · exact List.mem_cons.mpr (.inl e)
        · exact List.mem_cons_of_mem _ (i2 g e)
theorem length_putF (f : Str) (v : V) : ∀ fs : List (Str × V), (putF f v fs).length ≤ fs.length + 1
  | [] => by simp [putF]
  | (k, x) :: r => by
    have ih := length_putF f v r
    rw [show putF f v ((k, x) :: r) = (if k = f then (k, v) :: r else (k, x) :: putF f v r) from rfl]
    by_cases hk : k = f
    · rw [if_pos hk, List.length_cons, List.length_cons]; omega
    · rw [if_neg hk, List.length_cons, List.length_cons]; omega

theorem RelO.some_of {v : V} {o : Option Value} (r : RelO (some v) o) : ∃ u, o = some u ∧ RelV v u := by
  cases o with
  | none => exact (show False from r).elim
  | some u => exact ⟨u, rfl, r⟩
theorem RelO.none_of {o : Option Value} (r : RelO none o) : o = none := by
  cases o with
  | none => rfl
  | some u => exact (show False from r).elim
theorem handed_of {v : V} {u : Value} (r : RelV v u) : PySem.W.handedIn u = true := by
  cases v with
  | non => cases (show u = Value.none from r); rfl
  | bl b => cases (show u = Value.bool b from r); rfl
  | int i => obtain ⟨t, e⟩ := (show ∃ t, u = Value.int i t from r); cases e; rfl
  | str x => obtain ⟨t, e⟩ := (show ∃ t, u = Value.str x t from r); cases e; rfl
  | byt b => obtain ⟨t, e⟩ := (show ∃ t, u = Value.bytes b t from r); cases e; rfl
  | flt b => obtain ⟨t, e⟩ := (show ∃ t, u = Value.float b t from r); cases e; rfl
  | ref a => cases (show u = Value.ref a from r); rfl
  | ty n => cases (show u = Value.type n from r); rfl

section
variable {P : Program} {w : World} {H H' : Hp} {h h' : Heap} {a C dx : Addr} {fs fs' : List (Str × V)}
theorem ins_get (hok : HOk P w H h) (e : H a = some (.ins C dx fs)) : ∃ mA, ObjM h a dx C mA ∧ (∀ f, RelO (fs.lookup f) (mA f)) ∧ PySem.Within mA (fs.map (·.1)) ∧ fs.length ≤ 1000 ∧ H dx = some (.own a) := by
  obtain ⟨d, z, ne, ob, mA, n, r, q⟩ := (show ObjOk P w H h a (.ins C dx fs) from hok a _ e)
  exact ⟨mA, ⟨ob, n, ne⟩, r, q, z, d⟩
end

/-! ### what of the text a class must have -/
structure Cls (K : PySem.W.Frag) (C : Addr) : Prop where
  pg : PySem.W.plainGet K C Str.empty = true
  hd : PySem.W.hasDictIn K C = true
  po : PySem.W.plainOver K C = true
  sa : PySem.W.findIn K (.ref C) "__setattr__" = some (some (.builtin "object.__setattr__"))
theorem Cls.get {K : PySem.W.Frag} {C : Addr} (c : Cls K C) (f : Str) : PySem.W.plainGet K C f = true := c.pg
/-- no class of it has the name -/
def NoAttr (K : PySem.W.Frag) (C : Addr) (f : Str) : Prop := PySem.W.findIn K (.ref C) f = some none
theorem NoAttr.taker {K : PySem.W.Frag} {C : Addr} {f : Str} (n : NoAttr K C f) : PySem.W.takerIn K C f = some none := by
  unfold PySem.W.takerIn
  rw [show PySem.W.findIn K (.ref C) f = some none from n]
  rfl
/-- a method: a plain def of the class or of one above it -/
structure Meth (K : PySem.W.Frag) (C : Addr) (m : Str) (f : Addr) : Prop where
  at_ : PySem.W.findIn K (.ref C) m = some (some (.ref f))
  fn : PySem.W.isFn K (.ref f) = true
  kp : PySem.W.keepIn K (.ref f) = true

section
variable {X : Cx} {pins : List (Addr × Obj)} {σ : St} {H : Hp} {s : Shared} {a C dx : Addr} {fs : List (Str × V)} {f : Str} {v : V} {A : Around} {E : Value → Shared → Prop}

theorem getattr_ok {b : Bool} {Q : Value → Shared → Prop} (I : Inv X pins σ H s) (e : H a = some (.ins C dx fs)) (c : Cls X.K C) (n : NoAttr X.K C f) (l : fs.lookup f = some v)
    (h : ∀ u s', Inv X pins σ H s' → RelV v u → Q u s') : wpAny (model X.prog X.w) A (getAttr (.ref a) f b) Q E s := by
  obtain ⟨mA, O, r, _, _, _⟩ := ins_get I.hok e
  obtain ⟨u, hu, ru⟩ := RelO.some_of (v := v) (o := mA f) (by rw [← l]; exact r f)
  exact get_map I.kIn O (c.get f) c.hd n hu (handed_of ru) (h u _ (I.tok _) ru)

theorem getmeth_ok {m : Str} {g : Addr} {pl : Sem Bool} {Q : Value × List Value → Shared → Prop} (I : Inv X pins σ H s) (e : H a = some (.ins C dx fs)) (c : Cls X.K C) (k : Meth X.K C m g) (l : fs.lookup m = none)
    (h : Q (.ref g, [.ref a]) s) : wpAny (model X.prog X.w) A (getMethod (.ref a) m pl) Q E s := by
  obtain ⟨mA, O, r, _, _, _⟩ := ins_get I.hok e
  have hn : mA m = none := RelO.none_of (by rw [← l]; exact r m)
  exact get_meth I.kIn O (c.get m) k.at_ k.fn hn h

theorem setattr_ok {y : V} {u : Value} {Q : Unit → Shared → Prop} (I : Inv X pins σ H s) (e : H a = some (.ins C dx fs)) (c : Cls X.K C) (n : NoAttr X.K C f) (hl : fs.length < 1000) (ry : RelV y u)
    (h : ∀ s', Inv X pins σ (upd H a (.ins C dx (putF f y fs))) s' → Q () s') : wpAny (model X.prog X.w) A (setAttr (.ref a) f u) Q E s := by
  obtain ⟨mA, O, r, wi, _, ho⟩ := ins_get I.hok e
  have hz : (fs.map (·.1)).length ≤ sizeLine := by rw [List.length_map, sizeLine_eq]; omega
  refine set_map I.kIn O c.sa c.po n.taker c.hd wi hz fun h' O' sb => h _ ?_
  have hd : ∃ o, h'.get? dx = some o := let ⟨o, _, _, e', _⟩ := O'.ns; ⟨o, e'⟩
  refine I.write (x := a) (e := dx) (by rw [e]; exact True.intro) (.inr ho) (fun b q hb z => (sb.2 b hb).trans z) hd ?_
  refine ⟨by rw [upd_ne O.ne]; exact ho, ?_, O.ne, O'.obj, _, O'.ns, fun g => ?_, fun g hg => ?_⟩
  · have := length_putF f y fs; omega
  · show RelO ((putF f y fs).lookup g) (if g = f then some u else mA g)
    rw [lookup_putF]
    by_cases q : g = f
    · rw [if_pos q, if_pos q]; exact ry
    · rw [if_neg q, if_neg q]; exact r g
  · by_cases q : g = f
    · rw [q]; exact (keys_putF f y fs).1
    · refine (keys_putF f y fs).2 g (wi g fun z => hg ?_)
      show (if g = f then some u else mA g) = none
      rw [if_neg q]; exact z

/-- a new instance, tracked, without attributes -/
theorem Inv.made (I : Inv X pins σ H s) : Inv X pins σ (upd (upd H s.heap.objs.size (.own (s.heap.objs.size + 1))) (s.heap.objs.size + 1) (.ins C s.heap.objs.size []))
    { s with heap := (s.heap.push PySem.W.emptyDict).push (PySem.W.instObj C s.heap.objs.size) } := by
  have e1 : (s.heap.push PySem.W.emptyDict).get? s.heap.objs.size = some PySem.W.emptyDict := Heap.get?_push_size s.heap rfl
  have e2 : ((s.heap.push PySem.W.emptyDict).push (PySem.W.instObj C s.heap.objs.size)).get? (s.heap.objs.size + 1) = some (PySem.W.instObj C s.heap.objs.size) := by
    have := Heap.get?_push_size (s.heap.push PySem.W.emptyDict) (o := PySem.W.instObj C s.heap.objs.size) rfl
    rwa [Heap.size_push] at this
  have e3 : (s.heap.push PySem.W.emptyDict).Ns s.heap.objs.size (fun _ => none) := ⟨PySem.W.emptyDict, #[], _, e1, rfl, (fun e he => absurd he (by simp)), fun _ => rfl⟩
  have I1 := I.laid (a := s.heap.objs.size) (o := .own (s.heap.objs.size + 1)) (h' := s.heap.push PySem.W.emptyDict) (t' := s.toks) (fun b u q => Heap.get?_push_of_some _ q) (Nat.le_refl _) ⟨_, e1⟩
  refine I1.laid (a := s.heap.objs.size + 1) (o := .ins C s.heap.objs.size []) (t' := s.toks) (fun b u q => Heap.get?_push_of_some _ q) (Nat.le_of_eq (Heap.size_push _ _)) ?_
  have ne : s.heap.objs.size ≠ s.heap.objs.size + 1 := Nat.ne_of_lt (Nat.lt_succ_self _)
  refine ⟨by rw [upd_ne ne, upd_same], Nat.zero_le _, ne, e2, fun _ => none, (Heap.Ns1.of_empty e3).at fun o q => Heap.get?_push_of_some _ q, fun _ => True.intro, fun y hy => absurd rfl hy⟩

/-- e.f where nothing but the object is asked: through attributeBase (super) and the last hold -/
theorem attr_of {prog : Program} {w : World} {env : Env} {e : Expr} {f : Str} {pos : Pos} {s : Shared} {Q : Value → Shared → Prop} (hb : attributeBase e f env (eval e env) = eval e env)
    (h : wpAny (model prog w) A (eval e env) (fun o s₁ => wpAny (model prog w) A (getAttr o f true) Q E s₁) E s) : wpAny (model prog w) A (eval (.Attribute e f pos) env) Q E s :=
  Attribute_any_ h (by rw [arm_eval_Attribute, hb])
end

/-! ### readings and rules -/
/-- e.f, an attribute of the instance -/
def tFld (K : PySem.W.Frag) (ta : TE) (f : Str) : TE := fun σ H Q => ta σ H fun x H1 => ∃ a C dx fs v, x = .ref a ∧ H1 a = some (.ins C dx fs) ∧ Cls K C ∧ NoAttr K C f ∧ fs.lookup f = some v ∧ Q v H1
/-- e.f = value -/
def sFld (K : PySem.W.Frag) (ta tv : TE) (f : Str) : TS := fun D σ H => tv σ H fun y H1 => ta σ H1 fun x H2 => ∃ a C dx fs, x = .ref a ∧ H2 a = some (.ins C dx fs) ∧ Cls K C ∧ NoAttr K C f ∧ fs.length < 1000 ∧
  D.nx σ (upd H2 a (.ins C dx (putF f y fs)))
section
variable {X : Cx} {o e value : Expr} {f : Str} {pos pos' tpos : Pos} {ta tv : TE}
theorem pe_fld (he : PE X e ta) (hb : attributeBase e f X.env (eval e X.env) = eval e X.env) : PE X (.Attribute e f pos) (tFld X.K ta f) := by
  intro pins s σ H Q I h
  refine attr_of hb (thn (he pins s σ H _ I h) fun u s1 ⟨x, H1, I1, rx, a, C, dx, fs, v, ex, ea, c, n, l, q⟩ => ?_)
  subst ex
  obtain rfl : u = Value.ref a := rx
  exact getattr_ok I1 ea c n l fun u' s2 I2 ru => ⟨v, H1, I2, ru, q⟩
theorem ps_fld (ha : PE X o ta) (hv : PE X value tv) (hs : swapsWith value (some (.Attribute o f pos')) pos.line X.env = pure false) : PS X (.Assign [.Attribute o f pos'] value pos) (sFld X.K ta tv f) := by
  intro pins s σ H D I h
  refine plainObj_wpAny_Assign_Attribute (thn (hv pins s σ H _ I h) fun u s1 ⟨y, H1, I1, ry, q⟩ => thn (ha pins s1 σ H1 _ I1 q) fun ov s2 ⟨x, H2, I2, rx, a, C, dx, fs, ex, ea, c, n, l, q2⟩ => ?_) hs
  subst ex
  obtain rfl : ov = Value.ref a := rx
  exact setattr_ok I2 ea c n l ry fun s3 I3 => ⟨σ, _, I3, q2⟩
end

/-! ### isinstance -/
section
variable {X : Cx} {pins : List (Addr × Obj)} {σ : St} {H : Hp} {s : Shared} {A : Around} {E : Value → Shared → Prop} {Q : Value → Shared → Prop} {c : Value} {b : Bool}
/-- the type of a value, as the fragment's deciders take it; for an instance its class -/
inductive TyOf (K : PySem.W.Frag) (H : Hp) : V → Value → Prop where
  | non : TyOf K H .non (.type "NoneType")
  | bl (x : Bool) : TyOf K H (.bl x) (.type "bool")
  | int (i : Int) : TyOf K H (.int i) (.type "int")
  | str (x : Str) : TyOf K H (.str x) (.type "str")
  | flt (x : UInt64) : TyOf K H (.flt x) (.type "float")
  | lst {a : Addr} {xs : List V} (e : H a = some (.lst xs)) : TyOf K H (.ref a) (.type "list")
  | frz {a : Addr} {o : Obj} {xs : List V} (e : H a = some (.frz o (.lst xs))) : TyOf K H (.ref a) (.type "list")
  | tup {a : Addr} {xs : List V} (e : H a = some (.tup xs)) : TyOf K H (.ref a) (.type "tuple")
  | dK {a : Addr} {kvs : List (Key × V)} (e : H a = some (.dK kvs)) : TyOf K H (.ref a) (.type "dict")
  | dT {a : Addr} {kvs : List (List Key × V)} (e : H a = some (.dT kvs)) : TyOf K H (.ref a) (.type "dict")
  | ins {a C dx : Addr} {fs : List (Str × V)} (e : H a = some (.ins C dx fs)) (cl : Cls K C) (ha : PySem.W.findIn K (.ref C) "__class__" = some (some (.builtin "object.__class__")))
      (hn : PySem.W.specialIn K (.builtin "object.__class__") "__get__" = some (some (.builtin "getset_descriptor.__get__"))) (htk : PySem.W.takesIn K (.builtin "object.__class__") = some true)
      (hm : PySem.W.mroIn K C (.type "object") = some true) : TyOf K H (.ref a) (.ref C)
/-- isinstance(x, c) for one class c, a built-in or an own one: kitOne's answer -/
theorem isinst_ok {x : V} {u t : Value} (I : Inv X pins σ H s) (rx : RelV x u) (ty : TyOf X.K H x t) (e : PySem.W.kitOne X.K t c = some b) (h : ∀ tk, Q (.bool b) { s with toks := tk }) :
    wpAny (model X.prog X.w) A (call (.builtin "isinstance") [u, c]) Q E s := by
  cases ty with
  | non => cases (show u = Value.none from rx); exact PySem.W.kia_one PySem.W.kitx_none I.kIn True.intro e (fun z => nomatch z) h
  | bl y => cases (show u = Value.bool y from rx); exact PySem.W.kia_one PySem.W.kitx_bool I.kIn True.intro e (fun z => nomatch z) h
  | int i => obtain ⟨t, q⟩ := (show ∃ t, u = Value.int i t from rx); cases q; exact PySem.W.kia_one PySem.W.kitx_int I.kIn True.intro e (fun z => nomatch z) h
  | str y => obtain ⟨t, q⟩ := (show ∃ t, u = Value.str y t from rx); cases q; exact PySem.W.kia_one PySem.W.kitx_str I.kIn True.intro e (fun z => nomatch z) h
  | flt y => obtain ⟨t, q⟩ := (show ∃ t, u = Value.float y t from rx); cases q; exact PySem.W.kia_one PySem.W.kitx_float I.kIn True.intro e (fun z => nomatch z) h
  | @lst a xs ea =>
    cases (show u = Value.ref a from rx)
    obtain ⟨_, _, n, _, h1⟩ := (show ObjOk X.prog X.w H s.heap a (.lst xs) from I.hok a _ ea)
    exact PySem.W.kia_one PySem.W.kitx_list I.kIn ⟨_, h1, rfl⟩ e (fun z => nomatch z) h
  | @frz a ob xs ea =>
    cases (show u = Value.ref a from rx)
    obtain ⟨_, _, _, n, _, h1⟩ := (show ObjOk X.prog X.w H s.heap a (.frz ob (.lst xs)) from I.hok a _ ea)
    exact PySem.W.kia_one PySem.W.kitx_list I.kIn ⟨_, h1, rfl⟩ e (fun z => nomatch z) h
  | @tup a xs ea =>
    cases (show u = Value.ref a from rx)
    obtain ⟨_, _, _, p⟩ := (show ObjOk X.prog X.w H s.heap a (.tup xs) from I.hok a _ ea)
    obtain ⟨o, h1, h2, _⟩ := p
    exact PySem.W.kia_one PySem.W.kitx_tuple I.kIn ⟨o, h1, h2⟩ e (fun z => nomatch z) h
  | @dK a kvs ea =>
    cases (show u = Value.ref a from rx)
    obtain ⟨_, _, vs, _, p⟩ := (show ObjOk X.prog X.w H s.heap a (.dK kvs) from I.hok a _ ea)
    obtain ⟨o, es, ep, h1, h2, _⟩ := p
    exact PySem.W.kia_one PySem.W.kitx_dict I.kIn ⟨o, h1, h2.1⟩ e (fun z => nomatch z) h
  | @dT a kvs ea =>
    cases (show u = Value.ref a from rx)
    obtain ⟨_, _, xs, _, o, es, ep, h1, h2, _⟩ := (show ObjOk X.prog X.w H s.heap a (.dT kvs) from I.hok a _ ea)
    exact PySem.W.kia_one PySem.W.kitx_dict I.kIn ⟨o, h1, h2.1⟩ e (fun z => nomatch z) h
  | @ins a C dx fs ea cl ha hn htk hm =>
    cases (show u = Value.ref a from rx)
    obtain ⟨mA, O, _⟩ := ins_get I.hok ea
    obtain ⟨od, J, _⟩ := O.look
    exact PySem.W.kia_one (PySem.W.kitx_own (cl.get _) cl.hd ha hn htk hm) I.kIn J e (fun z => nomatch z) h
end
end L2

namespace L2
open PySem PySem.Spec PyProof.Rows

/-! ### room -/
structure Room (k : Nat) (A : Around) : Prop where
  hd : A.handled = none
  dp : A.depth + 3 * k + 5 < recursionLimit
  un : A.units + 16 * k + 200 < cLine
theorem Room.mono {j k : Nat} {A : Around} (r : Room k A) (h : j ≤ k) : Room j A := ⟨r.hd, by have := r.dp; omega, by have := r.un; omega⟩
theorem Room.deeper {k : Nat} {A : Around} (r : Room (k + 1) A) (env : Env) : Room k (A.deeper env) :=
  ⟨r.hd, by have := r.dp; show A.depth + 1 + 3 * k + 5 < _; omega, by have := r.un; show A.units + 3 + 16 * k + 200 < _; omega⟩
theorem make_depth {A : Around} {C : Addr} {us : List Value} {kw : List (Str × Value)} : (A.under (.builtin "type.__call__" ⟨.ref C :: us, kw⟩)).depth = A.depth + 1 := by
  first | rfl | simp [Around.under, Code.weight, Code.isCreation, Code.isGuard, Code.isCaller, Code.frames, Code.isFrame, guardIds]
theorem make_units {A : Around} {C : Addr} {us : List Value} {kw : List (Str × Value)} : (A.under (.builtin "type.__call__" ⟨.ref C :: us, kw⟩)).units = A.units + 1 := by
  first | rfl | simp [Around.under, Code.cUnits, Code.frames, Code.isFrame]
theorem Room.make {k : Nat} {A : Around} (r : Room (k + 1) A) (C : Addr) (us : List Value) (kw : List (Str × Value)) : Room k (A.under (.builtin "type.__call__" ⟨.ref C :: us, kw⟩)) :=
  ⟨r.hd, by have := r.dp; rw [make_depth]; omega, by have := r.un; rw [make_units]; omega⟩
theorem Room.depth {k : Nat} {A : Around} (r : Room k A) : A.depth < recursionLimit := by have := r.dp; omega
/-! ### argument lists and displays -/
def tNil : TA := fun _ H Q => Q [] H
def tCons (ta : TE) (tr : TA) : TA := fun σ H Q => ta σ H fun x H1 => tr σ H1 fun xs H2 => Q (x :: xs) H2
section
variable {X : Cx} {e : Expr} {es : List Expr} {te : TE} {t : TA} {pos : Pos}
theorem pa_nil : PA X [] tNil := fun _ _ _ _ H Q I h => Calls.spliced_nil ⟨[], H, I, .nil, h⟩
theorem pa_cons (ha : PE X e te) (hr : PA X es t) (hs : starEach (e :: es) X.env = (false, eval e X.env) :: starEach es X.env := by rfl) : PA X (e :: es) (tCons te t) := by
  intro pos pins s σ H Q I h
  rw [hs]
  show wpAny _ _ (spliced ((false, eval e X.env) :: backTo pos (starEach es X.env))) _ _ s
  refine Calls.spliced_cons (thn (ha pins s σ H _ I h) fun u s1 ⟨x, H1, I1, r1, q1⟩ => ?_)
  exact thn (hr pos pins s1 σ H1 _ I1 q1) fun us s2 ⟨xs, H2, I2, r2, q2⟩ => ⟨x :: xs, H2, I2, .cons r1 r2, q2⟩

/-- a tuple, a list of written items -/
def tTup (t : TA) : TE := fun σ H Q => t σ H fun xs H1 => xs.length ≤ sizeLine ∧ ∀ p, H1 p = none → Q (.ref p) (upd H1 p (.tup xs))
def tLst (t : TA) : TE := fun σ H Q => t σ H fun xs H1 => xs.length ≤ sizeLine ∧ ∀ p, H1 p = none → Q (.ref p) (upd H1 p (.lst xs))
theorem pe_tup {x1} (h : PA X es t) : PE X (.Tuple es x1 pos) (tTup t) := by
  intro pins s σ H Q I hq
  refine wpAny_Tuple_spliced (thn (h pos pins s σ H _ I hq) fun us s1 ⟨xs, H1, I1, r, z, q⟩ => ⟨by rw [← r.length]; exact z, ?_⟩)
  have hf : H1 s1.heap.objs.size = none := I1.hok.fresh (Nat.le_refl _)
  refine ⟨.ref s1.heap.objs.size, upd H1 s1.heap.objs.size (.tup xs), I1.laid (t' := s1.toks) (fun b u e => Heap.get?_push_of_some _ e) (Nat.le_refl _) ?_, rfl, q _ hf⟩
  exact ⟨z, us, r, ⟨_, Heap.get?_push_size _ rfl, rfl, ⟨_, rfl⟩, rfl⟩⟩
theorem pe_lst (h : PA X es t) : PE X (.List es pos) (tLst t) := by
  intro pins s σ H Q I hq
  refine wpAny_List_spliced (thn (h pos pins s σ H _ I hq) fun us s1 ⟨xs, H1, I1, r, z, q⟩ => ⟨by rw [← r.length]; exact z, ?_⟩)
  have hf : H1 s1.heap.objs.size = none := I1.hok.fresh (Nat.le_refl _)
  refine ⟨.ref s1.heap.objs.size, upd H1 s1.heap.objs.size (.lst xs), I1.laid (t' := s1.toks) (fun b u e => Heap.get?_push_of_some _ e) (Nat.le_refl _) ?_, rfl, q _ hf⟩
  exact ⟨z, us, 0, r, Heap.get?_push_size _ rfl⟩
end

/-! ### what a def promises -/
/-- a def's promise: the bound arguments in the parameters' order, the heap, the wanted end, the wanted exception -/
abbrev Sp := List V → Hp → VK → XK → Prop
/-- how an exception lies behind a call (file 08 gives it): the callers' frames, abstract heap and state ahead of the call, the wish, the exception, the state -/
abbrev CXT := List Env → Hp → Shared → XK → Value → Shared → Prop

/-- the state at a call -/
structure Env0 (P : Program) (w : World) (K : PySem.W.Frag) (mg : Str → Option Value) (base : Heap) (A : Around) (outer : List Env) (s : Shared) (H : Hp) : Prop where
  frames : A.frames = some outer
  mod : Mod K mg base
  bs : ∀ b o, base.get? b = some o → s.heap.get? b = some o ∧ H b = none
  bsz : base.objs.size ≤ s.heap.objs.size
  funs : s.heap.FunFrames base outer
  frf : ∀ b ∈ frs outer, H b = none
  hok : HOk P w H s.heap
  bare : AllBare s.gens
/-- a call's end -/
def CE (outer : List Env) (P : Program) (w : World) (H : Hp) (s : Shared) (Q : VK) (u : Value) (s' : Shared) : Prop :=
  ∃ v H', s'.os = s.os ∧ AllBare s'.gens ∧ Un (frs outer) [] H H' s.heap s'.heap ∧ HOk P w H' s'.heap ∧ RelV v u ∧ Q v H'
def CR (CX : CXT) (outer : List Env) (P : Program) (w : World) (H : Hp) (s : Shared) (Q : VK) (E : XK) (r : Result) (s' : Shared) : Prop :=
  match r with
  | .ok (.ret u) => CE outer P w H s Q u s'
  | .ok _ => False
  | .error e => CX outer H s E e s'
structure FnOk (P : Program) (w : World) (K : PySem.W.Frag) (mg : Str → Option Value) (base : Heap) (CX : CXT) (k : Nat) (f : Addr) (fd : FuncData) (ps : List Str) (sp : Sp) : Prop where
  len : ∀ vs H Q E, sp vs H Q E → vs.length = ps.length
  run : ∀ (A : Around) (outer : List Env) (s : Shared) (H : Hp) (args : Args) (us : List Value) (vs : List V) (Q : VK) (E : XK), Room k A → Env0 P w K mg base A outer s H → BindsTo s fd args (ps.zip us) → Vals vs us → sp vs H Q E →
    codeAny (model P w) A (.call (.ref f) args) (CR CX outer P w H s Q E) s
theorem Env0.make {P : Program} {w : World} {K : PySem.W.Frag} {mg : Str → Option Value} {base : Heap} {A : Around} {outer : List Env} {s : Shared} {H : Hp} (e : Env0 P w K mg base A outer s H) (C : Addr) (us : List Value) (kw : List (Str × Value)) :
    Env0 P w K mg base (A.under (.builtin "type.__call__" ⟨.ref C :: us, kw⟩)) outer s H := ⟨by first | exact e.frames | (simpa [Around.under, Code.envs, Code.isFrame, pushEnvs] using e.frames), e.mod, e.bs, e.bsz, e.funs, e.frf, e.hok, e.bare⟩
section
variable {X : Cx} {pins : List (Addr × Obj)} {σ : St} {H : Hp} {s s' : Shared}
/-- from a body: what a callee wants -/
theorem Inv.env0 (I : Inv X pins σ H s) : Env0 X.prog X.w X.K X.mg X.base X.A X.stack s H :=
  ⟨I.ok.frames, I.ok.mod, I.bs, Nat.le_trans I.ok.bsz I.sz, I.stack, I.stkFree, I.hok, I.bare⟩
/-- behind a call -/
theorem Inv.after {Q : VK} {u : Value} (I : Inv X pins σ H s) (h : CE X.stack X.prog X.w H s Q u s') : EP X pins σ Q u s' := by
  obtain ⟨v, H', os, bare, un, hok, r, q⟩ := h
  obtain ⟨hh, g, d, t, os'⟩ := s'
  obtain rfl : os' = s.os := os
  exact ⟨v, H', I.call (h' := hh) (g' := g) (d' := d) (t' := t) (ch := []) un hok bare (fun b z => absurd z (by simp)), r, q⟩
end

/-! ### calls -/
/-- f(..): the written arguments, then the defaults dvs; E: what is wanted of an exception -/
def tCall (sp : Sp) (dvs : List V) (E : XK) (t : TA) : TE := fun σ H Q => t σ H fun vs H1 => sp (vs ++ dvs) H1 Q E
/-- o.m(..) of an instance of the class at C -/
def tMeth (C : Addr) (m : Str) (sp : Sp) (dvs : List V) (E : XK) (ta : TE) (t : TA) : TE := fun σ H Q => ta σ H fun x H1 => ∃ a dx fs, x = .ref a ∧ H1 a = some (.ins C dx fs) ∧ fs.lookup m = none ∧
  t σ H1 fun vs H2 => sp (x :: (vs ++ dvs)) H2 Q E
/-- C(..): a new instance and its dict, then __init__ -/
def tMake (C : Addr) (sp : Sp) (dvs : List V) (E : XK) (t : TA) : TE := fun σ H Q => t σ H fun vs H1 => ∀ x dx, H1 x = none → H1 dx = none → dx ≠ x →
  sp (.ref x :: (vs ++ dvs)) (upd (upd H1 dx (.own x)) x (.ins C dx [])) (fun v H2 => v = .non ∧ Q (.ref x) H2) E

/-- how the parameters are bound: us the positional arguments, kw the keywords' values by name, ds the defaults that fill up -/
def Binds (K : PySem.W.Frag) (fd : FuncData) (ps : List Str) (ds : List Value) : Prop :=
  ∀ (s : Shared) (us : List Value), K.In s.heap → (us ++ ds).length = ps.length → BindsTo s fd ⟨us, []⟩ (ps.zip (us ++ ds))
/-- every parameter is given -/
theorem Binds.all {K : PySem.W.Frag} {fd : FuncData} {ps : List Str} (h : ∀ us : List Value, us.length = ps.length → bindArgs fd ⟨us, []⟩ = pure (ps.zip us)) : Binds K fd ps [] := fun s us _ hl => by
  rw [List.append_nil] at hl ⊢
  exact .of_eq (h us hl)

/-- an exception of a callee reaches what this body wants of exceptions -/
def Passes (CX : CXT) (X : Cx) (E : XK) : Prop := ∀ (pins : List (Addr × Obj)) (σ : St) (H : Hp) (s : Shared) (e : Value) (s' : Shared), Inv X pins σ H s → CX X.stack H s E e s' → X.xe e s'

section

/-- the callee runs -/
theorem run_fn {pins : List (Addr × Obj)} {σ : St} {H : Hp} {s : Shared} {Q : VK} {us : List Value} {vs : List V} (F : FnOk X.prog X.w X.K X.mg X.base CX k f fd ps sp) (hr : Room k X.A) (hb : Binds X.K fd ps ds) (hd : Vals dvs ds) (hx : Passes CX X E)
    (I : Inv X pins σ H s) (r : Vals vs us) (h : sp (vs ++ dvs) H Q E) : wpAny (model X.prog X.w) X.A (call (.ref f) us) (EP X pins σ Q) X.xe s := by
  have r2 : Vals (vs ++ dvs) (us ++ ds) := r.append hd
  have hl : (us ++ ds).length = ps.length := by rw [← r2.length]; exact F.len _ _ _ _ h
  refine wpAny_call (codeAny_mono (F.run X.A X.stack s H ⟨us, []⟩ (us ++ ds) (vs ++ dvs) Q E hr I.env0 (hb s us I.kIn hl) r2 h) fun r s' hq => ?_)
  cases r with
  | error e => exact hx pins σ H s e s' I hq
  | ok fl =>
    cases fl with
    | ret u => exact I.after hq
    | next => exact False.elim hq
    | brk => exact False.elim hq
    | cont => exact False.elim hq

theorem pe_call (F : FnOk X.prog X.w X.K X.mg X.base CX k f fd ps sp) (hr : Room k X.A) (hg : Gl X x) (hm : X.mg x = some (.ref f)) (hk : PySem.W.keepIn X.K (.ref f) = true) (hb : Binds X.K fd ps ds) (hd : Vals dvs ds) (hx : Passes CX X E)
    (ha : PA X (e :: es) t) (hdb : (x == ("__debug__" : Str)) = false := by decide) (he : starEach (e :: es) X.env = (false, eval e X.env) :: starEach es X.env := by rfl) (hpl : (backTo pos (starEach es X.env)).any (·.1) = false := by rfl) :
    PE X (.Call (.Name x p) (e :: es) [] pos) (tCall sp dvs E t) := by
  intro pins s σ H Q I h
  refine wpAny_Call_Name_kw (ld_glob I hg hm ?_ hdb)
  refine PySem.W.callWith_K (h₀ := X.base) I.ok.mod.kin hk (thn (ha pos pins s σ H _ I h) fun us s1 ⟨vs, H1, I1, r, q⟩ => ⟨I1.kIn, ?_⟩) he hpl
  exact run_fn F hr hb hd hx I1 r q
/-- o.m(e, ..) -/
theorem pe_meth {pl : Sem Bool} (he : PE X o ta) (c : Cls X.K C) (hm : Meth X.K C m f) (F : FnOk X.prog X.w X.K X.mg X.base CX k f fd ps sp) (hr : Room k X.A) (hb : Binds X.K fd ps ds) (hd : Vals dvs ds) (hx : Passes CX X E) (ha : PA X (e :: es) t)
    (hst : starEach (e :: es) X.env = (false, eval e X.env) :: starEach es X.env := by rfl) (hpl : (backTo pos (starEach es X.env)).any (·.1) = false := by rfl)
    (ht : eval (.Call (.Attribute o m apos) (e :: es) [] pos) X.env = (do
      let ov ← eval o X.env
      standAt apos.atName
      let (f, first) ← holding [ov] (getMethod ov m pl)
      callWith pos f first (backTo pos (starEach (e :: es) X.env)) (backToKw pos (keywordEach [] X.env))) := by rfl) :
    PE X (.Call (.Attribute o m apos) (e :: es) [] pos) (tMeth C m sp dvs E ta t) := by
  intro pins s σ H Q I h
  refine PySem.W.methodCall_KW (pl := pl) (thn (he pins s σ H _ I h) fun u s1 ⟨x, H1, I1, rx, a, dx, fs, ex, ea, l, q⟩ => ?_) ht
  subst ex
  obtain rfl : u = Value.ref a := rx
  refine getmeth_ok I1 ea c hm l ?_
  refine PySem.W.callWith_K (first := [.ref a]) (h₀ := X.base) I.ok.mod.kin hm.kp (thn (ha pos pins s1 σ H1 _ I1 q) fun us s2 ⟨vs, H2, I2, r, q2⟩ => ⟨I2.kIn, ?_⟩) hst hpl
  exact run_fn (us := .ref a :: us) (vs := .ref a :: vs) F hr hb hd hx I2 (.cons rfl r) q2
/-- o.m() -/
theorem pe_meth0 {pl : Sem Bool} (he : PE X o ta) (c : Cls X.K C) (hm : Meth X.K C m f) (F : FnOk X.prog X.w X.K X.mg X.base CX k f fd ps sp) (hr : Room k X.A) (hb : Binds X.K fd ps ds) (hd : Vals dvs ds) (hx : Passes CX X E)
    (ht : eval (.Call (.Attribute o m apos) [] [] pos) X.env = (do
      let ov ← eval o X.env
      standAt apos.atName
      let (f, first) ← holding [ov] (getMethod ov m pl)
      callWith pos f first (backTo pos (starEach [] X.env)) (backToKw pos (keywordEach [] X.env))) := by rfl) :
    PE X (.Call (.Attribute o m apos) [] [] pos) (tMeth C m sp dvs E ta tNil) := by
  intro pins s σ H Q I h
  refine PySem.W.methodCall_KW (pl := pl) (thn (he pins s σ H _ I h) fun u s1 ⟨x, H1, I1, rx, a, dx, fs, ex, ea, l, q⟩ => ?_) ht
  subst ex
  obtain rfl : u = Value.ref a := rx
  refine getmeth_ok I1 ea c hm l ?_
  exact PySem.W.callWith_K0 (first := [.ref a]) I1.kIn hm.kp (run_fn (us := [.ref a]) (vs := [.ref a]) F hr hb hd hx I1 (.cons rfl .nil) q)

/-- what a class must have to be made -/
structure Mk (K : PySem.W.Frag) (C f : Addr) : Prop where
  makes : PySem.W.makesIn K C = true
  init : PySem.W.findIn K (.ref C) "__init__" = some (some (.ref f))
  fn : PySem.W.isFn K (.ref f) = true
  kp : PySem.W.keepIn K (.ref C) = true

theorem run_make {pins : List (Addr × Obj)} {σ : St} {H : Hp} {s : Shared} {Q : VK} {us : List Value} {vs : List V} (M : Mk X.K C f) (F : FnOk X.prog X.w X.K X.mg X.base CX k f fd ps sp) (hr : Room (k + 1) X.A) (hb : Binds X.K fd ps ds) (hd : Vals dvs ds)
    (hx : Passes CX X E) (I : Inv X pins σ H s) (r : Vals vs us)
    (h : ∀ x dx, H x = none → H dx = none → dx ≠ x → sp (.ref x :: (vs ++ dvs)) (upd (upd H dx (.own x)) x (.ins C dx [])) (fun v H2 => v = .non ∧ Q (.ref x) H2) E) :
    wpAny (model X.prog X.w) X.A (call (.ref C) us) (EP X pins σ Q) X.xe s := by
  have hq := h (s.heap.objs.size + 1) s.heap.objs.size (I.hok.fresh (Nat.le_succ _)) (I.hok.fresh (Nat.le_refl _)) (Nat.ne_of_lt (Nat.lt_succ_self _))
  have I2 := Inv.made (C := C) I
  have r2 : Vals (V.ref (s.heap.objs.size + 1) :: (vs ++ dvs)) (Value.ref (s.heap.objs.size + 1) :: (us ++ ds)) := .cons rfl (r.append hd)
  have hl : (Value.ref (s.heap.objs.size + 1) :: us ++ ds).length = ps.length := by
    have e := r2.length
    rw [F.len _ _ _ _ hq] at e
    exact e.symm
  refine wpAny_call (make_map (f := f) I.kIn M.makes M.init (beq_iff_eq.mp M.fn) (codeAny_mono (F.run _ X.stack _ _ ⟨Value.ref (s.heap.objs.size + 1) :: us, []⟩ (Value.ref (s.heap.objs.size + 1) :: (us ++ ds)) _ _ E (hr.make C us [])
    (I2.env0.make C us []) (hb _ (Value.ref (s.heap.objs.size + 1) :: us) I2.kIn hl) r2 hq) fun r s' hq' => ?_))
  cases r with
  | error e => exact hx pins σ _ _ e s' I2 hq'
  | ok fl =>
    cases fl with
    | ret u =>
      obtain ⟨v, H', I3, rv, ev, q3⟩ := I2.after hq'
      subst ev
      exact ⟨rv, ⟨V.ref (s.heap.objs.size + 1), H', I3, rfl, q3⟩⟩
    | next => exact False.elim hq'
    | brk => exact False.elim hq'
    | cont => exact False.elim hq'
theorem pe_make (M : Mk X.K C f) (F : FnOk X.prog X.w X.K X.mg X.base CX k f fd ps sp) (hr : Room (k + 1) X.A) (hg : Gl X x) (hm : X.mg x = some (.ref C)) (hb : Binds X.K fd ps ds) (hd : Vals dvs ds) (hx : Passes CX X E)
    (ha : PA X (e :: es) t) (hdb : (x == ("__debug__" : Str)) = false := by decide) (he : starEach (e :: es) X.env = (false, eval e X.env) :: starEach es X.env := by rfl) (hpl : (backTo pos (starEach es X.env)).any (·.1) = false := by rfl) :
    PE X (.Call (.Name x p) (e :: es) [] pos) (tMake C sp dvs E t) := by
  intro pins s σ H Q I h
  refine wpAny_Call_Name_kw (ld_glob I hg hm ?_ hdb)
  refine PySem.W.callWith_K (h₀ := X.base) I.ok.mod.kin M.kp (thn (ha pos pins s σ H _ I h) fun us s1 ⟨vs, H1, I1, r, q⟩ => ⟨I1.kIn, ?_⟩) he hpl
  exact run_make M F hr hb hd hx I1 r q
end

/-! ### keywords -/
section
variable {g : List Value → List Value → List Value} {gV : List V → List V → List V}
end

/-! ### a def's body keeps its promise -/
/-- names: the parameters first -/
structure FnScope (N P : List Str) (sc : Scope) : Prop where
  kind : sc.kind = .function
  co : sc.isCoroutine = false
  gen : sc.isGenerator = false
  nd : N.Nodup
  pre : N.take P.length = P
  par : ∀ x ∈ P, sc.names.lookup x = some .local ∨ sc.names.lookup x = some .cell
  nofree : ∀ y ∈ sc.names, y.2 ≠ .free

theorem bindL_out {kindOf : Str → Option NameKind} {x : Str} : ∀ {binds : List (Str × Value)} {m : Str → Option Value}, (∀ v, (x, v) ∉ binds) → bindL kindOf binds m x = m x
  | [], _, _ => rfl
  | (n, v) :: r, m, h => by
    unfold bindL
    rw [bindL_out fun w hw => h w (List.mem_cons_of_mem _ hw)]
    split
    · have : x ≠ n := by rintro rfl; exact h v List.mem_cons_self
      simp [this]
    · rfl
theorem bindC_out {kindOf : Str → Option NameKind} {x : Str} : ∀ {binds : List (Str × Value)} {m : Str → Option Value}, (∀ v, (x, v) ∉ binds) → bindC kindOf binds m x = m x
  | [], _, _ => rfl
  | (n, v) :: r, m, h => by
    unfold bindC
    rw [bindC_out fun w hw => h w (List.mem_cons_of_mem _ hw)]
    split
    · rfl
    · have : x ≠ n := by rintro rfl; exact h v List.mem_cons_self
      simp [this]
theorem bindL_get {kindOf : Str → Option NameKind} {x : Str} {v : Value} : ∀ {P : List Str} {vs : List Value} {i : Nat} {m : Str → Option Value}, P.Nodup → P[i]? = some x → vs[i]? = some v → kindOf x = some .local →
    bindL kindOf (P.zip vs) m x = some v
  | [], _, _, _, _, h, _, _ => by simp at h
  | _ :: _, [], _, _, _, _, h, _ => by simp at h
  | p :: P, w :: vs, 0, m, nd, h1, h2, hk => by
    simp at h1 h2; subst h1; subst h2
    show bindL kindOf ((p, w) :: P.zip vs) m p = _
    unfold bindL
    rw [bindL_out fun v hv => (List.nodup_cons.mp nd).1 (List.of_mem_zip hv).1, if_pos hk]
    simp
  | p :: P, w :: vs, i + 1, m, nd, h1, h2, hk => by
    show bindL kindOf ((p, w) :: P.zip vs) m x = _
    unfold bindL
    exact bindL_get (i := i) (List.nodup_cons.mp nd).2 (by simpa using h1) (by simpa using h2) hk
theorem bindC_get {kindOf : Str → Option NameKind} {x : Str} {v : Value} : ∀ {P : List Str} {vs : List Value} {i : Nat} {m : Str → Option Value}, P.Nodup → P[i]? = some x → vs[i]? = some v → kindOf x ≠ some .local →
    bindC kindOf (P.zip vs) m x = some v
  | [], _, _, _, _, h, _, _ => by simp at h
  | _ :: _, [], _, _, _, _, h, _ => by simp at h
  | p :: P, w :: vs, 0, m, nd, h1, h2, hk => by
    simp at h1 h2; subst h1; subst h2
    show bindC kindOf ((p, w) :: P.zip vs) m p = _
    unfold bindC
    rw [bindC_out fun v hv => (List.nodup_cons.mp nd).1 (List.of_mem_zip hv).1, if_neg hk]
    simp
  | p :: P, w :: vs, i + 1, m, nd, h1, h2, hk => by
    show bindC kindOf ((p, w) :: P.zip vs) m x = _
    unfold bindC
    exact bindC_get (i := i) (List.nodup_cons.mp nd).2 (by simpa using h1) (by simpa using h2) hk

/-- the names' values at the entry -/
def start (N : List Str) (vs : List V) : St := vs.map some ++ List.replicate (N.length - vs.length) none

/-- the context of a def's body, at its entry; an exception leaves the frame, then lies as CX says -/
def cxOf (CX : CXT) (P : Program) (w : World) (K : PySem.W.Frag) (mg : Str → Option Value) (base : Heap) (N : List Str) (qual : Str) (scope : Scope) (f : Addr) (cd : Value) (A : Around) (outer : List Env) (s : Shared) (H : Hp) (E : XK) : Cx where
  prog := P
  w := w
  K := K
  mg := mg
  base := base
  A := A.deeper (envOfC qual scope s.heap.objs.size f cd)
  N := N
  s₀ := s
  H₀ := H
  env := envOfC qual scope s.heap.objs.size f cd
  outer := outer
  stack := envOfC qual scope s.heap.objs.size f cd :: outer
  ex := []
  calm := true
  fn := fun _ => true
  pn := []
  xe := fun e s' => wpAny (model P w) (A.deeper (envOfC qual scope s.heap.objs.size f cd)) (leaving (envOfC qual scope s.heap.objs.size f cd) e) (fun _ s'' => CX outer H s E e s'') (fun e' s'' => CX outer H s E e' s'') s'

theorem cell_has {sc : Scope} {n : Nat} {x : Str} (h : sc.names.lookup x = some .cell) : ∃ c, (cellsFrom n sc.names []).lookup x = some c := by
  have q := PySem.W.cellsFrom_some sc.names n [] (.inl h)
  exact Option.isSome_iff_exists.mp q

theorem inv_start {CX : CXT} {P : Program} {w : World} {K : PySem.W.Frag} {mg : Str → Option Value} {base : Heap} {N ps : List Str} {qual : Str} {scope : Scope} {f : Addr} {cd : Value} {A : Around} {outer : List Env} {s s1 : Shared} {H : Hp} {E : XK} {us : List Value} {vs : List V}
    (S : FnScope N ps scope) (hd : A.handled = none) (e0 : Env0 P w K mg base A outer s H) (hl : vs.length = ps.length) (r : Vals vs us)
    (x : InCallC s s.heap.objs.size (bindL (envOfC qual scope s.heap.objs.size f cd).kindOf (ps.zip us) fun _ => none) (cellsFrom (s.heap.objs.size + 1) scope.names []) (bindC (envOfC qual scope s.heap.objs.size f cd).kindOf (ps.zip us) fun _ => none) s1) :
    Inv (cxOf CX P w K mg base N qual scope f cd A outer s H E) [] (start N vs) H s1 := by
  have hpl : ps.length ≤ N.length := by have := congrArg List.length S.pre; rw [List.length_take] at this; omega
  obtain ⟨h1, tk, rfl, hk⟩ := x.done
  have noA : ∀ b : Addr, b ∉ (cxOf CX P w K mg base N qual scope f cd A outer s H E).ex := fun b z => absurd (show b ∈ ([] : List Addr) from z) (by simp)
  refine ⟨⟨e0.mod, S.kind, rfl, rfl, Nat.le_refl _, fun y z c h1 h2 => ?_, fun y hy => ?_, fun y c _ h => ?_, fun _ => hd, Around.frames_deeper e0.frames, .inr ⟨rfl, rfl⟩, fun b z => absurd z (noA b), e0.bs, e0.bsz, fun b _ _ => noA b, fun b z => absurd z (noA b), e0.funs, e0.frf⟩,
    rfl, e0.bare, Un.kept hk, ⟨_, x.toInCall.ns, fun i y v h1 h2 h3 => ?_⟩, fun y c h => ⟨_, x.cell y c h⟩, e0.hok.fresh (Nat.le_refl _), fun y c h => ?_, fun p hp => absurd (show p ∈ ([] : List (Addr × Obj)) from hp) (by simp), e0.hok.kept hk, ?_⟩
  · exact name_of_addr x.apart (PySem.mem_of_lookup h1) (PySem.mem_of_lookup h2)
  · have hy : scope.names.lookup y = some .cell ∨ scope.names.lookup y = some .free := hy
    rcases hy with hy | hy
    · exact cell_has hy
    · exact absurd rfl (S.nofree _ (PySem.mem_of_lookup hy))
  · exact Nat.le_of_lt (x.above y c (PySem.mem_of_lookup h))
  · have hi : i < vs.length := by
      unfold start at h2
      by_cases hi : i < vs.length
      · exact hi
      · rw [List.getElem?_append_right (by simpa using hi)] at h2
        rw [List.getElem?_replicate] at h2
        split at h2 <;> cases h2
    have ha : vs[i]? = some v := by
      unfold start at h2
      rw [List.getElem?_append_left (by simpa using hi), List.getElem?_map] at h2
      cases e : vs[i]? with
      | none => rw [e] at h2; cases h2
      | some a => rw [e] at h2; cases h2; rfl
    obtain ⟨u, hu, rv⟩ := r.get ha
    have hp : ps[i]? = some y := by
      rw [← S.pre, List.getElem?_take_of_lt (by omega)]; exact h1
    have ndP : ps.Nodup := by rw [← S.pre]; exact S.nd.sublist (List.take_sublist _ _)
    refine ⟨u, rv, ?_⟩
    rcases S.par y (List.mem_of_getElem? hp) with k | k
    · exact .inl ⟨k, bindL_get ndP hp hu k⟩
    · obtain ⟨c, e⟩ := cell_has (n := s.heap.objs.size + 1) k
      refine .inr ⟨.inl k, c, e, ?_⟩
      have q := x.cell y c e
      rw [bindC_get ndP hp hu (by show scope.names.lookup y ≠ _; rw [k]; decide)] at q
      exact q
  · exact e0.hok.fresh (Nat.le_of_lt (x.above y c (PySem.mem_of_lookup h)))
  · unfold start
    show _ = N.length
    rw [List.length_append, List.length_map, List.length_replicate]
    omega

/-- THE RULE: a def (or a method) of the text, by its body. The body's reading t is chosen for each entry; it is run at the parameters' values -/
theorem fn_of {CX : CXT} {P : Program} {w : World} {K : PySem.W.Frag} {mg : Str → Option Value} {base : Heap} {k : Nat} {f : Addr} {name qual : Str} {params : Arguments} {body : List Stmt} {scope : Scope} {dV kV doc pm cdv ct oc : Value} {an od : Option Addr}
    {osl : Array (Option Value)} {N ps : List Str} {sp : Sp} (lk : K.lookup f = some ⟨oc, od, .func (PySem.W.fnOf name qual params body scope dV kV doc pm an cdv ct), osl⟩) (hcd : PySem.W.codeIn K cdv qual = true) (S : FnScope N ps scope)
    (len : ∀ vs H Q E, sp vs H Q E → vs.length = ps.length)
    (hbody : ∀ (A : Around) (outer : List Env) (s : Shared) (H : Hp) (vs : List V) (Q : VK) (E : XK), Room k (A.deeper (envOfC qual scope s.heap.objs.size f cdv)) → sp vs H Q E →
      ∃ t, PSs (cxOf CX P w K mg base N qual scope f cdv A outer s H E) body t ∧ t { nx := fun _ H' => Q .non H', rt := Q } (start N vs) H) :
    FnOk P w K mg base CX (k + 1) f (PySem.W.fnOf name qual params body scope dV kV doc pm an cdv ct) ps sp := by
  refine ⟨len, fun A outer s H args us vs Q E hr e0 hb r hsp => ?_⟩
  have hl := len _ _ _ _ hsp
  have KX : K.In s.heap := e0.mod.kin.keeps fun b o e => (e0.bs b o e).1
  have lim : s.heap.NoLimit := e0.mod.nolimit.keeps fun b o e => (e0.bs b o e).1
  have hkind : ∀ y ∈ ps.zip us, scope.names.lookup y.1 = some .local ∨ (scope.names.lookup y.1 = some .cell ∧ ((cellsFrom (s.heap.objs.size + 1) scope.names []).lookup y.1).isSome = true) := fun ⟨n, v⟩ hy => by
    rcases S.par n (List.of_mem_zip hy).1 with q | q
    · exact .inl q
    · exact .inr ⟨q, PySem.W.cellsFrom_some _ _ _ (.inl q)⟩
  refine codeAny_call_function hr.depth (KX _ _ lk) rfl S.co S.gen rfl (PySem.W.codeRec_of KX hcd) (hb _ _ _ _ ?_)
  refine wpAny_newFunctionEnv_cells S.kind hkind fun env he s1 x => ?_
  subst he
  refine ⟨lim.keeps x.toInCall.keep, codeAny_func ?_⟩
  obtain ⟨t, ht, hq⟩ := hbody A outer s H vs Q E (hr.deeper _) hsp
  have I : Inv (cxOf CX P w K mg base N qual scope f cdv A outer s H E) [] (start N vs) H s1 := inv_start S hr.hd e0 hl r x
  refine wpAny_mono (ht [] s1 (start N vs) H _ I hq) (fun fl s' hs => ?_) fun e s' hs => hs
  have fin : ∀ {σ' : St} {H' : Hp} {v : V} {u : Value}, Inv (cxOf CX P w K mg base N qual scope f cdv A outer s H E) [] σ' H' s' → RelV v u → Q v H' → CE outer P w H s Q u s' :=
    fun {σ' H' v u} J rv q => ⟨v, H', J.os, J.bare, J.base, J.hok, rv, q⟩
  cases fl with
  | ret u =>
    obtain ⟨v, σ', H', J, rv, q⟩ := hs
    exact fin J rv q
  | next =>
    obtain ⟨σ', H', J, q⟩ := hs
    exact fin (v := V.non) (u := Value.none) J rfl q
  | brk =>
    obtain ⟨_, _, _, q⟩ := hs
    exact False.elim q
  | cont =>
    obtain ⟨_, _, _, q⟩ := hs
    exact False.elim q
end L2

namespace L2
open PySem PySem.Spec PyProof.Rows
section
variable {X : Cx} {x : Str} {p pos : Pos} {e : Expr} {es : List Expr} {t : TA} {id T : String} {r : List V → Hp → VK → Prop}

def tCB (r : List V → Hp → VK → Prop) (t : TA) : TE := fun σ H Q => t σ H fun vs H1 => r vs H1 Q
/-- f(e, ..), f a built-in function -/
theorem pe_callB (hc : CallR X (.builtin id) r) (hg : Gl X x) (hm : X.mg x = none) (hv : bootBuiltins x = some (.builtin id)) (ha : PA X (e :: es) t) (hn : x ≠ "__name__" := by decide) (hdb : (x == ("__debug__" : Str)) = false := by decide)
    (he : starEach (e :: es) X.env = (false, eval e X.env) :: starEach es X.env := by rfl) (hpl : (backTo pos (starEach es X.env)).any (·.1) = false := by rfl) : PE X (.Call (.Name x p) (e :: es) [] pos) (tCB r t) := by
  intro pins s σ H Q I h
  refine wpAny_Call_Name_kw (ld_blt I hg hm hv ?_ hn hdb)
  exact PyProof.Rows.callWith_builtin1 (thn (ha pos pins s σ H _ I h) fun us s1 ⟨vs, H1, I1, r1, q1⟩ => hc pins s1 σ H1 vs us Q I1 r1 q1) he hpl
/-- T(e, ..), T a built-in type -/
theorem pe_callTy (hc : CallR X (.type T) r) (hg : Gl X x) (hm : X.mg x = none) (hv : bootBuiltins x = some (.type T)) (ha : PA X (e :: es) t) (hn : x ≠ "__name__" := by decide) (hdb : (x == ("__debug__" : Str)) = false := by decide)
    (he : starEach (e :: es) X.env = (false, eval e X.env) :: starEach es X.env := by rfl) (hpl : (backTo pos (starEach es X.env)).any (·.1) = false := by rfl) : PE X (.Call (.Name x p) (e :: es) [] pos) (tCB r t) := by
  intro pins s σ H Q I h
  refine wpAny_Call_Name_kw (ld_blt I hg hm hv ?_ hn hdb)
  exact PyProof.Rows.callWith_type1 (thn (ha pos pins s σ H _ I h) fun us s1 ⟨vs, H1, I1, r1, q1⟩ => hc pins s1 σ H1 vs us Q I1 r1 q1) he hpl
end
end L2

namespace HT
open PySem PyProof.Rows

section
open PySem.SeqAt
open PySem.AutoSeq1 (wpAny_loadPart')
open PySem.MeetsSeq PySem.MeetsSeq2 PySem.MeetsSeq3

end

section
variable {prog : Program} {w : World} {A : Around} {E : Value → Shared → Prop} {s : Shared}

/-- t + u, t not empty -/
theorem cat_tup {t b : Addr} {vs ws : List Value} {Q : Value → Shared → Prop} (ht : IsTup s.heap t vs.toArray) (hb : IsTup s.heap b ws.toArray) (hv : vs ≠ [])
    (h1 : ws = [] → Q (.ref t) s) (h2 : ws ≠ [] → Q (.ref s.heap.objs.size) { s with heap := s.heap.push { cls := .type "tuple", data := .seq (vs ++ ws).toArray } })
    (hsz : vs.length + ws.length ≤ sizeLine) : wpAny (model prog w) A (binaryOp .Add (.ref t) (.ref b)) Q E s := by
  obtain ⟨⟨cls, dd, data, sl⟩, ho, hc, n, hd⟩ := id ht
  obtain ⟨⟨cls2, dd2, data2, sl2⟩, ho2, hc2, n2, hd2⟩ := id hb
  simp only at hc hd hc2 hd2
  subst hc hd hc2 hd2
  have e : vs.toArray ++ ws.toArray = (vs ++ ws).toArray := by simp
  by_cases hw : ws = []
  · exact concat_meets ⟨_, ho, rfl⟩ ⟨_, ho2, rfl⟩ noFill_tuple_add seq_tuple_add PySem.F.slot_tuple_add PySem.F.entry_tuple_add (PySem.F.args_tuple_add_2 _ _)
      (tuple_addW1 t b vs.toArray ws.toArray n n2 dd dd2 sl sl2 (by simpa using hv) (by simp [hw])) ⟨ho, ho2, h1 hw⟩
  · refine concat_meets ⟨_, ho, rfl⟩ ⟨_, ho2, rfl⟩ noFill_tuple_add seq_tuple_add PySem.F.slot_tuple_add PySem.F.entry_tuple_add (PySem.F.args_tuple_add_2 _ _)
      (tuple_addW2 t b vs.toArray ws.toArray n n2 dd dd2 sl sl2 (by simpa using hv) (by simpa using hw) (by rw [List.size_toArray, List.size_toArray]; exact hsz)) ⟨ho, ho2, ?_⟩
    rw [e]
    exact h2 hw

/-! ### t[a:b], not the whole -/
/-- a slice's bound as a place among n (d where it is left out) -/
def sIx (n d : Nat) : Option Int → Nat
  | none => d
  | some v => if v < 0 then (v + (n : Int)).toNat else min v.toNat n
theorem sIx_none (n d : Nat) : sIx n d none = d := rfl
theorem sIx_nat (n d k : Nat) : sIx n d (some (k : Int)) = min k n := by
  show (if (k : Int) < 0 then ((k : Int) + (n : Int)).toNat else min (k : Int).toNat n) = min k n
  rw [if_neg (by omega), Int.toNat_natCast]
theorem sIx_le (n d : Nat) (hd : d ≤ n) (o : Option Int) : sIx n d o ≤ n := by
  cases o with
  | none => exact hd
  | some v =>
    show (if v < 0 then (v + (n : Int)).toNat else min v.toNat n) ≤ n
    by_cases hv : v < 0
    · rw [if_pos hv]; omega
    · rw [if_neg hv]; exact Nat.min_le_right _ _
theorem clip_eq (v : Int) (n d : Nat) : (if v < 0 then max (v + (n : Int)) 0 else min v (n : Int)) = ((sIx n d (some v) : Nat) : Int) := by
  show (if v < 0 then max (v + (n : Int)) 0 else min v (n : Int)) = (((if v < 0 then (v + (n : Int)).toNat else min v.toNat n) : Nat) : Int)
  by_cases hv : v < 0
  · simp only [if_pos hv]; omega
  · simp only [if_neg hv]; omega
theorem adjust_gen (lo hi : Option Int) (n : Nat) : Builtin.Slice.sliceAdjust lo hi 1 (n : Int) = (((sIx n 0 lo : Nat) : Int), ((sIx n n hi : Nat) : Int)) := by
  have h1 : ¬ ((1 : Int) < 0) := by omega
  unfold Builtin.Slice.sliceAdjust
  simp only [h1, if_false]
  refine Prod.ext ?_ ?_
  · cases lo with
    | none => rfl
    | some v => exact clip_eq v n 0
  · cases hi with
    | none => rfl
    | some v => exact clip_eq v n n
theorem places_gen (i j : Nat) : Builtin.Slice.slicePlaces (i : Int) (j : Int) 1 = j - i := by
  unfold Builtin.Slice.slicePlaces
  have h1 : (1 : Int) > 0 := by omega
  simp only [h1, if_true, Int.ediv_one]
  split <;> omega
theorem slicePart_ {v : Value} {o : Option Int} {Q : Option Int → Shared → Prop} (p : IsPart v o) (h : Q o s) : wpAny (model prog w) A (Builtin.Slice.slicePartIndex v) Q E s := by
  cases p with
  | none => exact slicePart_none h
  | int i t => exact slicePart_int h
theorem sliceApplied_gen {sl : Addr} {vl vu : Value} {lo hi : Option Int} {n : Nat} {Q : Int × Int × Nat → Shared → Prop} (hs : s.heap.IsSliceOf sl vl vu .none) (pl : IsPart vl lo) (pu : IsPart vu hi)
    (h : Q (((sIx n 0 lo : Nat) : Int), 1, sIx n n hi - sIx n 0 lo) s) : wpAny (model prog w) A (Builtin.Slice.sliceApplied (.ref sl) (pure (n : Int))) Q E s := by
  obtain ⟨os, hos, hcs, hds⟩ := id hs
  unfold Builtin.Slice.sliceApplied Builtin.Slice.sliceFields
  refine wpAny_bind (wpAny_bind (wpAny_field hos hds (x := vl) rfl (wpAny_bind (wpAny_field hos hds (x := vu) rfl (wpAny_bind (wpAny_field hos hds (x := .none) rfl (wpAny_pure ?_)))))))
  refine wpAny_bind (slicePart_none ?_)
  show wpAny _ _ (if ((1 : Int) == 0) = true then _ else _) _ _ s
  rw [if_neg (by decide)]
  refine wpAny_bind (slicePart_ pl (wpAny_bind (slicePart_ pu (wpAny_bind (wpAny_pure ?_)))))
  show wpAny _ _ (match Builtin.Slice.sliceAdjust lo hi 1 (n : Int) with | (lo, hi) => pure (lo, (1 : Int), Builtin.Slice.slicePlaces lo hi 1)) _ _ s
  rw [adjust_gen lo hi n]
  show wpAny _ _ (pure (((sIx n 0 lo : Nat) : Int), (1 : Int), Builtin.Slice.slicePlaces ((sIx n 0 lo : Nat) : Int) ((sIx n n hi : Nat) : Int) 1)) _ _ s
  rw [places_gen]
  exact wpAny_pure h
theorem pick_gen (xs : Array Value) (i k : Nat) : ((List.range k).filterMap fun (m : Nat) => xs[((i : Int) + (m : Int) * 1).toNat]?).toArray = ((xs.toList.drop i).take k).toArray := by
  have e : (fun (m : Nat) => xs[((i : Int) + (m : Int) * 1).toNat]?) = fun m => xs[i + m]? := by
    funext m
    have : ((i : Int) + (m : Int) * 1).toNat = i + m := by omega
    rw [this]
  rw [e]
  have := pick_run xs i k
  rw [List.filterMap_map] at this
  have e2 : ((fun x => xs[x]?) ∘ fun x => i + x) = fun m => xs[i + m]? := rfl
  rw [e2] at this
  rw [this]

theorem getItem_tuple_cut {t sl : Addr} {items : Array Value} {vl vu : Value} {lo hi : Option Int} {Q : Value → Shared → Prop} (ht : IsTup s.heap t items) (hs : s.heap.IsSliceOf sl vl vu .none) (pl : IsPart vl lo) (pu : IsPart vu hi)
    (hw : ¬ (sIx items.size 0 lo = 0 ∧ sIx items.size items.size hi = items.size))
    (h : Q (.ref s.heap.objs.size) { s with heap := s.heap.push { cls := .type "tuple", data := .seq ((items.toList.drop (sIx items.size 0 lo)).take (sIx items.size items.size hi - sIx items.size 0 lo)).toArray } })
    (hsz : items.size ≤ sizeLine) : wpAny (model prog w) A (getItem (.ref t) (.ref sl)) Q E s := by
  have htake : sizeOk (.seq ((items.toList.drop (sIx items.size 0 lo)).take (sIx items.size items.size hi - sIx items.size 0 lo)).toArray) := by
    show ((items.toList.drop (sIx items.size 0 lo)).take (sIx items.size items.size hi - sIx items.size 0 lo)).toArray.size ≤ sizeLine
    rw [List.size_toArray, List.length_take, List.length_drop, Array.length_toList]
    omega
  have hj : sIx items.size items.size hi ≤ items.size := sIx_le _ _ (Nat.le_refl _) hi
  obtain ⟨os, hos, hcs, hds⟩ := id hs
  have hTs : s.TypeIs (.ref sl) "slice" := ⟨os, hos, hcs⟩
  unfold getItem
  try with_reducible refine wpAny_holding ?_
  first | refine wpAny_bind (wpAny_pure ?_) | skip
  refine wpAny_bind (wpAny_sequenceKey ht.typeIs (by decide) ?_)
  refine wpAny_bind (wpAny_callSpecial?_slot (name := Str.ofString "__getitem__") ht.typeIs PyProof.Rows.slot_tuple_getitem
    (wpAny_call_entry PyProof.Rows.slot_tuple_getitem ht.typeIs entry_tuple_getitem ?_ (args_tuple_getitem _ _)))
  show wpAny _ _ (Builtin.Tuple.tupleItemsOf (.ref t) >>= _) _ _ s
  refine wpAny_bind (tupleItemsOf_ ht ?_)
  refine wpAny_bind (wpAny_typeOf hTs ?_)
  rw [if_pos (by decide)]
  refine wpAny_bind (sliceApplied_gen hs pl pu ?_)
  have hno : ¬ ((((sIx items.size 0 lo : Nat) : Int) == 0 && (1 : Int) == 1 && (sIx items.size items.size hi - sIx items.size 0 lo) == items.size) = true) := by
    intro q
    rw [Bool.and_eq_true, Bool.and_eq_true] at q
    have q1 : ((sIx items.size 0 lo : Nat) : Int) = 0 := eq_of_beq q.1.1
    have q2 : sIx items.size items.size hi - sIx items.size 0 lo = items.size := eq_of_beq q.2
    exact hw ⟨by omega, by omega⟩
  show wpAny _ _ (if (((sIx items.size 0 lo : Nat) : Int) == 0 && (1 : Int) == 1 && (sIx items.size items.size hi - sIx items.size 0 lo) == items.size) = true then _ else _) _ _ s
  rw [if_neg hno, pick_gen]
  first
    | exact wpAny_bind (m := Builtin.Tuple.tupleExact _) (wpAny_newObj_type (wpAny_pure ⟨_, rfl, wpAny_pure h⟩) htake)
    | exact wpAny_bind (m := Builtin.Tuple.tupleExact _) (wpAny_newObj_type (wpAny_bind (wpAny_pure (wpAny_pure ⟨_, rfl, wpAny_pure h⟩))) htake)
    | exact wpAny_bind (wpAny_bind (m := Builtin.Tuple.tupleExact _) (wpAny_newObj_type (wpAny_pure (wpAny_pure ⟨_, rfl, wpAny_pure h⟩)) htake))
    | exact wpAny_bind (wpAny_bind (m := Builtin.Tuple.tupleExact _) (wpAny_newObj_type (wpAny_pure ⟨_, rfl, wpAny_pure h⟩) htake))
end
end HT

namespace L2
open PySem PySem.Spec PyProof.Rows

/-! ### the parts of a slice -/
abbrev TO := St → Hp → (Option Int → Hp → Prop) → Prop
/-- a slice's part (left out, or an int) -/
def PO (X : Cx) (e : Option Expr) (t : TO) : Prop :=
  ∀ (pins : List (Addr × Obj)) (s : Shared) (σ : St) (H : Hp) (Q : Option Int → Hp → Prop), Inv X pins σ H s → t σ H Q →
    wpAny (model X.prog X.w) X.A (evalPart e X.env) (fun u s' => ∃ o H', Inv X pins σ H' s' ∧ IsPart u o ∧ Q o H') X.xe s
def tNoPart : TO := fun _ H Q => Q none H
def tPart (t : TE) : TO := fun σ H Q => t σ H fun x H1 => ∃ i, x = .int i ∧ Q (some i) H1

theorem intsAre_of {ns : List Int} : ∀ {us : List Value}, Vals (ns.map V.int) us → IntsAre us ns := by
  induction ns with
  | nil => intro us r; rw [List.map_nil] at r; cases r; exact .nil
  | cons n ns ih =>
    intro us r
    rw [List.map_cons] at r
    cases r with
    | cons r1 r2 =>
      obtain ⟨t, e⟩ := r1
      subst e
      exact .cons n t (ih r2)

section
variable {X : Cx} {e : Expr} {te : TE} {lo hi : Option Expr} {tl th : TO} {pos p2 : Pos}

theorem po_none : PO X none tNoPart := by
  intro pins s σ H Q I h
  rw [evalPart_none]
  exact wpAny_pure ⟨none, H, I, .none, h⟩
theorem po_some (h : PE X e te) : PO X (some e) (tPart te) := by
  intro pins s σ H Q I hw
  rw [evalPart_some]
  refine thn (h pins s σ H _ I hw) fun u s1 ⟨x, H1, I1, r1, q1⟩ => ?_
  obtain ⟨i, rfl, q⟩ := q1
  obtain ⟨t, rfl⟩ := r1
  exact ⟨some i, H1, I1, .int i t, q⟩

/-- what a slice of a value is, by values: the slice object stands at sl -/
def SlR (X : Cx) (r : V → Option Int → Option Int → Hp → VK → Prop) : Prop :=
  ∀ (pins : List (Addr × Obj)) (s : Shared) (σ : St) (H : Hp) (x : V) (v vl vu : Value) (lo hi : Option Int) (sl : Addr) (Q : VK), Inv X pins σ H s → RelV x v → s.heap.IsSliceOf sl vl vu .none → IsPart vl lo → IsPart vu hi → r x lo hi H Q →
    ∃ T id, typeLookup (.type T) "__getitem__" = pure (some (.builtin id)) ∧ s.TypeIs v T ∧ wpAny (model X.prog X.w) X.A (getItem v (.ref sl)) (EP X pins σ Q) X.xe s
theorem SlR.or {r r' : V → Option Int → Option Int → Hp → VK → Prop} (h : SlR X r) (h' : SlR X r') : SlR X (fun x lo hi H Q => r x lo hi H Q ∨ r' x lo hi H Q) := by
  intro pins s σ H x v vl vu lo hi sl Q I rx hs pl pu q
  rcases q with q | q
  · exact h pins s σ H x v vl vu lo hi sl Q I rx hs pl pu q
  · exact h' pins s σ H x v vl vu lo hi sl Q I rx hs pl pu q
def tSl (r : V → Option Int → Option Int → Hp → VK → Prop) (te : TE) (tl th : TO) : TE := fun σ H Q => te σ H fun x H1 => tl σ H1 fun l H2 => th σ H2 fun u H3 => r x l u H3 Q
/-- a[lo:hi], any a -/
theorem pe_slice {r : V → Option Int → Option Int → Hp → VK → Prop} (hr : SlR X r) (he : PE X e te) (hl : PO X lo tl) (hu : PO X hi th) : PE X (.Subscript e (.Slice lo hi none p2) pos) (tSl r te tl th) := by
  intro pins s σ H Q I h
  refine Subscript_ (thn (he pins s σ H _ I h) fun v s1 ⟨x, H1, I1, r1, q1⟩ => ?_)
  refine wpAny_Slice (thn (hl pins s1 σ H1 _ I1 q1) fun vl s2 ⟨l, H2, I2, pl, q2⟩ => thn (hu pins s2 σ H2 _ I2 q2) fun vu s3 ⟨u, H3, I3, pu, q3⟩ => ?_)
  rw [evalPart_none]
  refine wpAny_pure ?_
  have I4 : Inv X pins σ H3 { s3 with heap := s3.heap.push { cls := .type "slice", data := .fields #[vl, vu, .none] } } := I3.kept (t' := s3.toks) fun b ob q => Heap.get?_push_of_some _ q
  obtain ⟨T, id, hT, ht, hg⟩ := hr pins { s3 with heap := s3.heap.push { cls := .type "slice", data := .fields #[vl, vu, .none] } } σ H3 x v vl vu l u s3.heap.objs.size Q I4 r1 (Heap.IsSliceOf.new ..) pl pu q3
  show wpAny (model X.prog X.w) X.A (subscriptTail e (.Slice lo hi none p2) v (.ref s3.heap.objs.size)) (EP X pins σ Q) X.xe { s3 with heap := s3.heap.push { cls := .type "slice", data := .fields #[vl, vu, .none] } }
  exact tail_any (ops := [.ref s3.heap.objs.size, v]) ht hT hg (by with_unfolding_all rfl)

/-- the items of xs[lo:hi] -/
def cutV (xs : List V) (lo hi : Option Int) : List V := (xs.drop (HT.sIx xs.length 0 lo)).take (HT.sIx xs.length xs.length hi - HT.sIx xs.length 0 lo)
theorem cutV_length (xs : List V) (lo hi : Option Int) : (cutV xs lo hi).length ≤ xs.length := by
  unfold cutV
  rw [List.length_take, List.length_drop]
  omega
/-- t[lo:hi], not the whole of it (the whole would be t itself) -/
def rSlT (K : PySem.W.Frag) : V → Option Int → Option Int → Hp → VK → Prop := fun x lo hi H Q => ∃ a xs, x = .ref a ∧ SqT K H a xs ∧
  ¬ (HT.sIx xs.length 0 lo = 0 ∧ HT.sIx xs.length xs.length hi = xs.length) ∧ ∀ p, H p = none → Q (.ref p) (upd H p (.tup (cutV xs lo hi)))
theorem sl_tup : SlR X (rSlT X.K) := by
  intro pins s σ H x v vl vu lo hi sl Q I rx hs pl pu h
  obtain ⟨a, xs, rfl, hx, hw, q⟩ := h
  cases rx
  obtain ⟨its, r, ht, hz⟩ := I.tuple hx
  have hlen : its.toArray.size = xs.length := by rw [List.size_toArray]; exact r.length.symm
  refine ⟨"tuple", _, PyProof.Rows.slot_tuple_getitem.lookup, ht.typeIs, ?_⟩
  refine HT.getItem_tuple_cut ht hs pl pu (by rw [hlen]; exact hw) ?_ (by rw [hlen]; exact hz)
  rw [hlen]
  refine ⟨.ref s.heap.objs.size, _, I.laid (t' := s.toks) (o := .tup (cutV xs lo hi)) (fun b ob q => Heap.get?_push_of_some _ q) (Nat.le_refl _) ?_, rfl, q _ (I.hok.fresh (Nat.le_refl _))⟩
  exact ⟨Nat.le_trans (cutV_length xs lo hi) hz, _, (r.drop (HT.sIx xs.length 0 lo)).take (HT.sIx xs.length xs.length hi - HT.sIx xs.length 0 lo), PTup.new _ _⟩

/-! ### t < u, t + u -/
/-- t + u, t not empty: u empty gives t itself -/
def rCatT (K : PySem.W.Frag) : R2 := fun x y H Q => ∃ a b xs ys, x = .ref a ∧ y = .ref b ∧ SqT K H a xs ∧ SqT K H b ys ∧ xs ≠ [] ∧ xs.length + ys.length ≤ sizeLine ∧
  (ys = [] → Q (.ref a) H) ∧ (ys ≠ [] → ∀ p, H p = none → Q (.ref p) (upd H p (.tup (xs ++ ys))))
theorem Vals.nil_iff {xs : List V} {us : List Value} (r : Vals xs us) : us = [] ↔ xs = [] := by
  cases r with
  | nil => simp
  | cons _ _ => simp
theorem op_catT : OpR X (binaryOp .Add) (rCatT X.K) := by
  intro pins s σ H x y v u Q I rx ry h
  obtain ⟨a, b, xs, ys, rfl, rfl, ha, hb, hx, hz, q1, q2⟩ := h
  cases rx
  cases ry
  obtain ⟨its, r1, p1, _⟩ := I.tuple ha
  obtain ⟨its2, r2, p2, _⟩ := I.tuple hb
  refine HT.cat_tup p1 p2 (fun z => hx (r1.nil_iff.mp z)) (fun z => ⟨.ref a, H, I, rfl, q1 (r2.nil_iff.mp z)⟩) (fun z => ?_) (by rw [← r1.length, ← r2.length]; exact hz)
  refine ⟨.ref s.heap.objs.size, _, I.laid (t' := s.toks) (o := .tup (xs ++ ys)) (fun b ob q => Heap.get?_push_of_some _ q) (Nat.le_refl _) ?_, rfl, q2 (fun w => z (r2.nil_iff.mpr w)) _ (I.hok.fresh (Nat.le_refl _))⟩
  exact ⟨by rw [List.length_append]; exact hz, _, r1.append r2, PTup.new _ _⟩
end
end L2

namespace L2
open PySem PySem.Spec PyProof.Rows

/-! ### places -/
/-- the place that an index of any sign means -/
def ixN (n : Nat) (i : Int) : Option Nat := if 0 ≤ i then (if i < n then some i.toNat else none) else if -(n : Int) ≤ i then some (i + n).toNat else none
def atI {α : Type} (xs : List α) (i : Int) : Option α := (ixN xs.length i).bind fun j => xs[j]?
theorem ixN_seq {n : Nat} {i : Int} {j : Nat} (h : ixN n i = some j) : seqIndex? i n = some j ∧ j < n ∧ -(n : Int) ≤ i ∧ i < n := by
  unfold ixN at h
  by_cases h0 : 0 ≤ i
  · rw [if_pos h0] at h
    by_cases h1 : i < n
    · rw [if_pos h1] at h
      have e : i.toNat = j := Option.some.inj h
      exact ⟨by rw [seqIndex_of h0 h1, e], by omega, by omega, h1⟩
    · rw [if_neg h1] at h; cases h
  · rw [if_neg h0] at h
    by_cases h1 : -(n : Int) ≤ i
    · rw [if_pos h1] at h
      have e : (i + n).toNat = j := Option.some.inj h
      exact ⟨by rw [seqIndex_neg (by omega) h1, e], by omega, h1, by omega⟩
    · rw [if_neg h1] at h; cases h
theorem atI_get {α : Type} {xs : List α} {i : Int} {v : α} (h : atI xs i = some v) : ∃ j, seqIndex? i xs.length = some j ∧ xs[j]? = some v ∧ j < xs.length ∧ -(xs.length : Int) ≤ i ∧ i < xs.length := by
  unfold atI at h
  cases e : ixN xs.length i with
  | none => rw [e] at h; cases h
  | some j =>
    rw [e] at h
    obtain ⟨h1, h2, h3, h4⟩ := ixN_seq e
    exact ⟨j, h1, h, h2, h3, h4⟩
theorem atI_nat {α : Type} {xs : List α} {j : Nat} {v : α} (h : xs[j]? = some v) : atI xs (j : Int) = some v := by
  have hj : j < xs.length := (List.getElem?_eq_some_iff.mp h).1
  have e : ixN xs.length (j : Int) = some j := by
    unfold ixN
    rw [if_pos (by omega), if_pos (by omega)]; simp
  unfold atI; rw [e]; exact h
/-! ### what may be subscripted -/
/-- what stands as an index of a plain subscript -/
def PlainIx (b : Expr) : Prop := ∀ o i, subscripted b false o i = operate [o, i] (getItem o i)
/-- a subscript by values -/
def IxR (X : Cx) (r : R2) : Prop :=
  ∀ (value slice : Expr) (pins : List (Addr × Obj)) (s : Shared) (σ : St) (H : Hp) (x y : V) (v u : Value) (Q : VK), Inv X pins σ H s → RelV x v → RelV y u → r x y H Q →
    subscripted slice false v u = operate [v, u] (getItem v u) → wpAny (model X.prog X.w) X.A (subscriptTail value slice v u) (EP X pins σ Q) X.xe s
/-- a call of a builtin's method by values: the receiver, the arguments -/
def MtR (X : Cx) (id : String) (r : V → List V → Hp → VK → Prop) : Prop :=
  ∀ (pins : List (Addr × Obj)) (s : Shared) (σ : St) (H : Hp) (x : V) (xs : List V) (v : Value) (us : List Value) (Q : VK), Inv X pins σ H s → RelV x v → Vals xs us → r x xs H Q →
    wpAny (model X.prog X.w) X.A (call (.builtin id) (v :: us)) (EP X pins σ Q) X.xe s
section
variable {X : Cx} {a b : Expr} {ta tb : TE} {pos : Pos}
theorem IxR.or {r r' : R2} (h : IxR X r) (h' : IxR X r') : IxR X (fun x y H Q => r x y H Q ∨ r' x y H Q) := by
  intro value slice pins s σ H x y v u Q I rx ry q hs
  rcases q with q | q
  · exact h value slice pins s σ H x y v u Q I rx ry q hs
  · exact h' value slice pins s σ H x y v u Q I rx ry q hs
/-- a[b] -/
theorem pe_ix {r : R2} (hr : IxR X r) (ha : PE X a ta) (hb : PE X b tb) (hs : PlainIx b) : PE X (.Subscript a b pos) (tOp r ta tb) := by
  intro pins s σ H Q I h
  exact Subscript_ (binT ha hb I h fun v u s2 x y H2 I2 rx ry q => hr a b pins s2 σ H2 x y v u Q I2 rx ry q (hs _ _))

def rIxL (K : PySem.W.Frag) : R2 := fun x y H Q => ∃ p xs i v, x = .ref p ∧ y = .int i ∧ SqL K H p xs ∧ atI xs i = some v ∧ Q v H
def rIxT (K : PySem.W.Frag) : R2 := fun x y H Q => ∃ p xs i v, x = .ref p ∧ y = .int i ∧ SqT K H p xs ∧ atI xs i = some v ∧ Q v H
def rIxS : R2 := fun x y H Q => ∃ z i c, x = .str z ∧ y = .int i ∧ z.length ≤ sizeLine ∧ atI z.cps.toList i = some c ∧ Q (.str ⟨#[c]⟩) H
theorem ix_list : IxR X (rIxL X.K) := by
  intro value slice pins s σ H x y v u Q I rx ry h hs
  obtain ⟨p, xs, i, z, rfl, rfl, hq, he, q⟩ := h
  cases rx
  obtain ⟨t, rfl⟩ := ry
  obtain ⟨its, r, pl, hz⟩ := I.list hq
  obtain ⟨j, h1, h2, h3, h4, h5⟩ := atI_get he
  obtain ⟨w, ew, rw'⟩ := r.get h2
  have hl := r.length
  have hn := line63
  have fin : EP X pins σ Q w s := ⟨z, H, I, rw', q⟩
  by_cases h0 : 0 ≤ i
  · have hj : i.toNat = j := by
      rw [seqIndex_of h0 h5] at h1
      exact Option.some.inj h1
    exact item_listR pl.isList h0 (by omega) (by rw [hj]; simpa using ew) fin hs
  · have hj : (i + (its.toArray.size : Int)).toNat = j := by
      rw [seqIndex_neg (by omega) h4] at h1
      rw [List.size_toArray, ← hl]
      exact Option.some.inj h1
    exact subscriptTail_builtinR (x := w) pl.isList.typeIs slot_list_getitem.lookup
      (wpAny_getItem_list_neg (Q := fun r s' => r = w ∧ EP X pins σ Q r s') pl.isList (by omega) (by rw [List.size_toArray] <;> omega) (by omega) (by rw [hj]; simpa using ew) ⟨rfl, fin⟩) hs
theorem ix_tup : IxR X (rIxT X.K) := by
  intro value slice pins s σ H x y v u Q I rx ry h hs
  obtain ⟨p, xs, i, z, rfl, rfl, hq, he, q⟩ := h
  cases rx
  obtain ⟨t, rfl⟩ := ry
  obtain ⟨its, r, pl, hz⟩ := I.tuple hq
  obtain ⟨j, h1, h2, h3, h4, h5⟩ := atI_get he
  obtain ⟨w, ew, rw'⟩ := r.get h2
  have hl := r.length
  have hn := line63
  have fin : EP X pins σ Q w s := ⟨z, H, I, rw', q⟩
  exact subscriptTail_builtinR (x := w) pl.typeIs slot_tuple_getitem.lookup
    (getItem_tuple (j := j) (Q := fun r s' => r = w ∧ EP X pins σ Q r s') pl (by omega) (by omega) (by rw [List.size_toArray, ← hl]; exact h1) (by simpa using ew) ⟨rfl, fin⟩) hs
theorem ix_str : IxR X rIxS := by
  intro value slice pins s σ H x y v u Q I rx ry h hs
  obtain ⟨z, i, c, rfl, rfl, hz, he, q⟩ := h
  obtain ⟨t, rfl⟩ := rx
  obtain ⟨t', rfl⟩ := ry
  obtain ⟨j, h1, h2, h3, h4, h5⟩ := atI_get he
  have hl : z.cps.toList.length = z.length := by simp [Str.length]
  rw [hl] at h1 h4 h5
  have hn := line63
  exact tail_any (typeIs_str s z t) slot_str_getitem.lookup (getItem_str (c := c) (by
    have e1 : decide (i < -(2 ^ 63 : Int)) = false := decide_eq_false (by omega)
    have e2 : decide (i ≥ 2 ^ 63) = false := decide_eq_false (by omega)
    rw [e1, e2, Bool.or_false]) (by rw [h1]; simpa using h2) ⟨.str ⟨#[c]⟩, H, I.tok _, ⟨_, rfl⟩, q⟩) hs
/-- list, tuple or str -/
def rIx (K : PySem.W.Frag) : R2 := fun x y H Q => rIxL K x y H Q ∨ rIxT K x y H Q ∨ rIxS x y H Q
theorem ix_seq : IxR X (rIx X.K) := ix_list.or (ix_tup.or ix_str)

/-! ### xs[i] = v, any sign -/
/-- the list's object behind a store -/
theorem mapSeq_set (its : List Value) (n j : Nat) (u : Value) : Obj.mapSeq (·.setIfInBounds j u) { cls := .type "list", data := .seq its.toArray n } = { cls := .type "list", data := .seq (its.set j u).toArray n } := by
  simp [Obj.mapSeq]
theorem Inv.lst {pins : List (Addr × Obj)} {σ : St} {H : Hp} {s : Shared} {p : Addr} {xs : List V} (I : Inv X pins σ H s) (h : H p = some (.lst xs)) :
    ∃ (its : List Value) (n : Nat), Vals xs its ∧ s.heap.get? p = some { cls := .type "list", data := .seq its.toArray n } ∧ xs.length ≤ sizeLine := by
  obtain ⟨z, its, n, r, e⟩ := I.hok p _ h
  exact ⟨its, n, r, e, z⟩
/-- the list at p is written by an update of its object -/
theorem Inv.lstUpd {pins : List (Addr × Obj)} {σ : St} {H : Hp} {s : Shared} {p : Addr} {xs ys : List V} {its its' : List Value} {n n' : Nat} {f : Obj → Obj} (I : Inv X pins σ H s) (h : H p = some (.lst xs))
    (ho : s.heap.get? p = some { cls := .type "list", data := .seq its.toArray n }) (hf : f { cls := .type "list", data := .seq its.toArray n } = { cls := .type "list", data := .seq its'.toArray n' }) (r : Vals ys its') (hz : ys.length ≤ sizeLine) (t : Nat) :
    Inv X pins σ (upd H p (.lst ys)) { s with heap := s.heap.update p f, toks := t } := by
  have e : (s.heap.update p f).get? p = some { cls := .type "list", data := .seq its'.toArray n' } := by
    rw [Heap.get?_update_self f ho (by rw [hf] <;> rfl), hf]
  refine I.write (x := p) (e := p) (by rw [h]; trivial) (.inl rfl) (fun b u hb q => (Heap.get?_update_other _ _ (Ne.symm hb)).trans q) ⟨_, e⟩ ?_
  exact ⟨hz, its', n', r, e⟩
def rSetL : V → V → V → Hp → (Hp → Prop) → Prop := fun o i v H Q => ∃ p xs k j, o = .ref p ∧ i = .int k ∧ H p = some (.lst xs) ∧ ixN xs.length k = some j ∧ Q (upd H p (.lst (xs.set j v)))
theorem set_list : PSet X rSetL := by
  intro pins s σ H o i v ov iv u Q I ro ri rv h
  obtain ⟨p, xs, k, j, rfl, rfl, hp, hj, q⟩ := h
  cases ro
  obtain ⟨t, rfl⟩ := ri
  obtain ⟨its, n, r, ho, hz⟩ := I.lst hp
  obtain ⟨h1, h2, h3, h4⟩ := ixN_seq hj
  have hl := r.length
  have hn := line63
  have I' : Inv X pins σ (upd H p (.lst (xs.set j v))) { s with heap := s.heap.update p (Obj.mapSeq (·.setIfInBounds j u)) } :=
    I.lstUpd hp ho (mapSeq_set its n j u) (r.set rv j) (by rw [List.length_set]; exact hz) s.toks
  by_cases h0 : 0 ≤ k
  · have hk : k.toNat = j := by
      rw [seqIndex_of h0 h4] at h1
      exact Option.some.inj h1
    exact PySem.W.ki_setAt ho h0 (by omega) (by rw [List.size_toArray, ← hl]; exact h4) (by rw [hk]; exact ⟨_, I', q⟩)
  · have hk : (k + (its.toArray.size : Int)).toNat = j := by
      rw [seqIndex_neg (by omega) h3] at h1
      rw [List.size_toArray, ← hl]
      exact Option.some.inj h1
    exact PySem.W.ki_setBack ho (by omega) (by rw [List.size_toArray, ← hl]; exact h3) (by omega) (by rw [hk]; exact ⟨_, I', q⟩)

/-! ### slices -/
theorem slice_bounds (lo hi : Option Int) (n : Nat) : (sliceBounds lo hi none n).1 = ((HT.sIx n 0 lo : Nat) : Int) ∧ (sliceBounds lo hi none n).2.1 = ((HT.sIx n n hi : Nat) : Int) ∧ (sliceBounds lo hi none n).2.2 = 1 := by
  refine ⟨?_, ?_, rfl⟩
  · cases lo with
    | none => simp [sliceBounds, HT.sIx]
    | some i =>
      simp only [sliceBounds, HT.sIx, Option.getD_none, show (1 : Int) > 0 by decide, if_true]
      by_cases h : i < 0
      · simp only [h, if_true] <;> omega
      · simp only [h, if_false] <;> omega
  · cases hi with
    | none => simp [sliceBounds, HT.sIx]
    | some i =>
      simp only [sliceBounds, HT.sIx, Option.getD_none, show (1 : Int) > 0 by decide, if_true]
      by_cases h : i < 0
      · simp only [h, if_true] <;> omega
      · simp only [h, if_false] <;> omega
theorem slicePick_cut (its : List Value) (lo hi : Option Int) : slicePick its.toArray lo hi none = ((its.drop (HT.sIx its.length 0 lo)).take (HT.sIx its.length its.length hi - HT.sIx its.length 0 lo)).toArray := by
  obtain ⟨h1, h2, h3⟩ := slice_bounds lo hi its.toArray.size
  unfold slicePick
  rw [h1, h2, h3]
  simp only [sliceRange_one, pick_run, List.size_toArray] <;> rfl
/-- xs[lo:hi] of a list: a new list -/
def rSlL (K : PySem.W.Frag) : V → Option Int → Option Int → Hp → VK → Prop := fun x lo hi H Q => ∃ a xs, x = .ref a ∧ SqL K H a xs ∧ ∀ p, H p = none → Q (.ref p) (upd H p (.lst (cutV xs lo hi)))
theorem sl_list : SlR X (rSlL X.K) := by
  intro pins s σ H x v vl vu lo hi sl Q I rx hs pl pu h
  obtain ⟨a, xs, rfl, hx, q⟩ := h
  cases rx
  obtain ⟨its, r, ht, hz⟩ := I.list hx
  have hlen := r.length
  refine ⟨"list", _, slot_list_getitem.lookup, ht.isList.typeIs, ?_⟩
  refine wpAny_getItem_list_slice ht.isList hs pl pu .none (by simp) ?_ (by rw [List.size_toArray] <;> omega)
  rw [slicePick_cut, ← hlen]
  refine ⟨.ref s.heap.objs.size, _, I.laid (t' := s.toks) (o := .lst (cutV xs lo hi)) (fun b ob q => Heap.get?_push_of_some _ q) (Nat.le_refl _) ?_, rfl, q _ (I.hok.fresh (Nat.le_refl _))⟩
  exact ⟨Nat.le_trans (cutV_length xs lo hi) hz, _, 0, (r.drop (HT.sIx xs.length 0 lo)).take (HT.sIx xs.length xs.length hi - HT.sIx xs.length 0 lo), Heap.get?_push_size _ rfl⟩

/-! ### in, not in: flat items -/
/-! ### len, list(x), tuple(x) of any list or tuple that is read -/
theorem call_list_of : CallR X (.type "list") (fun xs H Q => ∃ p ys, xs = [.ref p] ∧ (SqL X.K H p ys ∨ SqT X.K H p ys) ∧ ∀ l, H l = none → Q (.ref l) (upd H l (.lst ys))) := by
  intro pins s σ H xs us Q I r h
  obtain ⟨p, ys, rfl, hq, q⟩ := h
  obtain ⟨u, rfl, rx⟩ := vals1 r
  cases rx
  have fin : ∀ (its : List Value), Vals ys its → ys.length ≤ sizeLine → ∀ (h' : Heap) (c' : Nat), (∀ b o', s.heap.get? b = some o' → h'.get? b = some o') →
      h'.get? s.heap.objs.size = some { cls := .type "list", dict := none, data := .seq its.toArray c', slots := #[] } → EP X pins σ Q (.ref s.heap.objs.size) { s with heap := h' } := fun its r' hz h' c' kp e =>
    ⟨.ref s.heap.objs.size, _, I.laid (t' := s.toks) kp (Nat.le_refl _) (show ObjOk X.prog X.w _ h' _ (.lst ys) from ⟨hz, its, c', r', e⟩), rfl, q _ (I.hok.fresh (Nat.le_refl _))⟩
  rcases hq with hq | hq
  · obtain ⟨its, r', pl, hz⟩ := I.list hq
    have hlen := r'.length
    obtain ⟨o, ho, hc, n, hd⟩ := pl.isList
    exact call_list_seq p (.inl rfl) ho hc hd (fun h' c' kp e => fin its r' hz h' c' kp e) (by simp only [List.size_toArray] <;> omega)
  · obtain ⟨its, r', pl, hz⟩ := I.tuple hq
    have hlen := r'.length
    obtain ⟨o, ho, hc, n, hd⟩ := pl
    exact call_list_seq p (.inr rfl) ho hc hd (fun h' c' kp e => fin its r' hz h' c' kp e) (by simp only [List.size_toArray] <;> omega)
theorem call_tuple_of : CallR X (.type "tuple") (fun xs H Q => ∃ p ys, xs = [.ref p] ∧ ((SqL X.K H p ys ∧ ∀ l, H l = none → Q (.ref l) (upd H l (.tup ys))) ∨ (SqT X.K H p ys ∧ Q (.ref p) H))) := by
  intro pins s σ H xs us Q I r h
  obtain ⟨p, ys, rfl, h⟩ := h
  obtain ⟨u, rfl, rx⟩ := vals1 r
  cases rx
  rcases h with ⟨hq, q⟩ | ⟨hq, q⟩
  · obtain ⟨its, r', pl, hz⟩ := I.list hq
    have hlen := r'.length
    refine call_tuple_list pl.isList (fun h' kp => ?_) (by simp only [List.size_toArray] <;> omega)
    have I1 : Inv X pins σ H { s with heap := h' } := I.kept (t' := s.toks) kp
    have I2 : Inv X pins σ (upd H h'.objs.size (.tup ys)) { s with heap := h'.push { cls := .type "tuple", data := .seq its.toArray } } :=
      I1.laid (t' := s.toks) (fun b o e => Heap.get?_push_of_some _ e) (Nat.le_refl _) (show ObjOk X.prog X.w _ _ _ (.tup ys) from ⟨hz, its, r', PTup.new _ _⟩)
    exact ⟨.ref h'.objs.size, _, I2, rfl, q _ (I1.hok.fresh (Nat.le_refl _))⟩
  · obtain ⟨its, r', pl, hz⟩ := I.tuple hq
    exact call_tuple_same pl ⟨.ref p, H, I, rfl, q⟩

/-! ### the call of a builtin's method: o.m(..) -/
/-- the value is of that builtin type -/
def tyV (K : PySem.W.Frag) (T : String) (x : V) (H : Hp) : Prop := match x with
  | .str _ => T = "str"
  | .int _ => T = "int"
  | .ref p => (T = "list" ∧ ∃ xs, SqL K H p xs) ∨ (T = "tuple" ∧ ∃ o, K.lookup p = some o ∧ o.cls = .type "tuple" ∧ o.dict = none) ∨
      (T = "dict" ∧ ((∃ kvs, H p = some (.dK kvs)) ∨ ∃ kvs, H p = some (.dT kvs))) ∨ (T = "set" ∧ ∃ S n, H p = some (.set S n)) ∨ (T = "tuple" ∧ ∃ xs, H p = some (.tup xs))
  | _ => False
theorem tyV_is {pins : List (Addr × Obj)} {σ : St} {H : Hp} {s : Shared} {T : String} {x : V} {v : Value} (I : Inv X pins σ H s) (r : RelV x v) (ty : tyV X.K T x H) :
    s.TypeIs v T ∧ ∀ a, v = .ref a → ∃ ob, s.heap.get? a = some ob ∧ ob.dict = none := by
  cases x with
  | str z =>
    obtain ⟨t, rfl⟩ := r
    cases (show T = "str" from ty)
    exact ⟨typeIs_str s z t, fun _ e => nomatch e⟩
  | int i =>
    obtain ⟨t, rfl⟩ := r
    cases (show T = "int" from ty)
    exact ⟨typeIs_int s i t, fun _ e => nomatch e⟩
  | ref p =>
    cases r
    rcases ty with ⟨rfl, xs, hq⟩ | ⟨rfl, o, hk, hc, hd⟩ | ⟨rfl, hk⟩ | ⟨rfl, S, n, hk⟩ | ⟨rfl, xs, hk⟩
    rotate_left 4
    · obtain ⟨_, its, _, o, e, c, _, hd⟩ := I.hok p _ hk
      exact ⟨⟨o, e, c⟩, fun a e2 => by cases e2; exact ⟨o, e, hd⟩⟩
    · obtain ⟨its, _, pl, _⟩ := I.list hq
      refine ⟨pl.isList.typeIs, fun a e => ?_⟩
      cases e
      obtain ⟨o, n, e, c, hd, _⟩ := pl
      exact ⟨o, e, hd⟩
    · refine ⟨⟨o, I.kIn p o hk, hc⟩, fun a e => ?_⟩
      cases e
      exact ⟨o, I.kIn _ o hk, hd⟩
    · have z : ∃ o, s.heap.get? p = some o ∧ o.ExactDict := by
        rcases hk with ⟨kvs, hk⟩ | ⟨kvs, hk⟩
        · obtain ⟨_, _, _, _, o, _, _, e, ex, _⟩ := I.hok p _ hk
          exact ⟨o, e, ex⟩
        · obtain ⟨_, _, _, _, o, _, _, e, ex, _⟩ := I.hok p _ hk
          exact ⟨o, e, ex⟩
      obtain ⟨o, e, ex⟩ := z
      refine ⟨⟨o, e, ex.1⟩, fun a e2 => ?_⟩
      cases e2
      exact ⟨o, e, ex.2.1⟩
    · obtain ⟨o, _, _, _, e, ex, _⟩ := I.hok p _ hk
      refine ⟨⟨o, e, ex.1⟩, fun a e2 => ?_⟩
      cases e2
      exact ⟨o, e, ex.2.1⟩
  | _ => exact False.elim ty
def tBM (K : PySem.W.Frag) (T : String) (r : V → List V → Hp → VK → Prop) (to : TE) (t : TA) : TE := fun σ H Q => to σ H fun x H1 => tyV K T x H1 ∧ t σ H1 fun xs H2 => r x xs H2 Q
variable {o e : Expr} {es : List Expr} {to : TE} {t : TA} {name : Str} {apos cpos : Pos} {T id : String} {r : V → List V → Hp → VK → Prop}
theorem pe_bm (pa : PlainAttrs T) (slot : Slot T name id) (hty : typeOf (.builtin id) = pure (.type "method_descriptor")) (hm : MtR X id r) (ho : PE X o to) (ha : PA X (e :: es) t)
    (hbase : attributeBase o name X.env (eval o X.env) = eval o X.env := by rfl)
    (hfew : ((backTo cpos (starEach (e :: es) X.env)).all (fun x => !x.1) && (backToKw cpos (keywordEach [] X.env)).all (fun x => x.1.isSome)
      && decide ((e :: es).length + ([] : List Keyword).length + (if ([] : List Keyword).isEmpty then 0 else 1) < 30)) = true := by rfl)
    (hline : (apos.endLine == cpos.line) = true := by rfl) (hs : starEach (e :: es) X.env = (false, eval e X.env) :: starEach es X.env := by rfl) (hplain : (backTo cpos (starEach es X.env)).any (·.1) = false := by rfl) :
    PE X (.Call (.Attribute o name apos) (e :: es) [] cpos) (tBM X.K T r to t) := by
  intro pins s σ H Q I h
  refine wpAny_Call_method_late hbase hfew hline rfl (thn (ho pins s σ H _ I h) fun v s1 ⟨x, H1, I1, r1, ty, q1⟩ => ?_)
  obtain ⟨h1, h2⟩ := tyV_is I1 r1 ty
  refine ⟨T, id, pa, slot, hty, h1, h2, ?_⟩
  have hA := ha cpos pins s1 σ H1 _ I1 q1
  rw [hs] at hA ⊢
  refine Calls.callWith_builtin (by show (false || (backTo cpos (starEach es X.env)).any (·.1)) = false; rw [hplain] <;> rfl) (Calls.evalArgs_plain ?_)
  exact thn hA fun us s2 ⟨vs, H2, I2, r2, q2⟩ => hm pins s2 σ H2 x vs v us Q I2 r1 r2 q2
/- xs.append(e), list.index on a module's tuple .. are MtR facts of 06m -/
end
end L2

namespace L2
open PySem PySem.Spec PyProof.Rows

def MtM (X : Cx) (id : String) (r : V → List V → Hp → VK → Prop) : Prop :=
  ∀ (pins : List (Addr × Obj)) (s : Shared) (σ : St) (H : Hp) (x : V) (xs : List V) (v : Value) (us : List Value) (Q : VK), Inv X pins σ H s → RelV x v → Vals xs us → r x xs H Q →
    wpAny (model X.prog X.w) X.A (call (.builtin id) (v :: us)) (EP X pins σ Q) X.xe s

/-! ### lists of values -/
theorem Vals.one : ∀ {x : V} {us : List Value}, Vals [x] us → ∃ u, us = [u] ∧ RelV x u
  | _, _, .cons r .nil => ⟨_, rfl, r⟩
theorem Vals.reverse {xs : List V} {us : List Value} (h : Vals xs us) : Vals xs.reverse us.reverse := by
  induction h with
  | nil => exact .nil
  | cons r t ih => rw [List.reverse_cons, List.reverse_cons]; exact Vals.append ih (.cons r .nil)
theorem Vals.rep {xs : List V} {us : List Value} (h : Vals xs us) : ∀ k : Nat, Vals (List.replicate k xs).flatten (List.replicate k us).flatten
  | 0 => .nil
  | k + 1 => by
    rw [List.replicate_succ, List.replicate_succ, List.flatten_cons, List.flatten_cons]
    exact Vals.append h (Vals.rep h k)
theorem foldl_rep (its : List Value) : ∀ (k : Nat) (acc : List Value),
    List.foldl (fun x1 x2 => x1 ++ x2) acc.toArray (List.replicate k its.toArray) = (acc ++ (List.replicate k its).flatten).toArray
  | 0, acc => by simp
  | k + 1, acc => by
    have e : acc.toArray ++ its.toArray = (acc ++ its).toArray := by simp
    have e2 : (acc ++ its) ++ (List.replicate k its).flatten = acc ++ (List.replicate (k + 1) its).flatten := by
      rw [List.replicate_succ, List.flatten_cons, List.append_assoc]
    rw [← e2, ← foldl_rep its k (acc ++ its), ← e, List.replicate_succ, List.foldl_cons]

section
variable {X : Cx} {pins : List (Addr × Obj)} {σ : St} {H : Hp} {s : Shared} {l b : Addr} {xs ys zs : List V}

/-! ### the two steps: a tracked list is rewritten, a new list is laid -/
theorem Inv.lset {its its' : List Value} {n : Nat} {f : Array Value → Array Value} {t' : Nat} (I : Inv X pins σ H s) (hH : H l = some (.lst xs))
    (e : s.heap.get? l = some { cls := .type "list", data := .seq its.toArray n }) (hf : f its.toArray = its'.toArray) (hv : Vals ys its') (hz : ys.length ≤ sizeLine) :
    Inv X pins σ (upd H l (.lst ys)) { s with heap := s.heap.update l (Obj.mapSeq f), toks := t' } := by
  have q := PySem.IsL.update e f
  rw [hf] at q
  refine I.write (x := l) (e := l) (by rw [hH]; exact trivial) (.inl rfl) (fun b' u hb hu => (Heap.get?_update_other s.heap (Obj.mapSeq f) (Ne.symm hb)).trans hu) ⟨_, q⟩ ?_
  exact ⟨hz, its', _, hv, q⟩
theorem Inv.lnew {its : List Value} {t' : Nat} (I : Inv X pins σ H s) (hv : Vals ys its) (hz : ys.length ≤ sizeLine) :
    Inv X pins σ (upd H s.heap.objs.size (.lst ys)) { s with heap := s.heap.push { cls := .type "list", data := .seq its.toArray }, toks := t' } :=
  I.laid (fun _ _ q => Heap.get?_push_of_some _ q) (Nat.le_refl _) ⟨hz, its, 0, hv, Heap.get?_push_size _ rfl⟩
theorem Inv.fresh (I : Inv X pins σ H s) : H s.heap.objs.size = none := I.hok.fresh (Nat.le_refl _)
theorem Inv.lstM (I : Inv X pins σ H s) (hH : H l = some (.lst xs)) : xs.length ≤ sizeLine ∧ ∃ (its : List Value) (n : Nat), Vals xs its ∧ xs.length = its.length ∧ s.heap.get? l = some { cls := .type "list", data := .seq its.toArray n } := by
  obtain ⟨z, its, n, r, e⟩ := I.hok l _ hH
  exact ⟨z, its, n, r, r.length, e⟩

end

section
variable {X : Cx}

/-! ### methods -/
def rAppend : V → List V → Hp → VK → Prop := fun x vs H Q => ∃ l xs y, x = .ref l ∧ vs = [y] ∧ H l = some (.lst xs) ∧ xs.length < sizeLine ∧ Q .non (upd H l (.lst (xs ++ [y])))
theorem mt_append : MtM X "list.append" rAppend := by
  intro pins s σ H x vs v us Q I rx rv h
  obtain ⟨l, xs, y, rfl, rfl, hH, hz, q⟩ := h
  cases rx
  obtain ⟨u, rfl, ru⟩ := rv.one
  obtain ⟨z, its, n, r, hl, e⟩ := I.lstM hH
  refine call_meets F.slot_list_append ⟨_, e, rfl⟩ F.entry_list_append (F.args_list_append_2 _ _) (PySem.list_append l its.toArray n u (by rw [List.size_toArray]; omega)) ⟨e, ?_⟩
  refine ⟨.non, _, I.lset (its' := its ++ [u]) hH e (by simp) (r.append (.cons ru .nil)) ?_, rfl, q⟩
  rw [List.length_append, List.length_singleton]
  omega

/-! ### list + list, list += list, list * int -/
def rCat : R2 := fun x y H Q => ∃ l b xs zs, x = .ref l ∧ y = .ref b ∧ H l = some (.lst xs) ∧ H b = some (.lst zs) ∧ xs.length + zs.length ≤ sizeLine ∧ ∀ p, H p = none → Q (.ref p) (upd H p (.lst (xs ++ zs)))
theorem op_cat : OpR X (binaryOp .Add) rCat := by
  intro pins s σ H x y v u Q I rx ry h
  obtain ⟨l, b, xs, zs, rfl, rfl, hH, hB, hz, q⟩ := h
  cases rx
  cases ry
  obtain ⟨z, its, n, r, hl, e⟩ := I.lstM hH
  obtain ⟨z2, its2, n2, r2, hl2, e2⟩ := I.lstM hB
  refine PySem.P.add_list e e2 ?_ (by rw [List.size_toArray, List.size_toArray]; omega)
  have ea : its.toArray ++ its2.toArray = (its ++ its2).toArray := by simp
  rw [ea]
  exact ⟨.ref _, _, I.lnew (t' := s.toks) (r.append r2) (by rw [List.length_append]; omega), rfl, q _ I.fresh⟩
theorem len_rep {α : Type} (xs : List α) (k : Nat) : (List.replicate k xs).flatten.length = k * xs.length := by
  induction k with
  | zero => simp
  | succ k ih => rw [List.replicate_succ, List.flatten_cons, List.length_append, ih, Nat.succ_mul, Nat.add_comm]
/-! ### del xs[i] -/
end

/-! ### xs[a:b] = ys -/
section
variable {prog : Program} {w : World} {A : Around} {E : Value → Shared → Prop} {s : Shared}
set_option maxRecDepth 100000 in
end

section
variable {X : Cx}
end
end L2

namespace Att
open PySem PySem.W PySem.Calls PyProof.Rows

/-! ### the script -/
theorem ints_of_wellAll {P : Params} {h : Heap} : ∀ (ns : List Int) (vs : List Value), WellAll P h vs (ns.map WData.int) → IntsAre vs ns := by
  intro ns
  induction ns with
  | nil =>
    intro vs w
    rw [List.map_nil] at w
    cases w
    exact .nil
  | cons n ns ih =>
    intro vs w
    rw [List.map_cons] at w
    cases w with
    | cons a b =>
      cases a
      exact .cons _ _ (ih _ b)

theorem script_of {l : OpenLaw} {n : Nat} (hn : l.most = some n) {P : Params} {h : Heap} {args : List WData} {vals : List Value}
    (hpre : l.row.toRowW.claim.pre args = true) (hwl : WellAll P h vals args) :
    ∃ a vs ns, vals = [Value.ref a] ∧ args = [WData.list (ns.map WData.int)] ∧ h.get? a = some { cls := .type "list", data := .seq vs.toArray } ∧ IntsAre vs ns ∧ ns.length ≤ n := by
  have hsh : WShape.hasAll [] args [.list .int] = true := (pre_splitW hpre).1
  have hc : l.pre.holds [] { args := args } = true := (pre_splitW hpre).2
  obtain ⟨d, r, rfl, h1, h2⟩ := hasAllW_cons hsh
  obtain rfl := hasAllW_nil h2
  obtain ⟨xs, rfl, h3⟩ := hasW_list h1
  obtain ⟨ns, rfl⟩ := items_int h3
  have hlen : ns.length ≤ n := by
    unfold OpenLaw.pre at hc
    have h4 : (WTm.not (.lt (.lit (.int (n : Int))) (.len (.arg 0)))).holds [] { args := [.list (ns.map .int)] } = true := by
      have h4 := (holds_andW hc).1
      rw [hn] at h4
      exact h4
    have h5 := condW_of h4 (w_not (w_lt w_lit (w_len_list (w_arg rfl))))
    rw [List.length_map] at h5
    refine Nat.le_of_not_lt fun q => ?_
    have q' : (n : Int) < ((ns.length : Nat) : Int) := by omega
    first
      | (rw [decide_eq_true q'] at h5; exact absurd h5 (by decide))
      | (simp at h5; omega)
  cases hwl with
  | cons w1 w2 =>
    cases w2
    cases w1 with
    | list ho hall => exact ⟨_, _, ns, rfl, rfl, ho, ints_of_wellAll ns _ hall, hlen⟩

theorem post_true (l : OpenLaw) (args : List WData) : l.row.toRowW.claim.post args (.bool true) args = true :=
  postW_of (r := l.row.toRowW) (X := (true == true))
    (show WShape.has [] (.bool true) .bool = true by first | rfl | decide | simp [WShape.has, WShape.arms, WShape.armsAll])
    (show (WTm.eq .res (.lit (.bool true))).value [] { args := args, res := some (.bool true), after := args } = some (.bool (true == true)) from w_eq_bool (w_res rfl) w_lit) rfl

/-! ### the attachment: holds_open's last premise (the goal 'hc' behind k_head) from a wpAny of the law's body -/
/-- the same from a codeAny of the CALL (for a layer whose function contracts speak of calls) -/
theorem attach_call {l : OpenLaw} {n : Nat} {q : Program} {loose : List Str} {XP : (Str → Option Value) → Heap → Prop} {YP : World → Heap → Prop} {d : DefRec}
    (hn : l.most = some n) (hdf : d.params.defaults = [])
    (call : ∀ (w : World) (s₀ s₁ : Shared) (mg mb : Str → Option Value) (fa : Addr) (o : Obj) (pm cd doc : Value) (a : Addr) (vs : List Value) (ns : List Int),
      Ground q loose [] XP w s₀ mg mb s₁.heap → YP w s₁.heap →
      s₁.heap.get? fa = some o → o.data = .func (docDef d.name d.params d.body d.scope pm cd doc) → s₁.heap.CodeRec cd d.name → mg d.name = some (.ref fa) →
      s₁.heap.get? a = some { cls := .type "list", data := .seq vs.toArray } → IntsAre vs ns → ns.length ≤ n → s₁.gens = #[] →
      codeAny (model l.prog w) callerA (.call (.ref fa) ⟨[.ref a], []⟩) (fun r s' => r = .ok (.ret (.bool true)) ∧ OldK s₁.heap s'.heap ∧ s'.os = s₁.os ∧ AllBare s'.gens) s₁) :
    WalkO q loose XP YP l.row.toRowW d [] (fun f vs => PySem.call f vs) := by
  intro w s₀ s₁ mg mb G Y fa o pm cd doc dV kV ho hd hcd hD hmg hg args vals as hpre hlay hrd hwl hlo
  obtain rfl : dV = .none := Dflts.none hD hdf
  obtain rfl : kV = .none := Dflts.noKw hD
  obtain ⟨a, vs, ns, rfl, rfl, hobj, hints, hlen⟩ := script_of hn hpre hwl
  refine enter_call (codeAny_mono (call w s₀ s₁ mg mb fa o pm cd doc a vs ns G Y ho (fd_plain hd) hcd hmg hobj hints hlen hg) fun r s' hq => ?_)
  obtain ⟨rfl, h2, h3, h4⟩ := hq
  exact ⟨.inl ⟨.bool true, .bool true, [], rfl, fun _ => rfl, .bool true, post_true l _, fun _ => ⟨List.Pairwise.nil, fun _ hm => (nomatch hm)⟩⟩, h2, h3, h4⟩

/-! ### rules over ANY heap (no ledger) from facts about the written part K: the library's own take a ledger (News) for what they write -/
section
variable {prog : Program} {w : World} {A : Around} {E : Value → Shared → Prop} {s : Shared} {K : Frag}

/-! the whole heap as the ledger: makes every rule that writes through a ledger a rule over any heap -/
end
end Att

namespace L2
open PySem PySem.Spec PyProof.Rows

theorem vals_ints : ∀ {vs : List Value} {ns : List Int}, IntsAre vs ns → Vals (ns.map V.int) vs
  | _, _, .nil => .nil
  | _, _, .cons n t h => .cons ⟨t, rfl⟩ (vals_ints h)

/-- nothing is tracked but the script, known to the object (or it is an object of the module) -/
def Only (H : Hp) : Prop := ∀ b, H b = none ∨ ∃ o xs, H b = some (.frz o (.lst xs))

/-- THE HEAD: the law's promise, at the heap behind the top. F, the promise of the law's def, may use that base is part of the heap (so K.In base, base.Ns mainGlobals mg stand in Mod) -/
theorem law_call {P : Program} {w : World} {K : PySem.W.Frag} {mg mb : Str → Option Value} {CX : CXT} {k : Nat} {fa a : Addr} {fd : FuncData} {x : Str} {sp : Sp} {s₁ : Shared} {vs : List Value} {ns : List Int}
    (KX : K.In s₁.heap) (hns : s₁.heap.Ns mainGlobals mg) (hb : s₁.heap.Ns builtinsNs mb) (hbb : ∀ x : Str, x ≠ "__name__" → mb x = bootBuiltins x) (hlim : s₁.heap.NoLimit) (hg : s₁.gens = #[])
    (ha : s₁.heap.get? a = some { cls := .type "list", data := .seq vs.toArray }) (hi : IntsAre vs ns) (hl : ns.length ≤ sizeLine) (hr : Room k callerA)
    (F : ∀ base : Heap, K.In base → base.Ns mainGlobals mg → FnOk P w K mg base CX k fa fd [x] sp) (hbind : ∀ (s : Shared) (u : Value), BindsTo s fd ⟨[u], []⟩ [(x, u)])
    (hsp : ∀ H : Hp, Only H → SqL K H a (ns.map V.int) → sp [.ref a] H (fun v _ => v = .bl true) fun _ _ _ => False)
    (hCX : ∀ H e s', CX [] H s₁ (fun _ _ _ => False) e s' → False) :
    codeAny (model P w) callerA (.call (.ref fa) ⟨[.ref a], []⟩) (fun r s' => r = .ok (.ret (.bool true)) ∧ OldK s₁.heap s'.heap ∧ s'.os = s₁.os ∧ AllBare s'.gens) s₁ := by
  have rv := vals_ints hi
  have lenV := hi.length
  -- from an abstract heap in which nothing but the script may be tracked
  have core : ∀ H : Hp, Only H → SqL K H a (ns.map V.int) → HOk P w H s₁.heap → (∀ b, H b ≠ none → b = a) → (H a ≠ none → K.lookup a = none) →
      codeAny (model P w) callerA (.call (.ref fa) ⟨[.ref a], []⟩) (fun r s' => r = .ok (.ret (.bool true)) ∧ OldK s₁.heap s'.heap ∧ s'.os = s₁.os ∧ AllBare s'.gens) s₁ := by
    intro H hO hS hok hA hK
    have base_of : ∀ {b : Addr} {o : Obj}, s₁.heap.get? b = some o → H b = none → (hidT s₁.heap H).get? b = some o := fun e n => hidT_get e n
    have noA : ∀ {b : Addr} {o : Obj} {es : Array DictEntry} {ep : Nat}, s₁.heap.get? b = some o → o.data = .dict es ep → H b = none := fun {b o es ep} e d => by
      cases q : H b with
      | none => rfl
      | some u =>
        have e' : b = a := hA b (by rw [q]; simp)
        subst e'
        rw [ha] at e; cases e
        have d' : Data.seq vs.toArray _ = Data.dict es ep := d
        cases d'
    have nsK : ∀ {b : Addr} {m : Str → Option Value}, s₁.heap.Ns b m → (hidT s₁.heap H).Ns b m := fun {b m} ⟨o, es, ep, e, d, r⟩ => ⟨o, es, ep, base_of e (noA e d), d, r⟩
    have hKb : K.In (hidT s₁.heap H) := fun b o e => base_of (KX b o e) (by
      cases q : H b with
      | none => rfl
      | some u =>
        have e' : b = a := hA b (by rw [q]; simp)
        subst e'
        rw [hK (by rw [q]; simp)] at e; cases e)
    have hM : Mod K mg (hidT s₁.heap H) := ⟨hKb, nsK hns, ⟨mb, nsK hb, hbb⟩, let ⟨mc, h1, h2⟩ := hlim; ⟨mc, nsK h1, h2⟩⟩
    have e0 : Env0 P w K mg (hidT s₁.heap H) callerA [] s₁ H := ⟨rfl, hM, fun b o e => of_hidT e, Nat.le_of_eq (hidT_size _ _), trivial, fun b hb => absurd (show b ∈ ([] : List Addr) from hb) (by simp), hok, .of_eq hg⟩
    refine codeAny_mono ((F _ hKb (nsK hns)).run callerA [] s₁ H ⟨[.ref a], []⟩ [.ref a] [.ref a] _ _ hr e0 (hbind s₁ (.ref a)) (.cons rfl .nil) (hsp H hO hS)) fun r s' h => ?_
    cases r with
    | error e => exact (hCX H e s' h).elim
    | ok fl =>
      cases fl with
      | next => exact False.elim h
      | brk => exact False.elim h
      | cont => exact False.elim h
      | ret u =>
        obtain ⟨v, H', os, bare, un, hok', r', q⟩ := h
        have q' : v = .bl true := q
        subst q'
        obtain rfl : u = Value.bool true := r'
        refine ⟨rfl, OldK.of_keep fun b o e => ?_, os, bare⟩
        cases q : H b with
        | none => exact un.keep b o e q (by intro z; exact absurd (show b ∈ ([] : List Addr) from z) (by simp)) (by simp)
        | some u =>
          rcases hO b with z | ⟨ob, xs, z⟩
          · rw [q] at z; cases z
          · have z2 := un.frzs b ob _ z
            obtain ⟨e1, _⟩ := hok b _ z
            obtain ⟨e2, _⟩ := hok' b _ z2
            rw [e] at e1; cases e1
            exact e2
  cases hk : K.lookup a with
  | some o =>
    -- the script is one of the module's own objects
    have e := KX a o hk
    rw [ha] at e
    cases e
    refine core (fun _ => none) (fun _ => .inl rfl) (.inr ⟨_, vs.toArray, _, hk, rfl, rfl, rfl, by rw [List.size_toArray, lenV]; exact hl, by simpa using rv⟩) (fun b u z => by have z' : (none : Option HO) = some u := z; cases z') (fun b z => absurd rfl z) fun z => absurd rfl z
  | none =>
    refine core (fun b => if b = a then some (.frz { cls := .type "list", data := .seq vs.toArray } (.lst (ns.map V.int))) else none) (fun b => ?_) (.inl (.inr ⟨{ cls := .type "list", data := .seq vs.toArray }, if_pos rfl⟩)) (fun b u z => ?_) (fun b z => ?_) fun _ => hk
    · by_cases hb : b = a
      · exact .inr ⟨_, _, if_pos hb⟩
      · exact .inl (if_neg hb)
    · by_cases hb : b = a
      · have z' := (if_pos hb).symm.trans z
        cases z'
        subst hb
        exact ⟨ha, by rw [List.length_map]; exact hl, vs, _, rv, ha⟩
      · have z' := (if_neg hb).symm.trans z
        cases z'
    · by_cases hb : b = a
      · exact hb
      · exact absurd (if_neg hb) z
end L2

namespace L2
open PySem PySem.Spec PyProof.Rows

/-- the goal that k_head leaves (case hc), from the law's promise. F gives the function object fd (K's own) once, then the promise over every base -/
theorem walk_of {l : PySem.W.OpenLaw} {n k : Nat} {q : Program} {loose : List Str} {XP : (Str → Option Value) → Heap → Prop} {YP : World → Heap → Prop} {d : DefRec} {K : Params → PySem.W.Frag} {CX : World → CXT} {sp : World → Sp} {x : Str}
    (hn : l.most = some n) (hn2 : n ≤ sizeLine) (hdf : d.params.defaults = []) (hr : Room k callerA)
    (hY : ∀ (w : World) (h : Heap), YP w h → (K w.params).In h)
    (F : ∀ (w : World) (mg : Str → Option Value) (fa : Addr) (h : Heap), (K w.params).In h → h.Ns mainGlobals mg → mg d.name = some (.ref fa) →
      ∃ fd : FuncData, (∀ (s : Shared) (u : Value), BindsTo s fd ⟨[u], []⟩ [(x, u)]) ∧
        ∀ base : Heap, (K w.params).In base → base.Ns mainGlobals mg → FnOk l.prog w (K w.params) mg base (CX w) k fa fd [x] (sp w))
    (hsp : ∀ (w : World) (H : Hp) (a : Addr) (ns : List Int), ns.length ≤ n → Only H → SqL (K w.params) H a (ns.map V.int) → sp w [.ref a] H (fun v _ => v = .bl true) fun _ _ _ => False)
    (hCX : ∀ (w : World) (H : Hp) (s : Shared) (e : Value) (s' : Shared), CX w [] H s (fun _ _ _ => False) e s' → False) :
    PySem.W.WalkO q loose XP YP l.row.toRowW d [] (fun f vs => PySem.call f vs) := by
  refine Att.attach_call hn hdf fun w s₀ s₁ mg mb fa o pm cd doc a vs ns G Y ho hd hcd hmg hobj hints hlen hg => ?_
  have KX := hY w _ Y
  obtain ⟨fd, hb, hF⟩ := F w mg fa _ KX G.T.g hmg
  exact law_call KX G.T.g G.T.b G.T.builtins G.T.nolimit hg hobj hints (Nat.le_trans hlen hn2) hr hF hb (fun H hO hS => hsp w H a ns hlen hO hS) fun H e s' => hCX w H s₁ e s'
end L2

/- THE LAST THEOREM (shape; LID, My.* are yours):
   My.Adr: a structure of the addresses that your layer names (classes, functions); My.Txt K t: a structure (Prop) of the equations over K;
   My.txt_mk : {K} {implicit addresses ..} (e1 : nsIn K mainGlobals "law" = some (some (.ref f))) (e2 : K.lookup f = some ⟨oc, od, .func (fnOf "law" "law" params body scope dV kV doc pm an cdv ct), sl⟩) (e3 : codeIn K cdv "law" = true) .. : ∃ t, My.Txt K t

set_option maxRecDepth 100000 in
set_option maxHeartbeats 0 in
theorem PySem.Challenge.cw_LID_holds : PySem.Challenge.rw_LID.Holds := by
  w_on; o_law; k_head; (case hw => w_witness2)
  k_fill
  refine L2.walk_of (l := PySem.Challenge.rw_LID) (n := 63) (k := 40) (x := "script") (CX := fun w => ..) (sp := fun _ => My.sp_law) rfl (by decide) rfl ⟨rfl, by decide, by decide⟩ (fun w h Y => PySem.W.kIn_of Y) ?F ?S ?C
  case F =>
    intro w mg fa h KX G hmg
    have T : ∃ t, My.Txt (L2.KOf KX) t := by
      dsimp only [L2.KOf]                          -- K must stand as «<heap const> w.params» for k_is
      refine' My.txt_mk ?e1 ?e2 ?e3 ..
      (case e1 => PySem.W.k_is)                    -- in the order: a name -> its address -> its object -> its parts
      (case e2 => PySem.W.k_is)
      ..
    obtain ⟨t, T⟩ := T
    have e0 := hmg.symm.trans (PySem.W.mg_of KX G T.law)
    cases e0                                       -- fa is the law's own address
    exact ⟨_, fun s u => .of_eq rfl, fun base kb nb => My.law_fn T kb nb⟩     -- if «.of_eq rfl» comes too early: refine' ⟨_, ?b, fun base kb nb => My.law_fn T kb nb⟩; exact fun s u => .of_eq rfl
  case S => exact fun w H a ns hl hO hS => ..
  case C => exact ..
(the tactic k_is has no namespace: write k_is) -/

/-! SHORT WORDS over the layer: a def of the text, its body, what a loop and a test want. -/
namespace L2
open PySem PySem.Spec PyProof.Rows

/-! ### the text by places -/
def defArgs (s : Stmt) : Arguments := match s with
  | .FunctionDef _ a _ _ _ _ _ _ _ _ => a
  | _ => { posonlyargs := [], args := [], vararg := none, kwonlyargs := [], kw_defaults := [], kwarg := none, defaults := [] }
def defBody (s : Stmt) : List Stmt := match s with
  | .FunctionDef _ _ b _ _ _ _ _ _ _ => b
  | _ => []
def defScope (s : Stmt) : Scope := match s with
  | .FunctionDef _ _ _ _ _ _ sc _ _ _ => sc
  | _ => { kind := .function, names := [], isGenerator := false, isCoroutine := false }

/-! ### no exception leaves a def -/
abbrev CX0 : CXT := fun _ _ _ _ _ _ => False
abbrev E0 : XK := fun _ _ _ => False
theorem pass0 {X : Cx} : Passes CX0 X E0 := fun _ _ _ _ _ _ _ h => h.elim

/-! ### a def (or method) of the text as it stands behind the top -/
structure Fun (K : PySem.W.Frag) (x qual : Str) (st : Stmt) (f : Addr) (fd : FuncData) : Prop where
  ex : ∃ (oc : Value) (od : Option Addr) (kV doc pm : Value) (an : Option Addr) (cdv ct : Value) (osl : Array (Option Value)),
    fd = PySem.W.fnOf x qual (defArgs st) (defBody st) (defScope st) .none kV doc pm an cdv ct ∧ K.lookup f = some ⟨oc, od, .func fd, osl⟩ ∧ PySem.W.codeIn K cdv qual = true
  kp : PySem.W.keepIn K (.ref f) = true
section
variable {P : Program} {w : World} {K : PySem.W.Frag} {mg : Str → Option Value} {base : Heap}
/-- THE RULE for a def: its body as a term of rules, and the reading of that term -/
theorem Fun.ok {x qual : Str} {st : Stmt} {f : Addr} {fd : FuncData} {N ps : List Str} {k : Nat} {sp : Sp} (F : Fun K x qual st f fd) (S : FnScope N ps (defScope st)) (len : ∀ vs H Q E, sp vs H Q E → vs.length = ps.length)
    (hbody : ∀ (cdv : Value) (A : Around) (outer : List Env) (s : Shared) (H : Hp) (vs : List V) (Q : VK) (E : XK), Room k (A.deeper (envOfC qual (defScope st) s.heap.objs.size f cdv)) → sp vs H Q E →
      ∃ t, PSs (cxOf CX0 P w K mg base N qual (defScope st) f cdv A outer s H E).nox (defBody st) t ∧ t { nx := fun _ H' => Q .non H', rt := Q } (start N vs) H) : FnOk P w K mg base CX0 (k + 1) f fd ps sp := by
  obtain ⟨oc, od, kV, doc, pm, an, cdv, ct, osl, rfl, lk, hcd⟩ := F.ex
  refine fn_of lk hcd S len fun A outer s H vs Q E hr hsp => ?_
  obtain ⟨t, h, q⟩ := hbody cdv A outer s H vs Q E hr hsp
  exact ⟨t, h.nox, q⟩
/-- how its arguments bind (no defaults): h is «fun _ _ _ _ _ _ us hl => match us, hl with | [_, _], _ => rfl», one _ a parameter -/
theorem Fun.binds {x qual : Str} {st : Stmt} {f : Addr} {fd : FuncData} {ps : List Str} (F : Fun K x qual st f fd)
    (h : ∀ (kV doc pm : Value) (an : Option Addr) (cdv ct : Value) (us : List Value), us.length = ps.length → bindArgs (PySem.W.fnOf x qual (defArgs st) (defBody st) (defScope st) .none kV doc pm an cdv ct) ⟨us, []⟩ = pure (ps.zip us)) : Binds K fd ps [] := by
  obtain ⟨oc, od, kV, doc, pm, an, cdv, ct, osl, rfl, lk, hcd⟩ := F.ex
  exact .all (h kV doc pm an cdv ct)
theorem fun_mk {x qual : Str} {st : Stmt} {f : Addr} {oc : Value} {od an : Option Addr} {osl : Array (Option Value)} {kV doc pm cdv ct : Value} (l : K.lookup f = some ⟨oc, od, .func (PySem.W.fnOf x qual (defArgs st) (defBody st) (defScope st) .none kV doc pm an cdv ct), osl⟩)
    (c : PySem.W.codeIn K cdv qual = true) (k : PySem.W.keepIn K (.ref f) = true) : Fun K x qual st f (PySem.W.fnOf x qual (defArgs st) (defBody st) (defScope st) .none kV doc pm an cdv ct) := ⟨⟨oc, od, kV, doc, pm, an, cdv, ct, osl, rfl, l, c⟩, k⟩
end
theorem small1000 {n : Nat} (h : n ≤ 1000) : n < sizeLine := Nat.lt_of_le_of_lt h (by decide)

/-! ### expressions in short: the name that stands in the i-th slot -/
section
variable {X : Cx}
theorem pv (i : Nat) {x : Str} {pos : Pos} (hN : X.N[i]? = some x := by rfl) (hv : Vis X.env.scope x := by first | exact Or.inl rfl | exact Or.inr (Or.inl rfl) | exact Or.inr (Or.inr rfl)) (hd : (x == ("__debug__" : Str)) = false := by decide)
    (hcd : (x == ("__classdict__" : Str)) = false := by decide) : PE X (.Name x pos) (tVar i) := pe_var hN hv hd hcd
end

/-! ### tests -/
theorem iteF {A B : Prop} (h : B) : if false = true then A else B := by
  rw [if_neg Bool.false_ne_true]
  exact h
theorem iteT {A B : Prop} (h : A) : if true = true then A else B := by
  rw [if_pos rfl]
  exact h
theorem ite2 {c A B : Prop} [Decidable c] (h1 : c → A) (h2 : ¬ c → B) : if c then A else B := by
  by_cases h : c
  · rw [if_pos h]
    exact h1 h
  · rw [if_neg h]
    exact h2 h
theorem iteNS {c A B : Prop} [Decidable c] (hc : c) (h : B) : if (!decide c) = true then A else B := by
  rw [decide_eq_true hc]
  exact iteF h

/-! ### heaps -/
/-- all that was tracked is as it was -/
def Same (H H' : Hp) : Prop := ∀ b o, H b = some o → H' b = some o
theorem Same.refl (H : Hp) : Same H H := fun _ _ h => h
theorem Same.trans {H H1 H2 : Hp} (a : Same H H1) (b : Same H1 H2) : Same H H2 := fun c o h => b c o (a c o h)
theorem Same.seq {K : PySem.W.Frag} {H H' : Hp} {a : Addr} {xs : List V} (e : Same H H') (h : SqL K H a xs) : SqL K H' a xs := by
  rcases h with (h | ⟨o, h⟩) | h
  · exact .inl (.inl (e _ _ h))
  · exact .inl (.inr ⟨o, e _ _ h⟩)
  · exact .inr h

end L2

set_option Elab.async false
set_option linter.all false
set_option maxRecDepth 100000
set_option maxHeartbeats 4000000
namespace L2
open PySem PySem.Spec PyProof.Rows

abbrev NoX : Value → Shared → Prop := fun _ _ => False
theorem wpX {α : Type} {M : Model} {A : Around} {t : Sem α} {Q : α → Shared → Prop} {E : Value → Shared → Prop} {s : Shared} (h : wpAny M A t Q NoX s) : wpAny M A t Q E s :=
  wpAny_mono h (fun _ _ q => q) fun _ _ f => f.elim

/-- the tests of a clause -/
def testAll (ifs : List Expr) (env : Env) : Sem Bool :=
  forIn ifs true fun c r => if r = true then do let ok ← isTrue c env (eval c env); pure (ForInStep.yield ok) else pure (ForInStep.yield r)

/-- the loop of a comprehension of one clause, any target; no exception leaves -/
theorem comp_loop_any {prog : Program} {w : World} {A : Around} {R : Result → Shared → Prop} {s : Shared} {elt tg iter : Expr} {ifs : List Expr} {scope : Scope} {pos : Pos} {it acc : Value} {env : Env} (Iv : Nat → Shared → Prop)
    (turn : ∀ n s, Iv n s → wpAny (model prog w) A (pyNext it) (fun r s1 => match r with
      | none => R (.ok .next) s1
      | some v => wpAny (model prog w) A (letOwnedTupleGo tg it v) (fun _ s2 => wpAny (model prog w) A (assign tg env v) (fun _ s3 => wpAny (model prog w) A (testAll ifs env) (fun ok s4 =>
            if ok = true then wpAny (model prog w) A (eval elt env) (fun x s5 => wpAny (model prog w) A (call (.builtin "list.append") [acc, x]) (fun _ s6 => ∃ m, m < n ∧ Iv m s6) NoX s5) NoX s4
            else ∃ m, m < n ∧ Iv m s4) NoX s3) NoX s2) NoX s1) NoX s)
    (n : Nat) (h : Iv n s) : codeAny (model prog w) A (.compLoop (.ListComp elt [⟨tg, iter, ifs, 0⟩] scope pos) 0 it acc env) R s := by
  refine codeAny_loop rfl Iv (fun n s hI => ?_) n h
  show wpAny (model prog w) A ((compTurn (.ListComp elt [⟨tg, iter, ifs, 0⟩] scope pos) 0 it acc env).onRaise (fun x => do noteFrame x env; theTreesLotGoes x)) _ _ s
  refine wpAny_noted (wpX ?_)
  rw [compTurn_list]
  refine wpAny_bind (wpAny_standAt (wpAny_bind (thn (turn n s hI) fun r s1 h1 => ?_)))
  cases r with
  | none => exact wpAny_pure h1
  | some v =>
    refine wpAny_bind (thn h1 fun _ s2 h2 => wpAny_bind (thn h2 fun _ s3 h3 => wpAny_bind (thn h3 fun ok s4 h4 => ?_)))
    cases ok with
    | false => exact wpAny_pure ⟨rfl, h4⟩
    | true => exact wpAny_bind (wpAny_bind (thn h4 fun x s5 h5 => wpAny_bind (thn h5 fun _ s6 h6 => wpAny_pure (wpAny_pure ⟨rfl, h6⟩))))

/-! what a block closes over -/
def stepCap (env : Env) (y : Str × NameKind) (cs : List (Str × Addr)) : List (Str × Addr) := if (y.2 == NameKind.free) = true then (y.1, (env.cells.lookup y.1).getD 0) :: cs else cs
def capOf (env : Env) (scope : Scope) : List (Str × Addr) := scope.names.foldl (fun c y => stepCap env y c) []
theorem forIn_steps {α β : Type} {f : α → β → Sem (ForInStep β)} {g : β → α → β} : ∀ (l : List α) (c : β), (∀ x ∈ l, ∀ c, f x c = pure (.yield (g c x))) → forIn l c f = pure (l.foldl g c)
  | [], c, _ => rfl
  | x :: l, c, h => by
    rw [List.forIn_cons, h x List.mem_cons_self, pure_bind]
    exact forIn_steps l (g c x) fun y hy => h y (List.mem_cons_of_mem _ hy)
theorem closure_is {env : Env} {scope : Scope} (h : ∀ y ∈ scope.names, y.2 = .free → ∃ c, env.cells.lookup y.1 = some c) : closureFor scope env = pure (capOf env scope) := by
  simp only [closureFor]
  rw [forIn_steps (g := fun c y => stepCap env y c) scope.names [] (fun y hy c => ?_)]
  · rfl
  · obtain ⟨n, k⟩ := y
    by_cases hk : k = .free
    · subst hk
      obtain ⟨a, ha⟩ := h _ hy rfl
      have ha' : env.cells.lookup n = some a := ha
      simp [stepCap, cellOf, ha']
    · have hb : (k == NameKind.free) = false := by simpa using hk
      simp only [stepCap, hb, Bool.false_eq_true, if_false]
theorem fold_cap_sub {env : Env} : ∀ (ns : List (Str × NameKind)) (cs : List (Str × Addr)), (∀ y ∈ ns, y.2 = .free → ∃ c, env.cells.lookup y.1 = some c) → (∀ x c, cs.lookup x = some c → env.cells.lookup x = some c) →
    ∀ x c, (ns.foldl (fun c y => stepCap env y c) cs).lookup x = some c → env.cells.lookup x = some c
  | [], _, _, h => h
  | y :: ns, cs, hf, h => by
    refine fold_cap_sub ns (stepCap env y cs) (fun z hz => hf z (List.mem_cons_of_mem _ hz)) fun x c e => ?_
    unfold stepCap at e
    split at e
    · rename_i hk
      have hk' : y.2 = .free := by simpa using hk
      obtain ⟨a, ha⟩ := hf y List.mem_cons_self hk'
      rw [List.lookup_cons] at e
      split at e
      · rename_i hx
        have hx' : x = y.1 := by simpa using hx
        rw [ha] at e
        rw [hx', ha]
        exact e
      · exact h x c e
    · exact h x c e
theorem fold_cap_has {env : Env} (x : Str) : ∀ (ns : List (Str × NameKind)) (cs : List (Str × Addr)), ((x, NameKind.free) ∈ ns ∨ ∃ c, cs.lookup x = some c) → ∃ c, (ns.foldl (fun c y => stepCap env y c) cs).lookup x = some c
  | [], _, h => by
    rcases h with h | h
    · exact absurd h (by simp)
    · exact h
  | y :: ns, cs, h => by
    refine fold_cap_has x ns (stepCap env y cs) ?_
    rcases h with h | ⟨c, h⟩
    · rcases List.mem_cons.mp h with e | h
      · subst e
        exact .inr ⟨(List.lookup x env.cells).getD 0, by simp [stepCap]⟩
      · exact .inl h
    · refine .inr ?_
      unfold stepCap
      split
      · rw [List.lookup_cons]
        split
        · exact ⟨_, rfl⟩
        · exact ⟨c, h⟩
      · exact ⟨c, h⟩
def relK (env : Env) (n : Str) (k : NameKind) : NameKind := if (k == NameKind.free && env.scope.kind == .function && env.kindOf n == some .cell) = true then .cell else k
def relP (env : Env) (y : Str × NameKind) : Str × NameKind := if (y.2 == NameKind.free && env.scope.kind == .function && env.kindOf y.1 == some .cell) = true then (y.1, NameKind.cell) else (y.1, y.2)
theorem relP_eq (env : Env) (y : Str × NameKind) : relP env y = (y.1, relK env y.1 y.2) := by
  unfold relP relK
  split <;> rfl
theorem lookup_rel {env : Env} (x : Str) : ∀ ns : List (Str × NameKind), (ns.map (relP env)).lookup x = (ns.lookup x).map (relK env x)
  | [] => rfl
  | (n, k) :: r => by
    have ih := lookup_rel (env := env) x r
    rw [List.map_cons, relP_eq, List.lookup_cons, List.lookup_cons]
    cases hx : x == n with
    | true =>
      have e : x = n := by simpa using hx
      subst e
      rfl
    | false => exact ih
theorem relabel_lookup {env : Env} {scope : Scope} (x : Str) : (relabel scope env).names.lookup x = (scope.names.lookup x).map (relK env x) := lookup_rel x scope.names

def capOne (N : List Str) (scope : Scope) (p : Option Nat × Str) : Bool := match p.1 with
  | none => true
  | some j => decide (N[j]? = some p.2) && decide (scope.names.lookup p.2 = some .free)
/-- a block's names: its own, and the captured ones with their slots outside -/
structure CompOk (N : List Str) (sc : Scope) (N' : List Str) (ix : List (Option Nat)) (scope : Scope) : Prop where
  kind : scope.kind = .function
  nocell : ∀ y ∈ scope.names, y.2 ≠ .cell
  locs : ∀ y ∈ scope.names, y.2 = .local → scope.names.lookup y.1 = some .local
  frees : ∀ y ∈ scope.names, y.2 = .free → (sc.names.lookup y.1 = some .cell ∨ sc.names.lookup y.1 = some .free)
  nd : N'.Nodup
  len : ix.length = N'.length
  cap : (ix.zip N').all (capOne N scope) = true
def ixSt (ix : List (Option Nat)) (σ : St) : St := ix.map fun o => o.bind fun i => (σ[i]?).join
/-- the context of a comprehension's block -/
def cxComp (X : Cx) (N' : List Str) (scope : Scope) (C : Addr) (fp : List Addr) (s₀ : Shared) (H₀ : Hp) : Cx where
  prog := X.prog
  w := X.w
  K := X.K
  mg := X.mg
  base := X.base
  A := X.A
  N := N'
  s₀ := s₀
  H₀ := H₀
  env := compEnvC scope (capOf X.env scope) C X.env
  outer := X.stack
  stack := X.stack
  ex := fp
  fn := fun _ => false
  calm := X.calm
  pn := []
  xe := NoX

section
variable {X : Cx} {N' : List Str} {ix : List (Option Nat)} {scope : Scope} {pins : List (Addr × Obj)} {σ : St} {H : Hp} {s : Shared} {fp : List Addr}
theorem CompOk.has (S : CompOk X.N X.env.scope N' ix scope) (ok : X.Ok) : ∀ y ∈ scope.names, y.2 = .free → ∃ c, X.env.cells.lookup y.1 = some c := fun y hy hk => ok.has y.1 (S.frees y hy hk)
theorem CompOk.sub (S : CompOk X.N X.env.scope N' ix scope) (ok : X.Ok) : ∀ x c, (capOf X.env scope).lookup x = some c → X.env.cells.lookup x = some c :=
  fold_cap_sub scope.names [] (S.has ok) fun x c e => by simp at e
theorem CompOk.frK (S : CompOk X.N X.env.scope N' ix scope) {x : Str} (h : (relabel scope X.env).names.lookup x = some .cell ∨ (relabel scope X.env).names.lookup x = some .free) : scope.names.lookup x = some .free := by
  rw [relabel_lookup] at h
  cases e : scope.names.lookup x with
  | none => rw [e] at h; simp at h
  | some k =>
    rw [e] at h
    cases k with
    | free => rfl
    | cell => exact absurd rfl (S.nocell _ (PySem.mem_of_lookup e))
    | «local» => simp [relK] at h
    | globalExplicit => simp [relK] at h
    | globalImplicit => simp [relK] at h
/-- into the block -/
theorem comp_enter {h1 : Heap} {m : Str → Option Value} {tk : Nat} (S : CompOk X.N X.env.scope N' ix scope) (I : Inv X pins σ H s) (hf : ∀ b ∈ fp, FpOk X pins H b) (hlt : ∀ b ∈ fp, b < s.heap.objs.size)
    (ns : h1.Ns s.heap.objs.size m) (kp : ∀ b o, s.heap.get? b = some o → h1.get? b = some o) :
    Inv (cxComp X N' scope s.heap.objs.size fp s H) [] (ixSt ix σ) H { s with heap := h1, toks := tk } := by
  have sub := S.sub I.ok
  have cellS : ∀ x c, (capOf X.env scope).lookup x = some c → c < s.heap.objs.size := fun x c e => by
    obtain ⟨v, q⟩ := I.cell x c (sub x c e)
    exact q.lt
  refine ⟨⟨I.ok.mod, S.kind, I.ok.glob, I.ok.blt, Nat.le_refl _, fun x y c h1 h2 => I.ok.inj x y c (sub x c h1) (sub y c h2), fun x hx => ?_, fun x c z _ => ?_, I.ok.hd, I.ok.frames, .inl rfl, fun b hb => ⟨?_, fun x c e => ?_⟩, I.bs, Nat.le_trans I.ok.bsz I.sz, fun b o e hb => ?_, fun b hb z => ?_, I.stack, I.stkFree⟩,
    rfl, I.bare, Un.kept kp, ⟨m, ns, fun i x v h1 h2 h3 => ?_⟩, fun x c e => ?_, I.hok.fresh (Nat.le_refl _), fun x c e => I.freeC x c (sub x c e), fun p hp => absurd (show p ∈ ([] : List (Addr × Obj)) from hp) (by simp), I.hok.kept kp, ?_⟩
  · exact fold_cap_has x scope.names [] (.inl (PySem.mem_of_lookup (S.frK hx)))
  · exact absurd (show false = true from z) (by simp)
  · exact Nat.ne_of_lt (hlt b hb)
  · exact (hf b hb).2.2.2.2.1 x c (sub x c e)
  · rcases (hf b hb).2.2.2.1 with z | z
    · exact I.ok.noex b o e z
    · exact absurd (Nat.lt_of_lt_of_le (Heap.lt_size e) (Nat.le_trans I.ok.bsz z)) (Nat.lt_irrefl _)
  · rcases List.mem_cons.mp (I.stkSub b z) with e | e
    · exact (hf b hb).2.1 e
    · exact (hf b hb).2.2.1 e
  · have hi : i < ix.length := by
      have := (List.getElem?_eq_some_iff.mp h1).1
      rw [S.len]; exact this
    have e1 : ix[i]? = some ix[i] := List.getElem?_eq_getElem hi
    have h2' : (ixSt ix σ)[i]? = some (some v) := h2
    rw [ixSt, List.getElem?_map, e1] at h2'
    have h2'' : (ix[i].bind fun j => (σ[j]?).join) = some v := Option.some.inj h2'
    cases ej : ix[i] with
    | none => rw [ej] at h2''; cases h2''
    | some j =>
      rw [ej] at h2''
      have h2j : (σ[j]?).join = some v := h2''
      have hz : (ix[i], x) ∈ ix.zip N' := by
        have ez : (ix.zip N')[i]? = some (ix[i], x) := by rw [List.getElem?_zip_eq_some]; exact ⟨e1, h1⟩
        exact List.mem_of_getElem? ez
      have cq := List.all_eq_true.mp S.cap _ hz
      have cq' : (decide (X.N[j]? = some x) && decide (scope.names.lookup x = some .free)) = true := by
        unfold capOne at cq
        simp only [ej] at cq
        exact cq
      rw [Bool.and_eq_true] at cq'
      have c1 := of_decide_eq_true cq'.1
      have c2 := of_decide_eq_true cq'.2
      have kx : X.env.scope.names.lookup x = some .cell ∨ X.env.scope.names.lookup x = some .free := S.frees (x, .free) (PySem.mem_of_lookup c2) rfl
      have hs : σ[j]? = some (some v) := by
        cases q : σ[j]? with
        | none => rw [q] at h2j; cases h2j
        | some o => rw [q] at h2j; have : o = some v := h2j; rw [this]
      obtain ⟨m0, hn0, hl0⟩ := I.loc
      obtain ⟨u, ru, lk⟩ := hl0 j x v c1 hs (kx.elim (fun z => .inr (.inl z)) fun z => .inr (.inr z))
      refine ⟨u, ru, .inr ⟨?_, ?_⟩⟩
      · show (relabel scope X.env).names.lookup x = some .cell ∨ (relabel scope X.env).names.lookup x = some .free
        rw [relabel_lookup, c2]
        simp only [Option.map_some, relK]
        split
        · exact .inl rfl
        · exact .inr rfl
      · rcases lk with ⟨k, _⟩ | ⟨_, c, ec, hc⟩
        · have k' : X.env.scope.names.lookup x = some .local := k
          rw [k'] at kx
          rcases kx with z | z <;> cases z
        · obtain ⟨c', ec'⟩ := fold_cap_has (env := X.env) x scope.names [] (.inl (PySem.mem_of_lookup c2))
          have := sub x c' ec'
          rw [ec] at this; cases this
          exact ⟨c, ec', hc.keeps kp⟩
  · obtain ⟨v, q⟩ := I.cell x c (sub x c e)
    exact ⟨v, q.keeps kp⟩
  · show (ixSt ix σ).length = N'.length
    rw [ixSt, List.length_map, S.len]

/-- the tests' readings -/
def PF (X : Cx) (ifs : List Expr) (t : TT) : Prop := ∀ (pins : List (Addr × Obj)) (s : Shared) (σ : St) (H : Hp) (Q : Bool → Hp → Prop), Inv X pins σ H s → t σ H Q → wpAny (model X.prog X.w) X.A (testAll ifs X.env) (TP X pins σ Q) X.xe s
def tYes : TT := fun _ H Q => Q true H
theorem pf_nil : PF X [] tYes := fun _ _ _ H _ I h => wpAny_tests_nil ⟨H, I, h⟩
/-- [elt for tg in iter if ..]: D is the list that is made -/
def CompGo (J : It) (g : TG) (tt : TT) (te : TE) (σ0 : St) (H1 : Hp) (Q : VK) (D : Addr) : Prop := ∃ W : Nat → Nat → St → Hp → Prop, (∃ m, W 0 m σ0 (upd H1 D (.lst []))) ∧ ∀ i m σ' H', W i m σ' H' →
  (J.stop i H' ∧ Q (.ref D) H') ∨ (J.go i H' ∧ ∀ x H2, J.yld i H' x H2 → g x σ' H2 fun σ2 H3 => tt σ2 H3 fun b H4 =>
    if b = true then te σ2 H4 fun v H5 => ∃ xs, H5 D = some (.lst xs) ∧ xs.length < sizeLine ∧ ∃ m', m' < m ∧ W (i + 1) m' σ2 (upd H5 D (.lst (xs ++ [v]))) else ∃ m', m' < m ∧ W (i + 1) m' σ2 H4)
def tComp (ix : List (Option Nat)) (wi : TI) (g : TG) (tt : TT) (te : TE) : TE := fun σ H Q => wi σ H fun J H1 => ∀ D, H1 D = none → CompGo J g tt te (ixSt ix σ) H1 Q D

/-- the block, from the iterator on; Z: what is wanted behind it, of the new list, the block's names (at C) and the state -/
theorem comp_block {elt tg iter : Expr} {ifs : List Expr} {pos : Pos} {g : TG} {tt : TT} {te : TE} {Q : VK} {Z : Value → Addr → Result → Shared → Prop} {it : Addr} {tn : Nat → Heap → Prop} {J : It}
    (S : CompOk X.N X.env.scope N' ix scope) (hc : X.calm = true)
    (hg : ∀ C fp s₀ H₀, PG (cxComp X N' scope C fp s₀ H₀) tg g) (ht : ∀ C fp s₀ H₀, PF (cxComp X N' scope C fp s₀ H₀) ifs tt) (he : ∀ C fp s₀ H₀, PE (cxComp X N' scope C fp s₀ H₀) elt te)
    (I : Inv X pins σ H s) (T : Turn X.prog X.w X.K tg J fp it tn) (st : tn 0 s.heap) (hf : ∀ b ∈ fp, FpOk X pins H b)
    (h : ∀ D, H D = none → ∃ W : Nat → Nat → St → Hp → Prop, (∃ m, W 0 m (ixSt ix σ) (upd H D (.lst []))) ∧ ∀ i m σ' H', W i m σ' H' →
      (J.stop i H' ∧ Q (.ref D) H') ∨ (J.go i H' ∧ ∀ x H2, J.yld i H' x H2 → g x σ' H2 fun σ2 H3 => tt σ2 H3 fun b H4 =>
        if b = true then te σ2 H4 fun v H5 => ∃ xs, H5 D = some (.lst xs) ∧ xs.length < sizeLine ∧ ∃ m', m' < m ∧ W (i + 1) m' σ2 (upd H5 D (.lst (xs ++ [v]))) else ∃ m', m' < m ∧ W (i + 1) m' σ2 H4))
    (hZ : ∀ D C H' s' m, Inv X pins σ H' s' → s'.heap.Ns C m → H' C = none → s.heap.objs.size ≤ C → Q (.ref D) H' → Z (.ref D) C (.ok .next) s') :
    wpAny (model X.prog X.w) X.A (newList []) (fun acc s3 => wpAny (model X.prog X.w) X.A (newFunctionEnv scope X.env.globals (capOf X.env scope) [] X.env.qual none .none (some X.env)) (fun cenv s4 =>
      codeAny (model X.prog X.w) X.A (.compStart (.ListComp elt [⟨tg, iter, ifs, 0⟩] scope pos) 0 (.ref it) acc { cenv with scope := relabel scope X.env }) (Z acc cenv.locals) s4) X.xe s3) X.xe s := by
  refine wpAny_newObj_type (wpAny_newFunctionEnv S.nocell (by intro y hy; simp at hy) (fun h1 ns1 sb1 => ?_) S.kind)
  have I3 : Inv X pins σ (upd H s.heap.objs.size (.lst [])) { s with heap := s.heap.push { cls := .type "list", data := .seq ([] : List Value).toArray }, toks := s.toks } := I.lnew (ys := []) (its := []) .nil (Nat.zero_le _)
  generalize hs3 : ({ s with heap := s.heap.push { cls := .type "list", data := .seq ([] : List Value).toArray } } : Shared) = s3 at ns1 sb1 ⊢
  have I3 : Inv X pins σ (upd H s.heap.objs.size (.lst [])) s3 := by rw [← hs3]; exact I3
  have hsz : s3.heap.objs.size = s.heap.objs.size + 1 := by rw [← hs3]; exact Heap.size_push _ _
  have st3 : tn 0 s3.heap := by
    rw [← hs3]
    exact T.keep _ _ _ st fun b _ o e => Heap.get?_push_of_some _ e
  have blw : ∀ b ∈ fp, b < s.heap.objs.size := fun b hb => by
    obtain ⟨o, e, _⟩ := T.obj _ _ st b hb
    exact Heap.lt_size e
  have hf3 : ∀ b ∈ fp, FpOk X pins (upd H s.heap.objs.size (.lst [])) b := fun b hb => ⟨by rw [upd_ne (Nat.ne_of_lt (blw b hb))]; exact (hf b hb).1, (hf b hb).2⟩
  obtain ⟨W, ⟨m0, w0⟩, turn⟩ := h s.heap.objs.size I.fresh
  have kp : ∀ b o, s3.heap.get? b = some o → h1.get? b = some o := fun b o e => (sb1.2 b (Nat.ne_of_lt (Heap.lt_size e))).trans (Heap.get?_push_of_some _ e)
  have J0 := comp_enter (tk := s3.toks + ([] : List (Str × Value)).length) S I3 hf3 (fun b hb => by rw [hsz]; exact Nat.lt_succ_of_lt (blw b hb)) ns1 kp
  have st4 : tn 0 h1 := T.keep _ _ _ st3 fun b _ o e => kp b o e
  have stat : ∀ {H' : Hp} {pl : List (Addr × Obj)}, (∀ b ∈ fp, H' b = none) → (∀ b ∈ fp, ∀ p ∈ pl, p.1 ≠ b) → ∀ b ∈ fp, FpOk (cxComp X N' scope s3.heap.objs.size fp s3 (upd H s.heap.objs.size (.lst []))) pl H' b := fun hn hp b hb =>
    ⟨hn b hb, (J0.ok.exf b hb).1, J0.ok.exfs b hb, .inl hb, (J0.ok.exf b hb).2, fun p q => hp b hb p q⟩
  have loop : codeAny (model X.prog X.w) X.A (.compLoop (.ListComp elt [⟨tg, iter, ifs, 0⟩] scope pos) 0 (.ref it) (.ref s.heap.objs.size) (cxComp X N' scope s3.heap.objs.size fp s3 (upd H s.heap.objs.size (.lst []))).env) (Z (.ref s.heap.objs.size) s3.heap.objs.size)
      { s3 with heap := h1, toks := s3.toks + ([] : List (Str × Value)).length } := by
    refine comp_loop_any (fun n s' => ∃ i σ' H', Inv (cxComp X N' scope s3.heap.objs.size fp s3 (upd H s.heap.objs.size (.lst []))) [] σ' H' s' ∧ tn i s'.heap ∧ (∀ b ∈ fp, H' b = none) ∧ W i n σ' H') ?_ m0
      ⟨0, _, _, J0, st4, fun b hb => (hf3 b hb).1, w0⟩
    rintro n s5 ⟨i, σ5, H5, I5, st5, fr5, w5⟩
    rcases turn i n σ5 H5 w5 with ⟨stop, q⟩ | ⟨go, step⟩
    · refine thn (T.done (cxComp X N' scope s3.heap.objs.size fp s3 (upd H s.heap.objs.size (.lst []))) rfl rfl rfl hc i [] s5 σ5 H5 NoX I5 (stat (pl := []) fr5 (fun _ _ p hp => absurd hp (by simp))) st5 stop) fun r s6 ⟨hr, I6⟩ => ?_
      subst hr
      have I7 : Inv X pins σ H5 s6 := I3.call' (ch := fp) I6.os I6.base I6.hok I6.bare fun b hb => ⟨(hf3 b hb).2.2.2.1, (hf3 b hb).2.1, (hf3 b hb).2.2.2.2.1, (hf3 b hb).2.2.2.2.2⟩
      obtain ⟨m6, n6, _⟩ := I6.loc
      exact hZ _ _ H5 s6 m6 I7 n6 I6.free (by rw [hsz]; exact Nat.le_succ _) q
    · refine thn (T.item (cxComp X N' scope s3.heap.objs.size fp s3 (upd H s.heap.objs.size (.lst []))) rfl rfl rfl hc i [] s5 σ5 H5 NoX I5 (stat (pl := []) fr5 (fun _ _ p hp => absurd hp (by simp))) st5 go) fun r s6 ⟨u, hr, h6⟩ => ?_
      subst hr
      refine thn h6 fun _ s7 ⟨x, H7, I7, r7, y7, st7, fr7⟩ => ?_
      have I7' := I7.pinned (stat (pl := []) fr7 (fun _ _ p hp => absurd hp (by simp))) (T.obj _ _ st7)
      refine thn (hg _ _ _ _ _ s7 σ5 H7 x u _ I7' r7 (step x H7 y7)) fun _ s8 ⟨σ8, H8, I8, q8⟩ => ?_
      refine thn (ht _ _ _ _ _ s8 σ8 H8 _ I8 q8) fun b s9 ⟨H9, I9, q9⟩ => ?_
      have again : ∀ {σ' : St} {H' : Hp} {s' : Shared} {m' : Nat}, Inv (cxComp X N' scope s3.heap.objs.size fp s3 (upd H s.heap.objs.size (.lst []))) ([] ++ pinsAt fp s7.heap) σ' H' s' → m' < n → W (i + 1) m' σ' H' →
          ∃ m, m < n ∧ ∃ i σ' H', Inv (cxComp X N' scope s3.heap.objs.size fp s3 (upd H s.heap.objs.size (.lst []))) [] σ' H' s' ∧ tn i s'.heap ∧ (∀ b ∈ fp, H' b = none) ∧ W i m σ' H' := fun {σ' H' s' m'} I' hm w' => by
        refine ⟨m', hm, i + 1, σ', H', I'.unpinned, T.keep _ _ _ st7 fun b hb o e => (I'.pin (b, o) (List.mem_append_right _ (List.mem_append_right _ (mem_pinsAt hb e)))).1, fun b hb => ?_, w'⟩
        obtain ⟨o, e, d⟩ := T.obj _ _ st7 b hb
        exact (I'.pin (b, o) (List.mem_append_right _ (List.mem_append_right _ (mem_pinsAt hb e)))).2.1
      cases b with
      | false =>
        obtain ⟨m', hm, w'⟩ := (show ∃ m', m' < n ∧ W (i + 1) m' σ8 H9 from q9)
        exact again I9 hm w'
      | true =>
        refine thn (he _ _ _ _ _ s9 σ8 H9 _ I9 q9) fun v s10 ⟨y, H10, I10, r10, q10⟩ => ?_
        obtain ⟨xs, hx, hl, m', hm, w'⟩ := q10
        refine thn (mt_append _ s10 σ8 H10 (.ref s.heap.objs.size) [y] (.ref s.heap.objs.size) [v] (fun _ H' => W (i + 1) m' σ8 H') I10 rfl (.cons r10 .nil) ⟨_, xs, y, rfl, rfl, hx, hl, w'⟩) fun _ s11 ⟨_, H11, I11, _, q11⟩ => ?_
        exact again I11 hm q11
  exact codeAny_compStart_list loop (T.self _ _ _ _ _ st4 loop)

/-- as a value -/
theorem pe_comp {elt tg iter : Expr} {ifs : List Expr} {pos : Pos} {wi : TI} {g : TG} {tt : TT} {te : TE} (S : CompOk X.N X.env.scope N' ix scope) (hc : X.calm = true) (hi : PI X tg iter wi)
    (hg : ∀ C fp s₀ H₀, PG (cxComp X N' scope C fp s₀ H₀) tg g) (ht : ∀ C fp s₀ H₀, PF (cxComp X N' scope C fp s₀ H₀) ifs tt) (he : ∀ C fp s₀ H₀, PE (cxComp X N' scope C fp s₀ H₀) elt te)
    (hs : ∀ x, foldedSetIterable iter X.env x = pure x := by intro _; rfl) : PE X (.ListComp elt [⟨tg, iter, ifs, 0⟩] scope pos) (tComp ix wi g tt te) := by
  intro pins s σ H Q I h
  rw [eval_ListComp]
  refine wpAny_comprehension_free (use := none) rfl hs (closure_is (S.has I.ok)) S.kind S.locs (thn (hi pins s σ H _ I h) fun v s1 h1 => thn h1 fun itv s2 h2 => ?_)
  obtain ⟨it, fp, tn, J, H2, e, I2, T, st2, f2, q⟩ := h2
  subst e
  refine comp_block (Z := fun acc C => compPost (model X.prog X.w) X.A X.xe none (EP X pins σ Q) acc C) S hc hg ht he I2 T st2 f2 q ?_
  intro D C H' s' m I' hn hC hz qD
  refine ⟨m, hn, fun h' sb => ?_⟩
  have I'' : Inv X pins σ H' { s' with heap := h', toks := s'.toks } := I'.turned (it := C) (fun b o hb e => (sb.2 b hb).trans e) hC (fun z => absurd (Nat.lt_of_lt_of_le I2.lt (by rw [← z]; exact hz)) (Nat.lt_irrefl _))
    (.inr (Nat.le_trans I2.sz hz)) (fun x c e z => by obtain ⟨v, w⟩ := I2.cell x c e; exact absurd (Nat.lt_of_lt_of_le w.lt (by rw [z]; exact hz)) (Nat.lt_irrefl _)) (fun p hp z => absurd (Nat.lt_of_lt_of_le (Heap.lt_size (I2.pin p hp).1) (by rw [z]; exact hz)) (Nat.lt_irrefl _))
  exact ⟨.ref D, H', I'', rfl, qD⟩
/-- name = [..], the name not captured, on one line -/
theorem ps_setComp {i : Nat} {y : Str} {py spos : Pos} {elt tg iter : Expr} {ifs : List Expr} {pos : Pos} {wi : TI} {g : TG} {tt : TT} {te : TE} (S : CompOk X.N X.env.scope N' ix scope) (hc : X.calm = true) (hi : PI X tg iter wi)
    (hg : ∀ C fp s₀ H₀, PG (cxComp X N' scope C fp s₀ H₀) tg g) (ht : ∀ C fp s₀ H₀, PF (cxComp X N' scope C fp s₀ H₀) ifs tt) (he : ∀ C fp s₀ H₀, PE (cxComp X N' scope C fp s₀ H₀) elt te)
    (hN : X.N.Nodup) (hy : X.N[i]? = some y) (hl : X.env.scope.names.lookup y = some .local) (hsw : swapsWith (.ListComp elt [⟨tg, iter, ifs, 0⟩] scope pos) (some (.Name y py)) spos.line X.env = pure true)
    (hs : ∀ x, foldedSetIterable iter X.env x = pure x := by intro _; rfl) : PS X (.Assign [.Name y py] (.ListComp elt [⟨tg, iter, ifs, 0⟩] scope pos) spos) (tAsg (tComp ix wi g tt te) (gName i)) := by
  intro pins s σ H D I h
  rw [exec_Assign_Name_used _ _ _ _ hsw]
  refine wpAny_bind (wpAny_standAt (wpAny_bind ?_))
  rw [arm_evalThenUse_ListComp]
  refine wpAny_bind (thn (wpAny_comprehension_free (use := some (assign (.Name y py) X.env)) (Q := fun _ s' => SP X pins D .next s') rfl hs (closure_is (S.has I.ok)) S.kind S.locs
    (thn (hi pins s σ H _ I h) fun v s1 h1 => thn h1 fun itv s2 h2 => ?_)) fun _ s' q => wpAny_pure (wpAny_pure q))
  obtain ⟨it, fp, tn, J, H2, e, I2, T, st2, f2, q⟩ := h2
  subst e
  refine comp_block (Q := fun x H1 => gName i x σ H1 D.nx) (Z := fun acc C => compPost (model X.prog X.w) X.A X.xe (some (assign (.Name y py) X.env)) (fun _ s' => SP X pins D .next s') acc C) S hc hg ht he I2 T st2 f2 q ?_
  intro Dl C H' s' m I' hn hC hz qD
  have neL : C ≠ X.env.locals := fun z => absurd (Nat.lt_of_lt_of_le I2.lt (by rw [← z]; exact hz)) (Nat.lt_irrefl _)
  have neC : ∀ x c, X.env.cells.lookup x = some c → c ≠ C := fun x c e z => by obtain ⟨v, w⟩ := I2.cell x c e; exact absurd (Nat.lt_of_lt_of_le w.lt (by rw [z]; exact hz)) (Nat.lt_irrefl _)
  show wpAny (model X.prog X.w) X.A (assign (.Name y py) X.env (.ref Dl)) _ X.xe s'
  refine wpAny_assign_Name (store_ok2 I' hN hy (.inl hl) (show RelV (.ref Dl) (.ref Dl) from rfl) (fun s'' J' ⟨a, sb, ha⟩ => ?_) (.inr hl))
  have na : C ≠ a := by
    rcases ha with z | z
    · rw [z]; exact neL
    · exact Ne.symm (neC y a z)
  refine ⟨m, hn.sameBut sb na, fun h' sb' => ?_⟩
  have I'' : Inv X pins (σ.set i (some (.ref Dl))) H' { s'' with heap := h', toks := s''.toks } := J'.turned (it := C) (fun b o hb e => (sb'.2 b hb).trans e) hC neL (.inr (Nat.le_trans I2.sz hz)) neC
    (fun p hp z => absurd (Nat.lt_of_lt_of_le (Heap.lt_size (I2.pin p hp).1) (by rw [z]; exact hz)) (Nat.lt_irrefl _))
  exact ⟨_, H', I'', qD⟩
end
end L2

set_option Elab.async false
set_option linter.all false
set_option maxRecDepth 100000
set_option maxHeartbeats 4000000
namespace L2
open PySem PySem.Spec PyProof.Rows
theorem bt_abs : bootBuiltins "abs" = some (.builtin "abs") := by decide +kernel
theorem bt_len : bootBuiltins "len" = some (.builtin "len") := by decide +kernel
theorem bt_sum : bootBuiltins "sum" = some (.builtin "sum") := by decide +kernel
theorem bt_all : bootBuiltins "all" = some (.builtin "all") := by decide +kernel
theorem bt_isinstance : bootBuiltins "isinstance" = some (.builtin "isinstance") := by decide +kernel
theorem bt_int : bootBuiltins "int" = some (.type "int") := by decide +kernel
theorem bt_bool : bootBuiltins "bool" = some (.type "bool") := by decide +kernel
theorem bt_tuple : bootBuiltins "tuple" = some (.type "tuple") := by decide +kernel
theorem bt_list : bootBuiltins "list" = some (.type "list") := by decide +kernel

/-! a def of the text with its promise, as its callers take it -/
def Def (P : Program) (w : World) (K : PySem.W.Frag) (mg : Str → Option Value) (base : Heap) (k : Nat) (x : Str) (ps : List Str) (sp : Sp) : Prop :=
  ∃ (f : Addr) (fd : FuncData), FnOk P w K mg base CX0 k f fd ps sp ∧ mg x = some (.ref f) ∧ PySem.W.keepIn K (.ref f) = true ∧ Binds K fd ps []
section
variable {X : Cx}
theorem pe_def {k k' : Nat} {x : Str} {ps : List Str} {sp : Sp} {e : Expr} {es : List Expr} {t : TA} {p pos : Pos} (D : Def X.prog X.w X.K X.mg X.base k x ps sp) (hr : Room k' X.A) (hk : k ≤ k') (hg : Gl X x) (ha : PA X (e :: es) t)
    (hdb : (x == ("__debug__" : Str)) = false := by decide) (he : starEach (e :: es) X.env = (false, eval e X.env) :: starEach es X.env := by rfl) (hpl : (backTo pos (starEach es X.env)).any (·.1) = false := by rfl) :
    PE X (.Call (.Name x p) (e :: es) [] pos) (tCall sp [] E0 t) := by
  obtain ⟨f, fd, F, m, kp, b⟩ := D
  exact pe_call F (hr.mono hk) hg m kp b .nil pass0 ha hdb he hpl

/-- sum(a list of ints) -/
theorem call_sum (hc : X.calm = true) : CallR X (.builtin "sum") (fun xs H Q => ∃ (p : Addr) (ns : List Int), xs = [.ref p] ∧ SqL X.K H p (ns.map V.int) ∧ Q (.int ns.sum) H) := by
  intro pins s σ H xs us Q I r h
  obtain ⟨p, ns, rfl, hq, q⟩ := h
  obtain ⟨u, rfl, ru⟩ := vals1 r
  cases ru
  obtain ⟨its, rv, pl, _⟩ := I.list hq
  have hi : IntsAre its ns := intsAre_of rv
  obtain ⟨ys, hys⟩ := (hi.allInts).items
  refine sum_intListG (xs := ys) (I.ok.hd hc) (by rw [← hys]; exact pl.isList) fun h' tk t' hk => ⟨.int _, H, I.kept hk, ⟨t', rfl⟩, ?_⟩
  have e1 : (numsOf its).sum = preSum (numAt ys) ys.size := by
    have e2 : numsOf its.toArray.toList = numsOf (intItems ys).toList := by rw [hys]
    have e3 : numsOf its = numsOf (intItems ys).toList := e2
    rw [e3, nums_intItems, preSum_eq, List.take_of_length_le (by simp)]
  rw [← e1, hi.numsOf]
  exact q
/-- isinstance(x, c), c a built-in type -/
theorem call_isiT : CallR X (.builtin "isinstance") (fun xs H Q => ∃ x n t b, xs = [x, .ty n] ∧ TyOf X.K H x t ∧ PySem.W.kitOne X.K t (.type n) = some b ∧ Q (.bl b) H) := by
  intro pins s σ H xs us Q I r h
  obtain ⟨x, n, t, b, rfl, ty, e, q⟩ := h
  obtain ⟨u, w', rfl, r1, r2⟩ := vals2 r
  cases r2
  exact isinst_ok I r1 ty e fun tk => ⟨.bl b, H, I.tok tk, rfl, q⟩
theorem kit_same {K : PySem.W.Frag} (n : String) : PySem.W.kitOne K (.type n) (.type n) = some true := by simp [PySem.W.kitOne]
theorem kit_int_bool {K : PySem.W.Frag} : PySem.W.kitOne K (.type "int") (.type "bool") = some false := by rfl

/-! a text's signs -/
/-! z[lo:hi] of a text -/
def rSlS : V → Option Int → Option Int → Hp → VK → Prop := fun x lo hi H Q => ∃ z, x = .str z ∧ z.length ≤ sizeLine ∧ Q (.str (PySem.Txt.slice z lo hi)) H
theorem sl_str : SlR X rSlS := by
  intro pins s σ H x v vl vu lo hi sl Q I rx hs pl pu h
  obtain ⟨z, rfl, hz, q⟩ := h
  obtain ⟨t, rfl⟩ := rx
  refine ⟨"str", _, F.slot_str_getitem.lookup, typeIs_str _ _ _, ?_⟩
  cases pl with
  | none =>
    cases pu with
    | none => exact wpAny_getItem_str_slice (l := none) (u := none) (st := none) hs rfl (post_val_or_str ⟨Nat.le_trans (PySem.Txt.slice_le z _ _) hz, fun t' k => ⟨.str _, H, I.tok k, ⟨t', rfl⟩, q⟩⟩)
    | int j uj => exact wpAny_getItem_str_slice (l := none) (u := some (j, uj)) (st := none) hs rfl (post_val_or_str ⟨Nat.le_trans (PySem.Txt.slice_le z _ _) hz, fun t' k => ⟨.str _, H, I.tok k, ⟨t', rfl⟩, q⟩⟩)
  | int i ui =>
    cases pu with
    | none => exact wpAny_getItem_str_slice (l := some (i, ui)) (u := none) (st := none) hs rfl (post_val_or_str ⟨Nat.le_trans (PySem.Txt.slice_le z _ _) hz, fun t' k => ⟨.str _, H, I.tok k, ⟨t', rfl⟩, q⟩⟩)
    | int j uj => exact wpAny_getItem_str_slice (l := some (i, ui)) (u := some (j, uj)) (st := none) hs rfl (post_val_or_str ⟨Nat.le_trans (PySem.Txt.slice_le z _ _) hz, fun t' k => ⟨.str _, H, I.tok k, ⟨t', rfl⟩, q⟩⟩)
theorem sl_any : SlR X (fun x lo hi H Q => rSlL X.K x lo hi H Q ∨ (rSlT X.K x lo hi H Q ∨ rSlS x lo hi H Q)) := sl_list.or (sl_tup.or sl_str)
end
end L2

set_option Elab.async false
set_option linter.all false
set_option maxRecDepth 100000
set_option maxHeartbeats 4000000
namespace L2
open PySem PySem.Spec PyProof.Rows
/-! comprehensions, by what holds ahead of the i-th turn, of the items so far -/
def cW (R : St → Prop) (P : Nat → List V → Hp → Prop) (n : Nat) (D : Addr) : Nat → Nat → St → Hp → Prop := fun i m σ' H => m = n - i ∧ i ≤ n ∧ R σ' ∧ ∃ ys, P i ys H ∧ H D = some (.lst ys)
def cYes (R : St → Prop) (P : Nat → List V → Hp → Prop) (n : Nat) (D : Addr) (σ : St) (i : Nat) : VK := fun v H5 => ∃ xs, H5 D = some (.lst xs) ∧ xs.length < sizeLine ∧ ∃ m', m' < n - i ∧ cW R P n D (i + 1) m' σ (upd H5 D (.lst (xs ++ [v])))
def cNo (R : St → Prop) (P : Nat → List V → Hp → Prop) (n : Nat) (D : Addr) (σ : St) (i : Nat) : Hp → Prop := fun H4 => ∃ m', m' < n - i ∧ cW R P n D (i + 1) m' σ H4
theorem cyes {R : St → Prop} {P : Nat → List V → Hp → Prop} {n : Nat} {D : Addr} {σ : St} {i : Nat} {ys : List V} {v : V} {H : Hp} (hi : i < n) (r : R σ) (h : H D = some (.lst ys)) (hl : ys.length < sizeLine) (p : P (i + 1) (ys ++ [v]) (upd H D (.lst (ys ++ [v])))) : cYes R P n D σ i v H :=
  ⟨ys, h, hl, n - (i + 1), by omega, rfl, hi, r, _, p, upd_same⟩
theorem comp_gen {J : It} {g : TG} {tt : TT} {te : TE} {σ0 : St} {H1 : Hp} {Q : VK} {D : Addr} {n : Nat} {xv : Nat → V} {st : Nat → St} (R : St → Prop) (P : Nat → List V → Hp → Prop) (r0 : R σ0) (h0 : P 0 [] (upd H1 D (.lst [])))
    (hj : ∀ i ys H, i < n → P i ys H → H D = some (.lst ys) → J.go i H ∧ ∀ x H2, J.yld i H x H2 → H2 = H ∧ x = xv i) (he : ∀ ys H, P n ys H → H D = some (.lst ys) → J.stop n H)
    (hg : ∀ i ys σ' H (K : St → Hp → Prop), i < n → R σ' → P i ys H → K (st i) H → g (xv i) σ' H K)
    (hs : ∀ i ys H, i < n → P i ys H → H D = some (.lst ys) → tt (st i) H fun b H4 => if b = true then te (st i) H4 (cYes R P n D (st i) i) else cNo R P n D (st i) i H4)
    (hd : ∀ ys H, P n ys H → H D = some (.lst ys) → Q (.ref D) H) :
    CompGo J g tt te σ0 H1 Q D := by
  refine ⟨cW R P n D, ⟨n, by simp [cW, r0]; exact ⟨_, h0, upd_same⟩⟩, ?_⟩
  rintro i m σ' H' ⟨rfl, hi, r, ys, p, hD⟩
  by_cases hlt : i < n
  · obtain ⟨g1, g2⟩ := hj i ys H' hlt p hD
    refine .inr ⟨g1, fun x H2 y => ?_⟩
    obtain ⟨rfl, rfl⟩ := g2 x H2 y
    exact hg i ys σ' H2 _ hlt r p (hs i ys H2 hlt p hD)
  · have e : i = n := by omega
    subst e
    exact .inl ⟨he ys H' p hD, hd ys H' p hD⟩
/-- the state with the one name set -/
def Rset (t : Nat) (σ0 : St) : St → Prop := fun σ' => ∀ v, σ'.set t v = σ0.set t v
theorem rset0 {t : Nat} {σ0 : St} : Rset t σ0 σ0 := fun _ => rfl
theorem rset1 {t : Nat} {σ0 : St} {x : Option V} : Rset t σ0 (σ0.set t x) := fun v => by rw [List.set_set]
theorem comp_range {t : Nat} {tt : TT} {te : TE} {σ0 : St} {H1 : Hp} {Q : VK} {D : Addr} {lo : Int} {n : Nat} (P : Nat → List V → Hp → Prop) (h0 : P 0 [] (upd H1 D (.lst [])))
    (hs : ∀ i ys H, i < n → P i ys H → H D = some (.lst ys) → tt (σ0.set t (some (.int (lo + i)))) H fun b H4 => if b = true then te (σ0.set t (some (.int (lo + i)))) H4 (cYes (Rset t σ0) P n D (σ0.set t (some (.int (lo + i)))) i) else cNo (Rset t σ0) P n D (σ0.set t (some (.int (lo + i)))) i H4)
    (hd : ∀ ys H, P n ys H → H D = some (.lst ys) → Q (.ref D) H) :
    CompGo (Itr lo n) (gName t) tt te σ0 H1 Q D :=
  comp_gen (xv := fun i => .int (lo + i)) (st := fun i => σ0.set t (some (.int (lo + i)))) (Rset t σ0) P rset0 h0 (fun i _ H hi _ _ => ⟨hi, fun x H2 y => y⟩) (fun _ _ _ _ => Nat.le_refl n)
    (fun i _ σ' H K _ r _ k => by show K (σ'.set t (some (.int (lo + i)))) H; rw [r]; exact k) hs hd
theorem comp_list {K : PySem.W.Frag} {a : Addr} {xs : List V} {t : Nat} {tt : TT} {te : TE} {σ0 : St} {H1 : Hp} {Q : VK} {D : Addr} (P : Nat → List V → Hp → Prop) (h0 : P 0 [] (upd H1 D (.lst []))) (hl : ∀ i ys H, P i ys H → H D = some (.lst ys) → SqL K H a xs)
    (hs : ∀ i ys H x, xs[i]? = some x → P i ys H → H D = some (.lst ys) → tt (σ0.set t (some x)) H fun b H4 => if b = true then te (σ0.set t (some x)) H4 (cYes (Rset t σ0) P xs.length D (σ0.set t (some x)) i) else cNo (Rset t σ0) P xs.length D (σ0.set t (some x)) i H4)
    (hd : ∀ ys H, P xs.length ys H → H D = some (.lst ys) → Q (.ref D) H) :
    CompGo (Itl K a) (gName t) tt te σ0 H1 Q D := by
  have get : ∀ i, i < xs.length → xs[i]? = some (xs.getD i .non) := fun i hi => by simp [List.getD, hi]
  refine comp_gen (xv := fun i => xs.getD i .non) (st := fun i => σ0.set t (some (xs.getD i .non))) (Rset t σ0) P rset0 h0 (fun i ys H hi p hD => ⟨⟨xs, _, hl i ys H p hD, get i hi⟩, fun x H2 y => ⟨y.1, ?_⟩⟩) (fun ys H p hD => ⟨xs, hl _ ys H p hD, Nat.le_refl _⟩)
    (fun i _ σ' H K _ r _ k => by show K (σ'.set t (some (xs.getD i .non))) H; rw [r]; exact k) (fun i ys H hi p hD => hs i ys H _ (get i hi) p hD) hd
  have e := y.2 xs (hl i ys H p hD)
  rw [get i hi] at e
  exact (Option.some.inj e).symm
theorem comp_tup {K : PySem.W.Frag} {a : Addr} {xs : List V} {t : Nat} {tt : TT} {te : TE} {σ0 : St} {H1 : Hp} {Q : VK} {D : Addr} (P : Nat → List V → Hp → Prop) (h0 : P 0 [] (upd H1 D (.lst []))) (hl : ∀ i ys H, P i ys H → H D = some (.lst ys) → SqT K H a xs)
    (hs : ∀ i ys H x, xs[i]? = some x → P i ys H → H D = some (.lst ys) → tt (σ0.set t (some x)) H fun b H4 => if b = true then te (σ0.set t (some x)) H4 (cYes (Rset t σ0) P xs.length D (σ0.set t (some x)) i) else cNo (Rset t σ0) P xs.length D (σ0.set t (some x)) i H4)
    (hd : ∀ ys H, P xs.length ys H → H D = some (.lst ys) → Q (.ref D) H) :
    CompGo (Itt K a) (gName t) tt te σ0 H1 Q D := by
  have get : ∀ i, i < xs.length → xs[i]? = some (xs.getD i .non) := fun i hi => by simp [List.getD, hi]
  refine comp_gen (xv := fun i => xs.getD i .non) (st := fun i => σ0.set t (some (xs.getD i .non))) (Rset t σ0) P rset0 h0 (fun i ys H hi p hD => ⟨⟨xs, _, hl i ys H p hD, get i hi⟩, fun x H2 y => ⟨y.1, ?_⟩⟩) (fun ys H p hD => ⟨xs, hl _ ys H p hD, Nat.le_refl _⟩)
    (fun i _ σ' H K _ r _ k => by show K (σ'.set t (some (xs.getD i .non))) H; rw [r]; exact k) (fun i ys H hi p hD => hs i ys H _ (get i hi) p hD) hd
  have e := y.2 xs (hl i ys H p hD)
  rw [get i hi] at e
  exact (Option.some.inj e).symm
end L2
namespace L2
open PySem PySem.Spec PyProof.Rows
theorem yes {σ : St} {H : Hp} {A B : Hp → Prop} (h : A H) : tYes σ H fun b H4 => if b = true then A H4 else B H4 := by
  show if true = true then A H else B H
  rw [if_pos rfl]
  exact h
end L2

set_option Elab.async false
set_option linter.all false
set_option maxRecDepth 100000
set_option maxHeartbeats 4000000
namespace L2
open PySem PySem.Spec PyProof.Rows
/-! the rules that name the written part, with K told: in a block nothing hangs on the block's own context -/
section
variable {X : Cx} (K : PySem.W.Frag)
theorem kix_seq (hK : X.K = K := by rfl) : IxR X (rIx K) := hK ▸ ix_seq
theorem kop_catT (hK : X.K = K := by rfl) : OpR X (binaryOp .Add) (rCatT K) := hK ▸ op_catT
theorem ksl_any (hK : X.K = K := by rfl) : SlR X (fun x lo hi H Q => rSlL K x lo hi H Q ∨ (rSlT K x lo hi H Q ∨ rSlS x lo hi H Q)) := hK ▸ sl_any
theorem kcall_len (hK : X.K = K := by rfl) : CallR X (.builtin "len") (fun xs H Q => ∃ x n, xs = [x] ∧ LenV K x H n ∧ Q (.int n) H) := hK ▸ call_len
theorem kcall_list_of (hK : X.K = K := by rfl) : CallR X (.type "list") (fun xs H Q => ∃ p ys, xs = [.ref p] ∧ (SqL K H p ys ∨ SqT K H p ys) ∧ ∀ l, H l = none → Q (.ref l) (upd H l (.lst ys))) := hK ▸ call_list_of
theorem kcall_tuple_of (hK : X.K = K := by rfl) : CallR X (.type "tuple") (fun xs H Q => ∃ p ys, xs = [.ref p] ∧ ((SqL K H p ys ∧ ∀ l, H l = none → Q (.ref l) (upd H l (.tup ys))) ∨ (SqT K H p ys ∧ Q (.ref p) H))) := hK ▸ call_tuple_of
theorem kcall_sum (hc : X.calm = true) (hK : X.K = K := by rfl) : CallR X (.builtin "sum") (fun xs H Q => ∃ (p : Addr) (ns : List Int), xs = [.ref p] ∧ SqL K H p (ns.map V.int) ∧ Q (.int ns.sum) H) := hK ▸ call_sum hc
theorem kcall_isiT (hK : X.K = K := by rfl) : CallR X (.builtin "isinstance") (fun xs H Q => ∃ x n t b, xs = [x, .ty n] ∧ TyOf K H x t ∧ PySem.W.kitOne K t (.type n) = some b ∧ Q (.bl b) H) := hK ▸ call_isiT
theorem kpi_list {tg l : Expr} {tl : TE} (hl : PE X l tl) (hK : X.K = K := by rfl) : PI X tg l (iList K tl) := hK ▸ pi_list hl
theorem kpi_tup {tg l : Expr} {tl : TE} (hl : PE X l tl) (hK : X.K = K := by rfl) : PI X tg l (iTup K tl) := hK ▸ pi_tup hl
theorem kpe_bm {o e : Expr} {es : List Expr} {to : TE} {t : TA} {name : Str} {apos cpos : Pos} {T id : String} {r : V → List V → Hp → VK → Prop} (pa : PlainAttrs T) (slot : Slot T name id) (hty : typeOf (.builtin id) = pure (.type "method_descriptor")) (hm : MtR X id r) (ho : PE X o to) (ha : PA X (e :: es) t)
    (hbase : attributeBase o name X.env (eval o X.env) = eval o X.env := by rfl)
    (hfew : ((backTo cpos (starEach (e :: es) X.env)).all (fun x => !x.1) && (backToKw cpos (keywordEach [] X.env)).all (fun x => x.1.isSome)
      && decide ((e :: es).length + ([] : List Keyword).length + (if ([] : List Keyword).isEmpty then 0 else 1) < 30)) = true := by rfl)
    (hline : (apos.endLine == cpos.line) = true := by rfl) (hs : starEach (e :: es) X.env = (false, eval e X.env) :: starEach es X.env := by rfl) (hplain : (backTo cpos (starEach es X.env)).any (·.1) = false := by rfl) (hK : X.K = K := by rfl) :
    PE X (.Call (.Attribute o name apos) (e :: es) [] cpos) (tBM K T r to t) := hK ▸ pe_bm pa slot hty hm ho ha hbase hfew hline hs hplain
theorem kpg_tup {es : List Expr} {k : Nat} {pos : Pos} {t : TGs} {n : Nat} (hc : X.calm = true) (h : PGs X es t) (hn : (assignEach es X.env).length = n := by rfl) (hst : (assignEach es X.env).findIdx? (·.1) = none := by rfl) (hK : X.K = K := by rfl) : PG X (.Tuple es k pos) (gTup K n t) := hK ▸ pg_tup hc h hn hst
end
end L2

set_option Elab.async false
set_option linter.all false
set_option maxRecDepth 100000
set_option maxHeartbeats 4000000
namespace L2
open PySem PySem.Spec PyProof.Rows

/-! whole numbers of any moderate size -/
def Mid (i : Int) : Prop := i.natAbs < 2 ^ 8000
theorem Mid.log {i : Int} (h : Mid i) : i.natAbs.log2 < 8000 := by
  rcases Nat.eq_zero_or_pos i.natAbs with z | z
  · rw [z]; decide
  · exact (Nat.log2_lt (Nat.ne_of_gt z)).mpr h
theorem Mid.bits {i : Int} (h : Mid i) : Builtin.Int.intBits i ≤ 2 ^ 20 := by
  have := h.log
  have e : (2 : Nat) ^ 20 = 1048576 := by decide
  unfold Builtin.Int.intBits
  split
  · exact Nat.zero_le _
  · omega
section
variable {X : Cx}
theorem op_mulM : OpR X (binaryOp .Mult) (rI (fun i j => Mid i ∧ Mid j) fun i j => .int (i * j)) := opI fun _ _ _ _ _ _ _ hc q => mul_int q (IntMulOk.of_bits hc.1.bits hc.2.bits)
theorem op_fdivM : OpR X (binaryOp .FloorDiv) (rI (fun _ j => j ≠ 0 ∧ Mid j) fun i j => .int (i.fdiv j)) := opI fun _ _ _ _ _ _ _ hc q => floordiv_int hc.1 q (.inl (PyProof.noPylong_of_log2 (Nat.lt_trans hc.2.log (by decide))))
end

/-! ### an exception in flight: it is at e, over the frames at l; what was tracked, or stood in the elder heap, is held fast -/
structure Fly (l : List Env) (H' : Hp) (old : Heap) (e : Addr) (cls : Value) (h : Heap) : Prop where
  ex : ∃ B a0, Heap.FlyingW B l e cls a0 h ∧ ∀ b o, h.get? b = some o → b ∉ frs l → ((∃ u, H' b = some u) ∨ ∃ u, old.get? b = some u) → B.get? b = some o
  new : H' e = none
  nold : old.get? e = none
/-- how an exception lies behind a call -/
def CX1 (P : Program) (w : World) : CXT := fun outer H s E e s' => ∃ (ea : Addr) (cls : Value) (H' : Hp), e = .ref ea ∧ s'.os = s.os ∧ AllBare s'.gens ∧ Un (frs outer) [] H H' s.heap s'.heap ∧ HOk P w H' s'.heap ∧ Fly outer H' s.heap ea cls s'.heap ∧ E cls none H'
theorem ObjOk.some {P : Program} {w : World} {H : Hp} {h : Heap} {a : Addr} {o : HO} (x : ObjOk P w H h a o) : ∃ ob, h.get? a = some ob := by
  cases o with
  | lst xs => obtain ⟨_, _, _, _, e⟩ := x; exact ⟨_, e⟩
  | tup xs => obtain ⟨_, _, _, o, e, _⟩ := x; exact ⟨_, e⟩
  | dK kvs => obtain ⟨_, _, _, _, o, _, _, e, _⟩ := x; exact ⟨_, e⟩
  | dT kvs => obtain ⟨_, _, _, _, o, _, _, e, _⟩ := x; exact ⟨_, e⟩
  | set S n => obtain ⟨o, _, _, _, e, _⟩ := x; exact ⟨_, e⟩
  | ins C dx fs => obtain ⟨_, _, _, e, _⟩ := x; exact ⟨_, e⟩
  | own y => exact x
  | xd fs => obtain ⟨_, ⟨_, _, _, e, _⟩, _⟩ := x; exact ⟨_, e⟩
  | rng lo hi => obtain ⟨_, _, _, e⟩ := x; exact ⟨_, e⟩
  | frz ob u => obtain ⟨e, _⟩ := x; exact ⟨_, e⟩
  | tbl ps => exact ⟨_, x⟩
  | met f y => exact ⟨_, x⟩
  | ext φ => obtain ⟨_, z, _⟩ := x; exact z
section
variable {X : Cx} {pins : List (Addr × Obj)} {σ : St} {H H' : Hp} {s s' : Shared} {h2 : Heap}
/-- behind an exception that leaves this frame: the callers' view -/
theorem Inv.left (I : Inv X pins σ H s) (hex : X.ex = []) (k : ∀ b o, s.heap.get? b = some o → b ∉ frs X.stack → ((∃ u, H b = some u) ∨ ∃ u, X.s₀.heap.get? b = some u) → h2.get? b = some o)
    (sl : ∀ b o, s.heap.get? b = some o → b ∈ frs X.outer → ∃ q, h2.get? b = some { o with slots := q }) : Un (frs X.outer) [] X.H₀ H X.s₀.heap h2 ∧ HOk X.prog X.w H h2 := by
  have nx : ∀ b, b ∉ X.ex := fun b z => by rw [hex] at z; exact absurd z (by simp)
  have neL : ∀ b o, X.s₀.heap.get? b = some o → b ≠ X.env.locals := fun b o e => Nat.ne_of_lt (Nat.lt_of_lt_of_le (Heap.lt_size e) I.ok.above)
  have nst : ∀ b, b ≠ X.env.locals → b ∉ frs X.outer → b ∉ frs X.stack := fun b h1 h3 z => (List.mem_cons.mp (I.stkSub b z)).elim h1 h3
  refine ⟨⟨fun b o e n nf _ => ?_, fun b o e n hb _ => ?_, fun b o e n _ => I.base.free b o e n (nx b), fun b o e _ => ?_, I.base.tups, I.base.frzs, I.base.tbls⟩, fun a o e => ?_⟩
  · exact k b o (I.base.keep b o e n nf (nx b)) (nst b (neL b o e) nf) (.inr ⟨o, e⟩)
  · obtain ⟨q, e1⟩ := I.base.slot b o e n hb (nx b)
    obtain ⟨q', e2⟩ := sl b _ e1 hb
    exact ⟨q', e2⟩
  · obtain ⟨o', e1⟩ := I.base.there b o e (nx b)
    by_cases hb : b ∈ frs X.outer
    · obtain ⟨q, e2⟩ := sl b o' e1 hb
      exact ⟨_, e2⟩
    · exact ⟨o', k b o' e1 (nst b (neL b o e) hb) (.inr ⟨o, e⟩)⟩
  · refine (I.hok a o e).stay (fun b u hb q => ?_) (fun _ q => q) fun _ _ q => q
    have ht : ∃ u, H b = some u := by
      rcases hb with z | z
      · exact ⟨o, by rw [z]; exact e⟩
      · exact ⟨_, z⟩
    refine k b u q (fun z => ?_) (.inl ht)
    obtain ⟨v, hv⟩ := ht
    rw [I.stkFree b z] at hv
    cases hv
theorem Inv.cov (I : Inv X pins σ H s) (hex : X.ex = []) {b : Addr} (h : (∃ u, H b = some u) ∨ ∃ u, X.s₀.heap.get? b = some u) : (∃ o, s.heap.get? b = some o) ∧ b ≠ X.env.locals := by
  rcases h with ⟨u, e⟩ | ⟨u, e⟩
  · refine ⟨(I.hok b u e).some, fun z => ?_⟩
    rw [z, I.free] at e
    cases e
  · exact ⟨I.base.there b u e (by rw [hex]; simp), Nat.ne_of_lt (Nat.lt_of_lt_of_le (Heap.lt_size e) I.ok.above)⟩
end
/-- a new exception, raised in a def's own frame, reaches what the def's caller wants -/
def Thrown (X : Cx) (E : XK) : Prop := ∀ (pins : List (Addr × Obj)) (σ : St) (H : Hp) (s : Shared) (h' : Heap) (e : Addr) (cls : Value) (vs : List Value), Inv X pins σ H s → Heap.MadeExcOf s.heap h' e cls vs → E cls none H → X.xe (.ref e) { s with heap := h' }
section
variable {P : Program} {w : World} {K : PySem.W.Frag} {mg : Str → Option Value} {base : Heap} {N : List Str} {qual : Str} {scope : Scope} {f : Addr} {cd : Value} {A : Around} {outer : List Env} {s : Shared} {H : Hp} {E : XK}
theorem frs_mem {l : List Env} : ∀ env ∈ l, ∀ b, env.frame = some b → b ∈ frs l := fun env he b hb => List.mem_filterMap.mpr ⟨env, he, hb⟩
theorem thrown1 : Thrown (cxOf (CX1 P w) P w K mg base N qual scope f cd A outer s H E) E := by
  intro pins σ H1 s1 h' e cls vs I hm q
  have hex : (cxOf (CX1 P w) P w K mg base N qual scope f cd A outer s H E).ex = [] := rfl
  have hst : (cxOf (CX1 P w) P w K mg base N qual scope f cd A outer s H E).stack = envOfC qual scope s.heap.objs.size f cd :: outer := rfl
  have fin : ∀ b o, s1.heap.get? b = some o → b ∉ frs (envOfC qual scope s.heap.objs.size f cd :: outer) → (PySem.W.hideAll s1.heap (frs (envOfC qual scope s.heap.objs.size f cd :: outer))).get? b = some o := fun b o e1 nb => PySem.W.hideAll_get _ e1 nb
  refine wpAny_leaves_madeW (base := PySem.W.hideAll s1.heap (frs (envOfC qual scope s.heap.objs.size f cd :: outer))) (h := s1.heap) (L := s.heap.objs.size) I.ok.frames rfl (fun b o z => PySem.W.of_hideAll _ z)
    (PySem.W.funFrames_hide I.stack frs_mem) hm fun h'' t fl tp bt up => ?_
  have k : ∀ b o, s1.heap.get? b = some o → b ∉ frs (envOfC qual scope s.heap.objs.size f cd :: outer) → ((∃ u, H1 b = some u) ∨ ∃ u, s.heap.get? b = some u) → h''.get? b = some o := fun b o e1 nb _ => fl.1 b o (fin b o e1 nb)
  obtain ⟨un, hok⟩ := I.left (h2 := h'') hex k (fun b o e1 hb => up b o (hm.keeps b o e1) (by
    obtain ⟨_, o2, e2, nf⟩ := I.funs.mem hb
    rw [e1] at e2
    cases e2
    exact nf))
  have hnew : H1 e = none := by
    cases z : H1 e with
    | none => rfl
    | some u =>
      obtain ⟨ob, eo⟩ := (I.hok e u z).some
      rw [hm.new] at eo
      cases eo
  refine ⟨e, cls, H1, rfl, I.os, I.bare, un, hok, ⟨⟨_, _, fl, fun b o e1 nb hc => ?_⟩, hnew, ?_⟩, q⟩
  · obtain ⟨⟨o', eo⟩, neL⟩ := I.cov hex hc
    have nb' : b ∉ frs (envOfC qual scope s.heap.objs.size f cd :: outer) := fun z => (List.mem_cons.mp (I.stkSub b z)).elim neL nb
    have e2 := fl.1 b o' (fin b o' eo nb')
    have e3 : o = o' := Option.some.inj (e1.symm.trans e2)
    rw [e3]
    exact fin b o' eo nb'
  · cases z : s.heap.get? e with
    | none => rfl
    | some u =>
      obtain ⟨ob, eo⟩ := I.base.there e u z (by rw [hex]; simp)
      rw [hm.new] at eo
      cases eo
end

/-! ### raise C(..), C an own class without an __init__ of its own -/
theorem exc_obj {K : PySem.W.Frag} {g : Heap} {C : Addr} {bmB : List Value} {newId : String} (X : K.In g) (q : PySem.W.excIn K C bmB newId = true) :
    ∃ tl N nm qn bs hd sn sub ab col dd k0 k1 k2 k3 k5 mN, g.get? C = some (excClassObj nm qn C N bs tl hd sn sub ab col dd k0 k1 k2 k3 k5 newId) ∧ g.Ns N mN ∧ mN "__init__" = none ∧ OwnTail g bmB tl := by
  unfold PySem.W.excIn at q
  split at q
  · rename_i d1 c1 l1 at1
    split at q
    · rename_i C1 tl j0 j1 j2 j3 n1 j5 hm1 hs1
      simp only [Bool.and_eq_true, beq_iff_eq, Bool.not_eq_true'] at q
      obtain ⟨⟨⟨⟨⟨r1, r2⟩, r3⟩, r4⟩, r5⟩, r6⟩ := q
      subst r1 r2
      obtain ⟨nm, bs, mro, ns, qn, hd, sn, sub, ab, col, del⟩ := c1
      have hm2 : mro = _ := hm1
      have r3' : del = false := r3
      subst hm2 r3'
      have sl2 : l1 = #[j0, j1, j2, j3, some (.builtin n1), j5] := by
        cases l1 with
        | mk ls =>
          have : ls = _ := hs1
          rw [this]
      subst sl2
      exact ⟨tl, ns, nm, qn, bs, hd, sn, sub, ab, col, d1, j0, j1, j2, j3, j5, _, X _ _ at1, .of_isNs (PySem.W.isNs_of_in X r5), PySem.W.nsMap_none_of_in X r5 r6, PySem.W.tail_of_in X r4⟩
    · cases q
  · cases q
section
variable {X : Cx}
def tRaise (C : Addr) (E : XK) (t : TA) : TS := fun _ σ H => t σ H fun vs H1 => vs.length ≤ sizeLine ∧ E (.ref C) none H1
theorem ps_raise {x : Str} {C : Addr} {bmB bmN : List Value} {newId nid initId inN Bn B0 : String} {E : XK} {e0 : Expr} {es : List Expr} {t : TA} {np cpos pos : Pos} (hg : Gl X x) (hm : X.mg x = some (.ref C)) (q : PySem.W.excIn X.K C bmB newId = true)
    (Fn : ExcBaseFacts Bn newId inN bmN) (hBn : bmB.contains (.type Bn) = true) (FB : ExcBaseFacts B0 nid initId bmB) (hc : X.calm = true) (hx : Thrown X E) (ha : PA X (e0 :: es) t) (hdb : (x == ("__debug__" : Str)) = false := by decide)
    (he : starEach (e0 :: es) X.env = (false, eval e0 X.env) :: starEach es X.env := by rfl) (hpl : (backTo cpos (starEach es X.env)).any (·.1) = false := by rfl) :
    PS X (.Raise (some (.Call (.Name x np) (e0 :: es) [] cpos)) none pos) (tRaise C E t) := by
  intro pins s σ H D I h
  obtain ⟨tl, N, nm, qn, bs, hd, sn, sub, ab, col, dd, k0, k1, k2, k3, k5, mN, hC, hN, hni, T⟩ := exc_obj I.mod.kin q
  have ha' := ha cpos pins s σ H _ I h
  rw [he] at ha'
  refine wpAny_Raise_call_subU (C := C) (nm := nm) (q := qn) (N := N) (bs := bs) (bm := tl) (hdct := hd) (sn := sn) (sub := sub) (ab := ab) (col := col) (dd := dd) (k0 := k0) (k1 := k1) (k2 := k2) (k3 := k3) (k5 := k5)
    Fn hBn FB (mN := mN) (T.hasType FB.hasBase) (I.ok.hd hc) (by rw [he]; show (false || (backTo cpos (starEach es X.env)).any (·.1)) = false; rw [hpl]; rfl) hni (ld_glob I hg hm ⟨rfl, ?_⟩ hdb)
  rw [he]
  refine Calls.evalArgs_plain (wpAny_mono ha' (fun us s2 ⟨vs, H2, I2, r, hz, qE⟩ => ⟨rfl, ?_, I2.bk _ _ hC, hN.keeps I2.bk, T.keeps I2.bk, fun h' e hm => ?_⟩) fun _ _ y => y)
  · rw [← r.length]; exact hz
  · exact hx pins σ H2 s2 h' e _ _ I2 hm qE
end
end L2

set_option Elab.async false
set_option linter.all false
set_option maxRecDepth 100000
set_option maxHeartbeats 4000000
namespace L2
open PySem PySem.Spec PyProof.Rows
section
variable {X : Cx}
end
section
variable {X : Cx} {pins : List (Addr × Obj)} {σ : St} {H : Hp} {s : Shared}
/-- a thing that was made since the entry is looked at from now on -/
theorem Inv.adopt {e : Addr} {u : HO} (I : Inv X pins σ H s) (hn : H e = none) (h0 : X.s₀.heap.get? e = none) (nL : e ≠ X.env.locals) (nC : ∀ x c, X.env.cells.lookup x = some c → c ≠ e) (nP : ∀ p ∈ X.pn ++ pins, p.1 ≠ e)
    (ok : ObjOk X.prog X.w (upd H e u) s.heap e u) : Inv X pins σ (upd H e u) s := by
  have ne : ∀ {b : Addr} {v : HO}, H b = some v → b ≠ e := fun q => ne_of_none q hn
  refine ⟨I.ok, I.os, I.bare, ⟨I.base.keep, I.base.slot, fun b o q n hx => ?_, I.base.there, fun b xs q => ?_, fun b o v q => ?_, fun b ps q => ?_⟩, I.loc, I.cell, ?_, fun x c q => ?_, fun p hp => ?_, fun a o q => ?_, I.len⟩
  · have z : b ≠ e := fun z => by rw [z, h0] at q; cases q
    rw [upd_ne z]
    exact I.base.free b o q n hx
  · have q1 := I.base.tups b xs q
    rw [upd_ne (ne q1)]
    exact q1
  · have q1 := I.base.frzs b o v q
    rw [upd_ne (ne q1)]
    exact q1
  · obtain ⟨more, q1⟩ := I.base.tbls b ps q
    exact ⟨more, by rw [upd_ne (ne q1)]; exact q1⟩
  · rw [upd_ne (Ne.symm nL)]
    exact I.free
  · rw [upd_ne (nC x c q)]
    exact I.freeC x c q
  · obtain ⟨p1, p2, p3⟩ := I.pin p hp
    exact ⟨p1, by rw [upd_ne (nP p hp)]; exact p2, p3⟩
  · by_cases z : a = e
    · subst z
      rw [upd_same] at q
      cases q
      exact ok
    · rw [upd_ne z] at q
      exact (I.hok a o q).stay (fun _ _ _ r => r) (fun c r => by rw [upd_ne (ne r)]; exact r) fun c xs r => by rw [upd_ne (ne r)]; exact r
end
section
variable {X : Cx} {pins : List (Addr × Obj)} {R : Value → St → Hp → Prop} {e : Value} {s' : Shared}
end
section
variable {X : Cx} {pins : List (Addr × Obj)} {σ : St} {H : Hp} {s : Shared} {ea : Addr}
end
end L2
namespace L2
open PySem PySem.Spec PyProof.Rows
/-! a def of the text that raises on some ways -/
def Def1 (P : Program) (w : World) (K : PySem.W.Frag) (mg : Str → Option Value) (base : Heap) (k : Nat) (x : Str) (ps : List Str) (sp : Sp) : Prop :=
  ∃ (f : Addr) (fd : FuncData), FnOk P w K mg base (CX1 P w) k f fd ps sp ∧ mg x = some (.ref f) ∧ PySem.W.keepIn K (.ref f) = true ∧ Binds K fd ps []
section
theorem pe_def1 (D : Def1 X.prog X.w X.K X.mg X.base k x ps sp) (hr : Room k' X.A) (hk : k ≤ k') (hg : Gl X x) (ha : PA X (e :: es) t)
    (hdb : (x == ("__debug__" : Str)) = false := by decide) (he : starEach (e :: es) X.env = (false, eval e X.env) :: starEach es X.env := by rfl) (hpl : (backTo pos (starEach es X.env)).any (·.1) = false := by rfl) :
    PE X (.Call (.Name x p) (e :: es) [] pos) (tCall sp [] E0 t) := by
  obtain ⟨f, fd, F, m, kp, b⟩ := D
  exact pe_call F (hr.mono hk) hg m kp b .nil (fun _ _ _ _ _ _ _ h => by obtain ⟨_, _, _, _, _, _, _, _, _, z⟩ := h; exact False.elim z) ha hdb he hpl
end
section
variable {P : Program} {w : World} {K : PySem.W.Frag} {mg : Str → Option Value} {base : Heap}
theorem Fun.ok1 {x qual : Str} {st : Stmt} {f : Addr} {fd : FuncData} {N ps : List Str} {k : Nat} {sp : Sp} (F : Fun K x qual st f fd) (S : FnScope N ps (defScope st)) (len : ∀ vs H Q E, sp vs H Q E → vs.length = ps.length)
    (hbody : ∀ (cdv : Value) (A : Around) (outer : List Env) (s : Shared) (H : Hp) (vs : List V) (Q : VK) (E : XK), Room k (A.deeper (envOfC qual (defScope st) s.heap.objs.size f cdv)) → sp vs H Q E →
      ∃ t, PSs (cxOf (CX1 P w) P w K mg base N qual (defScope st) f cdv A outer s H E) (defBody st) t ∧ t { nx := fun _ H' => Q .non H', rt := Q } (start N vs) H) : FnOk P w K mg base (CX1 P w) (k + 1) f fd ps sp := by
  obtain ⟨oc, od, kV, doc, pm, an, cdv, ct, osl, rfl, lk, hcd⟩ := F.ex
  exact fn_of lk hcd S len fun A outer s H vs Q E hr hsp => hbody cdv A outer s H vs Q E hr hsp
end
end L2

set_option Elab.async false
set_option linter.all false
set_option maxRecDepth 100000
set_option maxHeartbeats 4000000
namespace L2
open PySem PySem.Spec PyProof.Rows
/-! isinstance of an exception of an own class -/
section
variable {prog : Program} {w : World} {A : Around} {E : Value → Shared → Prop} {s : Shared} {K : PySem.W.Frag} {e C : Addr} {h : Heap}
end
end L2
namespace L2
open PySem PySem.Spec PyProof.Rows
/-! == of two lists of flat values -/
section
variable {X : Cx}
/-- all(a list of bools) -/
theorem bools_at {bs : List Bool} : ∀ {us : List Value}, Vals (bs.map V.bl) us → us = bs.map Value.bool := by
  induction bs with
  | nil => intro us r; rw [List.map_nil] at r; cases r; rfl
  | cons b bs ih =>
    intro us r
    rw [List.map_cons] at r
    cases r with
    | cons r1 r2 => rw [List.map_cons, ← ih r2]; cases r1; rfl
theorem range_bools : ∀ bs : List Bool, ((List.range bs.length).all fun i => bs.getD i true) = bs.all id
  | [] => rfl
  | b :: bs => by
    have ih := range_bools bs
    rw [List.length_cons, List.range_succ_eq_map, List.all_cons, List.all_map, List.all_cons, ← ih]
    rfl
theorem call_all (hc : X.calm = true) : CallR X (.builtin "all") (fun xs H Q => ∃ (p : Addr) (bs : List Bool), xs = [.ref p] ∧ SqL X.K H p (bs.map V.bl) ∧ Q (.bl (bs.all id)) H) := by
  intro pins s σ H xs us Q I r h
  obtain ⟨p, bs, rfl, hq, q⟩ := h
  obtain ⟨u, rfl, ru⟩ := vals1 r
  cases ru
  obtain ⟨its, rv, pl, _⟩ := I.list hq
  have hl : s.heap.IsList p its.toArray := pl.isList
  have hlt : p < s.heap.objs.size := by obtain ⟨_, e, _⟩ := hl; exact Heap.lt_size e
  refine call_all_walk (wpAny_pyIter_list hl ⟨_, _, _, _, _, _, fun i => bs.getD i true, rfl, Walks.list (A := X.A.in1) (I.ok.hd hc) _ p (Nat.ne_of_lt hlt) its.toArray, ⟨⟨_, Heap.get?_push_size _ rfl, rfl, rfl⟩, hl.push _⟩, fun i v s' Q' E' hv hQ => ?_, fun h' tk hk => ⟨.bl _, H, I.kept (old_kept hk), rfl, ?_⟩⟩)
  · have hv' : its[i]? = some v := by simpa using hv
    rw [bools_at rv, List.getElem?_map] at hv'
    obtain ⟨b, hb, rfl⟩ := Option.map_eq_some_iff.mp hv'
    have e : bs.getD i true = b := by simp [List.getD, hb]
    have z : Q' (bs.getD i true) s' := hQ
    rw [e] at z
    exact wpAny_truthy_bool z
  · have e1 : its.toArray.size = bs.length := by
      have := rv.length
      rw [List.length_map] at this
      simp; omega
    rw [e1]
    have e2 := range_bools bs
    rw [e2]
    exact q
theorem kcall_all (K : PySem.W.Frag) (hc : X.calm = true) (hK : X.K = K := by rfl) : CallR X (.builtin "all") (fun xs H Q => ∃ (p : Addr) (bs : List Bool), xs = [.ref p] ∧ SqL K H p (bs.map V.bl) ∧ Q (.bl (bs.all id)) H) := hK ▸ call_all hc
end
end L2

set_option Elab.async false
set_option linter.all false
set_option maxRecDepth 100000
set_option maxHeartbeats 4000000
namespace L2
open PySem PySem.Spec PyProof.Rows
/-! a range by steps -/
section
variable {X : Cx} {tg : Expr}
/-! (a, b, ..) = a list of that length -/
/-! != of two tuples of flat values -/
end
end L2

set_option Elab.async false
set_option linter.all false
set_option maxRecDepth 100000
set_option maxHeartbeats 4000000
namespace L2
open PySem PySem.Spec PyProof.Rows
/-! sets of texts, made of a list -/
section
variable {prog : Program} {w : World} {A : Around} {E : Value → Shared → Prop} {s : Shared}
end
section
variable {X : Cx}
end
end L2

set_option Elab.async false
set_option linter.all false
set_option maxRecDepth 100000
set_option maxHeartbeats 4000000
namespace L2
open PySem PySem.Spec PyProof.Rows
/-! zip(t, u) of two tuples -/
section
variable {prog : Program} {w : World} {A : Around} {E : Value → Shared → Prop} {s : Shared}
theorem nextOf_tupI {it t : Addr} {k : Nat} {items : Array Value} {x : Value} {Q : Value → Shared → Prop} (hi : s.heap.IsTupleIter it t k) (ht : s.heap.IsTuple t items) (hx : items[k]? = some x)
    (q : ∀ h', h'.IsTupleIter it t (k + 1) → Heap.SameBut it s.heap h' → Q x { s with heap := h' }) : wpAny (model prog w) A (Builtin.SmallTypes.nextOf (.ref it)) Q E s := by
  obtain ⟨oi, a1, a2, a3⟩ := id hi
  obtain ⟨ot, b1, _, nt, b3⟩ := ht
  unfold Builtin.SmallTypes.nextOf
  refine wpAny_bind (wpAny_callSpecial?_slot (name := Str.ofString "__next__") hi.typeIs PySem.F.slot_tuple_iterator_next (wpAny_call_entry PySem.F.slot_tuple_iterator_next hi.typeIs PySem.F.entry_tuple_iterator_next ?_ (PySem.F.args_tuple_iterator_next_1 _)))
  refine wpAny_bind (m := field (.ref it) 0) (wpAny_field a1 a3 (x := .ref t) rfl ?_)
  show wpAny _ _ (if (Value.ref t == Value.none) = true then _ else field (.ref it) 1 >>= _) _ _ s
  rw [if_neg (show ¬ ((Value.ref t == Value.none) = true) from Bool.false_ne_true)]
  refine wpAny_bind (wpAny_field a1 a3 (x := .int k 0) rfl (wpAny_bind (m := seqItems? (.ref t)) (wpAny_seqItems b1 b3 ?_)))
  simp only [Int.toNat_natCast, hx]
  refine wpAny_bind (wpAny_setField a1 a3 (by simp) (wpAny_pure ⟨x, rfl, wpAny_pure (q _ ⟨_, Heap.get?_update_self _ a1 (Obj.isFreed_of_fields (Obj.data_mapFields a3 _)), (Obj.cls_mapFields ..).trans a2, ?_⟩ (Heap.SameBut.update ..))⟩))
  rw [Obj.data_mapFields a3]; simp [rawInt]
theorem nextOf_tupE {it t : Addr} {k : Nat} {items : Array Value} {Q : Value → Shared → Prop} (hh : A.handled = none) (hi : s.heap.IsTupleIter it t k) (ht : s.heap.IsTuple t items) (hx : items[k]? = none)
    (q : ∀ h' e, Heap.ExtBut it s.heap h' → (∃ o, h'.get? e = some o ∧ o.cls = .type "StopIteration") → E (.ref e) { s with heap := h' }) : wpAny (model prog w) A (Builtin.SmallTypes.nextOf (.ref it)) Q E s := by
  obtain ⟨oi, a1, a2, a3⟩ := id hi
  obtain ⟨ot, b1, _, nt, b3⟩ := ht
  unfold Builtin.SmallTypes.nextOf
  refine wpAny_bind (wpAny_callSpecial?_slot (name := Str.ofString "__next__") hi.typeIs PySem.F.slot_tuple_iterator_next (wpAny_call_entry PySem.F.slot_tuple_iterator_next hi.typeIs PySem.F.entry_tuple_iterator_next ?_ (PySem.F.args_tuple_iterator_next_1 _)))
  refine wpAny_bind (m := field (.ref it) 0) (wpAny_field a1 a3 (x := .ref t) rfl ?_)
  show wpAny _ _ (if (Value.ref t == Value.none) = true then _ else field (.ref it) 1 >>= _) _ _ s
  rw [if_neg (show ¬ ((Value.ref t == Value.none) = true) from Bool.false_ne_true)]
  refine wpAny_bind (wpAny_field a1 a3 (x := .int k 0) rfl (wpAny_bind (m := seqItems? (.ref t)) (wpAny_seqItems b1 b3 ?_)))
  simp only [Int.toNat_natCast, hx]
  refine wpAny_bind (wpAny_rule (wpAny_bind (wpAny_setField a1 a3 (by simp) (wpAny_bind (m := newExc (.type "StopIteration") []) ?_))))
  simp only [newExc, newTuple]; refine wpAny_bind (wpAny_newObj_type (wpAny_bind (m := firstArgMember _ _) (wpAny_of_eq (a := Value.none) (by first | rfl | (simp only [firstArgMember]; rfl)) (wpAny_newObj_type ?_ (by size_fits)))) (by size_fits))
  simp only [raiseNew]; refine wpAny_bind (wpAny_handled ?_)
  first | rw [show A.in1.handled = none from hh] | rw [hh]
  exact wpAny_bind (wpAny_pure (wpAny_throw (q _ _ (((Heap.SameBut.update ..).extBut.push _).push _) ⟨_, Heap.get?_push_size _ rfl, rfl⟩)))
/-- a tuple (true) or a list, and its iterator -/
def HSq (k : Bool) (h : Heap) (a : Addr) (xs : Array Value) : Prop := ∃ o, h.get? a = some o ∧ o.cls = .type (bif k then "tuple" else "list") ∧ ∃ n, o.data = .seq xs n
def HIt (k : Bool) (h : Heap) (a t : Addr) (i : Nat) : Prop := ∃ o, h.get? a = some o ∧ o.cls = .type (bif k then "tuple_iterator" else "list_iterator") ∧ o.data = .fields #[.ref t, .int i 0]
theorem HSq.ext {k : Bool} {h h' : Heap} {a b : Addr} {xs : Array Value} : HSq k h a xs → Heap.ExtBut b h h' → a ≠ b → HSq k h' a xs := fun ⟨o, e, r⟩ f n => ⟨o, f _ _ n e, r⟩
theorem HIt.ext {k : Bool} {h h' : Heap} {a b t : Addr} {i : Nat} : HIt k h a t i → Heap.ExtBut b h h' → a ≠ b → HIt k h' a t i := fun ⟨o, e, r⟩ f n => ⟨o, f _ _ n e, r⟩
variable {kd : Bool}
theorem nextI {it t : Addr} {k : Nat} {items : Array Value} {x : Value} {Q : Value → Shared → Prop} (hi : HIt kd s.heap it t k) (ht : HSq kd s.heap t items) (hx : items[k]? = some x)
    (q : ∀ h', HIt kd h' it t (k + 1) → Heap.SameBut it s.heap h' → Q x { s with heap := h' }) : wpAny (model prog w) A (Builtin.SmallTypes.nextOf (.ref it)) Q E s := by
  cases kd
  · exact wpAny_nextOf_list_item hi ht hx q
  · exact nextOf_tupI hi ht hx q
theorem nextE {it t : Addr} {k : Nat} {items : Array Value} {Q : Value → Shared → Prop} (hh : A.handled = none) (hi : HIt kd s.heap it t k) (ht : HSq kd s.heap t items) (hx : items[k]? = none)
    (q : ∀ h' e, Heap.ExtBut it s.heap h' → (∃ o, h'.get? e = some o ∧ o.cls = .type "StopIteration") → E (.ref e) { s with heap := h' }) : wpAny (model prog w) A (Builtin.SmallTypes.nextOf (.ref it)) Q E s := by
  cases kd
  · exact wpAny_nextOf_list_end hh hi ht hx q
  · exact nextOf_tupE hh hi ht hx q
theorem iterK {l : Addr} {xs : Array Value} {Q : Value → Shared → Prop} (h : HSq kd s.heap l xs) (q : Q (.ref s.heap.objs.size) { s with heap := s.heap.push { cls := .type (bif kd then "tuple_iterator" else "list_iterator"), data := .fields #[.ref l, .int 0 0] } }) : wpAny (model prog w) A (pyIter (.ref l)) Q E s := by
  cases kd
  · exact wpAny_pyIter_list h q
  · exact wpAny_pyIter_tuple h q
/-- the zip at z stands ahead of the k-th pair -/
structure ZipAt (kd : Bool) (z TI TO i1 i2 t1 t2 : Addr) (xs ys : Array Value) (f0 : Value) (k1 k2 : Nat) (h : Heap) : Prop where
  zi : IsZip h z TI TO f0
  ti : IsPair h TI (.ref i1) (.ref i2)
  to : ∃ a b, IsPair h TO a b
  a1 : HIt kd h i1 t1 k1
  a2 : HIt kd h i2 t2 k2
  b1 : HSq kd h t1 xs
  b2 : HSq kd h t2 ys
structure Far (z TI TO i1 i2 t1 t2 : Addr) : Prop where
  nd : [z, TI, TO, i1, i2].Nodup
  f1 : t1 ∉ [z, TO, i1, i2]
  f2 : t2 ∉ [z, TO, i1, i2]
def Kept4 (z TO i1 i2 : Addr) (h h' : Heap) : Prop := ∀ c o, c ∉ [z, TO, i1, i2] → h.get? c = some o → h'.get? c = some o
variable {z TI TO i1 i2 t1 t2 : Addr} {xs ys : Array Value} {k1 k2 : Nat}
theorem zip_item {x y : Value} {Q : Value → Shared → Prop} (D : Far z TI TO i1 i2 t1 t2) (Z : ZipAt kd z TI TO i1 i2 t1 t2 xs ys .none k1 k2 s.heap) (hx : xs[k1]? = some x) (hy : ys[k2]? = some y)
    (q : ∀ h', ZipAt kd z TI TO i1 i2 t1 t2 xs ys (rawInt s.heap.objs.size) (k1 + 1) (k2 + 1) h' → IsPair h' s.heap.objs.size x y → Kept4 z TO i1 i2 s.heap h' → Q (.ref s.heap.objs.size) { s with heap := h' }) :
    wpAny (model prog w) A (Builtin.«zip.__next__» ⟨[.ref z], []⟩) (fun fin s' => ∃ v, fin = .done (.ret v) ∧ Q v s') E s := by
  obtain ⟨nd, f1, f2⟩ := D
  simp only [List.nodup_cons, List.mem_cons, List.not_mem_nil, or_false, not_or, List.nodup_nil, and_true, not_false_eq_true] at nd f1 f2
  obtain ⟨⟨nzI, nzO, nz1, nz2⟩, ⟨nIO, nI1, nI2⟩, ⟨nO1, nO2⟩, n12⟩ := nd
  obtain ⟨p1z, p1O, p11, p12⟩ := f1
  obtain ⟨p2z, p2O, p21, p22⟩ := f2
  obtain ⟨zi, ti, ⟨a, b, to⟩, a1, a2, b1, b2⟩ := Z
  refine wpAny_bind (m := field (.ref z) 2) (wpAny_field zi rfl (x := .bool false) rfl ?_)
  refine wpAny_bind (m := field (.ref z) 3) (wpAny_field zi rfl (x := .ref TI) rfl (wpAny_bind (wpAny_seqItems ti rfl ?_)))
  refine wpAny_bind (m := Builtin.SmallTypes.ownedTupleIsFree (.ref z)) ?_
  unfold Builtin.SmallTypes.ownedTupleIsFree; refine wpAny_bind (wpAny_field zi rfl (x := .none) rfl (wpAny_pure ?_))
  simp only [if_true]; refine wpAny_bind (wpAny_rule (wpAny_bind (wpAny_field zi rfl (x := .ref TO) rfl (wpAny_bind (wpAny_setField_rec zi (by simp) fun g1 zi1' s1 => ?_)))))
  have zi1 : IsZip g1 z TI TO .ellipsis := zi1'
  refine wpAny_bind ?_
  simp only [List.zipIdx_cons, List.zipIdx_nil, List.forIn_cons, List.forIn_nil]
  refine wpAny_bind (wpAny_bind (wpAny_onRaise (wpAny_bind (m := Builtin.SmallTypes.nextOf (.ref i1)) ?_)))
  refine nextI (a1.ext s1.extBut (Ne.symm nz1)) (b1.ext s1.extBut p1z) hx fun g2 a1' s2 => wpAny_pure ?_
  have to2 : IsPair g2 TO a b := s2.extBut _ _ nO1 (s1.extBut _ _ (Ne.symm nzO) to)
  refine wpAny_bind (wpAny_seqItems to2 rfl (wpAny_bind (wpAny_updateSeq_pair to2 fun g3 to3' s3 => wpAny_bind (wpAny_letGo (wpAny_pure ?_)))))
  have to3 : IsPair g3 TO x b := to3'
  refine wpAny_bind (wpAny_bind (wpAny_onRaise (wpAny_bind (m := Builtin.SmallTypes.nextOf (.ref i2)) ?_)))
  refine nextI (((a2.ext s1.extBut (Ne.symm nz2)).ext s2.extBut (Ne.symm n12)).ext s3.extBut (Ne.symm nO2)) (((b2.ext s1.extBut p2z).ext s2.extBut p21).ext s3.extBut p2O) hy fun g4 a2' s4 => wpAny_pure ?_
  have to4 : IsPair g4 TO x b := s4.extBut _ _ nO2 to3
  refine wpAny_bind (wpAny_seqItems to4 rfl (wpAny_bind (wpAny_updateSeq_pair to4 fun g5 to5' s5 => wpAny_bind (wpAny_letGo (wpAny_pure (wpAny_pure ?_))))))
  have to5 : IsPair g5 TO x y := to5'
  refine wpAny_bind (wpAny_seqItems to5 rfl (wpAny_bind (wpAny_newTuple ?_)))
  have sz : g5.objs.size = s.heap.objs.size := by rw [s5.1, s4.1, s3.1, s2.1, s1.1]
  have zi5 : IsZip g5 z TI TO .ellipsis := s5.extBut _ _ nzO (s4.extBut _ _ nz2 (s3.extBut _ _ nzO (s2.extBut _ _ nz1 zi1)))
  have k5 : ∀ c o, c ≠ z → c ≠ TO → c ≠ i1 → c ≠ i2 → s.heap.get? c = some o → g5.get? c = some o := fun c o c1 c2 c3 c4 e => s5.extBut _ _ c2 (s4.extBut _ _ c4 (s3.extBut _ _ c2 (s2.extBut _ _ c3 (s1.extBut _ _ c1 e))))
  have a15 : HIt kd g5 i1 t1 (k1 + 1) := ((a1'.ext s3.extBut (Ne.symm nO1)).ext s4.extBut n12).ext s5.extBut (Ne.symm nO1)
  have a25 : HIt kd g5 i2 t2 (k2 + 1) := a2'.ext s5.extBut (Ne.symm nO2)
  refine wpAny_bind (m := Builtin.SmallTypes.ownedTupleHandOut (.ref z) (.ref g5.objs.size)) ?_
  unfold Builtin.SmallTypes.ownedTupleHandOut
  have zi6 : IsZip (g5.push { cls := .type "tuple", data := .seq #[x, y] }) z TI TO .ellipsis := Heap.get?_push_of_some _ zi5
  refine wpAny_bind (wpAny_setField_rec zi6 (by simp) fun g7 zi7' s7 => ?_)
  have zi7 : IsZip g7 z TI TO (rawInt g5.objs.size) := zi7'
  refine wpAny_setField_rec zi7 (by simp) fun g8 zi8' s8 => ?_
  have zi8 : IsZip g8 z TI TO (rawInt g5.objs.size) := zi8'
  have up : ∀ c o, c ≠ z → g5.get? c = some o → g8.get? c = some o := fun c o c1 e => s8.extBut _ _ c1 (s7.extBut _ _ c1 (Heap.get?_push_of_some _ e))
  have new : IsPair g8 g5.objs.size x y := s8.extBut _ _ (Nat.ne_of_gt (Heap.lt_size zi5)) (s7.extBut _ _ (Nat.ne_of_gt (Heap.lt_size zi5)) (Heap.get?_push_size _ rfl))
  have tp : ∀ {c : Addr} {us : Array Value}, c ≠ z → c ≠ TO → c ≠ i1 → c ≠ i2 → HSq kd s.heap c us → HSq kd g8 c us := fun {c us} c1 c2 c3 c4 ⟨o, e, r⟩ => ⟨o, up c o c1 (k5 c o c1 c2 c3 c4 e), r⟩
  have il : ∀ {c u : Addr} {n : Nat}, c ≠ z → HIt kd g5 c u n → HIt kd g8 c u n := fun {c u n} c1 ⟨o, e, r⟩ => ⟨o, up c o c1 e, r⟩
  refine wpAny_pure ⟨_, rfl, ?_⟩
  have fin := q g8 ⟨by rw [← sz]; exact zi8, up _ _ (Ne.symm nzI) (k5 _ _ (Ne.symm nzI) nIO nI1 nI2 ti), ⟨x, y, up _ _ (Ne.symm nzO) to5⟩, il (Ne.symm nz1) a15, il (Ne.symm nz2) a25, tp p1z p1O p11 p12 b1, tp p2z p2O p21 p22 b2⟩ (by rw [← sz]; exact new) fun c o hc e => by
    simp only [List.mem_cons, List.not_mem_nil, or_false, not_or] at hc
    obtain ⟨c1, c2, c3, c4⟩ := hc
    exact up c o c1 (k5 c o c1 c2 c3 c4 e)
  rw [← sz] at fin
  exact fin
theorem zip_end {Q : Fin → Shared → Prop} (hh : A.handled = none) (D : Far z TI TO i1 i2 t1 t2) (Z : ZipAt kd z TI TO i1 i2 t1 t2 xs ys .none k1 k2 s.heap) (hend : xs[k1]? = none ∨ ys[k2]? = none)
    (q : ∀ h' e, Kept4 z TO i1 i2 s.heap h' → (∃ o, h'.get? e = some o ∧ o.cls = .type "StopIteration") → E (.ref e) { s with heap := h' }) : wpAny (model prog w) A (Builtin.«zip.__next__» ⟨[.ref z], []⟩) Q E s := by
  obtain ⟨nd, f1, f2⟩ := D
  simp only [List.nodup_cons, List.mem_cons, List.not_mem_nil, or_false, not_or, List.nodup_nil, and_true, not_false_eq_true] at nd f1 f2
  obtain ⟨⟨nzI, nzO, nz1, nz2⟩, ⟨nIO, nI1, nI2⟩, ⟨nO1, nO2⟩, n12⟩ := nd
  obtain ⟨p1z, p1O, p11, p12⟩ := f1
  obtain ⟨p2z, p2O, p21, p22⟩ := f2
  obtain ⟨zi, ti, ⟨a, b, to⟩, a1, a2, b1, b2⟩ := Z
  refine wpAny_bind (m := field (.ref z) 2) (wpAny_field zi rfl (x := .bool false) rfl ?_)
  refine wpAny_bind (m := field (.ref z) 3) (wpAny_field zi rfl (x := .ref TI) rfl (wpAny_bind (wpAny_seqItems ti rfl ?_)))
  refine wpAny_bind (m := Builtin.SmallTypes.ownedTupleIsFree (.ref z)) ?_
  unfold Builtin.SmallTypes.ownedTupleIsFree; refine wpAny_bind (wpAny_field zi rfl (x := .none) rfl (wpAny_pure ?_))
  simp only [if_true]; refine wpAny_bind (wpAny_rule (wpAny_bind (wpAny_field zi rfl (x := .ref TO) rfl (wpAny_bind (wpAny_setField_rec zi (by simp) fun g1 zi1' s1 => ?_)))))
  have zi1 : IsZip g1 z TI TO .ellipsis := zi1'
  refine wpAny_bind ?_
  simp only [List.zipIdx_cons, List.zipIdx_nil, List.forIn_cons, List.forIn_nil]
  refine wpAny_bind (wpAny_bind (wpAny_onRaise (wpAny_bind (m := Builtin.SmallTypes.nextOf (.ref i1)) ?_)))
  cases hx : xs[k1]? with
  | none =>
    refine nextE hh (a1.ext s1.extBut (Ne.symm nz1)) (b1.ext s1.extBut p1z) hx fun g2 e s2 ⟨oe, oe1, oe2⟩ => ?_
    have zi2 : IsZip g2 z TI TO .ellipsis := s2 _ _ nz1 zi1
    have ez : e ≠ z := fun c => by rw [c, zi2] at oe1; cases oe1; simp at oe2
    refine wpAny_setField_rec zi2 (by simp) fun g3 _ s3 => q g3 e (fun c o hc e' => ?_) ⟨oe, s3.extBut _ _ ez oe1, oe2⟩
    simp only [List.mem_cons, List.not_mem_nil, or_false, not_or] at hc
    exact s3.extBut _ _ hc.1 (s2 _ _ hc.2.2.1 (s1.extBut _ _ hc.1 e'))
  | some x =>
    have hy : ys[k2]? = none := hend.elim (fun c => by rw [hx] at c; cases c) id
    refine nextI (a1.ext s1.extBut (Ne.symm nz1)) (b1.ext s1.extBut p1z) hx fun g2 a1' s2 => wpAny_pure ?_
    have to2 : IsPair g2 TO a b := s2.extBut _ _ nO1 (s1.extBut _ _ (Ne.symm nzO) to)
    refine wpAny_bind (wpAny_seqItems to2 rfl (wpAny_bind (wpAny_updateSeq_pair to2 fun g3 to3' s3 => wpAny_bind (wpAny_letGo (wpAny_pure ?_)))))
    refine wpAny_bind (wpAny_bind (wpAny_onRaise (wpAny_bind (m := Builtin.SmallTypes.nextOf (.ref i2)) ?_)))
    refine nextE hh (((a2.ext s1.extBut (Ne.symm nz2)).ext s2.extBut (Ne.symm n12)).ext s3.extBut (Ne.symm nO2)) (((b2.ext s1.extBut p2z).ext s2.extBut p21).ext s3.extBut p2O) hy fun g4 e s4 ⟨oe, oe1, oe2⟩ => ?_
    have zi4 : IsZip g4 z TI TO .ellipsis := s4 _ _ nz2 (s3.extBut _ _ nzO (s2.extBut _ _ nz1 zi1))
    have ez : e ≠ z := fun c => by rw [c, zi4] at oe1; cases oe1; simp at oe2
    refine wpAny_setField_rec zi4 (by simp) fun g5 _ s5 => q g5 e (fun c o hc e' => ?_) ⟨oe, s5.extBut _ _ ez oe1, oe2⟩
    simp only [List.mem_cons, List.not_mem_nil, or_false, not_or] at hc
    exact s5.extBut _ _ hc.1 (s4 _ _ hc.2.2.2 (s3.extBut _ _ hc.2.1 (s2.extBut _ _ hc.2.2.1 (s1.extBut _ _ hc.1 e'))))
theorem pyNext_zipI {x y : Value} {Q : Option Value → Shared → Prop} (D : Far z TI TO i1 i2 t1 t2) (Z : ZipAt kd z TI TO i1 i2 t1 t2 xs ys .none k1 k2 s.heap) (hx : xs[k1]? = some x) (hy : ys[k2]? = some y)
    (q : ∀ h', ZipAt kd z TI TO i1 i2 t1 t2 xs ys (rawInt s.heap.objs.size) (k1 + 1) (k2 + 1) h' → IsPair h' s.heap.objs.size x y → Kept4 z TO i1 i2 s.heap h' → Q (some (.ref s.heap.objs.size)) { s with heap := h' }) : wpAny (model prog w) A (pyNext (.ref z)) Q E s := by
  have ty : s.TypeIs (.ref z) "zip" := ⟨_, Z.zi, rfl⟩
  unfold pyNext
  exact wpAny_bind (wpAny_attempt (wpAny_callSpecial?_slot (name := Str.ofString "__next__") ty PySem.F.slot_zip_next (wpAny_call_entry PySem.F.slot_zip_next ty PySem.F.entry_zip_next (zip_item D Z hx hy fun h' u1 u2 u3 => wpAny_pure (q h' u1 u2 u3)) (PySem.F.args_zip_next_1 _))))
theorem pyNext_zipE {Q : Option Value → Shared → Prop} (hh : A.handled = none) (D : Far z TI TO i1 i2 t1 t2) (Z : ZipAt kd z TI TO i1 i2 t1 t2 xs ys .none k1 k2 s.heap) (hend : xs[k1]? = none ∨ ys[k2]? = none)
    (q : ∀ h', Kept4 z TO i1 i2 s.heap h' → Q none { s with heap := h' }) : wpAny (model prog w) A (pyNext (.ref z)) Q E s := by
  have ty : s.TypeIs (.ref z) "zip" := ⟨_, Z.zi, rfl⟩
  unfold pyNext
  refine wpAny_bind (wpAny_attempt (wpAny_callSpecial?_slot (name := Str.ofString "__next__") ty PySem.F.slot_zip_next (wpAny_call_entry PySem.F.slot_zip_next ty PySem.F.entry_zip_next (zip_end hh D Z hend fun h' e hk ⟨o, o1, o2⟩ => ?_) (PySem.F.args_zip_next_1 _))))
  exact wpAny_bind (wpAny_isInstance (T := "StopIteration") (b := true) ⟨o, o1, o2⟩ isSubtype_stop (wpAny_pure (q h' hk)))
/-- the heap behind zip(t1, t2) -/
def zp1 (kd : Bool) (h : Heap) (t1 : Addr) : Heap := h.push { cls := .type (bif kd then "tuple_iterator" else "list_iterator"), data := .fields #[.ref t1, .int 0 0] }
def zp2 (kd : Bool) (h : Heap) (t1 t2 : Addr) : Heap := (zp1 kd h t1).push { cls := .type (bif kd then "tuple_iterator" else "list_iterator"), data := .fields #[.ref t2, .int 0 0] }
def zp3 (kd : Bool) (h : Heap) (t1 t2 : Addr) : Heap := (zp2 kd h t1 t2).push { cls := .type "tuple", data := .seq #[.ref h.objs.size, .ref (zp1 kd h t1).objs.size] }
def zp4 (kd : Bool) (h : Heap) (t1 t2 : Addr) : Heap := (zp3 kd h t1 t2).push { cls := .type "tuple", data := .seq #[.none, .none] }
def zp5 (kd : Bool) (h : Heap) (t1 t2 : Addr) : Heap := (zp4 kd h t1 t2).push { cls := .type "zip", data := .fields #[.none, .bool false, .bool false, .ref (zp2 kd h t1 t2).objs.size, .ref (zp3 kd h t1 t2).objs.size] }
theorem zip_new (kd : Bool) (t1 t2 : Addr) (xs ys : Array Value) : Meets (Builtin.«zip.__new__» ⟨[.type "zip", .ref t1, .ref t2], []⟩) (fun _ R s => HSq kd s.heap t1 xs ∧ HSq kd s.heap t2 ys ∧ R (.ok (.ret (.ref (zp4 kd s.heap t1 t2).objs.size))) { s with heap := zp5 kd s.heap t1 t2 }) :=
  .of_wp fun prog w A R s h => by
    obtain ⟨hp, g, d, tk, os⟩ := s
    obtain ⟨u1, u2, h⟩ := h
    have subz := PySem.sub_zip
    have T1 : HSq kd (Shared.heap ⟨hp, g, d, tk, os⟩) t1 xs := u1
    have T2 : HSq kd (Shared.heap ⟨hp.push { cls := .type (bif kd then "tuple_iterator" else "list_iterator"), data := .fields #[.ref t1, .int 0 0] }, g, d, tk, os⟩) t2 ys := (by obtain ⟨o, e, r⟩ := u2; exact ⟨o, Heap.get?_push_of_some _ e, r⟩)
    wp_walk using iterK T1, iterK T2
    exact ⟨_, rfl, h⟩
theorem call_zipT {Q : Value → Shared → Prop} (h1 : HSq kd s.heap t1 xs) (h2 : HSq kd s.heap t2 ys)
    (q : ∀ h' z TI TO i1 i2, Far z TI TO i1 i2 t1 t2 → ZipAt kd z TI TO i1 i2 t1 t2 xs ys .none 0 0 h' → (∀ b ∈ [z, TI, TO, i1, i2], s.heap.objs.size ≤ b) → (∀ c o, s.heap.get? c = some o → h'.get? c = some o) → Q (.ref z) { s with heap := h' }) :
    wpAny (model prog w) A (call (.type "zip") [.ref t1, .ref t2]) Q E s := by
  refine callType_new PySem.F.called_zip (by decide) (PySem.F.typeCall_zip_2 _ _) (PySem.F.newCall_zip_2 _ _) (fun obj => PySem.F.args_object_init_3 obj _ _) PySem.F.entry_zip_new (zip_new kd t1 t2 xs ys) ⟨h1, h2, ?_⟩
  have l1 : t1 < s.heap.objs.size := by obtain ⟨_, e, _⟩ := h1; exact Heap.lt_size e
  have l2 : t2 < s.heap.objs.size := by obtain ⟨_, e, _⟩ := h2; exact Heap.lt_size e
  have z1 : (zp1 kd s.heap t1).objs.size = s.heap.objs.size + 1 := Heap.size_push ..
  have z2 : (zp2 kd s.heap t1 t2).objs.size = s.heap.objs.size + 2 := by unfold zp2; rw [Heap.size_push, z1]
  have z3 : (zp3 kd s.heap t1 t2).objs.size = s.heap.objs.size + 3 := by unfold zp3; rw [Heap.size_push, z2]
  have z4 : (zp4 kd s.heap t1 t2).objs.size = s.heap.objs.size + 4 := by unfold zp4; rw [Heap.size_push, z3]
  have kp : ∀ c o, s.heap.get? c = some o → (zp5 kd s.heap t1 t2).get? c = some o := fun c o e => Heap.get?_push_of_some _ (Heap.get?_push_of_some _ (Heap.get?_push_of_some _ (Heap.get?_push_of_some _ (Heap.get?_push_of_some _ e))))
  have g5 : (zp5 kd s.heap t1 t2).get? (zp4 kd s.heap t1 t2).objs.size = some _ := Heap.get?_push_size _ rfl
  have g4 : (zp5 kd s.heap t1 t2).get? (zp3 kd s.heap t1 t2).objs.size = some _ := Heap.get?_push_of_some _ (Heap.get?_push_size _ rfl)
  have g3 : (zp5 kd s.heap t1 t2).get? (zp2 kd s.heap t1 t2).objs.size = some _ := Heap.get?_push_of_some _ (Heap.get?_push_of_some _ (Heap.get?_push_size _ rfl))
  have g2 : (zp5 kd s.heap t1 t2).get? (zp1 kd s.heap t1).objs.size = some _ := Heap.get?_push_of_some _ (Heap.get?_push_of_some _ (Heap.get?_push_of_some _ (Heap.get?_push_size _ rfl)))
  have g1 : (zp5 kd s.heap t1 t2).get? s.heap.objs.size = some _ := Heap.get?_push_of_some _ (Heap.get?_push_of_some _ (Heap.get?_push_of_some _ (Heap.get?_push_of_some _ (Heap.get?_push_size _ rfl))))
  refine ⟨⟨_, g5, rfl⟩, q _ _ (zp2 kd s.heap t1 t2).objs.size (zp3 kd s.heap t1 t2).objs.size s.heap.objs.size (zp1 kd s.heap t1).objs.size ⟨?_, ?_, ?_⟩ ⟨g5, g3, ⟨_, _, g4⟩, ⟨_, g1, rfl, rfl⟩, ⟨_, g2, rfl, rfl⟩, ?_, ?_⟩ ?_ kp⟩
  · rw [z1, z2, z3, z4]
    generalize s.heap.objs.size = n
    simp
  · rw [z1, z3, z4]
    generalize s.heap.objs.size = n at *
    have : ∀ a b : Nat, a < b → ¬ (a = b) := fun a b h => Nat.ne_of_lt h
    simp only [List.mem_cons, List.not_mem_nil, or_false, not_or]
    exact ⟨this _ _ (Nat.lt_of_lt_of_le l1 (Nat.le_add_right ..)), this _ _ (Nat.lt_of_lt_of_le l1 (Nat.le_add_right ..)), this _ _ l1, this _ _ (Nat.lt_of_lt_of_le l1 (Nat.le_add_right ..))⟩
  · rw [z1, z3, z4]
    generalize s.heap.objs.size = n at *
    have : ∀ a b : Nat, a < b → ¬ (a = b) := fun a b h => Nat.ne_of_lt h
    simp only [List.mem_cons, List.not_mem_nil, or_false, not_or]
    exact ⟨this _ _ (Nat.lt_of_lt_of_le l2 (Nat.le_add_right ..)), this _ _ (Nat.lt_of_lt_of_le l2 (Nat.le_add_right ..)), this _ _ l2, this _ _ (Nat.lt_of_lt_of_le l2 (Nat.le_add_right ..))⟩
  · obtain ⟨o, e, r⟩ := h1
    exact ⟨o, kp _ _ e, r⟩
  · obtain ⟨o, e, r⟩ := h2
    exact ⟨o, kp _ _ e, r⟩
  · rw [z1, z2, z3, z4]
    generalize s.heap.objs.size = n
    intro b hb
    simp only [List.mem_cons, List.not_mem_nil, or_false] at hb
    rcases hb with rfl | rfl | rfl | rfl | rfl
    · exact Nat.le_add_right ..
    · exact Nat.le_add_right ..
    · exact Nat.le_add_right ..
    · exact Nat.le_refl _
    · exact Nat.le_add_right ..
end
end L2
namespace L2
open PySem PySem.Spec PyProof.Rows
def SqK (b : Bool) (K : PySem.W.Frag) (H : Hp) (a : Addr) (xs : List V) : Prop := bif b then SqT K H a xs else SqL K H a xs
theorem Inv.sqK {X : Cx} {pins : List (Addr × Obj)} {σ : St} {H : Hp} {s : Shared} {a : Addr} {xs : List V} {kd : Bool} (I : Inv X pins σ H s) (h : SqK kd X.K H a xs) : ∃ its, Vals xs its ∧ HSq kd s.heap a its.toArray ∧ xs.length ≤ sizeLine := by
  cases kd
  · obtain ⟨its, rv, p, l⟩ := I.list h
    exact ⟨its, rv, p.isList, l⟩
  · exact I.tuple h
theorem Inv.sqK_inj {X : Cx} {pins : List (Addr × Obj)} {σ : St} {H : Hp} {s : Shared} {a : Addr} {xs ys : List V} {kd : Bool} (I : Inv X pins σ H s) (h : SqK kd X.K H a xs) (k : SqK kd X.K H a ys) : xs = ys := by
  cases kd
  · exact I.list_inj h k
  · exact I.tuple_inj h k
/-- the pairs of the tuples or lists at p and q, each pair a new tuple -/
def ItzK (kd : Bool) (K : PySem.W.Frag) (p q : Addr) : It :=
  ⟨fun i H => ∃ xs ys x y, SqK kd K H p xs ∧ SqK kd K H q ys ∧ xs[i]? = some x ∧ ys[i]? = some y,
   fun i H v H' => ∃ T x y, H T = none ∧ v = .ref T ∧ H' = upd H T (.tup [x, y]) ∧ ∀ xs ys, SqK kd K H p xs → SqK kd K H q ys → xs[i]? = some x ∧ ys[i]? = some y,
   fun i H => ∃ xs ys, SqK kd K H p xs ∧ SqK kd K H q ys ∧ (xs.length ≤ i ∨ ys.length ≤ i)⟩
/-- what the turning zip leaves: all but four records -/
theorem Inv.zipped {X : Cx} {pins : List (Addr × Obj)} {σ : St} {H : Hp} {s : Shared} {z TO i1 i2 : Addr} {h' : Heap} {t' : Nat} (I : Inv X pins σ H s) (hf : ∀ b ∈ [z, TO, i1, i2], FpOk X pins H b) (k : Kept4 z TO i1 i2 s.heap h') : Inv X pins σ H { s with heap := h', toks := t' } := by
  have nt : ∀ b u, H b = some u → b ∉ [z, TO, i1, i2] := fun b u e hb => by
    rw [(hf b hb).1] at e
    cases e
  have nl : X.env.locals ∉ [z, TO, i1, i2] := fun hb => (hf _ hb).2.1 rfl
  refine I.step (g' := s.gens) (d' := s.drawn) (ch := [z, TO, i1, i2]) (fun b hb => ⟨(hf b hb).2.2.2.1, (hf b hb).2.1, (hf b hb).2.2.2.2.1, (hf b hb).2.2.2.2.2⟩) (fun b o _ _ hc e _ => k b o hc e) (fun b o _ _ hc e _ => ⟨o.slots, k b o hc e⟩) (fun _ _ _ _ n => n)
    (fun b o hc e => ⟨o, k b o hc e⟩) (fun _ _ e => e) (fun _ _ _ e => e) (fun b ps e => ⟨#[], by rw [e]; simp⟩) (fun m hm => ?_) (fun b u e => ?_) I.bare
  · obtain ⟨o, es, ep, ho, r⟩ := hm
    exact ⟨o, es, ep, k _ o nl ho, r⟩
  · refine (I.hok b u e).stay (fun c v hc q => k c v ?_ q) (fun _ q => q) fun _ _ q => q
    rcases hc with z | z
    · rw [z]; exact nt b u e
    · exact nt c _ z
structure ZipTn (kd : Bool) (z TI TO i1 i2 t1 t2 : Addr) (k : Nat) (h : Heap) : Prop where
  zi : IsZip h z TI TO .none
  ti : IsPair h TI (.ref i1) (.ref i2)
  to : ∃ a b, IsPair h TO a b
  a1 : HIt kd h i1 t1 k
  a2 : HIt kd h i2 t2 k
theorem turn_zip {kd : Bool} {P : Program} {w : World} {K : PySem.W.Frag} {elts : List Expr} {kk : Nat} {pos : Pos} {z TI TO i1 i2 t1 t2 : Addr} (D : Far z TI TO i1 i2 t1 t2) :
    Turn P w K (.Tuple elts kk pos) (ItzK kd K t1 t2) [z, TI, TO, i1, i2] z (fun i h => ZipTn kd z TI TO i1 i2 t1 t2 i h) where
  mem := by simp
  obj := fun i h st b hb => by
    obtain ⟨u1, u2, ⟨a, c, u3⟩, ⟨o4, u4, _, d4⟩, ⟨o5, u5, _, d5⟩⟩ := st
    simp only [List.mem_cons, List.not_mem_nil, or_false] at hb
    rcases hb with rfl | rfl | rfl | rfl | rfl
    · exact ⟨_, u1, fun v zz => by cases zz⟩
    · exact ⟨_, u2, fun v zz => by cases zz⟩
    · exact ⟨_, u3, fun v zz => by cases zz⟩
    · exact ⟨_, u4, fun v zz => by rw [d4] at zz; cases zz⟩
    · exact ⟨_, u5, fun v zz => by rw [d5] at zz; cases zz⟩
  keep := fun i h h' st k => by
    obtain ⟨u1, u2, ⟨a, c, u3⟩, ⟨o4, u4, r4⟩, ⟨o5, u5, r5⟩⟩ := st
    exact ⟨k _ (by simp) _ u1, k _ (by simp) _ u2, ⟨a, c, k _ (by simp) _ u3⟩, ⟨o4, k _ (by simp) _ u4, r4⟩, ⟨o5, k _ (by simp) _ u5, r5⟩⟩
  item := by
    intro X hP hw hK hc i pins s σ H E I hf st hg
    subst hP hw hK
    obtain ⟨xs, ys, x, y, hq1, hq2, hx, hy⟩ := hg
    obtain ⟨its1, rv1, p1, hz1⟩ := I.sqK hq1
    obtain ⟨its2, rv2, p2, hz2⟩ := I.sqK hq2
    obtain ⟨u, hu, ru⟩ := rv1.get hx
    obtain ⟨v, hv, rv⟩ := rv2.get hy
    refine pyNext_zipI (s := s) D ⟨st.zi, st.ti, st.to, st.a1, st.a2, p1, p2⟩ (x := u) (y := v) (by simpa using hu) (by simpa using hv) fun h' Z hp hk => ⟨_, rfl, wpAny_letOwnedTupleGo_zip Z.zi fun h2 z2 sb => ?_⟩
    have hf4 : ∀ b ∈ [z, TO, i1, i2], FpOk X pins H b := fun b hb => hf b (by simp only [List.mem_cons, List.not_mem_nil, or_false] at hb ⊢; rcases hb with e | e | e | e <;> simp [e])
    have k2 : Kept4 z TO i1 i2 s.heap h2 := fun c o hc e => (sb.2 c (fun zz => hc (by simp [zz]))).trans (hk c o hc e)
    have I1 : Inv X pins σ H { s with heap := h2 } := I.zipped (t' := s.toks) hf4 k2
    have zlt : z < s.heap.objs.size := Heap.lt_size st.zi
    have at2 : IsPair h2 s.heap.objs.size u v := (sb.2 _ (Nat.ne_of_gt zlt)).trans hp
    have Hn : H s.heap.objs.size = none := I.hok.fresh (Nat.le_refl _)
    have I2 : Inv X pins σ (upd H s.heap.objs.size (.tup [x, y])) { s with heap := h2 } := by
      refine I1.adopt Hn (Heap.get?_none_of_le I.sz) (Nat.ne_of_gt I.lt) (fun xx cc e zz => ?_) (fun p hp zz => ?_) ⟨by show 2 ≤ sizeLine; decide, [u, v], .cons ru (.cons rv .nil), ⟨_, at2, rfl, ⟨0, rfl⟩, rfl⟩⟩
      · obtain ⟨_, q⟩ := I.cell xx cc e
        exact absurd q.lt (by rw [zz]; exact Nat.lt_irrefl _)
      · exact absurd (Heap.lt_size (I.pin p hp).1) (by rw [zz]; exact Nat.lt_irrefl _)
    have n5 : ∀ b ∈ [z, TI, TO, i1, i2], b ≠ s.heap.objs.size := fun b hb zz => by
      obtain ⟨u1, u2, ⟨a, c, u3⟩, ⟨o4, u4, _⟩, ⟨o5, u5, _⟩⟩ := st
      simp only [List.mem_cons, List.not_mem_nil, or_false] at hb
      rcases hb with e | e | e | e | e
      · rw [e] at zz; exact absurd (Heap.lt_size u1) (by rw [zz]; exact Nat.lt_irrefl _)
      · rw [e] at zz; exact absurd (Heap.lt_size u2) (by rw [zz]; exact Nat.lt_irrefl _)
      · rw [e] at zz; exact absurd (Heap.lt_size u3) (by rw [zz]; exact Nat.lt_irrefl _)
      · rw [e] at zz; exact absurd (Heap.lt_size u4) (by rw [zz]; exact Nat.lt_irrefl _)
      · rw [e] at zz; exact absurd (Heap.lt_size u5) (by rw [zz]; exact Nat.lt_irrefl _)
    obtain ⟨nd, _, _⟩ := D
    simp only [List.nodup_cons, List.mem_cons, List.not_mem_nil, or_false, not_or, List.nodup_nil, and_true, not_false_eq_true] at nd
    obtain ⟨⟨nzI, nzO, nz1, nz2⟩, _, _, _⟩ := nd
    obtain ⟨a, b, to⟩ := Z.to
    refine ⟨.ref s.heap.objs.size, _, I2, rfl, ⟨_, x, y, Hn, rfl, rfl, fun xs' ys' h1 h2 => ?_⟩, ⟨z2, (sb.2 _ (Ne.symm nzI)).trans Z.ti, ⟨a, b, (sb.2 _ (Ne.symm nzO)).trans to⟩, Z.a1.ext sb.extBut (Ne.symm nz1), Z.a2.ext sb.extBut (Ne.symm nz2)⟩, fun b hb => ?_⟩
    · rw [I.sqK_inj h1 hq1, I.sqK_inj h2 hq2]
      exact ⟨hx, hy⟩
    · rw [upd_ne (n5 b hb)]
      exact (hf b hb).1
  done := by
    intro X hP hw hK hc i pins s σ H E I hf st hg
    subst hP hw hK
    obtain ⟨xs, ys, hq1, hq2, hx⟩ := hg
    obtain ⟨its1, rv1, p1, hz1⟩ := I.sqK hq1
    obtain ⟨its2, rv2, p2, hz2⟩ := I.sqK hq2
    have l1 := rv1.length
    have l2 := rv2.length
    have hf4 : ∀ b ∈ [z, TO, i1, i2], FpOk X pins H b := fun b hb => hf b (by simp only [List.mem_cons, List.not_mem_nil, or_false] at hb ⊢; rcases hb with e | e | e | e <;> simp [e])
    exact pyNext_zipE (I.ok.hd hc) D ⟨st.zi, st.ti, st.to, st.a1, st.a2, p1, p2⟩ (by rcases hx with h | h; exact .inl (by simp; omega); exact .inr (by simp; omega)) fun h' hk => ⟨rfl, I.zipped (t' := s.toks) hf4 hk⟩
  self := fun A i s Q E st h => wpAny_pyIter_zip st.zi h
section
variable {X : Cx}
theorem bt_zip : bootBuiltins "zip" = some (.type "zip") := by decide +kernel
def iZipK (kd : Bool) (K : PySem.W.Frag) (ta : TA) : TI := fun σ H R => ta σ H fun vs H1 => ∃ p q xs ys, vs = [.ref p, .ref q] ∧ SqK kd K H1 p xs ∧ SqK kd K H1 q ys ∧ R (ItzK kd K p q) H1
theorem kpi_zipK (kd : Bool) (K : PySem.W.Frag) {elts : List Expr} {kk : Nat} {tpos : Pos} {a b : Expr} {ta : TA} {p pos : Pos} (hg : Gl X "zip") (hm : X.mg "zip" = none) (ha : PA X [a, b] ta) (hs : starEach [a, b] X.env = [(false, eval a X.env), (false, eval b X.env)] := by rfl) (hs2 : starEach [b] X.env = [(false, eval b X.env)] := by rfl) (hK : X.K = K := by rfl) :
    PI X (.Tuple elts kk tpos) (.Call (.Name "zip" p) [a, b] [] pos) (iZipK kd K ta) := by
  subst hK
  intro pins s σ H R I h
  refine Call_ (ld_blt I hg hm bt_zip (PyProof.Rows.callWith_type1 (thn (ha pos pins s σ H _ I h) fun us s1 ⟨vs, H1, I1, r1, q1⟩ => ?_) (by rw [hs, hs2]) (by rw [hs2]; rfl)))
  obtain ⟨p1, p2, xs, ys, e, hq1, hq2, q⟩ := q1
  subst e
  obtain ⟨u1, u2, rfl, r1, r2⟩ := vals2 r1
  cases r1
  cases r2
  obtain ⟨its1, rv1, t1, _⟩ := I1.sqK hq1
  obtain ⟨its2, rv2, t2, _⟩ := I1.sqK hq2
  refine call_zipT t1 t2 fun h' z TI TO i1 i2 D Z new kp => wpAny_pyIter_zip Z.zi ?_
  have I2 : Inv X pins σ H1 { s1 with heap := h' } := I1.kept (t' := s1.toks) kp
  exact ⟨z, [z, TI, TO, i1, i2], _, ItzK kd X.K p1 p2, H1, rfl, I2, turn_zip D, ⟨Z.zi, Z.ti, Z.to, Z.a1, Z.a2⟩, fun b hb => I1.fpOk (new b hb) (I1.hok.fresh (new b hb)), q⟩
end
end L2

set_option Elab.async false
set_option linter.all false
set_option maxRecDepth 100000
set_option maxHeartbeats 4000000
namespace L2
open PySem PySem.Spec PyProof.Rows
section
variable {X : Cx}
end
/-! == and != of things that are alike, tuples within tuples -/
theorem Paired.at {α β : Type} {F : α → β → Prop} : ∀ {l₁ : List α} {l₂ : List β}, Paired F l₁ l₂ → ∀ (i : Nat) (x : α) (y : β), l₁[i]? = some x → l₂[i]? = some y → F x y
  | _, _, .nil, i, x, y, h, _ => by simp at h
  | _, _, .cons r t, 0, x, y, h, k => by simp at h k; subst h k; exact r
  | _, _, .cons r t, i + 1, x, y, h, k => Paired.at t i x y (by simpa using h) (by simpa using k)
section
variable {X : Cx} {pins : List (Addr × Obj)} {σ : St} {H : Hp} {s : Shared}
end
end L2

set_option Elab.async false
set_option linter.all false
set_option maxRecDepth 100000
set_option maxHeartbeats 4000000
namespace L2
open PySem PySem.Spec PyProof.Rows
end L2

set_option Elab.async false
set_option linter.all false
set_option maxRecDepth 100000
set_option maxHeartbeats 4000000
namespace L4
open PySem L2
/-! pools: a list of three ints, of which nothing more is known -/
theorem same_new {H : Hp} {p : Addr} (h : H p = none) (o : HO) : Same H (upd H p o) := fun b u q => by rw [upd_ne (ne_of_none q h)]; exact q
theorem take_snoc {α : Type} {xs : List α} {i : Nat} {x : α} (h : xs[i]? = some x) : xs.take (i + 1) = xs.take i ++ [x] := by rw [List.take_add_one, h]; rfl
theorem small9 {n : Nat} (h : n ≤ 1000) : n ≤ sizeLine := Nat.le_of_lt (small1000 h)
end L4

set_option Elab.async false
set_option linter.all false
set_option maxRecDepth 100000
set_option maxHeartbeats 4000000
namespace Fr
theorem gcd_step' (l s : Int) (h : 0 < s) : Int.gcd s (l % s) = Int.gcd l s := by
  have e : l % s = l - s * (l / s) := by rw [Int.emod_def]
  rw [e]
  have : Int.gcd s (l - s * (l / s)) = Int.gcd s l := by
    rw [Int.gcd_comm, Int.gcd_comm s l]
    simp
  rw [this, Int.gcd_comm]
def sg (t b : Int) : Int := if 0 < b then (Int.gcd t b : Int) else -(Int.gcd t b : Int)
theorem frac {t b : Int} (hb : b ≠ 0) : sg t b ≠ 0 ∧ 0 < b.fdiv (sg t b) ∧ Int.gcd (t.fdiv (sg t b)) (b.fdiv (sg t b)) = 1 ∧ t.fdiv (sg t b) * b = t * b.fdiv (sg t b) ∧ (sg t b).natAbs ≤ b.natAbs ∧ (t.fdiv (sg t b)).natAbs ≤ t.natAbs ∧ (b.fdiv (sg t b)).natAbs ≤ b.natAbs := by
  have hd : 0 < Int.gcd t b := Int.gcd_pos_of_ne_zero_right t hb
  have hdl : Int.gcd t b ≤ b.natAbs := Nat.le_of_dvd (by omega) (Int.gcd_dvd_natAbs_right t b)
  have d1 : (Int.gcd t b : Int) ∣ t := Int.gcd_dvd_left t b
  have d2 : (Int.gcd t b : Int) ∣ b := Int.gcd_dvd_right t b
  have hg : sg t b ≠ 0 := by unfold sg; split <;> omega
  have hga : (sg t b).natAbs = Int.gcd t b := by unfold sg; split <;> omega
  have e1 : sg t b ∣ t := by unfold sg; split; exact d1; exact Int.neg_dvd.mpr d1
  have e2 : sg t b ∣ b := by unfold sg; split; exact d2; exact Int.neg_dvd.mpr d2
  have hpos : 0 < sg t b ↔ 0 < b := by unfold sg; split <;> omega
  generalize sg t b = g at *
  obtain ⟨x, hx⟩ := e1
  obtain ⟨y, hy⟩ := e2
  have fx : t.fdiv g = x := by rw [hx]; exact Int.mul_fdiv_cancel_left x hg
  have fy : b.fdiv g = y := by rw [hy]; exact Int.mul_fdiv_cancel_left y hg
  rw [fx, fy]
  have ga : Int.gcd t b = g.natAbs * Int.gcd x y := by rw [hx, hy, Int.gcd_mul_left]
  have g1 : Int.gcd x y = 1 := by
    rw [hga] at ga
    have : Int.gcd t b * 1 = Int.gcd t b * Int.gcd x y := by omega
    exact (Nat.eq_of_mul_eq_mul_left hd this).symm
  have ny : y ≠ 0 := by intro z; rw [z, Int.mul_zero] at hy; exact hb hy
  refine ⟨hg, ?_, g1, ?_, by omega, ?_, ?_⟩
  · by_cases hbp : 0 < b
    · have hgp := hpos.mpr hbp
      rw [hy] at hbp
      exact Int.pos_of_mul_pos_right hbp hgp |> fun z => z
    · have hgn : g < 0 := by
        rcases Int.lt_trichotomy g 0 with z | z | z
        · exact z
        · exact absurd z hg
        · exact absurd (hpos.mp z) hbp
      rcases Int.lt_trichotomy y 0 with z | z | z
      · exfalso
        apply hbp
        rw [hy]
        exact Int.mul_pos_of_neg_of_neg hgn z
      · exact absurd z ny
      · exact z
  · rw [hx, hy]
    rw [← Int.mul_assoc, Int.mul_comm x g]
  · rw [hx, Int.natAbs_mul]
    exact Nat.le_mul_of_pos_left _ (by omega)
  · rw [hy, Int.natAbs_mul]
    exact Nat.le_mul_of_pos_left _ (by omega)
end Fr
namespace Fr
theorem ratmk {x y : Int} (y0 : 0 < y) (g : Int.gcd x y = 1) : (Rat.divInt x y).num = x ∧ ((Rat.divInt x y).den : Int) = y := by
  have yn : y.toNat ≠ 0 := by omega
  have ye : (y.toNat : Int) = y := Int.toNat_of_nonneg (Int.le_of_lt y0)
  have c : Nat.Coprime x.natAbs y.toNat := by
    have e : y.toNat = y.natAbs := by omega
    unfold Nat.Coprime
    rw [e]
    exact g
  have h : (⟨x, y.toNat, yn, c⟩ : Rat) = Rat.divInt x y := by
    rw [Rat.mk_eq_divInt, ye]
  rw [← h]
  exact ⟨rfl, ye⟩
theorem fracR {t b : Int} (hb : b ≠ 0) : t.fdiv (sg t b) = (Rat.divInt t b).num ∧ b.fdiv (sg t b) = ((Rat.divInt t b).den : Int) ∧ (Rat.divInt t b).num.natAbs ≤ t.natAbs ∧ ((Rat.divInt t b).den : Int).natAbs ≤ b.natAbs := by
  obtain ⟨_, f2, f3, f4, _, f6, f7⟩ := frac (t := t) hb
  have e : Rat.divInt (t.fdiv (sg t b)) (b.fdiv (sg t b)) = Rat.divInt t b := (Rat.divInt_eq_divInt_iff (by omega) hb).mpr f4
  obtain ⟨h1, h2⟩ := ratmk f2 f3
  rw [e] at h1 h2
  rw [h1, h2]
  exact ⟨rfl, rfl, f6, f7⟩
theorem ratself (r : Rat) : Rat.divInt r.num r.den = r := Rat.num_divInt_den r
theorem den0 (r : Rat) : (r.den : Int) ≠ 0 := by
  have := r.den_nz
  omega
theorem denp (r : Rat) : 0 < (r.den : Int) := by
  have := r.den_nz
  omega
theorem ratadd (r s : Rat) : Rat.divInt (r.num * s.den + s.num * r.den) (r.den * s.den) = r + s := by
  rw [← Rat.divInt_add_divInt _ _ (den0 r) (den0 s), ratself, ratself]
theorem ratmul (r s : Rat) : Rat.divInt (r.num * s.num) (r.den * s.den) = r * s := by
  rw [← Rat.divInt_mul_divInt, ratself, ratself]
end Fr
namespace L4
open PySem L2
/-! fractions at the heap: pairs in lowest terms, of at most n bits -/
def Sz (n : Nat) (i : Int) : Prop := i.natAbs < 2 ^ n
theorem Sz.mul {n m : Nat} {i j : Int} (h : Sz n i) (k : Sz m j) : Sz (n + m) (i * j) := by
  unfold Sz at *
  rw [Int.natAbs_mul, Nat.pow_add]
  exact Nat.mul_lt_mul'' h k
theorem Sz.add {n : Nat} {i j : Int} (h : Sz n i) (k : Sz n j) : Sz (n + 1) (i + j) := by
  unfold Sz at *
  rw [Nat.pow_succ]
  omega
theorem Sz.sub {n : Nat} {i j : Int} (h : Sz n i) (k : Sz n j) : Sz (n + 1) (i - j) := by
  unfold Sz at *
  rw [Nat.pow_succ]
  omega
theorem Sz.mono {n m : Nat} {i : Int} (h : Sz n i) (k : n ≤ m) : Sz m i := Nat.lt_of_lt_of_le h (Nat.pow_le_pow_right (by decide) k)
theorem Sz.mid {n : Nat} {i : Int} (h : Sz n i) (k : n ≤ 8000) : Mid i := h.mono k
theorem Sz.le {n : Nat} {i j : Int} (h : Sz n j) (k : i.natAbs ≤ j.natAbs) : Sz n i := Nat.lt_of_le_of_lt k h
theorem mul_ne {i j : Int} (h : 0 < i) (k : 0 < j) : i * j ≠ 0 := Int.ne_of_gt (Int.mul_pos h k)
def spWhole : Sp := fun vs H Q _ => ∃ i : Int, vs = [.int i] ∧ Q (.bl true) H
def spShared : Sp := fun vs H Q _ => ∃ a b : Int, vs = [.int a, .int b] ∧ Q (.int (Int.gcd a b : Int)) H
def spGcd : Sp := fun vs H Q _ => ∃ a b : Int, vs = [.int a, .int b] ∧ 0 ≤ b ∧ Q (.int (Int.gcd a b : Int)) H
def spFrac (C : Addr) : Sp := fun vs H Q E => ∃ t b : Int, vs = [.int t, .int b] ∧ Mid b ∧ (b = 0 → E (.ref C) none H) ∧ (b ≠ 0 → ∀ p, H p = none → Q (.ref p) (upd H p (.tup [.int (t.fdiv (Fr.sg t b)), .int (b.fdiv (Fr.sg t b))])))
abbrev tupR (r : Rat) : HO := .tup [.int r.num, .int r.den]
theorem _root_.L2.SqT.same {K : PySem.W.Frag} {H H' : Hp} {a : Addr} {xs : List V} (h : SqT K H a xs) (e : Same H H') : SqT K H' a xs := by
  rcases h with (h | ⟨o, h⟩) | h
  · exact .inl (.inl (e _ _ h))
  · exact .inl (.inr ⟨o, e _ _ h⟩)
  · exact .inr h
theorem _root_.L2.SqT.put {K : PySem.W.Frag} {H : Hp} {a D : Addr} {xs ys : List V} {o : HO} (h : SqT K H a xs) (hD : H D = some (.lst ys)) : SqT K (upd H D o) a xs := by
  rcases h with (h | ⟨u, h⟩) | h
  · exact .inl (.inl (by rw [upd_ne (ne_of h hD (by intro z; cases z))]; exact h))
  · exact .inl (.inr ⟨u, by rw [upd_ne (ne_of h hD (by intro z; cases z))]; exact h⟩)
  · exact .inr h
def FR (K : PySem.W.Frag) (H : Hp) (v : V) (r : Rat) (n : Nat) : Prop := ∃ p, v = .ref p ∧ SqT K H p [.int r.num, .int r.den] ∧ Sz n r.num ∧ Sz n r.den
theorem FR.same {K : PySem.W.Frag} {H H' : Hp} {v : V} {r : Rat} {n : Nat} (h : FR K H v r n) (s : Same H H') : FR K H' v r n := by
  obtain ⟨p, e, hp, k⟩ := h
  exact ⟨p, e, hp.same s, k⟩
theorem FR.mono {K : PySem.W.Frag} {H : Hp} {v : V} {r : Rat} {n m : Nat} (h : FR K H v r n) (k : n ≤ m) : FR K H v r m := by
  obtain ⟨p, e, hp, a, b⟩ := h
  exact ⟨p, e, hp, a.mono k, b.mono k⟩
theorem FR.put {K : PySem.W.Frag} {H : Hp} {v : V} {r : Rat} {n : Nat} {D : Addr} {xs : List V} {o : HO} (h : FR K H v r n) (hD : H D = some (.lst xs)) : FR K (upd H D o) v r n := by
  obtain ⟨p, e, hp, k⟩ := h
  exact ⟨p, e, hp.put hD, k⟩
theorem FR.new {K : PySem.W.Frag} {H : Hp} {p : Addr} {r : Rat} {n : Nat} (a : Sz n r.num) (b : Sz n r.den) : FR K (upd H p (tupR r)) (.ref p) r n := ⟨p, rfl, SqT.of upd_same, a, b⟩
def spR (K : PySem.W.Frag) (op : Rat → Rat → Rat) : Sp := fun vs H Q _ => ∃ (a b : V) (r s : Rat) (n m : Nat), vs = [a, b] ∧ FR K H a r n ∧ FR K H b s m ∧ n + m ≤ 7000 ∧ ∀ v H', Same H H' → FR K H' v (op r s) (n + m + 1) → Q v H'
def spLow (K : PySem.W.Frag) : Sp := fun vs H Q _ => ∃ (t b : Int) (n : Nat), vs = [.int t, .int b] ∧ 0 < b ∧ Sz n t ∧ Sz n b ∧ n ≤ 8000 ∧ ∀ v H', Same H H' → FR K H' v (Rat.divInt t b) n → Q v H'
theorem _root_.L2.Same.put {H H' : Hp} {l : Addr} {o : HO} (h : Same H H') (n : H l = none) : Same H (upd H' l o) := fun b u e => by rw [upd_ne (ne_of_none e n)]; exact h b u e
/-- fractions in a row: the values, and what they are worth -/
def FRs (K : PySem.W.Frag) (H : Hp) (zs : List (V × Rat)) (n : Nat) : Prop := ∀ z ∈ zs, FR K H z.1 z.2 n
theorem FRs.same {K : PySem.W.Frag} {H H' : Hp} {zs : List (V × Rat)} {n : Nat} (h : FRs K H zs n) (s : Same H H') : FRs K H' zs n := fun z hz => (h z hz).same s
theorem FRs.put {K : PySem.W.Frag} {H : Hp} {zs : List (V × Rat)} {n : Nat} {D : Addr} {xs : List V} {o : HO} (h : FRs K H zs n) (hD : H D = some (.lst xs)) : FRs K (upd H D o) zs n := fun z hz => (h z hz).put hD
end L4

set_option Elab.async false
set_option linter.all false
namespace L2
open PySem PySem.Spec PyProof.Rows
variable {X : Cx}
end L2

set_option Elab.async false
set_option linter.all false
set_option maxRecDepth 100000
set_option maxHeartbeats 4000000
namespace HT
open PySem PyProof.Rows
open PySem.SeqAt
open PySem.AutoSeq1 (wpAny_loadPart')
open PySem.MeetsSeq PySem.MeetsSeq2 PySem.MeetsSeq3
variable {prog : Program} {w : World} {A : Around} {E : Value → Shared → Prop} {s : Shared}
end HT
namespace L2
open PySem PySem.Spec PyProof.Rows
variable {X : Cx}
end L2

set_option Elab.async false
set_option linter.all false
set_option maxRecDepth 100000
set_option maxHeartbeats 4000000
namespace L2
open PySem PySem.Spec PyProof.Rows
section
variable {X : Cx}
/-- t + u -/
def rCatA (K : PySem.W.Frag) : R2 := fun x y H Q => ∃ a b xs ys, x = .ref a ∧ y = .ref b ∧ SqT K H a xs ∧ SqT K H b ys ∧ xs.length + ys.length ≤ sizeLine ∧
  (xs = [] → Q (.ref b) H) ∧ (xs ≠ [] → ys = [] → Q (.ref a) H) ∧ (xs ≠ [] → ys ≠ [] → ∀ p, H p = none → Q (.ref p) (upd H p (.tup (xs ++ ys))))
theorem op_catA (K : PySem.W.Frag) (hK : X.K = K := by rfl) : OpR X (binaryOp .Add) (rCatA K) := by
  subst hK
  intro pins s σ H x y v u Q I rx ry h
  obtain ⟨a, b, xs, ys, rfl, rfl, ha, hb, hz, q0, q1, q2⟩ := h
  by_cases hx : xs = []
  · cases rx
    cases ry
    obtain ⟨its, r1, p1, _⟩ := I.tuple ha
    obtain ⟨its2, r2, p2, _⟩ := I.tuple hb
    obtain ⟨⟨cls, dd, data, sl⟩, ho, hc, n, hd⟩ := id p1
    obtain ⟨⟨cls2, dd2, data2, sl2⟩, ho2, hc2, n2, hd2⟩ := id p2
    simp only at hc hd hc2 hd2
    subst hc hd hc2 hd2
    have hv : its = [] := (Vals.nil_iff r1).mpr hx
    exact concat_meets ⟨_, ho, rfl⟩ ⟨_, ho2, rfl⟩ noFill_tuple_add seq_tuple_add PySem.F.slot_tuple_add PySem.F.entry_tuple_add (PySem.F.args_tuple_add_2 _ _)
      (tuple_addW0 a b its.toArray its2.toArray n n2 dd dd2 sl sl2 (by simp [hv])) ⟨ho, ho2, ⟨.ref b, H, I, rfl, q0 hx⟩⟩
  · exact op_catT pins s σ H _ _ v u Q I rx ry ⟨a, b, xs, ys, rfl, rfl, ha, hb, hx, hz, q1 hx, q2 hx⟩
end
end L2

set_option Elab.async false
set_option linter.all false
set_option maxRecDepth 100000
set_option maxHeartbeats 4000000
namespace L4
open PySem L2
/-! names and pigeons -/
/-! half tables as data -/
end L4

set_option Elab.async false
set_option linter.all false
set_option maxRecDepth 100000
set_option maxHeartbeats 4000000
namespace L4
open PySem L2 PySem.StrLaws
/-! texts put together and taken apart again -/
/-! figures -/
end L4

set_option Elab.async false
set_option linter.all false
set_option maxRecDepth 100000
set_option maxHeartbeats 4000000
namespace L4
open PySem L2 PySem.StrLaws
/-! good names, good half tables -/
end L4

set_option Elab.async false
set_option linter.all false
set_option maxRecDepth 100000
set_option maxHeartbeats 4000000
namespace L4
open PySem L2
/-! comprehensions that only tell: every part by itself -/
end L4

set_option Elab.async false
set_option linter.all false
set_option maxRecDepth 100000
set_option maxHeartbeats 4000000
namespace L4
open PySem L2 PySem.StrLaws
/-! things of any kind -/
/-! what the document says of them -/
end L4

set_option Elab.async false
set_option linter.all false
set_option maxRecDepth 100000
set_option maxHeartbeats 4000000
namespace L4
open PySem L2 PySem.StrLaws
end L4

set_option Elab.async false
set_option linter.all false
set_option maxRecDepth 100000
set_option maxHeartbeats 4000000
namespace L4
open PySem L2 PySem.StrLaws
/-! a thing that is a half table, as data -/
end L4

set_option Elab.async false
set_option linter.all false
set_option maxRecDepth 100000
set_option maxHeartbeats 4000000
namespace L4
open PySem L2
/-! displays that make things; X: lists that are still written on, which no thing has -/
open Classical in
section
variable {X : Addr → Prop} {H0 : Hp} {σ : St}
end
end L4

set_option Elab.async false
set_option linter.all false
set_option maxRecDepth 100000
set_option maxHeartbeats 4000000
namespace L4
open PySem L2
end L4

set_option Elab.async false
set_option linter.all false
set_option maxRecDepth 100000
set_option maxHeartbeats 4000000
namespace L4
open PySem L2
end L4

set_option Elab.async false
set_option linter.all false
set_option maxRecDepth 100000
set_option maxHeartbeats 4000000
namespace L2
open PySem PySem.Spec PyProof.Rows
open Builtin
section
variable {X : Cx}
end
end L2

set_option Elab.async false
set_option linter.all false
set_option maxRecDepth 100000
set_option maxHeartbeats 4000000
namespace L4
open PySem L2
/-! the same for any predicate and any slot -/
section
end
end L4

set_option Elab.async false
set_option linter.all false
set_option maxRecDepth 100000
set_option maxHeartbeats 4000000
namespace L4
open PySem L2 PySem.StrLaws
/-! any text, read as a table's -/
/-! how long the parts are -/
/-! how a text fails -/
end L4

set_option Elab.async false
set_option linter.all false
set_option maxRecDepth 100000
set_option maxHeartbeats 4000000
namespace L2
open PySem PySem.Spec PyProof.Rows
/-! the count of tokens never goes back -/
end L2

set_option Elab.async false
set_option linter.all false
set_option maxRecDepth 100000
set_option maxHeartbeats 4000000
namespace L2
open PySem PySem.Spec PyProof.Rows PySem.Builtin PySem.Builtin.Str
/-! rules where a token has been drawn -/
section
variable {X : Cx} {e : Expr} {es : List Expr} {te ta tb : TE} {t : TA} {pos : Pos} {a b : Expr} {st : Stmt} {rest : List Stmt} {ts us : TS}
end
end L2

set_option Elab.async false
set_option linter.all false
set_option maxRecDepth 100000
set_option maxHeartbeats 4000000
namespace L2
open PySem PySem.Spec PyProof.Rows PySem.Builtin PySem.Builtin.Str
section
variable {X : Cx}
end
end L2

set_option Elab.async false
set_option linter.all false
set_option maxRecDepth 100000
set_option maxHeartbeats 4000000
namespace L4
open PySem L2 PySem.StrLaws
/-! texts put together of parts of words, and taken apart -/
/-! no "; " within -/
end L4

set_option Elab.async false
set_option linter.all false
set_option maxRecDepth 100000
set_option maxHeartbeats 4000000
namespace L4
open PySem L2 PySem.StrLaws
/-! the words of a good table -/
/-! cells that are none -/
/-! A: a part more -/
/-! B: the last word -/
end L4

set_option Elab.async false
set_option linter.all false
set_option maxRecDepth 100000
set_option maxHeartbeats 4000000
namespace L4
open PySem L2 PySem.StrLaws
section
end
end L4

set_option Elab.async false
set_option linter.all false
set_option maxRecDepth 100000
set_option maxHeartbeats 4000000
namespace L4
open PySem L2
section
/-! slices and repetitions that make things -/
end
end L4

set_option Elab.async false
set_option linter.all false
set_option maxRecDepth 100000
set_option maxHeartbeats 4000000
namespace L4
open PySem L2
end L4

set_option Elab.async false
set_option linter.all false
set_option maxRecDepth 100000
set_option maxHeartbeats 4000000
namespace L4
open PySem L2
end L4
namespace L4
open PySem L2
end L4

set_option Elab.async false
set_option linter.all false
set_option maxRecDepth 100000
set_option maxHeartbeats 4000000
namespace L4
open PySem L2
/-! good half tables, as things -/
end L4

set_option Elab.async false
set_option linter.all false
set_option maxRecDepth 100000
set_option maxHeartbeats 4000000
namespace L4
open PySem L2 PySem.StrLaws
section
/-! D: parts put otherwise -/
/-! E: where there are connectives -/
end
end L4

set_option Elab.async false
set_option linter.all false
set_option maxRecDepth 100000
set_option maxHeartbeats 4000000
namespace L4
open PySem L2 PySem.StrLaws
/-! displays that make texts, and lists of texts -/
section
variable {X : Addr → Prop} {H0 : Hp} {σ : St} {K : PySem.W.Frag}
end
end L4

set_option Elab.async false
set_option linter.all false
set_option maxRecDepth 100000
set_option maxHeartbeats 4000000
namespace L4
open PySem L2 PySem.StrLaws
section
end
section
end
/-! a great letter -/
/-! the good text -/
/-! two of the same thing are alike -/
end L4

set_option Elab.async false
set_option linter.all false
set_option maxRecDepth 100000
set_option maxHeartbeats 4000000
namespace L2
open PySem PySem.Spec PyProof.Rows
section
variable {X : Cx}
end
theorem iteDT {c A B : Prop} [Decidable c] (hc : decide c = true) (h : A) : if decide c = true then A else B := by rw [if_pos hc]; exact h
theorem iteDF {c A B : Prop} [Decidable c] (hc : decide c = false) (h : B) : if decide c = true then A else B := by rw [if_neg (by rw [hc]; exact Bool.false_ne_true)]; exact h
end L2
namespace L4
open PySem L2
/-! the chains' connectives -/
end L4
namespace Fr
end Fr

set_option Elab.async false
set_option linter.all false
set_option maxRecDepth 100000
set_option maxHeartbeats 4000000
namespace PySem
open Sem (wp)
section
variable {prog : Program} {w : World} {A : Around} {E : Value → Shared → Prop} {s : Shared}
theorem wpAny_collect_range {Q : List Value → Shared → Prop} {it : Addr} {a b c : Int} {t u v : Tok} {n : Nat} (hh : A.handled = none) (hr : IsRange s.heap it a b c t u v) (hsmall : Builtin.Range.small a b c = true)
    (hn : Builtin.Range.rangeSize a b c = n) (hlen : n ≤ 2 ^ 24)
    (hQ : ∀ h' tk (acc : Array Value), (∀ b o', s.heap.get? b = some o' → h'.get? b = some o') → ItemsOf (fun i v => ∃ t, v = .int (a + i * c) t) acc n → Q acc.toList { s with heap := h', toks := tk }) :
    wpAny (model prog w) A (collect (.ref it)) Q E s := by
  unfold collect
  refine wpAny_bind (wpAny_runValue (codeAny_builtin F.entry_proto_collect ?_))
  rw [Around.under_plainId F.plain_proto_collect _]
  show wpAny _ A.in1 (newList [] >>= fun l => again (.builtin "list.__iadd__" ⟨[l, .ref it], []⟩)) _ _ s
  refine wpAny_bind (wpAny_newObj_type ?_)
  refine wpAny_pure ⟨plainId_quiet F.plain_list_iadd _, codeAny_builtin F.entry_list_iadd ?_⟩
  rw [Around.under_plainId F.plain_list_iadd _]
  show wpAny _ A.in1 (Builtin.List.listExtendWith (.ref s.heap.objs.size) (.ref it) (.ref s.heap.objs.size)) _ _ _
  have hS : (s.heap.push { cls := .type "list", data := .seq ([] : List Value).toArray }).get? s.heap.objs.size = some { cls := .type "list", data := .seq #[] 0 } := Heap.get?_push_size _ rfl
  have fin' : ∀ (s' : Shared), (∃ h' tk acc c', s' = { s with heap := h', toks := tk } ∧ (∀ b o, b ≠ s.heap.objs.size → (s.heap.push { cls := .type "list", data := .seq ([] : List Value).toArray }).get? b = some o → h'.get? b = some o) ∧ h'.get? s.heap.objs.size = some { cls := .type "list", dict := none, data := .seq acc c', slots := #[] } ∧ ItemsOf (fun i v => ∃ t, v = .int (a + i * c) t) acc n) → wpAny (model prog w) A (match Value.ref s.heap.objs.size with
      | Value.ref a => do
        match (← load a).data with
          | Data.seq xs _ => pure xs.toList
          | _ => unsupported "internal:collect"
      | _ => unsupported "internal:collect") Q E s' := by
    rintro s' ⟨h', tk, acc, c', rfl, kp, e, hacc⟩
    show wpAny _ A (load s.heap.objs.size >>= _) _ _ _
    refine wpAny_bind (wpAny_load e ?_)
    refine wpAny_pure ?_
    exact hQ h' tk acc (fun b o' hb => kp b o' (Nat.ne_of_lt (Heap.lt_size hb)) (Heap.get?_push_of_some _ hb)) hacc
  refine wpAny_mono (wpAny_extend_range (A := A) (R := fun r s' => r = .ok (.ret (.ref s.heap.objs.size)) ∧ ∃ h' tk acc c', s' = { s with heap := h', toks := tk } ∧ (∀ b o, b ≠ s.heap.objs.size → (s.heap.push { cls := .type "list", data := .seq ([] : List Value).toArray }).get? b = some o → h'.get? b = some o) ∧ h'.get? s.heap.objs.size = some { cls := .type "list", dict := none, data := .seq acc c', slots := #[] } ∧ ItemsOf (fun i v => ∃ t, v = .int (a + i * c) t) acc n)
    (s := { s with heap := s.heap.push { cls := .type "list", data := .seq ([] : List Value).toArray } }) hh (Heap.get?_push_of_some _ hr) hsmall hn hlen _ _ 0 hS fun h' tk acc' c' k1 k2 k3 => ⟨rfl, h', tk, acc', c', rfl, k1, k2, k3⟩) (fun fin s' h => ?_) (fun e s' h => ?_)
  · cases fin with
    | done f =>
      obtain ⟨e, h⟩ := h
      cases e
      exact fin' _ h
    | again c' => exact ⟨h.1, codeAny_mono h.2 fun r s'' hr => by obtain ⟨rfl, hr⟩ := hr; exact fin' _ hr⟩
  · exact absurd h.1 (by simp)
end
theorem meets_tuple_new_range (l : Addr) (a b c : Int) (t u v : Tok) (n : Nat) (hsmall : Builtin.Range.small a b c = true) (hn : Builtin.Range.rangeSize a b c = n) (hlen : n ≤ 2 ^ 20) :
    Meets (Builtin.«tuple.__new__» ⟨[.type "tuple", .ref l], []⟩)
      (fun A R s => A.handled = none ∧ IsRange s.heap l a b c t u v ∧ ∀ (h' : Heap) (tk : Nat) (acc : Array Value), (∀ b o', s.heap.get? b = some o' → h'.get? b = some o') → ItemsOf (fun i v => ∃ t, v = .int (a + i * c) t) acc n → R (.ok (.ret (.ref h'.objs.size))) { s with heap := h'.push { cls := .type "tuple", data := .seq acc }, toks := tk }) :=
  .of_wp fun prog w A R s h => by
    obtain ⟨hp, g, d, tk, os⟩ := s; obtain ⟨hh, ht, h⟩ := h
    have hsub := sub_tuple_self
    have hinit := init_tuple_lookup
    have hmh := madeHere_tuple
    have hT : Shared.TypeIs ⟨hp, g, d, tk, os⟩ (.ref l) "range" := ⟨_, ht, rfl⟩
    wp_walk using AutoSeq1.wpAny_loadPart' ht, wpAny_typeOf hT, wpAny_collect_range (A := A.in1) hh ht hsmall hn (by omega)
    intro h' tk' acc hk hacc
    show wpAny _ _ (Builtin.Tuple.tupleExact acc.toList.toArray >>= fun v => ret v) _ _ _
    unfold Builtin.Tuple.tupleExact
    have hsz : acc.size ≤ sizeLine := by rw [hacc.1]; exact Nat.le_trans hlen (by decide +kernel)
    refine wpAny_bind (wpAny_newObj_type ?_ (by show acc.toList.toArray.size ≤ sizeLine; simpa using hsz))
    refine wpAny_pure ⟨_, rfl, ?_⟩
    have e : acc.toList.toArray = acc := by simp
    rw [e]
    exact h h' tk' acc hk hacc
section
variable {prog : Program} {w : World} {A : Around} {E : Value → Shared → Prop} {s : Shared}
theorem call_tuple_range {l : Addr} {a b c : Int} {t u v : Tok} {n : Nat} {Q : Value → Shared → Prop} (hh : A.handled = none) (hr : IsRange s.heap l a b c t u v) (hsmall : Builtin.Range.small a b c = true) (hn : Builtin.Range.rangeSize a b c = n) (hlen : n ≤ 2 ^ 20)
    (h : ∀ (h' : Heap) (tk : Nat) (acc : Array Value), (∀ b o', s.heap.get? b = some o' → h'.get? b = some o') → ItemsOf (fun i v => ∃ t, v = .int (a + i * c) t) acc n → Q (.ref h'.objs.size) { s with heap := h'.push { cls := .type "tuple", data := .seq acc }, toks := tk }) :
    wpAny (model prog w) A (call (.type "tuple") [.ref l]) Q E s :=
  callType_new F.called_tuple (by decide) (F.typeCall_tuple_1 _) (F.newCall_tuple_1 _) (fun obj => F.args_object_init_2 obj _) F.entry_tuple_new
    (meets_tuple_new_range l a b c t u v n hsmall hn hlen) ⟨hh, hr, fun h' tk acc hk hacc => ⟨⟨_, Heap.get?_push_size _ rfl, rfl⟩, h h' tk acc hk hacc⟩⟩
end
end PySem
namespace PySem.SeqAt
open PySem
theorem wpAny_forRange {M : Model} {A : Around} {E : Value → Shared → Prop} {s : Shared} {β : Type} {a b : Nat} (f : Nat → β → Sem (ForInStep β)) (I : Nat → β → Shared → Prop) (Q : β → Shared → Prop)
    (turn : ∀ i c s, a ≤ i → i < b → I i c s → wpAny M A (f i c) (fun r s' => match r with | .yield c' => I (i + 1) c' s' | .done c' => Q c' s') E s)
    (fin : ∀ c s, I (max a b) c s → Q c s) (c : β) (h : I a c s) : wpAny M A (forIn [a:b] c f) Q E s := by
  rw [Std.Legacy.Range.forIn_eq_forIn_range']
  have hsz : ([a:b] : Std.Legacy.Range).size = b - a := by simp [Std.Legacy.Range.size]
  show wpAny M A (forIn (List.range' a ([a:b] : Std.Legacy.Range).size 1) c f) Q E s
  rw [hsz]
  refine wpAny_forIn_list f (fun l c st => ∃ i, a ≤ i ∧ i ≤ max a b ∧ l = List.range' i (max a b - i) 1 ∧ I i c st) Q ?_ ?_ _ c ⟨a, Nat.le_refl _, by omega, by congr 1; omega, h⟩
  · rintro x rest c st ⟨i, hai, hib, hl, hI⟩
    have hlt : i < max a b := by
      rcases Nat.lt_or_ge i (max a b) with h' | h'
      · exact h'
      · rw [show max a b - i = 0 by omega] at hl; simp at hl
    obtain ⟨n, hn⟩ : ∃ n, max a b - i = n + 1 := ⟨max a b - i - 1, by omega⟩
    rw [hn, List.range'_succ] at hl
    obtain ⟨rfl, rfl⟩ := List.cons.inj hl
    refine wpAny_mono (turn x c st hai (by omega) hI) (fun r st' h' => ?_) fun _ _ h' => h'
    cases r with
    | done c' => exact h'
    | yield c' => exact ⟨x + 1, by omega, by omega, by congr 1; omega, h'⟩
  · rintro c st ⟨i, hai, hib, hl, hI⟩
    have : i = max a b := by
      rcases Nat.lt_or_ge i (max a b) with h' | h'
      · obtain ⟨n, hn⟩ : ∃ n, max a b - i = n + 1 := ⟨max a b - i - 1, by omega⟩
        rw [hn, List.range'_succ] at hl
        cases hl
      · omega
    rw [this] at hI
    exact fin c st hI
theorem tuple_indexAt (l : Addr) (items : Array Value) (n : Nat) (dd : Option Addr) (sl : Array (Option Value)) (x : Value) (e : Value → Bool) (j : Nat) (hj : j < items.size)
    (hit : e items[j] = true) (hno : ∀ m (hm : m < items.size), m < j → e items[m] = false) :
    Meets (Builtin.«tuple.index» ⟨[.ref l, x], []⟩)
      (fun A R s => s.heap.get? l = some { cls := .type "tuple", dict := dd, data := .seq items n, slots := sl } ∧ (∀ y, y ∈ items → EqAt A.in1 s y x (e y)) ∧ R (.ok (.ret (.int j s.toks))) { s with toks := s.toks + 1 }) :=
  .of_wp fun prog w A R s h => by
    obtain ⟨hp, g, d, tk, os⟩ := s; obtain ⟨hl, he, h⟩ := h
    wp_walk using AutoSeq1.wpAny_loadPart' hl, wpAny_forRange _ (fun i c s' => c = (none, ()) ∧ s' = ⟨hp, g, d, tk, os⟩ ∧ i ≤ j) _
    case turn =>
      rintro i c s' hi1 hi2 ⟨rfl, rfl, hij⟩
      have hi : i < items.size := by omega
      rw [Array.getElem?_eq_getElem hi]
      refine wpAny_bind (he _ (Array.getElem_mem hi) prog w _ _ ?_)
      rcases Nat.lt_or_ge i j with h' | h'
      · rw [hno i hi h']
        wp_walk
        exact ⟨rfl, rfl, h'⟩
      · have e1 : i = j := by omega
        subst e1
        rw [hit]
        wp_walk
        exact ⟨_, rfl, h⟩
    case fin =>
      rintro c s' ⟨rfl, rfl, hij⟩
      omega
    case h =>
      exact ⟨rfl, rfl, Nat.zero_le _⟩
end PySem.SeqAt
namespace L2
open PySem PySem.Spec PyProof.Rows
section
variable {X : Cx}
/-- xs * n, a new list -/
def rRepL (K : PySem.W.Frag) : R2 := fun x y H Q => ∃ a xs n, x = .ref a ∧ y = .int n ∧ H a = some (.lst xs) ∧ 0 ≤ n ∧ n ≤ 1000 ∧ xs.length * n.toNat ≤ 1000 ∧ ∀ p, H p = none → Q (.ref p) (upd H p (.lst (List.replicate n.toNat xs).flatten))
theorem op_repL (K : PySem.W.Frag) : OpR X (binaryOp .Mult) (rRepL K) := by
  intro pins s σ H x y v u Q I rx ry h
  obtain ⟨a, xs, k, rfl, rfl, ha, k0, k1, hz, q⟩ := h
  cases rx
  obtain ⟨t, rfl⟩ := ry
  obtain ⟨z, its, n, r, hl, e⟩ := I.lstM ha
  have e1 : List.foldl (fun x1 x2 => x1 ++ x2) #[] (List.replicate k.toNat its.toArray) = (List.replicate k.toNat its).flatten.toArray := by
    have := foldl_rep its k.toNat []
    rw [List.nil_append] at this
    exact this
  have hnew : List.foldl (fun x1 x2 => x1 ++ x2) #[] (List.replicate (if its.toArray.isEmpty = true then 0 else k.toNat) its.toArray) = (List.replicate k.toNat its).flatten.toArray := by
    cases hi : its with
    | nil => simp
    | cons b bs =>
      rw [← hi]
      have : its.toArray.isEmpty = false := by rw [hi]; rfl
      rw [this]
      exact e1
  refine wpAny_binaryOp_repeat_ref (T := "list") (U := "int") (by decide) ⟨_, e, rfl⟩ (fun s' => typeIs_int s' k t) noFill_list_mul F.fills_int_mul F.slot_int_rmul repeat_list F.slot_int_index.lookup
    (call_meets F.slot_int_rmul (typeIs_int s k t) F.entry_int_rmul (F.args_int_rmul_2 _ _) (int___rmul___int_list k t a its.toArray n)
      ⟨e, rfl, ⟨_, e, rfl⟩, call_meets F.slot_list_mul ⟨_, e, rfl⟩ F.entry_list_mul (F.args_list_mul_2 _ _)
        (AutoListH.list___mul___list_int_3 a its.toArray n k t (by simp [Builtin.List.listFitsIndex]; omega) (by
          have h1 : its.length * k.toNat ≤ 1000 := by rw [← hl]; exact hz
          have h2 : ((its.length * k.toNat : Nat) : Int) ≤ 1000 := by exact_mod_cast h1
          rw [Int.natCast_mul, show ((k.toNat : Nat) : Int) = k by omega] at h2
          simp only [List.size_toArray]
          omega) (by
          have h1 : its.length * k.toNat ≤ 1000 := by rw [← hl]; exact hz
          have h2 : ((its.length * k.toNat : Nat) : Int) ≤ 1000 := by exact_mod_cast h1
          rw [Int.natCast_mul, show ((k.toNat : Nat) : Int) = k by omega] at h2
          simp [Builtin.List.listTooLong, sizeLine]
          omega))
        ⟨e, ?_⟩⟩)
  rw [hnew]
  refine ⟨.ref s.heap.objs.size, _, I.laid (t' := s.toks) (o := .lst (List.replicate k.toNat xs).flatten) (fun b ob q => Heap.get?_push_of_some _ q) (Nat.le_refl _) ?_, rfl, q _ (I.hok.fresh (Nat.le_refl _))⟩
  exact ⟨by rw [len_rep]; exact Nat.le_of_lt (small1000 (by rw [Nat.mul_comm]; exact hz)), _, 0, r.rep k.toNat, Heap.get?_push_size _ rfl⟩
end
end L2

set_option Elab.async false
set_option linter.all false
set_option maxRecDepth 100000
set_option maxHeartbeats 4000000
namespace L2
open PySem PySem.Spec PyProof.Rows
/-! enumerate(a list) -/
theorem Inv.changed {X : Cx} {pins : List (Addr × Obj)} {σ : St} {H : Hp} {s : Shared} {ch : List Addr} {h' : Heap} {t' : Nat} (I : Inv X pins σ H s) (hf : ∀ b ∈ ch, FpOk X pins H b) (k : ∀ c o, c ∉ ch → s.heap.get? c = some o → h'.get? c = some o) : Inv X pins σ H { s with heap := h', toks := t' } := by
  have nt : ∀ b u, H b = some u → b ∉ ch := fun b u e hb => by
    rw [(hf b hb).1] at e
    cases e
  have nl : X.env.locals ∉ ch := fun hb => (hf _ hb).2.1 rfl
  refine I.step (g' := s.gens) (d' := s.drawn) (ch := ch) (fun b hb => ⟨(hf b hb).2.2.2.1, (hf b hb).2.1, (hf b hb).2.2.2.2.1, (hf b hb).2.2.2.2.2⟩) (fun b o _ _ hc e _ => k b o hc e) (fun b o _ _ hc e _ => ⟨o.slots, k b o hc e⟩) (fun _ _ _ _ n => n)
    (fun b o hc e => ⟨o, k b o hc e⟩) (fun _ _ e => e) (fun _ _ _ e => e) (fun b ps e => ⟨#[], by rw [e]; simp⟩) (fun m hm => ?_) (fun b u e => ?_) I.bare
  · obtain ⟨o, es, ep, ho, r⟩ := hm
    exact ⟨o, es, ep, k _ o nl ho, r⟩
  · refine (I.hok b u e).stay (fun c v hc q => k c v ?_ q) (fun _ q => q) fun _ _ q => q
    rcases hc with z | z
    · rw [z]; exact nt b u e
    · exact nt c _ z
/-- the numbered things of the list at a, each pair a new tuple -/
def Ite (K : PySem.W.Frag) (a : Addr) : It :=
  ⟨fun i H => ∃ xs x, SqL K H a xs ∧ xs[i]? = some x,
   fun i H v H' => ∃ T x, H T = none ∧ v = .ref T ∧ H' = upd H T (.tup [.int (i : Nat), x]) ∧ ∀ xs, SqL K H a xs → xs[i]? = some x,
   fun i H => ∃ xs, SqL K H a xs ∧ xs.length ≤ i⟩
theorem turn_enum {P : Program} {w : World} {K : PySem.W.Frag} {elts : List Expr} {kk : Nat} {pos : Pos} {e it a : Addr} (hei : e ≠ it) :
    Turn P w K (.Tuple elts kk pos) (Ite K a) [e, it] e (fun i h => (∃ old, IsEnum h e it i old) ∧ h.IsListIter it a i) where
  mem := by simp
  obj := fun i h st b hb => by
    obtain ⟨⟨old, u1⟩, ⟨o4, u4, _, d4⟩⟩ := st
    simp only [List.mem_cons, List.not_mem_nil, or_false] at hb
    rcases hb with rfl | rfl
    · exact ⟨_, u1, fun v zz => by cases zz⟩
    · exact ⟨_, u4, fun v zz => by rw [d4] at zz; cases zz⟩
  keep := fun i h h' st k => by
    obtain ⟨⟨old, u1⟩, ⟨o4, u4, r4⟩⟩ := st
    exact ⟨⟨old, k _ (by simp) _ u1⟩, ⟨o4, k _ (by simp) _ u4, r4⟩⟩
  item := by
    intro X hP hw hK hc i pins s σ H E I hf st hg
    subst hP hw hK
    obtain ⟨xs, x, hq, hx⟩ := hg
    obtain ⟨⟨old, he⟩, hit⟩ := st
    obtain ⟨its, rv, p, hz⟩ := I.list hq
    obtain ⟨u, hu, ru⟩ := rv.get hx
    have elt : e < s.heap.objs.size := Heap.lt_size he
    have ilt : it < s.heap.objs.size := by
      obtain ⟨o, x, _⟩ := hit
      exact Heap.lt_size x
    refine wpAny_pyNext_enum_item (s := s) he hit p.isList (x := u) (by simpa using hu) hei fun h' ho hit' hT hsz hk => ⟨_, rfl, wpAny_letOwnedTupleGo_enum ho fun h2 he' hs' => ?_⟩
    have k2 : ∀ c o, c ∉ [e, it] → s.heap.get? c = some o → h2.get? c = some o := fun c o hc q => (hs'.2 c (fun zz => hc (by simp [zz]))).trans (hk c o (fun zz => hc (by simp [zz])) (fun zz => hc (by simp [zz])) q)
    have I1 : Inv X pins σ H { s with heap := h2, toks := s.toks + 1 } := I.changed (t' := s.toks + 1) hf k2
    have at2 : h2.get? s.heap.objs.size = some { cls := .type "tuple", data := .seq #[.int i s.toks, u] } := (hs'.2 _ (Nat.ne_of_gt elt)).trans hT
    have Hn : H s.heap.objs.size = none := I.hok.fresh (Nat.le_refl _)
    have I2 : Inv X pins σ (upd H s.heap.objs.size (.tup [.int (i : Nat), x])) { s with heap := h2, toks := s.toks + 1 } := by
      refine I1.adopt Hn (Heap.get?_none_of_le I.sz) (Nat.ne_of_gt I.lt) (fun xx cc e zz => ?_) (fun p hp zz => ?_) ⟨by show 2 ≤ sizeLine; decide, [.int i s.toks, u], .cons ⟨_, rfl⟩ (.cons ru .nil), ⟨_, at2, rfl, ⟨0, rfl⟩, rfl⟩⟩
      · obtain ⟨_, q⟩ := I.cell xx cc e
        exact absurd q.lt (by rw [zz]; exact Nat.lt_irrefl _)
      · exact absurd (Heap.lt_size (I.pin p hp).1) (by rw [zz]; exact Nat.lt_irrefl _)
    refine ⟨.ref s.heap.objs.size, _, I2, rfl, ⟨_, x, Hn, rfl, rfl, fun xs' h1 => ?_⟩, ⟨⟨_, by simpa using he'⟩, hit'.at fun o y => (hs'.2 it (Ne.symm hei)).trans y⟩, fun b hb => ?_⟩
    · rw [I.list_inj h1 hq]
      exact hx
    · have : b ≠ s.heap.objs.size := by
        simp only [List.mem_cons, List.not_mem_nil, or_false] at hb
        rcases hb with rfl | rfl
        · exact Nat.ne_of_lt elt
        · exact Nat.ne_of_lt ilt
      rw [upd_ne this]
      exact (hf b hb).1
  done := by
    intro X hP hw hK hc i pins s σ H E I hf st hg
    subst hP hw hK
    obtain ⟨xs, hq, hx⟩ := hg
    obtain ⟨⟨old, he⟩, hit⟩ := st
    obtain ⟨its, rv, p, hz⟩ := I.list hq
    have l1 := rv.length
    exact wpAny_pyNext_enum_end (I.ok.hd hc) he hit p.isList (by simp; omega) fun h' eb => ⟨rfl, I.changed (t' := s.toks) (ch := [it]) (fun b hb => hf b (by simp only [List.mem_cons, List.not_mem_nil, or_false] at hb ⊢; exact .inr hb)) fun c o hc q => eb c o (fun zz => hc (by simp [zz])) q⟩
  self := fun A i s Q E st h => by
    obtain ⟨⟨old, he⟩, _⟩ := st
    exact wpAny_pyIter_enum he h
section
variable {X : Cx}
theorem bt_enumerate : bootBuiltins "enumerate" = some (.type "enumerate") := by decide +kernel
def iEnum (K : PySem.W.Frag) (ta : TA) : TI := fun σ H R => ta σ H fun vs H1 => ∃ p xs, vs = [.ref p] ∧ SqL K H1 p xs ∧ R (Ite K p) H1
theorem kpi_enum (K : PySem.W.Frag) {elts : List Expr} {kk : Nat} {tpos : Pos} {a : Expr} {ta : TA} {p pos : Pos} (hg : Gl X "enumerate") (hm : X.mg "enumerate" = none) (ha : PA X [a] ta) (hs : starEach [a] X.env = [(false, eval a X.env)] := by rfl) (hK : X.K = K := by rfl) :
    PI X (.Tuple elts kk tpos) (.Call (.Name "enumerate" p) [a] [] pos) (iEnum K ta) := by
  subst hK
  intro pins s σ H R I h
  refine Call_ (ld_blt I hg hm bt_enumerate (PyProof.Rows.callWith_type1 (thn (ha pos pins s σ H _ I h) fun us s1 ⟨vs, H1, I1, r1, q1⟩ => ?_) hs rfl))
  obtain ⟨p1, xs, e, hq, q⟩ := q1
  subst e
  obtain ⟨u1, rfl, r2⟩ := vals1 r1
  cases r2
  obtain ⟨its, rv, pl, _⟩ := I1.list hq
  refine call_enumerate_list pl.isList fun h' he hit hsz kp => ?_
  refine wpAny_pyIter_enum he ?_
  have I2 : Inv X pins σ H1 { s1 with heap := h' } := I1.kept (t' := s1.toks) kp
  refine ⟨s1.heap.objs.size + 1, [s1.heap.objs.size + 1, s1.heap.objs.size], _, Ite X.K p1, H1, rfl, I2, turn_enum (Nat.succ_ne_self _), ⟨⟨_, he⟩, hit⟩, fun b hb => ?_, q⟩
  simp only [List.mem_cons, List.not_mem_nil, or_false] at hb
  rcases hb with rfl | rfl
  · exact I1.fpOk (Nat.le_succ _) (I1.hok.fresh (Nat.le_succ _))
  · exact I1.fpOk (Nat.le_refl _) (I1.hok.fresh (Nat.le_refl _))
end
end L2

set_option Elab.async false
set_option linter.all false
set_option maxRecDepth 100000
set_option maxHeartbeats 4000000
namespace L2
open PySem PySem.Spec PyProof.Rows
/-! own classes: their methods and their making, by promises -/
/-- a method as it stands in the text -/
def DefM (P : Program) (w : World) (K : PySem.W.Frag) (mg : Str → Option Value) (base : Heap) (k : Nat) (C : Addr) (m : Str) (ps : List Str) (sp : Sp) : Prop :=
  ∃ (f : Addr) (fd : FuncData), Meth K C m f ∧ FnOk P w K mg base CX0 k f fd ps sp ∧ Binds K fd ps []
/-- an own class's __init__ -/
def DefN (P : Program) (w : World) (K : PySem.W.Frag) (mg : Str → Option Value) (base : Heap) (k : Nat) (C : Addr) (ps : List Str) (sp : Sp) : Prop :=
  ∃ (f : Addr) (fd : FuncData), Mk K C f ∧ FnOk P w K mg base CX0 k f fd ps sp ∧ Binds K fd ps []
section
theorem pe_methM (D : DefM X.prog X.w X.K X.mg X.base k C m ps sp) (c : Cls X.K C) (hr : Room k' X.A) (hk : k ≤ k') (he : PE X o ta) (ha : PA X (e :: es) t)
    (hst : starEach (e :: es) X.env = (false, eval e X.env) :: starEach es X.env := by rfl) (hpl : (backTo pos (starEach es X.env)).any (·.1) = false := by rfl)
    (ht : eval (.Call (.Attribute o m apos) (e :: es) [] pos) X.env = (do
      let ov ← eval o X.env
      standAt apos.atName
      let (f, first) ← holding [ov] (getMethod ov m pl)
      callWith pos f first (backTo pos (starEach (e :: es) X.env)) (backToKw pos (keywordEach [] X.env))) := by rfl) :
    PE X (.Call (.Attribute o m apos) (e :: es) [] pos) (tMeth C m sp [] E0 ta t) := by
  obtain ⟨f, fd, hm, F, b⟩ := D
  exact pe_meth (pl := pl) he c hm F (hr.mono hk) b .nil pass0 ha hst hpl ht
theorem pe_methM0 (D : DefM X.prog X.w X.K X.mg X.base k C m ps sp) (c : Cls X.K C) (hr : Room k' X.A) (hk : k ≤ k') (he : PE X o ta)
    (ht : eval (.Call (.Attribute o m apos) [] [] pos) X.env = (do
      let ov ← eval o X.env
      standAt apos.atName
      let (f, first) ← holding [ov] (getMethod ov m pl)
      callWith pos f first (backTo pos (starEach [] X.env)) (backToKw pos (keywordEach [] X.env))) := by rfl) :
    PE X (.Call (.Attribute o m apos) [] [] pos) (tMeth C m sp [] E0 ta tNil) := by
  obtain ⟨f, fd, hm, F, b⟩ := D
  exact pe_meth0 (pl := pl) he c hm F (hr.mono hk) b .nil pass0 ht
theorem pe_makeN (D : DefN X.prog X.w X.K X.mg X.base k C ps sp) (hr : Room k' X.A) (hk : k + 1 ≤ k') (hg : Gl X x) (hm : X.mg x = some (.ref C)) (ha : PA X (e :: es) t)
    (hdb : (x == ("__debug__" : Str)) = false := by decide) (he : starEach (e :: es) X.env = (false, eval e X.env) :: starEach es X.env := by rfl) (hpl : (backTo pos (starEach es X.env)).any (·.1) = false := by rfl) :
    PE X (.Call (.Name x p) (e :: es) [] pos) (tMake C sp [] E0 t) := by
  obtain ⟨f, fd, M, F, b⟩ := D
  exact pe_make M F (hr.mono hk) hg hm b .nil pass0 ha hdb he hpl
end
/-- for n, x in enumerate(l), l a list -/
theorem for_enumL {K : PySem.W.Frag} {a : Addr} {xs : List V} {g : TG} {tb : TS} {D : Ends} {σ : St} {H : Hp} (Pv : Nat → St → Hp → Prop) (h0 : Pv 0 σ H) (hl : ∀ i σ H, i ≤ xs.length → Pv i σ H → SqL K H a xs)
    (hs : ∀ i x σ H T, xs[i]? = some x → Pv i σ H → H T = none → g (.ref T) σ (upd H T (.tup [.int (i : Nat), x])) fun σ2 H2 => tb { D with nx := Pv (i + 1), ct := Pv (i + 1), bk := D.nx } σ2 H2) (hd : ∀ σ H, Pv xs.length σ H → D.nx σ H) :
    ∃ W : Nat → Nat → St → Hp → Prop, (∃ m, W 0 m σ H) ∧ ∀ i m σ H, W i m σ H →
      ((Ite K a).stop i H ∧ D.nx σ H) ∨ ((Ite K a).go i H ∧ ∃ N : St → Hp → Prop, (∀ σ' H', N σ' H' → ∃ m', m' < m ∧ W (i + 1) m' σ' H') ∧ ∀ x H', (Ite K a).yld i H x H' → g x σ H' fun σ2 H2 => tb { D with nx := N, ct := N, bk := D.nx } σ2 H2) := by
  refine ⟨fun i m σ H => m = xs.length - i ∧ i ≤ xs.length ∧ Pv i σ H, ⟨xs.length, by simp, Nat.zero_le _, h0⟩, ?_⟩
  rintro i m σ H ⟨rfl, hi, p⟩
  have q := hl i σ H hi p
  by_cases hlt : i < xs.length
  · refine .inr ⟨⟨xs, xs[i], q, by simp [hlt]⟩, Pv (i + 1), fun σ' H' p' => ⟨xs.length - (i + 1), by omega, rfl, hlt, p'⟩, ?_⟩
    rintro v H' ⟨T, x, hT, rfl, rfl, hall⟩
    exact hs i x σ H T (hall xs q) p hT
  · have e : i = xs.length := by omega
    subst e
    exact .inl ⟨⟨xs, q, Nat.le_refl _⟩, hd σ H p⟩
end L2

set_option Elab.async false
set_option linter.all false
set_option maxRecDepth 100000
set_option maxHeartbeats 4000000
namespace L2
open PySem PySem.Spec PyProof.Rows
/-! trees that ask for no object's dict: they go the same way whatever dict the object at e has -/
end L2

set_option Elab.async false
set_option linter.all false
set_option maxRecDepth 100000
set_option maxHeartbeats 4000000
namespace L2
open PySem PySem.Spec PyProof.Rows
section
end
end L2

set_option Elab.async false
set_option linter.all false
set_option maxRecDepth 100000
set_option maxHeartbeats 4000000
namespace L2
open PySem PySem.Spec PyProof.Rows
end L2

set_option Elab.async false
set_option linter.all false
set_option maxRecDepth 100000
set_option maxHeartbeats 4000000
namespace L2
open PySem PySem.Spec PyProof.Rows
/-! ### an exception in flight with the dict it has -/
section
variable {P : Program} {w : World} {K : PySem.W.Frag} {mg : Str → Option Value} {base : Heap} {N : List Str} {qual : Str} {scope : Scope} {f : Addr} {cd : Value} {A : Around} {outer : List Env} {s : Shared} {H : Hp} {E : XK}
end
section
variable {X : Cx}
end
section
variable {X : Cx}
end
section
variable {X : Cx} {pins : List (Addr × Obj)} {R : Value → Option Addr → St → Hp → Prop} {e : Value} {s' : Shared}
end
section
variable {X : Cx} {pins : List (Addr × Obj)} {σ : St} {H : Hp} {s : Shared} {ea : Addr}
end
/-! a def of the text that raises on some ways -/
section
end
section
variable {P : Program} {w : World} {K : PySem.W.Frag} {mg : Str → Option Value} {base : Heap}
end
end L2

set_option Elab.async false
set_option linter.all false
set_option maxRecDepth 100000
set_option maxHeartbeats 4000000
namespace L2
open PySem PySem.Spec PyProof.Rows
section
variable {X : Cx} {pins : List (Addr × Obj)} {σ : St} {H : Hp} {s : Shared}
end
section
variable {X : Cx}
end
def clsAt (s : Stmt) (j : Nat) : Stmt := match s with
  | .ClassDef _ _ _ b _ _ _ _ _ _ _ => b.getD j (.Pass ⟨0, 0, 0, 0⟩)
  | _ => .Pass ⟨0, 0, 0, 0⟩
end L2

set_option Elab.async false
set_option linter.all false
set_option maxRecDepth 100000
set_option maxHeartbeats 4000000
namespace L2
open PySem PySem.Spec PyProof.Rows
/-! list(reversed(a tuple)) -/
section
variable {prog : Program} {w : World} {A : Around} {E : Value → Shared → Prop} {s : Shared}
end
section
variable {prog : Program} {w : World} {A : Around} {s : Shared}
end
end L2

set_option Elab.async false
set_option linter.all false
set_option maxRecDepth 100000
namespace L2
open PySem PySem.Spec PyProof.Rows
/-! ### lists of pairs as tables -/
section
variable {κ : Type} [DecidableEq κ]
end


/-! ### a tracked dict, its keys ints and texts or tuples of these -/
section
variable {P : Program} {w : World} {H : Hp} {h : Heap} {a : Addr}
end

section
variable {X : Cx} {pins : List (Addr × Obj)} {σ : St} {H : Hp} {s : Shared} {a : Addr} {y v : V} {u r : Value} {o : Option V} {A : Around} {E : Value → Shared → Prop}

end

section
variable {X : Cx} {pins : List (Addr × Obj)} {σ : St} {H : Hp} {s : Shared} {a : Addr} {kvs : List (Key × V)} {k : Key} {u : Value} {A : Around} {E : Value → Shared → Prop}
end


/-! ### readings and rules -/
section
variable {X : Cx} {o i e value : Expr} {pos pos' tpos : Pos} {td ty tv : TE}
end


/-! ### displays -/
section
variable {X : Cx} {pos : Pos}
end

/-! ### methods -/
section
variable {X : Cx} {pins : List (Addr × Obj)} {σ : St} {H : Hp} {s : Shared} {a : Addr} {y d : V} {u r : Value} {o : Option V} {A : Around} {E : Value → Shared → Prop}
end

section
end

/-! ### dict(d): a copy -/
section
variable {X : Cx} {pins : List (Addr × Obj)} {σ : St} {H : Hp} {s : Shared} {a : Addr} {kvs : List (Key × V)} {A : Around} {E : Value → Shared → Prop}
end


section
variable {X : Cx} {pins : List (Addr × Obj)} {σ : St} {H : Hp} {s : Shared} {a : Addr} {y : V} {u : Value} {A : Around} {E : Value → Shared → Prop}
end
end L2

set_option Elab.async false
set_option linter.all false
set_option maxRecDepth 100000
set_option maxHeartbeats 4000000
namespace L2
open PySem PySem.Spec PyProof.Rows
/-! dict(a list of pairs) -/
section
variable {prog : Program} {w : World} {A : Around} {R : Result → Shared → Prop}
end
section
variable {X : Cx}
end
end L2

set_option Elab.async false
set_option linter.all false
set_option maxRecDepth 100000
set_option maxHeartbeats 4000000
namespace L2
open PySem PySem.Spec PyProof.Rows
end L2
namespace L4
open PySem L2
abbrev nV (i : Nat) : V := .int (i : Int)
/-! the wells of draws: a list of two ints, of which nothing more is known -/
end L4

set_option linter.all false
namespace Tn
end Tn

set_option Elab.async false
set_option linter.all false
set_option maxRecDepth 100000
set_option maxHeartbeats 4000000
namespace L2
open PySem PySem.Spec PyProof.Rows
/-! zip(t, u) of two tuples -/
section
variable {prog : Program} {w : World} {A : Around} {E : Value → Shared → Prop} {s : Shared}
variable {z TI TO i1 i2 t1 t2 : Addr} {xs ys : Array Value} {k1 k2 : Nat}
end
end L2
namespace L2
open PySem PySem.Spec PyProof.Rows
section
variable {X : Cx}
end
end L2

set_option Elab.async false
set_option linter.all false
set_option maxRecDepth 100000
set_option maxHeartbeats 4000000
namespace L2
open PySem PySem.Spec PyProof.Rows
section
variable {X : Cx}
end
/-- a comprehension over the pairs of two lists, its block's names being the two, and others behind them -/
theorem comp_zipL {K : PySem.W.Frag} {p q : Addr} {xs ys : List V} {n : Nat} {tt : TT} {te : TE} {H1 : Hp} {Q : VK} {D : Addr} {more : St} (P : Nat → List V → Hp → Prop) (hn : n = min xs.length ys.length) (h0 : P 0 [] (upd H1 D (.lst [])))
    (hp : ∀ i zs H, P i zs H → H D = some (.lst zs) → SqL K H p xs ∧ SqL K H q ys)
    (hs : ∀ i zs H T x y, xs[i]? = some x → ys[i]? = some y → i < n → P i zs H → H D = some (.lst zs) → H T = none → tt (some x :: some y :: more) (upd H T (.tup [x, y])) fun b H4 => if b = true then te (some x :: some y :: more) H4 (cYes (fun σ => ∃ x y, σ = x :: y :: more) P n D (some x :: some y :: more) i) else cNo (fun σ => ∃ x y, σ = x :: y :: more) P n D (some x :: some y :: more) i H4)
    (hd : ∀ zs H, P n zs H → H D = some (.lst zs) → Q (.ref D) H) :
    CompGo (ItzK false K p q) (gTup K 2 (gCons (gName 0) (gCons (gName 1) gNil))) tt te (none :: none :: more) H1 Q D := by
  refine ⟨cW (fun σ => ∃ x y, σ = x :: y :: more) P n D, ⟨n, (Nat.sub_zero _).symm, Nat.zero_le _, ⟨_, _, rfl⟩, _, h0, upd_same⟩, ?_⟩
  rintro i m σ' H' ⟨rfl, hi, ⟨s1, s2, rfl⟩, zs, pp, hD⟩
  obtain ⟨q1, q2⟩ := hp i zs H' pp hD
  by_cases hlt : i < n
  · have k1 : xs[i]? = some (xs.getD i .non) := by simp [List.getD, show i < xs.length by omega]
    have k2 : ys[i]? = some (ys.getD i .non) := by simp [List.getD, show i < ys.length by omega]
    refine .inr ⟨⟨xs, ys, _, _, q1, q2, k1, k2⟩, ?_⟩
    rintro v H2 ⟨T, x, y, hT, rfl, rfl, hall⟩
    obtain ⟨e1, e2⟩ := hall xs ys q1 q2
    exact ⟨T, _, rfl, SqT.of upd_same, rfl, _, _, rfl, _, _, rfl, rfl, hs i zs H' T x y e1 e2 hlt pp hD hT⟩
  · have e : i = n := by omega
    subst e
    exact .inl ⟨⟨xs, ys, q1, q2, by omega⟩, hd zs H' pp hD⟩
end L2

set_option Elab.async false
set_option linter.all false
set_option maxRecDepth 100000
set_option maxHeartbeats 4000000
namespace L2
open PySem PySem.Spec PyProof.Rows
section
variable {X : Cx}
open Classical in
end
end L2

namespace Tn
end Tn
namespace L2
open PySem PySem.Spec PyProof.Rows
section
variable {X : Cx}
end
end L2

set_option Elab.async false
set_option linter.all false
set_option maxRecDepth 100000
set_option maxHeartbeats 4000000
namespace L4
open PySem L2
/-! the chains' mathematics -/
-- residuation
/-! sayings -/
namespace Sy
end Sy
end L4

set_option Elab.async false
set_option linter.all false
set_option maxRecDepth 100000
set_option maxHeartbeats 4000000
namespace L2
open PySem PySem.Spec PyProof.Rows
section
variable {prog : Program} {w : World} {K : Type} [DecidableEq K] {knd : KeyKind prog w K} {A : Around} {E : Value → Shared → Prop} {s : Shared}
end
section
variable {X : Cx}
end
end L2



set_option Elab.async false
set_option linter.all false
set_option maxRecDepth 100000
set_option maxHeartbeats 4000000
namespace L2
open PySem PySem.Spec PyProof.Rows
/-! enumerate(a tuple) -/
section
variable {X : Cx}
end
end L2

set_option Elab.async false
set_option linter.all false
set_option maxRecDepth 100000
set_option maxHeartbeats 4000000
namespace L2
open PySem PySem.Spec PyProof.Rows L4
end L2

set_option Elab.async false
set_option linter.all false
set_option maxRecDepth 100000
set_option maxHeartbeats 4000000
namespace L2
open PySem PySem.Spec PyProof.Rows
section
variable {X : Cx}
end
end L2
namespace L4
open PySem L2
end L4

set_option Elab.async false
set_option linter.all false
set_option maxRecDepth 100000
set_option maxHeartbeats 4000000
namespace L2
open PySem PySem.Spec PyProof.Rows
/-! dict(a list of pairs), the keys tuples -/
section
variable {prog : Program} {w : World} {A : Around} {R : Result → Shared → Prop}
end
section
variable {X : Cx}
end
end L2

set_option Elab.async false
set_option linter.all false
set_option maxRecDepth 100000
namespace L2
open PySem
/-! the table of a set: rising places -/
end L2

set_option Elab.async false
set_option linter.all false
set_option maxRecDepth 100000
set_option maxHeartbeats 4000000
namespace L2
open PySem
section
variable {prog : Program} {w : World} {K : Type} [DecidableEq K] {knd : KeyKind prog w K} {A : Around} {E : Value → Shared → Prop} {s : Shared}
end
end L2

set_option Elab.async false
set_option linter.all false
set_option maxRecDepth 100000
set_option maxHeartbeats 4000000
namespace L2
open PySem
/-! sets of digits: the table never gives way -/
end L2

set_option Elab.async false
set_option linter.all false
set_option maxRecDepth 100000
set_option maxHeartbeats 4000000
namespace L2
open PySem
/-! digits laid anew on thirty-two places -/
end L2

set_option Elab.async false
set_option linter.all false
set_option maxRecDepth 100000
set_option maxHeartbeats 4000000
namespace L2
open PySem
end L2

set_option Elab.async false
set_option linter.all false
set_option maxRecDepth 100000
set_option maxHeartbeats 4000000
namespace L2
open PySem
end L2

set_option Elab.async false
set_option linter.all false
set_option maxRecDepth 100000
set_option maxHeartbeats 4000000
namespace L2
open PySem
section
variable {prog : Program} {w : World} {A : Around} {E : Value → Shared → Prop} {s : Shared}
end
end L2

set_option Elab.async false
set_option linter.all false
set_option maxRecDepth 100000
set_option maxHeartbeats 4000000
namespace L2
open PySem PySem.Spec PyProof.Rows
section
variable {prog : Program} {w : World} {A : Around} {E : Value → Shared → Prop} {s : Shared}
end
end L2

set_option Elab.async false
set_option linter.all false
set_option maxRecDepth 100000
set_option maxHeartbeats 4000000
namespace L2
open PySem PySem.Spec PyProof.Rows
section
variable {prog : Program} {w : World} {A : Around} {E : Value → Shared → Prop} {s : Shared} {a I : Addr} {es : Array (Int × Value)} {ep : Nat} {t : SetTable}
end
end L2

set_option Elab.async false
set_option linter.all false
set_option maxRecDepth 100000
set_option maxHeartbeats 4000000
namespace L2
open PySem PySem.Spec PyProof.Rows PySem.W
section
variable {prog : Program} {w : World} {A : Around} {E : Value → Shared → Prop} {s : Shared} {a : Addr} {es : Array (Int × Value)} {ep : Nat} {t : SetTable}
end
section
variable {X : Cx}
end
end L2

set_option Elab.async false
set_option linter.all false
set_option maxRecDepth 100000
set_option maxHeartbeats 4000000
namespace L2
open PySem PySem.Spec PyProof.Rows
section
variable {X : Cx}
end
section
variable {prog : Program} {w : World} {A : Around} {R : Result → Shared → Prop}
end
section
variable {X : Cx}
end
end L2

set_option Elab.async false
set_option linter.all false
set_option maxRecDepth 100000
set_option maxHeartbeats 4000000
namespace L2
open PySem PySem.Spec PyProof.Rows
section
variable {X : Cx}
end
end L2

set_option Elab.async false
set_option linter.all false
set_option maxRecDepth 100000
set_option maxHeartbeats 4000000
namespace L4
open PySem L2
end L4

set_option linter.all false
namespace Tn
/-! marks: alike things bear the first one's place -/
/-! parting further -/
/-! the parts -/
end Tn


set_option Elab.async false
set_option linter.all false
set_option maxRecDepth 100000
set_option maxHeartbeats 4000000
namespace L2
open PySem PySem.Spec PyProof.Rows
/-! a comprehension one of whose own names is a cell: an inner comprehension reads it -/
section
variable {X : Cx} {N' : List Str} {ix : List (Option Nat)} {scope : Scope} {y : Str} {pins : List (Addr × Obj)} {σ : St} {H : Hp} {s : Shared} {fp : List Addr}
end
end L2

set_option Elab.async false
set_option linter.all false
namespace L2
open PySem PySem.Spec PyProof.Rows
end L2

set_option Elab.async false
set_option linter.all false
set_option maxRecDepth 100000
set_option maxHeartbeats 4000000
namespace L2
open PySem PySem.Spec PyProof.Rows PySem.W
/-! the walk over a dict's keys, whatever they are: its entries es, its age ep -/
section
variable {prog : Program} {w : World} {A : Around} {E : Value → Shared → Prop} {s : Shared} {d it : Addr} {es : Array DictEntry} {ep i : Nat}
end
end L2

set_option Elab.async false
set_option linter.all false
set_option maxRecDepth 100000
set_option maxHeartbeats 4000000
namespace L2
open PySem PySem.Spec PyProof.Rows PySem.W
/-! a list that rises already, sorted -/
section
variable {prog : Program} {w : World} {A : Around} {E : Value → Shared → Prop} {s : Shared}
end
section
variable {X : Cx}
end
end L2

set_option Elab.async false
set_option linter.all false
set_option maxRecDepth 100000
set_option maxHeartbeats 4000000
namespace L2
open PySem PySem.Spec PyProof.Rows PySem.W
theorem range_bools_any : ∀ bs : List Bool, ((List.range bs.length).any fun i => bs.getD i false) = bs.any id
  | [] => rfl
  | b :: bs => by
    have ih := range_bools_any bs
    rw [List.length_cons, List.range_succ_eq_map, List.any_cons, List.any_map, List.any_cons, ← ih]
    rfl
theorem bt_any : bootBuiltins "any" = some (.builtin "any") := by decide +kernel
section
variable {X : Cx}
/-- any(a list of bools) -/
theorem kcall_any (K : PySem.W.Frag) (hc : X.calm = true) (hK : X.K = K := by rfl) : CallR X (.builtin "any") (fun xs H Q => ∃ (p : Addr) (bs : List Bool), xs = [.ref p] ∧ SqL K H p (bs.map V.bl) ∧ Q (.bl (bs.any id)) H) := by
  subst hK
  intro pins s σ H xs us Q I r h
  obtain ⟨p, bs, rfl, hq, q⟩ := h
  obtain ⟨u, rfl, ru⟩ := vals1 r
  cases ru
  obtain ⟨its, rv, pl, _⟩ := I.list hq
  have hl : s.heap.IsList p its.toArray := pl.isList
  have hlt : p < s.heap.objs.size := by obtain ⟨_, e, _⟩ := hl; exact Heap.lt_size e
  refine call_any_walk (wpAny_pyIter_list hl ⟨_, _, _, _, _, _, fun i => bs.getD i false, rfl, Walks.list (A := X.A.in1) (I.ok.hd hc) _ p (Nat.ne_of_lt hlt) its.toArray, ⟨⟨_, Heap.get?_push_size _ rfl, rfl, rfl⟩, hl.push _⟩, fun i v s' Q' E' hv hQ => ?_, fun h' tk hk => ⟨.bl _, H, I.kept (old_kept hk), rfl, ?_⟩⟩)
  · have hv' : its[i]? = some v := by simpa using hv
    rw [bools_at rv, List.getElem?_map] at hv'
    obtain ⟨b, hb, rfl⟩ := Option.map_eq_some_iff.mp hv'
    have e : bs.getD i false = b := by simp [List.getD, hb]
    have z : Q' (bs.getD i false) s' := hQ
    rw [e] at z
    exact wpAny_truthy_bool z
  · have e1 : its.toArray.size = bs.length := by
      have := rv.length
      rw [List.length_map] at this
      simp; omega
    rw [e1, range_bools_any bs]
    exact q
end
end L2

/-! alternating forms of whole-number vectors -/
namespace SX
abbrev VecI := Nat → Int
def expandV (f : List VecI → Int) (n : Nat) : List VecI → List VecI → Int
  | _, [] => 0
  | pre, v :: post => v n * f (pre ++ post) - expandV f n (pre ++ [v]) post
def Dfm : Nat → List VecI → Int
  | 0, [] => 1
  | 0, _ :: _ => 0
  | n + 1, vs => expandV (Dfm n) n [] vs
def lcv (a b : Int) (x y : VecI) : VecI := fun k => a * x k + b * y k
def LinF (f : List VecI → Int) : Prop := ∀ pre post a b x y, f (pre ++ lcv a b x y :: post) = a * f (pre ++ x :: post) + b * f (pre ++ y :: post)
def AltF (f : List VecI → Int) : Prop := ∀ pre x post, f (pre ++ x :: x :: post) = 0
/-- a form of vectors of n places -/
def ZerF (n : Nat) (f : List VecI → Int) : Prop := ∀ pre (z : VecI) post, (∀ k, k < n → z k = 0) → f (pre ++ z :: post) = 0
theorem lin1 {f : List VecI → Int} (h : LinF f) (n : Nat) (a b : Int) (x y : VecI) : ∀ post pre1 pre2, expandV f n (pre1 ++ lcv a b x y :: pre2) post = a * expandV f n (pre1 ++ x :: pre2) post + b * expandV f n (pre1 ++ y :: pre2) post
  | [], _, _ => by simp [expandV]
  | v :: post, p1, p2 => by
    have ih := lin1 h n a b x y post p1 (p2 ++ [v])
    have e := h p1 (p2 ++ post) a b x y
    simp only [expandV, List.append_assoc, List.cons_append] at ih e ⊢
    rw [ih, e]
    grind
theorem lin2 {f : List VecI → Int} (h : LinF f) (n : Nat) (a b : Int) (x y : VecI) (qs : List VecI) : ∀ ps pre, expandV f n pre (ps ++ lcv a b x y :: qs) = a * expandV f n pre (ps ++ x :: qs) + b * expandV f n pre (ps ++ y :: qs)
  | [], pre => by
    have e := lin1 h n a b x y qs pre []
    simp only [expandV, List.nil_append]
    rw [e]
    show (a * x n + b * y n) * _ - _ = _
    grind
  | w :: ps, pre => by
    have ih := lin2 h n a b x y qs ps (pre ++ [w])
    have e := h (pre ++ ps) qs a b x y
    simp only [expandV, List.append_assoc, List.cons_append] at ih e ⊢
    rw [ih, e]
    grind
theorem alt1 {f : List VecI → Int} (h : AltF f) (n : Nat) (x : VecI) : ∀ post pre1 pre2, expandV f n (pre1 ++ x :: x :: pre2) post = 0
  | [], _, _ => rfl
  | v :: post, p1, p2 => by
    have ih := alt1 h n x post p1 (p2 ++ [v])
    have e := h p1 x (p2 ++ post)
    simp only [expandV, List.append_assoc, List.cons_append] at ih e ⊢
    rw [ih, e]
    simp
theorem alt2 {f : List VecI → Int} (h : AltF f) (n : Nat) (x : VecI) (qs : List VecI) : ∀ ps pre, expandV f n pre (ps ++ x :: x :: qs) = 0
  | [], pre => by
    have e := alt1 h n x qs pre []
    simp only [expandV, List.nil_append, List.append_assoc, List.cons_append] at e ⊢
    rw [e]
    simp
  | w :: ps, pre => by
    have ih := alt2 h n x qs ps (pre ++ [w])
    have e := h (pre ++ ps) x qs
    simp only [expandV, List.append_assoc, List.cons_append] at ih e ⊢
    rw [ih, e]
    simp
theorem zer1 {f : List VecI → Int} {m : Nat} (h : ZerF m f) (n : Nat) (z : VecI) (hz : ∀ k, k < m → z k = 0) : ∀ post pre1 pre2, expandV f n (pre1 ++ z :: pre2) post = 0
  | [], _, _ => rfl
  | v :: post, p1, p2 => by
    have ih := zer1 h n z hz post p1 (p2 ++ [v])
    have e := h p1 z (p2 ++ post) hz
    simp only [expandV, List.append_assoc, List.cons_append] at ih e ⊢
    rw [ih, e]
    simp
theorem zer2 {f : List VecI → Int} {m : Nat} (h : ZerF m f) (z : VecI) (hz : ∀ k, k < m + 1 → z k = 0) (qs : List VecI) : ∀ ps pre, expandV f m pre (ps ++ z :: qs) = 0
  | [], pre => by
    have e := zer1 h m z (fun k hk => hz k (by omega)) qs pre []
    simp only [expandV, List.nil_append] at e ⊢
    rw [e, hz m (by omega)]
    simp
  | w :: ps, pre => by
    have ih := zer2 h z hz qs ps (pre ++ [w])
    have e := h (pre ++ ps) z qs (fun k hk => hz k (by omega))
    simp only [expandV, List.append_assoc, List.cons_append] at ih e ⊢
    rw [ih, e]
    simp
theorem D_lin : ∀ n, LinF (Dfm n)
  | 0 => fun pre post a b x y => by cases pre <;> simp [Dfm]
  | n + 1 => fun pre post a b x y => lin2 (D_lin n) n a b x y post pre []
theorem D_alt : ∀ n, AltF (Dfm n)
  | 0 => fun pre x post => by cases pre <;> simp [Dfm]
  | n + 1 => fun pre x post => alt2 (D_alt n) n x post pre []
theorem D_zer : ∀ n, ZerF n (Dfm n)
  | 0 => fun pre z post _ => by cases pre <;> simp [Dfm]
  | n + 1 => fun pre z post hz => zer2 (D_zer n) z hz post pre []
/-! the same by places -/
/-- B with v in place i -/
theorem set_eq {B : List VecI} {i : Nat} {v : VecI} (hi : i < B.length) : B.set i v = B.take i ++ v :: B.drop (i + 1) := by
  rw [List.set_eq_take_append_cons_drop, if_pos hi]
structure FormA (n : Nat) (f : List VecI → Int) : Prop where
  lin : ∀ (B : List VecI) (i : Nat) (a b : Int) (x y : VecI), i < B.length → f (B.set i (lcv a b x y)) = a * f (B.set i x) + b * f (B.set i y)
  alt : ∀ (B : List VecI) (i j : Nat) (x : VecI), i < j → B[i]? = some x → B[j]? = some x → f B = 0
  zer : ∀ (B : List VecI) (i : Nat) (z : VecI), i < B.length → (∀ k, k < n → z k = 0) → f (B.set i z) = 0
theorem swap_adj {f : List VecI → Int} (l : LinF f) (a : AltF f) (pre post : List VecI) (x y : VecI) : f (pre ++ x :: y :: post) = - f (pre ++ y :: x :: post) := by
  have h := a pre (lcv 1 1 x y) post
  have e1 := l pre (lcv 1 1 x y :: post) 1 1 x y
  have e2 := l (pre ++ [x]) post 1 1 x y
  have e3 := l (pre ++ [y]) post 1 1 x y
  simp only [List.append_assoc, List.cons_append, List.nil_append] at e2 e3
  rw [e1, e2, e3, a pre x post, a pre y post] at h
  grind
theorem alt_far {f : List VecI → Int} (l : LinF f) (a : AltF f) (x : VecI) (post : List VecI) : ∀ mid pre, f (pre ++ x :: (mid ++ x :: post)) = 0
  | [], pre => a pre x post
  | m :: mid, pre => by
    have ih := alt_far l a x post mid (pre ++ [m])
    simp only [List.append_assoc, List.cons_append, List.nil_append] at ih ⊢
    rw [swap_adj l a, ih]
    rfl
theorem formV {n : Nat} {f : List VecI → Int} (l : LinF f) (a : AltF f) (z : ZerF n f) : FormA n f where
  lin := fun B i p q x y hi => by rw [set_eq hi, set_eq hi, set_eq hi]; exact l ..
  alt := fun B i j x hij h1 h2 => by
    have hi := (List.getElem?_eq_some_iff.mp h1).1
    have hj := (List.getElem?_eq_some_iff.mp h2).1
    have e1 : B = B.take i ++ x :: B.drop (i + 1) := by
      rw [← (List.getElem?_eq_some_iff.mp h1).2]
      simp
    have h3 : (B.drop (i + 1))[j - (i + 1)]? = some x := by
      rw [List.getElem?_drop, show i + 1 + (j - (i + 1)) = j by omega]
      exact h2
    have e2 : B.drop (i + 1) = (B.drop (i + 1)).take (j - (i + 1)) ++ x :: (B.drop (i + 1)).drop (j - (i + 1) + 1) := by
      generalize B.drop (i + 1) = C at h3
      rw [← (List.getElem?_eq_some_iff.mp h3).2]
      simp
    rw [e2] at e1
    rw [e1]
    exact alt_far l a x _ _ _
  zer := fun B i w hi hw => by rw [set_eq hi]; exact z _ _ _ hw
theorem D_form (n : Nat) : FormA n (Dfm n) := formV (D_lin n) (D_alt n) (D_zer n)
end SX

/-! bases, and one changed into the next -/
namespace SX
def smv : Nat → (Nat → Int) → Int
  | 0, _ => 0
  | n + 1, g => smv n g + g n
theorem sm_congr {g h : Nat → Int} : ∀ {n : Nat}, (∀ i, i < n → g i = h i) → smv n g = smv n h
  | 0, _ => rfl
  | n + 1, e => by
    show smv n g + g n = smv n h + h n
    rw [sm_congr fun i hi => e i (by omega), e n (by omega)]
theorem sm_lc (a b : Int) (g h : Nat → Int) : ∀ n, smv n (fun i => a * g i + b * h i) = a * smv n g + b * smv n h
  | 0 => by simp [smv]
  | n + 1 => by
    show smv n _ + (a * g n + b * h n) = a * (smv n g + g n) + b * (smv n h + h n)
    rw [sm_lc a b g h n]
    grind
theorem sm_zero : ∀ {g : Nat → Int} {n : Nat}, (∀ i, i < n → g i = 0) → smv n g = 0
  | _, 0, _ => rfl
  | g, n + 1, e => by
    show smv n g + g n = 0
    rw [sm_zero fun i hi => e i (by omega), e n (by omega)]
    rfl
theorem sm_one {g : Nat → Int} {r : Nat} : ∀ {n : Nat}, r < n → (∀ i, i < n → i ≠ r → g i = 0) → smv n g = g r
  | 0, h, _ => absurd h (Nat.not_lt_zero _)
  | n + 1, h, e => by
    show smv n g + g n = g r
    by_cases z : n = r
    · rw [sm_zero fun i hi => e i (by omega) (by omega), z]
      simp
    · rw [sm_one (by omega) fun i hi ne => e i (by omega) ne, e n (by omega) z]
      simp
def atB (B : List VecI) (i : Nat) : VecI := B.getD i fun _ => 0
theorem at_get {B : List VecI} {i : Nat} (h : i < B.length) : B[i]? = some (atB B i) := by
  unfold atB
  rw [List.getD_eq_getElem?_getD, List.getElem?_eq_getElem h]
  rfl
theorem at_set {B : List VecI} {i j : Nat} {v : VecI} (h : i < B.length) : atB (B.set i v) j = if j = i then v else atB B j := by
  unfold atB
  rw [List.getD_eq_getElem?_getD, List.getD_eq_getElem?_getD, List.getElem?_set]
  by_cases e : i = j
  · rw [if_pos e, if_pos (by omega), if_pos (by omega)]
    rfl
  · rw [if_neg e, if_neg (by omega)]
theorem set_at {B : List VecI} {i : Nat} (h : i < B.length) : B.set i (atB B i) = B := by
  have e := at_get h
  rw [List.getElem?_eq_getElem h] at e
  rw [← Option.some.inj e]
  exact List.set_getElem_self h
theorem FormA.same {n : Nat} {f : List VecI → Int} (F : FormA n f) {B : List VecI} {i j : Nat} {x : VecI} (ij : i ≠ j) (h1 : B[i]? = some x) (h2 : B[j]? = some x) : f B = 0 := by
  rcases Nat.lt_or_ge i j with h | h
  · exact F.alt B i j x h h1 h2
  · exact F.alt B j i x (by omega) h2 h1
theorem FormA.other {n : Nat} {f : List VecI → Int} (F : FormA n f) {B : List VecI} {i k : Nat} (hi : i < B.length) (hk : k < B.length) (ne : k ≠ i) : f (B.set i (atB B k)) = 0 := by
  refine F.same (i := i) (j := k) (x := atB B k) (by omega) ?_ ?_
  · rw [List.getElem?_set_self hi]
  · rw [List.getElem?_set_ne (by omega)]
    exact at_get hk
theorem FormA.swap {n : Nat} {f : List VecI → Int} (F : FormA n f) {B : List VecI} {i r : Nat} (hi : i < B.length) (hr : r < B.length) (ne : i ≠ r) (a b : VecI) : f ((B.set r a).set i b) = - f ((B.set r b).set i a) := by
  have both : ∀ x : VecI, f ((B.set r x).set i x) = 0 := fun x => by
    refine F.same (i := i) (j := r) (x := x) ne ?_ ?_
    · rw [List.getElem?_set_self (by rw [List.length_set]; exact hi)]
    · rw [List.getElem?_set_ne ne, List.getElem?_set_self hr]
  have h := both (lcv 1 1 a b)
  rw [F.lin _ i 1 1 a b (by rw [List.length_set]; exact hi)] at h
  rw [List.set_comm _ _ (Ne.symm ne), List.set_comm _ _ (Ne.symm ne)] at h
  rw [F.lin _ r 1 1 a b (by rw [List.length_set]; exact hr), F.lin _ r 1 1 a b (by rw [List.length_set]; exact hr)] at h
  have h1 := both a
  have h2 := both b
  rw [List.set_comm _ _ (Ne.symm ne)] at h1 h2
  rw [List.set_comm _ _ (Ne.symm ne), List.set_comm (l := B) _ _ (Ne.symm ne)]
  grind
/-- n vectors that give every vector -/
structure BasV (n : Nat) (f : List VecI → Int) (B : List VecI) : Prop where
  len : B.length = n
  pos : 0 < f B
  rep : ∀ (v : VecI) (k : Nat), k < n → f B * v k = smv n fun i => f (B.set i v) * atB B i k
/-- what a linear map does is told by what it does to the n vectors -/
theorem BasV.zero {n : Nat} {f : List VecI → Int} {B : List VecI} (h : BasV n f B) (G : VecI → Int) (gl : ∀ a b x y, G (lcv a b x y) = a * G x + b * G y) (gz : ∀ z : VecI, (∀ k, k < n → z k = 0) → G z = 0) (gb : ∀ i, i < n → G (atB B i) = 0) (v : VecI) : G v = 0 := by
  have step : ∀ m, m ≤ n → G (fun k => smv m fun i => f (B.set i v) * atB B i k) = 0 := fun m => by
    induction m with
    | zero => exact fun _ => gz _ fun k _ => rfl
    | succ m ih =>
      intro hm
      have e : (fun k => smv (m + 1) fun i => f (B.set i v) * atB B i k) = lcv 1 (f (B.set m v)) (fun k => smv m fun i => f (B.set i v) * atB B i k) (atB B m) := by
        funext k
        show smv m _ + _ = 1 * _ + _
        rw [Int.one_mul]
      rw [e, gl, ih (by omega), gb m (by omega)]
      simp
  have e : lcv (f B) 0 v v = lcv 1 1 (fun k => smv n fun i => f (B.set i v) * atB B i k) (fun k => f B * v k - smv n fun i => f (B.set i v) * atB B i k) := by
    funext k
    show f B * v k + 0 * v k = 1 * _ + 1 * _
    grind
  have h1 := gl (f B) 0 v v
  rw [e, gl, step n (Nat.le_refl n), gz _ (fun k hk => by rw [h.rep v k hk]; simp)] at h1
  have h2 : f B * G v = 0 := by grind
  rcases Int.mul_eq_zero.mp h2 with z | z
  · exact absurd z (by have := h.pos; omega)
  · exact z
/-- the exchange -/
theorem BasV.plu {n : Nat} {f : List VecI → Int} {B : List VecI} (F : FormA n f) (h : BasV n f B) {r i : Nat} (hr : r < n) (hi : i < n) (ne : i ≠ r) (a c : VecI) : f B * f ((B.set r a).set i c) = f (B.set r a) * f (B.set i c) - f (B.set i a) * f (B.set r c) := by
  have hl := h.len
  have e := h.zero (fun c => f B * f ((B.set r a).set i c) - f (B.set r a) * f (B.set i c) + f (B.set i a) * f (B.set r c)) (fun p q x y => by
    try dsimp only
    rw [F.lin _ i p q x y (by rw [List.length_set]; omega), F.lin _ i p q x y (by omega), F.lin _ r p q x y (by omega)]
    grind) (fun z hz => by
    try dsimp only
    rw [F.zer _ i z (by rw [List.length_set]; omega) hz, F.zer _ i z (by omega) hz, F.zer _ r z (by omega) hz]
    simp) (fun k hk => by
    try dsimp only
    by_cases k1 : k = i
    · rw [k1, F.other (i := r) (by omega) (by omega) ne, set_at (by omega)]
      have : ((B.set r a).set i (atB B i)) = B.set r a := by
        have e2 : atB (B.set r a) i = atB B i := by rw [at_set (by omega), if_neg ne]
        rw [← e2]
        exact set_at (by rw [List.length_set]; omega)
      rw [this]
      grind
    · by_cases k2 : k = r
      · rw [k2, F.other (i := i) (by omega) (by omega) (Ne.symm ne), F.swap (by omega) (by omega) ne, set_at (by omega)]
        grind
      · rw [F.other (i := i) (by omega) (by omega) k1, F.other (i := r) (by omega) (by omega) k2]
        have : f ((B.set r a).set i (atB B k)) = 0 := by
          have e2 : atB (B.set r a) k = atB B k := by rw [at_set (by omega), if_neg k2]
          rw [← e2]
          exact F.other (by rw [List.length_set]; omega) (by rw [List.length_set]; omega) k1
        rw [this]
        simp) c
  try dsimp only at e
  omega
theorem BasV.next {n : Nat} {f : List VecI → Int} {B : List VecI} (F : FormA n f) (h : BasV n f B) {r : Nat} (hr : r < n) (a : VecI) (hp : 0 < f (B.set r a)) : BasV n f (B.set r a) := by
  have hl := h.len
  refine ⟨by rw [List.length_set]; exact hl, hp, fun v k hk => ?_⟩
  have d := h.pos
  have e : ∀ i, i < n → f B * (f ((B.set r a).set i v) * atB (B.set r a) i k) = (f (B.set r a) * (f (B.set i v) * atB B i k) + - f (B.set r v) * (f (B.set i a) * atB B i k)) + (if i = r then f B * (f (B.set r v) * a k) else 0) := fun i hi => by
    rw [at_set (by omega)]
    by_cases z : i = r
    · rw [if_pos z, if_pos z, z, List.set_set]
      grind
    · rw [if_neg z, if_neg z, ← Int.mul_assoc, h.plu F hr hi z]
      grind
  have s1 := sm_lc (f B) 0 (fun i => f ((B.set r a).set i v) * atB (B.set r a) i k) (fun _ => 0) n
  have s2 := sm_lc (f (B.set r a)) (- f (B.set r v)) (fun i => f (B.set i v) * atB B i k) (fun i => f (B.set i a) * atB B i k) n
  have s3 := sm_lc 1 1 (fun i => f (B.set r a) * (f (B.set i v) * atB B i k) + - f (B.set r v) * (f (B.set i a) * atB B i k)) (fun i => if i = r then f B * (f (B.set r v) * a k) else 0) n
  have s4 := sm_one (g := fun i => if i = r then f B * (f (B.set r v) * a k) else 0) hr (fun i _ ne => by rw [if_neg ne])
  try dsimp only at s4
  rw [if_pos rfl] at s4
  have s5 : smv n (fun i => f B * (f ((B.set r a).set i v) * atB (B.set r a) i k) + 0 * 0) = smv n (fun i => 1 * (f (B.set r a) * (f (B.set i v) * atB B i k) + - f (B.set r v) * (f (B.set i a) * atB B i k)) + 1 * (if i = r then f B * (f (B.set r v) * a k) else 0)) := sm_congr fun i hi => by rw [e i hi]; simp
  rw [s1, s3, s2, s4, ← h.rep v k hk, ← h.rep a k hk] at s5
  refine Int.eq_of_mul_eq_mul_left (show f B ≠ 0 by omega) ?_
  grind
end SX

/-! the first basis -/
namespace SX
def unv (i : Nat) : VecI := fun k => if k = i then 1 else 0
def Uni (n : Nat) : List VecI := (List.range n).map unv
theorem I_len (n : Nat) : (Uni n).length = n := by unfold Uni; rw [List.length_map, List.length_range]
theorem I_at {n i : Nat} (h : i < n) : atB (Uni n) i = unv i := by
  unfold atB Uni
  rw [List.getD_eq_getElem?_getD, List.getElem?_map, List.getElem?_range h]
  rfl
theorem expand_last {f : List VecI → Int} {n : Nat} (w : VecI) : ∀ (vs pre : List VecI), (∀ v ∈ vs, v n = 0) → expandV f n pre (vs ++ [w]) * expandV f n pre (vs ++ [w]) = (w n * f (pre ++ vs)) * (w n * f (pre ++ vs))
  | [], pre, _ => by simp [expandV]
  | v :: vs, pre, h => by
    have ih := expand_last (f := f) w vs (pre ++ [v]) fun u hu => h u (List.mem_cons_of_mem _ hu)
    have e := h v List.mem_cons_self
    simp only [expandV, List.append_assoc, List.cons_append, List.nil_append] at ih ⊢
    rw [e]
    grind
theorem D_unit : ∀ n, Dfm n (Uni n) * Dfm n (Uni n) = 1
  | 0 => rfl
  | n + 1 => by
    have e : Uni (n + 1) = Uni n ++ [unv n] := by
      unfold Uni
      rw [List.range_succ, List.map_append]
      rfl
    have h := expand_last (f := Dfm n) (n := n) (unv n) (Uni n) [] fun v hv => by
      unfold Uni at hv
      obtain ⟨i, hi, rfl⟩ := List.mem_map.mp hv
      have := List.mem_range.mp hi
      show (if n = i then 1 else 0 : Int) = 0
      rw [if_neg (by omega)]
    show expandV (Dfm n) n [] (Uni (n + 1)) * expandV (Dfm n) n [] (Uni (n + 1)) = 1
    rw [e, h, show unv n n = 1 by unfold unv; rw [if_pos rfl]]
    have := D_unit n
    simp only [List.nil_append]
    grind
/-- the form that is 1 at the units -/
def fmv (n : Nat) (B : List VecI) : Int := Dfm n (Uni n) * Dfm n B
theorem fm_form (n : Nat) : FormA n (fmv n) where
  lin := fun B i a b x y hi => by
    unfold fmv
    rw [(D_form n).lin B i a b x y hi]
    grind
  alt := fun B i j x h a b => by
    unfold fmv
    rw [(D_form n).alt B i j x h a b]
    simp
  zer := fun B i z hi hz => by
    unfold fmv
    rw [(D_form n).zer B i z hi hz]
    simp
theorem fm_unit (n : Nat) : fmv n (Uni n) = 1 := D_unit n
theorem fm_at {n i : Nat} (hi : i < n) (v : VecI) : fmv n ((Uni n).set i v) = v i := by
  have hl := I_len n
  have F := fm_form n
  have part : ∀ m, m ≤ n → fmv n ((Uni n).set i (fun k => if k < m then v k else 0)) = if i < m then v i else 0 := fun m => by
    induction m with
    | zero =>
      intro _
      rw [F.zer _ i _ (by omega) fun k _ => by rw [if_neg (Nat.not_lt_zero _)], if_neg (Nat.not_lt_zero _)]
    | succ m ih =>
      intro hm
      have e : (fun k => if k < m + 1 then v k else 0 : VecI) = lcv 1 (v m) (fun k => if k < m then v k else 0) (unv m) := by
        funext k
        show (if k < m + 1 then v k else 0 : Int) = 1 * (if k < m then v k else 0) + v m * (if k = m then 1 else 0)
        by_cases h1 : k < m
        · rw [if_pos (by omega), if_pos h1, if_neg (by omega)]
          simp
        · by_cases h2 : k = m
          · rw [if_pos (by omega), if_neg h1, if_pos h2, h2]
            simp
          · rw [if_neg (by omega), if_neg h1, if_neg h2]
            simp
      rw [e, F.lin _ i _ _ _ _ (by omega), ih (by omega)]
      by_cases z : m = i
      · rw [if_neg (by omega), if_pos (by omega), z, ← I_at hi, set_at (by omega), fm_unit]
        simp
      · rw [← I_at (show m < n by omega), F.other (by omega) (by omega) z]
        by_cases h1 : i < m
        · rw [if_pos h1, if_pos (by omega)]
          simp
        · rw [if_neg h1, if_neg (by omega)]
          simp
  have e : v = lcv 1 1 (fun k => if k < n then v k else 0) (fun k => if k < n then 0 else v k) := by
    funext k
    show v k = 1 * (if k < n then v k else 0) + 1 * (if k < n then 0 else v k)
    by_cases h : k < n
    · rw [if_pos h, if_pos h]
      simp
    · rw [if_neg h, if_neg h]
      simp
  have h2 := F.lin (Uni n) i 1 1 (fun k => if k < n then v k else 0) (fun k => if k < n then 0 else v k) (by omega)
  have h3 := F.zer (Uni n) i (fun k => if k < n then 0 else v k) (by omega) fun k hk => by rw [if_pos hk]
  rw [← e, part n (Nat.le_refl n), if_pos hi, h3] at h2
  rw [h2]
  simp
theorem I_bs (n : Nat) : BasV n (fmv n) (Uni n) where
  len := I_len n
  pos := by rw [fm_unit]; decide
  rep := fun v k hk => by
    rw [fm_unit, sm_one (r := k) hk]
    · rw [fm_at hk, I_at hk]
      unfold unv
      rw [if_pos rfl]
      simp
    · intro i hi ne
      rw [I_at hi]
      unfold unv
      rw [if_neg (Ne.symm ne)]
      simp
/-- a linear map, told by what it does to a basis -/
theorem BasV.map {n : Nat} {f : List VecI → Int} {B : List VecI} (F : FormA n f) (h : BasV n f B) (G : VecI → Int) (gl : ∀ a b x y, G (lcv a b x y) = a * G x + b * G y) (gz : ∀ z : VecI, (∀ k, k < n → z k = 0) → G z = 0) (v : VecI) : f B * G v = smv n fun i => f (B.set i v) * G (atB B i) := by
  have hl := h.len
  have e := h.zero (fun v => f B * G v - smv n fun i => f (B.set i v) * G (atB B i)) (fun a b x y => by
    rw [gl]
    have s := sm_lc a b (fun i => f (B.set i x) * G (atB B i)) (fun i => f (B.set i y) * G (atB B i)) n
    have c : smv n (fun i => f (B.set i (lcv a b x y)) * G (atB B i)) = smv n (fun i => a * (f (B.set i x) * G (atB B i)) + b * (f (B.set i y) * G (atB B i))) := sm_congr fun i hi => by
      rw [F.lin _ i a b x y (by omega)]
      grind
    rw [c, s]
    grind) (fun z hz => by
    rw [gz z hz, sm_zero fun i hi => by rw [F.zer _ i z (by omega) hz]; simp]
    simp) (fun k hk => by
    rw [sm_one (r := k) hk fun i hi ne => by rw [F.other (by omega) (by omega) (Ne.symm ne)]; simp, set_at (by omega)]
    grind) v
  omega
end SX

/-! tables of a search, and Bland's choice -/
namespace SX
def Bvv (C : Nat → VecI) (n : Nat) (bs : List Nat) : List VecI := bs.map C ++ [unv n]
def Tbl (C : Nat → VecI) (n : Nat) (bs : List Nat) (i : Nat) (v : VecI) : Int := fmv (n + 1) ((Bvv C n bs).set i v)
def scl (C : Nat → VecI) (n : Nat) (bs : List Nat) : Int := fmv (n + 1) (Bvv C n bs)
structure OkT (C : Nat → VecI) (n : Nat) (w : VecI) (bs : List Nat) : Prop where
  len : bs.length = n
  bas : BasV (n + 1) (fmv (n + 1)) (Bvv C n bs)
  nn : ∀ i, i < n → 0 ≤ Tbl C n bs i w
structure PivT (C : Nat → VecI) (n : Nat) (w : VecI) (bs : List Nat) (r s : Nat) : Prop where
  lt : r < n
  neg : Tbl C n bs n (C s) < 0
  fst : ∀ j, j < s → 0 ≤ Tbl C n bs n (C j)
  pos : 0 < Tbl C n bs r (C s)
  low : ∀ i, i < n → 0 < Tbl C n bs i (C s) → Tbl C n bs r w * Tbl C n bs i (C s) < Tbl C n bs i w * Tbl C n bs r (C s) ∨ (Tbl C n bs r w * Tbl C n bs i (C s) = Tbl C n bs i w * Tbl C n bs r (C s) ∧ bs.getD r 0 ≤ bs.getD i 0)
section
variable {C : Nat → VecI} {n : Nat} {w : VecI} {bs : List Nat}
theorem Bv_at (h : bs.length = n) {i : Nat} (hi : i < n) : atB (Bvv C n bs) i = C (bs.getD i 0) := by
  unfold atB Bvv
  rw [List.getD_eq_getElem?_getD, List.getElem?_append_left (by rw [List.length_map]; omega), List.getElem?_map, List.getD_eq_getElem?_getD, List.getElem?_eq_getElem (by omega)]
  rfl
theorem Bv_last (h : bs.length = n) : atB (Bvv C n bs) n = unv n := by
  unfold atB Bvv
  rw [List.getD_eq_getElem?_getD, List.getElem?_append_right (by rw [List.length_map]; omega), List.length_map, h, Nat.sub_self]
  rfl
theorem Bv_set (h : bs.length = n) {r s : Nat} (hr : r < n) : Bvv C n (bs.set r s) = (Bvv C n bs).set r (C s) := by
  unfold Bvv
  rw [List.map_set, List.set_append_left _ _ (by rw [List.length_map]; omega)]
theorem OkT.basic (o : OkT C n w bs) {i : Nat} (hi : i < n) {k : Nat} (hk : k ≤ n) (ne : k ≠ i) : Tbl C n bs k (C (bs.getD i 0)) = 0 := by
  unfold Tbl
  rw [← Bv_at (C := C) o.len hi]
  have := o.bas.len
  exact (fm_form _).other (by omega) (by omega) (Ne.symm ne)
theorem OkT.last (o : OkT C n w bs) : Tbl C n bs n (unv n) = scl C n bs := by
  unfold Tbl scl
  have e := set_at (B := Bvv C n bs) (i := n) (by have := o.bas.len; omega)
  rw [Bv_last o.len] at e
  rw [e]
theorem T_lin (o : OkT C n w bs) {i : Nat} (hi : i ≤ n) (a b : Int) (x y : VecI) : Tbl C n bs i (lcv a b x y) = a * Tbl C n bs i x + b * Tbl C n bs i y := (fm_form _).lin _ _ _ _ _ _ (by have := o.bas.len; omega)
theorem T_zer (o : OkT C n w bs) {i : Nat} (hi : i ≤ n) (z : VecI) (h : ∀ k, k < n + 1 → z k = 0) : Tbl C n bs i z = 0 := (fm_form _).zer _ _ _ (by have := o.bas.len; omega) h
theorem sc_next (h : bs.length = n) {r s : Nat} (hr : r < n) : scl C n (bs.set r s) = Tbl C n bs r (C s) := by
  unfold scl Tbl
  rw [Bv_set h hr]
theorem T_row (h : bs.length = n) {r s : Nat} (hr : r < n) (v : VecI) : Tbl C n (bs.set r s) r v = Tbl C n bs r v := by
  unfold Tbl
  rw [Bv_set h hr, List.set_set]
theorem T_next (o : OkT C n w bs) {r s i : Nat} (hr : r < n) (hi : i ≤ n) (ne : i ≠ r) (v : VecI) : scl C n bs * Tbl C n (bs.set r s) i v = Tbl C n bs r (C s) * Tbl C n bs i v - Tbl C n bs i (C s) * Tbl C n bs r v := by
  unfold Tbl scl
  rw [Bv_set o.len hr]
  exact o.bas.plu (fm_form _) (by omega) (by omega) ne _ _
theorem OkT.next (o : OkT C n w bs) {r s : Nat} (p : PivT C n w bs r s) : OkT C n w (bs.set r s) where
  len := by rw [List.length_set]; exact o.len
  bas := by
    rw [Bv_set o.len p.lt]
    exact o.bas.next (fm_form _) (by have := p.lt; omega) _ p.pos
  nn := fun i hi => by
    by_cases e : i = r
    · rw [e, T_row o.len p.lt]
      exact o.nn r p.lt
    · have h := T_next o p.lt (Nat.le_of_lt hi) e (s := s) w
      have d : 0 < scl C n bs := o.bas.pos
      have hp := p.pos
      have h1 := o.nn i hi
      have h2 := o.nn r p.lt
      have h3 : 0 ≤ Tbl C n bs r (C s) * Tbl C n bs i w - Tbl C n bs i (C s) * Tbl C n bs r w := by
        by_cases z : 0 < Tbl C n bs i (C s)
        · rcases p.low i hi z with k | k
          · have := Int.mul_comm (Tbl C n bs r (C s)) (Tbl C n bs i w)
            have := Int.mul_comm (Tbl C n bs i (C s)) (Tbl C n bs r w)
            omega
          · have := Int.mul_comm (Tbl C n bs r (C s)) (Tbl C n bs i w)
            have := Int.mul_comm (Tbl C n bs i (C s)) (Tbl C n bs r w)
            omega
        · have a1 := Int.mul_nonneg (Int.le_of_lt hp) h1
          have a2 := Int.mul_nonneg (show 0 ≤ - Tbl C n bs i (C s) by omega) h2
          rw [Int.neg_mul] at a2
          omega
      rw [← h] at h3
      exact Int.nonneg_of_mul_nonneg_right h3 d
theorem sm_pos {g : Nat → Int} : ∀ {n : Nat}, 0 < smv n g → ∃ i, i < n ∧ 0 < g i
  | 0, h => absurd h (Int.lt_irrefl 0)
  | n + 1, h => by
    by_cases z : 0 < g n
    · exact ⟨n, by omega, z⟩
    · have h' : 0 < smv n g + g n := h
      obtain ⟨i, hi, hg⟩ := sm_pos (n := n) (g := g) (by omega)
      exact ⟨i, by omega, hg⟩
theorem OkT.unlike (o : OkT C n w bs) {i j : Nat} (hi : i < n) (hj : j < n) (e : bs.getD i 0 = bs.getD j 0) : i = j := by
  refine Classical.byContradiction fun ne => ?_
  have hl := o.bas.len
  have z := (fm_form (n + 1)).same (B := Bvv C n bs) ne (at_get (by omega)) (by rw [Bv_at o.len hi, e, ← Bv_at (C := C) o.len hj]; exact at_get (by omega))
  have := o.bas.pos
  omega
/-- t cannot go out at one and come in at another of two tables between which only what is not beyond t changed, and was 0 -/
theorem blandV {bs' : List Nat} (o : OkT C n w bs) (o' : OkT C n w bs') {r s r' : Nat} (p : PivT C n w bs r s) (p' : PivT C n w bs' r' (bs.getD r 0)) (hs : s ≤ bs.getD r 0) (h0 : Tbl C n bs r w = 0)
    (hz : ∀ i, i < n → bs.getD i 0 ∉ bs' → bs.getD i 0 ≤ bs.getD r 0 ∧ Tbl C n bs i w = 0) : False := by
  have hm := o.bas.map (fm_form _) (fun v => Tbl C n bs' n v) (fun a b x y => T_lin o' (Nat.le_refl n) a b x y) (fun z h => T_zer o' (Nat.le_refl n) z h) (C s)
  have e1 : smv (n + 1) (fun i => fmv (n + 1) ((Bvv C n bs).set i (C s)) * Tbl C n bs' n (atB (Bvv C n bs) i)) = smv n (fun i => Tbl C n bs i (C s) * Tbl C n bs' n (C (bs.getD i 0))) + Tbl C n bs n (C s) * scl C n bs' := by
    show smv n _ + _ * Tbl C n bs' n (atB (Bvv C n bs) n) = _
    rw [Bv_last o.len, o'.last, sm_congr fun i hi => by rw [Bv_at o.len hi]]
    rfl
  rw [e1] at hm
  have d : 0 < scl C n bs := o.bas.pos
  have d' : 0 < scl C n bs' := o'.bas.pos
  have ne : s ≠ bs.getD r 0 := fun z => by
    have h1 := p.neg
    rw [z, o.basic p.lt (Nat.le_refl n) (by have := p.lt; omega)] at h1
    omega
  have c1 := p'.fst s (by omega)
  have c2 := Int.mul_nonneg (Int.le_of_lt d) c1
  have c3 := Int.mul_pos (show 0 < - Tbl C n bs n (C s) by have := p.neg; omega) d'
  rw [Int.neg_mul] at c3
  have hm' : scl C n bs * Tbl C n bs' n (C s) = smv n (fun i => Tbl C n bs i (C s) * Tbl C n bs' n (C (bs.getD i 0))) + Tbl C n bs n (C s) * scl C n bs' := hm
  obtain ⟨i, hi, hg⟩ := sm_pos (n := n) (g := fun i => Tbl C n bs i (C s) * Tbl C n bs' n (C (bs.getD i 0))) (by omega)
  have nin : bs.getD i 0 ∉ bs' := fun hin => by
    obtain ⟨j, hj⟩ := List.mem_iff_getElem?.mp hin
    have hj2 := (List.getElem?_eq_some_iff.mp hj).1
    have ej : bs'.getD j 0 = bs.getD i 0 := by rw [List.getD_eq_getElem?_getD, hj]; rfl
    have := o'.basic (i := j) (by have := o'.len; omega) (Nat.le_refl n) (by have := o'.len; omega)
    rw [ej] at this
    rw [this] at hg
    simp at hg
  obtain ⟨le, z⟩ := hz i hi nin
  by_cases er : i = r
  · rw [er] at hg
    have a1 := Int.mul_pos p.pos (show 0 < - Tbl C n bs' n (C (bs.getD r 0)) by have := p'.neg; omega)
    rw [Int.mul_neg] at a1
    omega
  · have ne2 : bs.getD i 0 ≠ bs.getD r 0 := fun e => er (o.unlike hi p.lt e)
    have g0 := p'.fst (bs.getD i 0) (by omega)
    have t0 : 0 < Tbl C n bs i (C s) := by
      refine Classical.byContradiction fun hn => ?_
      have a1 := Int.mul_nonneg (show 0 ≤ - Tbl C n bs i (C s) by omega) g0
      rw [Int.neg_mul] at a1
      omega
    rcases p.low i hi t0 with k | k
    · rw [h0, z] at k
      simp at k
    · omega
end
end SX

/-! a search comes to an end -/
namespace SX
structure RunT (C : Nat → VecI) (n : Nat) (w : VecI) (st : Nat → List Nat) (lv en : Nat → Nat) (L : Nat) : Prop where
  ok0 : OkT C n w (st 0)
  piv : ∀ t, t < L → PivT C n w (st t) (lv t) (en t)
  nxt : ∀ t, t < L → st (t + 1) = (st t).set (lv t) (en t)
section
variable {C : Nat → VecI} {n : Nat} {w : VecI} {st : Nat → List Nat} {lv en : Nat → Nat} {L : Nat}
theorem RunT.ok (R : RunT C n w st lv en L) : ∀ t, t ≤ L → OkT C n w (st t)
  | 0, _ => R.ok0
  | t + 1, h => by
    rw [R.nxt t (by omega)]
    exact (R.ok t (by omega)).next (R.piv t (by omega))
abbrev outV (st : Nat → List Nat) (lv : Nat → Nat) (t : Nat) : Nat := (st t).getD (lv t) 0
theorem mem_set {bs : List Nat} {r s v : Nat} (h1 : v ≠ s) (h2 : v ≠ bs.getD r 0) : v ∈ bs ↔ v ∈ bs.set r s := by
  constructor
  · intro h
    obtain ⟨i, hi⟩ := List.mem_iff_getElem?.mp h
    refine List.mem_iff_getElem?.mpr ⟨i, ?_⟩
    rw [List.getElem?_set_ne]
    · exact hi
    · intro z
      apply h2
      rw [List.getD_eq_getElem?_getD, z, hi]
      rfl
  · intro h
    obtain ⟨i, hi⟩ := List.mem_iff_getElem?.mp h
    by_cases z : r = i
    · rw [z] at hi
      have hl := (List.getElem?_eq_some_iff.mp hi).1
      rw [List.length_set] at hl
      rw [List.getElem?_set_self hl] at hi
      exact absurd (Option.some.inj hi).symm h1
    · rw [List.getElem?_set_ne z] at hi
      exact List.mem_iff_getElem?.mpr ⟨i, hi⟩
def ZrV (C : Nat → VecI) (n : Nat) (w : VecI) (bs : List Nat) (v : Nat) : Prop := ∀ i, i < n → bs.getD i 0 = v → Tbl C n bs i w = 0
theorem getD_set {bs : List Nat} {r s i : Nat} (h : r < bs.length) : (bs.set r s).getD i 0 = if i = r then s else bs.getD i 0 := by
  rw [List.getD_eq_getElem?_getD, List.getD_eq_getElem?_getD, List.getElem?_set]
  by_cases e : r = i
  · rw [if_pos e, if_pos h, if_pos e.symm]
    rfl
  · rw [if_neg e, if_neg (Ne.symm e)]
theorem Zr_step {bs : List Nat} (o : OkT C n w bs) {r s : Nat} (p : PivT C n w bs r s) (h0 : Tbl C n bs r w = 0) (v : Nat) : ZrV C n w bs v ↔ ZrV C n w (bs.set r s) v := by
  have hl := o.len
  have hr := p.lt
  have d : 0 < scl C n bs := o.bas.pos
  have key : ∀ i, i < n → i ≠ r → (Tbl C n bs i w = 0 ↔ Tbl C n (bs.set r s) i w = 0) := fun i hi ne => by
    have e := T_next o p.lt (Nat.le_of_lt hi) ne (s := s) w
    rw [h0] at e
    constructor
    · intro z
      rw [z] at e
      have e2 : scl C n bs * Tbl C n (bs.set r s) i w = 0 := by rw [e]; simp
      rcases Int.mul_eq_zero.mp e2 with k | k
      · omega
      · exact k
    · intro z
      rw [z] at e
      have e2 : Tbl C n bs r (C s) * Tbl C n bs i w = 0 := by simp at e; omega
      rcases Int.mul_eq_zero.mp e2 with k | k
      · have := p.pos
        omega
      · exact k
  constructor
  · intro h i hi e
    rw [getD_set (by omega)] at e
    by_cases z : i = r
    · rw [z, T_row hl hr]
      exact h0
    · rw [if_neg z] at e
      exact (key i hi z).mp (h i hi e)
  · intro h i hi e
    by_cases z : i = r
    · rw [z]
      exact h0
    · exact (key i hi z).mpr (h i hi (by rw [getD_set (by omega), if_neg z]; exact e))
/-- from a to b nothing grows, and only what is not beyond m comes and goes -/
def FlatV (C : Nat → VecI) (n : Nat) (w : VecI) (st : Nat → List Nat) (lv en : Nat → Nat) (m a b : Nat) : Prop := ∀ t, a ≤ t → t < b → Tbl C n (st t) (lv t) w = 0 ∧ en t ≤ m ∧ outV st lv t ≤ m
theorem farV (R : RunT C n w st lv en L) {m a : Nat} : ∀ b, a ≤ b → b ≤ L → FlatV C n w st lv en m a b → ∀ v, (m < v → (v ∈ st a ↔ v ∈ st b)) ∧ (ZrV C n w (st a) v ↔ ZrV C n w (st b) v)
  | 0, ab, _, _, v => by
    obtain rfl : a = 0 := by omega
    exact ⟨fun _ => Iff.rfl, Iff.rfl⟩
  | b + 1, ab, bl, fl, v => by
    by_cases e : a = b + 1
    · rw [e]
      exact ⟨fun _ => Iff.rfl, Iff.rfl⟩
    · obtain ⟨h1, h2⟩ := farV R b (by omega) (by omega) (fun t ht hb => fl t ht (by omega)) v
      obtain ⟨f1, f2, f3⟩ := fl b (by omega) (by omega)
      have o := R.ok b (by omega)
      have p := R.piv b (by omega)
      rw [R.nxt b (by omega)]
      refine ⟨fun hv => (h1 hv).trans (mem_set (by omega) ?_), h2.trans (Zr_step o p f1 v)⟩
      have f3' : (st b).getD (lv b) 0 ≤ m := f3
      omega
theorem neverV (R : RunT C n w st lv en L) {m a b : Nat} (bl : b ≤ L) (fl : FlatV C n w st lv en m a b) {t t' : Nat} (ht : a ≤ t) (tb : t < b) (ht' : a ≤ t') (tb' : t' < b) (h1 : outV st lv t = m) (h2 : en t' = m) : False := by
  have o := R.ok t (by omega)
  have o' := R.ok t' (by omega)
  have p := R.piv t (by omega)
  have p' := R.piv t' (by omega)
  obtain ⟨f1, f2, f3⟩ := fl t ht tb
  have h1' : (st t).getD (lv t) 0 = m := h1
  have both : ∀ v, (m < v → (v ∈ st t ↔ v ∈ st t')) ∧ (ZrV C n w (st t) v ↔ ZrV C n w (st t') v) := fun v => by
    rcases Nat.le_total t t' with e | e
    · exact farV R t' e (by omega) (fun u hu hb => fl u (by omega) (by omega)) v
    · obtain ⟨k1, k2⟩ := farV R t e (by omega) (fun u hu hb => fl u (by omega) (by omega)) v
      exact ⟨fun h => (k1 h).symm, k2.symm⟩
  refine blandV o o' p (by rw [h1', ← h2]; exact p') (by omega) f1 fun i hi nin => ?_
  have hl := o.len
  have mem : (st t).getD i 0 ∈ st t := by
    rw [List.getD_eq_getElem?_getD, List.getElem?_eq_getElem (by omega)]
    exact List.getElem_mem _
  refine ⟨Classical.byContradiction fun z => nin (((both _).1 (by omega)).mp mem), ?_⟩
  refine ((both ((st t).getD i 0)).2.mpr fun j hj e => ?_) i hi rfl
  refine absurd ?_ nin
  have hl' := o'.len
  rw [← e, List.getD_eq_getElem?_getD, List.getElem?_eq_getElem (by omega)]
  exact List.getElem_mem _
/-- what comes in is not in -/
theorem RunT.new (R : RunT C n w st lv en L) {t : Nat} (ht : t < L) : en t ∉ st t := fun h => by
  have o := R.ok t (by omega)
  have p := R.piv t ht
  obtain ⟨j, hj⟩ := List.mem_iff_getElem?.mp h
  have hj2 := (List.getElem?_eq_some_iff.mp hj).1
  have hl := o.len
  have ej : (st t).getD j 0 = en t := by rw [List.getD_eq_getElem?_getD, hj]; rfl
  have z := o.basic (i := j) (by omega) (Nat.le_refl n) (by omega)
  rw [ej] at z
  have := p.neg
  omega
/-- what goes out is out -/
theorem RunT.gone (R : RunT C n w st lv en L) {t : Nat} (ht : t < L) : outV st lv t ∉ st (t + 1) := fun h => by
  have o := R.ok t (by omega)
  have p := R.piv t ht
  have hl := o.len
  have hr := p.lt
  rw [R.nxt t ht] at h
  obtain ⟨j, hj⟩ := List.mem_iff_getElem?.mp h
  have hj2 := (List.getElem?_eq_some_iff.mp hj).1
  rw [List.length_set] at hj2
  have ej : ((st t).set (lv t) (en t)).getD j 0 = (st t).getD (lv t) 0 := by rw [List.getD_eq_getElem?_getD, hj]; rfl
  rw [getD_set (by omega)] at ej
  by_cases z : j = lv t
  · rw [if_pos z] at ej
    refine R.new ht ?_
    rw [ej, List.getD_eq_getElem?_getD, List.getElem?_eq_getElem (by omega)]
    exact List.getElem_mem _
  · rw [if_neg z] at ej
    exact z (o.unlike (by omega) hr ej)
theorem RunT.stay1 (R : RunT C n w st lv en L) {v a : Nat} (ha : v ∈ st a) : ∀ b, a ≤ b → b ≤ L → (∀ t, a ≤ t → t < b → v ≠ outV st lv t) → v ∈ st b
  | 0, ab, _, _ => by
    obtain rfl : a = 0 := by omega
    exact ha
  | b + 1, ab, bl, h => by
    by_cases e : a = b + 1
    · rw [← e]
      exact ha
    · have ih := R.stay1 ha b (by omega) (by omega) fun t ht hb => h t ht (by omega)
      by_cases z : v = en b
      · exact absurd (z ▸ ih) (R.new (by omega))
      · rw [R.nxt b (by omega)]
        exact (mem_set z (h b (by omega) (by omega))).mp ih
theorem RunT.stay0 (R : RunT C n w st lv en L) {v a : Nat} (ha : v ∉ st a) : ∀ b, a ≤ b → b ≤ L → (∀ t, a ≤ t → t < b → v ≠ en t) → v ∉ st b
  | 0, ab, _, _ => by
    obtain rfl : a = 0 := by omega
    exact ha
  | b + 1, ab, bl, h => by
    by_cases e : a = b + 1
    · rw [← e]
      exact ha
    · have ih := R.stay0 ha b (by omega) (by omega) fun t ht hb => h t ht (by omega)
      have o := R.ok b (by omega)
      have p := R.piv b (by omega)
      have hl := o.len
      have hr := p.lt
      by_cases z : v = outV st lv b
      · refine absurd ?_ ih
        rw [z]
        show (st b).getD (lv b) 0 ∈ _
        rw [List.getD_eq_getElem?_getD, List.getElem?_eq_getElem (by omega)]
        exact List.getElem_mem _
      · rw [R.nxt b (by omega)]
        exact fun k => ih ((mem_set (h b (by omega) (by omega)) z).mpr k)
/-- so long as nothing grows, there is an end -/
theorem RunT.flat (R : RunT C n w st lv en L) : ∀ (m a b : Nat), a ≤ b → b ≤ L → (∀ t, a ≤ t → t < b → Tbl C n (st t) (lv t) w = 0 ∧ en t < m ∧ outV st lv t < m) → b - a < 2 ^ m
  | 0, a, b, ab, bl, h => by
    by_cases e : a = b
    · rw [e]
      simp
    · exact absurd (h a (Nat.le_refl a) (by omega)).2.1 (Nat.not_lt_zero _)
  | m + 1, a, b, ab, bl, h => by
    have fl : FlatV C n w st lv en m a b := fun t ht hb => by
      obtain ⟨h1, h2, h3⟩ := h t ht hb
      exact ⟨h1, by omega, by omega⟩
    have e2 : 2 ^ (m + 1) = 2 ^ m + 2 ^ m := by rw [Nat.pow_succ]; omega
    by_cases ex : ∃ t, a ≤ t ∧ t < b ∧ (en t = m ∨ outV st lv t = m)
    · obtain ⟨t, ht, hb, he⟩ := ex
      have only : ∀ u, a ≤ u → u < b → u ≠ t → en u ≠ m ∧ outV st lv u ≠ m := by
        rcases he with he | he
        · have no : ∀ u, a ≤ u → u < b → outV st lv u ≠ m := fun u hu ub e => neverV R bl fl hu ub ht hb e he
          have one : ∀ x y, a ≤ x → x < y → y < b → en x = m → en y = m → False := fun x y hx xy yb ex ey => by
            have h1 : m ∈ st (x + 1) := by
              rw [R.nxt x (by omega), ← ex]
              have := (R.ok x (by omega)).len
              have := (R.piv x (by omega)).lt
              exact List.mem_set (by omega) _
            have h2 := R.stay1 h1 y (by omega) (by omega) fun u hu ub z => no u (by omega) (by omega) z.symm
            rw [← ey] at h2
            exact R.new (by omega) h2
          refine fun u hu ub ne => ⟨fun e => ?_, no u hu ub⟩
          rcases Nat.lt_or_gt_of_ne ne with k | k
          · exact one u t hu k hb e he
          · exact one t u ht k ub he e
        · have no : ∀ u, a ≤ u → u < b → en u ≠ m := fun u hu ub e => neverV R bl fl ht hb hu ub he e
          have one : ∀ x y, a ≤ x → x < y → y < b → outV st lv x = m → outV st lv y = m → False := fun x y hx xy yb ex ey => by
            have h1 : m ∉ st (x + 1) := by rw [← ex]; exact R.gone (by omega)
            have h2 := R.stay0 h1 y (by omega) (by omega) fun u hu ub z => no u (by omega) (by omega) z.symm
            refine h2 ?_
            rw [← ey]
            show (st y).getD (lv y) 0 ∈ _
            have := (R.ok y (by omega)).len
            have := (R.piv y (by omega)).lt
            rw [List.getD_eq_getElem?_getD, List.getElem?_eq_getElem (by omega)]
            exact List.getElem_mem _
          refine fun u hu ub ne => ⟨no u hu ub, fun e => ?_⟩
          rcases Nat.lt_or_gt_of_ne ne with k | k
          · exact one u t hu k hb e he
          · exact one t u ht k ub he e
      have l1 := R.flat m a t ht (by omega) fun u hu ub => by
        obtain ⟨h1, h2, h3⟩ := h u hu (by omega)
        obtain ⟨k1, k2⟩ := only u hu (by omega) (by omega)
        exact ⟨h1, by omega, by omega⟩
      have l2 := R.flat m (t + 1) b (by omega) bl fun u hu ub => by
        obtain ⟨h1, h2, h3⟩ := h u (by omega) ub
        obtain ⟨k1, k2⟩ := only u (by omega) ub (by omega)
        exact ⟨h1, by omega, by omega⟩
      omega
    · have l := R.flat m a b ab bl fun t ht hb => by
        obtain ⟨h1, h2, h3⟩ := h t ht hb
        refine ⟨h1, ?_, ?_⟩
        · have : en t ≠ m := fun e => ex ⟨t, ht, hb, .inl e⟩
          omega
        · have : outV st lv t ≠ m := fun e => ex ⟨t, ht, hb, .inr e⟩
          omega
      omega
end
end SX

/-! how many steps a search can make -/
namespace SX
theorem nodup_len : ∀ (m : Nat) (xs : List Nat), xs.Nodup → (∀ x ∈ xs, x < m) → xs.length ≤ m
  | 0, [], _, _ => Nat.le_refl _
  | 0, x :: xs, _, h => absurd (h x (List.mem_cons_self ..)) (Nat.not_lt_zero _)
  | m + 1, xs, nd, h => by
    have h1 := nodup_len m (xs.erase m) (nd.erase m) fun x hx => by
      obtain ⟨ne, hm⟩ := nd.mem_erase_iff.mp hx
      have := h x hm
      omega
    by_cases hm : m ∈ xs
    · rw [List.length_erase_of_mem hm] at h1
      omega
    · rw [List.erase_of_not_mem hm] at h1
      omega
def cdv (N : Nat) : List Nat → Nat
  | [] => 0
  | x :: xs => x + N * cdv N xs
theorem cd_lt {N : Nat} : ∀ {xs : List Nat}, (∀ x ∈ xs, x < N) → cdv N xs < N ^ xs.length
  | [], _ => by simp [cdv]
  | x :: xs, h => by
    have h1 := h x List.mem_cons_self
    have h2 := cd_lt (xs := xs) fun y hy => h y (List.mem_cons_of_mem _ hy)
    show x + N * cdv N xs < N ^ (xs.length + 1)
    have h3 : N * (cdv N xs + 1) ≤ N * N ^ xs.length := Nat.mul_le_mul_left _ h2
    rw [Nat.mul_add] at h3
    rw [Nat.pow_succ, Nat.mul_comm (N ^ xs.length)]
    omega
theorem cd_inj {N : Nat} : ∀ {xs ys : List Nat}, xs.length = ys.length → (∀ x ∈ xs, x < N) → (∀ x ∈ ys, x < N) → cdv N xs = cdv N ys → xs = ys
  | [], [], _, _, _, _ => rfl
  | [], _ :: _, h, _, _, _ => by cases h
  | _ :: _, [], h, _, _, _ => by cases h
  | x :: xs, y :: ys, h, hx, hy, e => by
    have h1 := hx x List.mem_cons_self
    have h2 := hy y List.mem_cons_self
    have e' : x + N * cdv N xs = y + N * cdv N ys := e
    have m1 : (x + N * cdv N xs) % N = x := by rw [Nat.add_mul_mod_self_left, Nat.mod_eq_of_lt h1]
    have m2 : (y + N * cdv N ys) % N = y := by rw [Nat.add_mul_mod_self_left, Nat.mod_eq_of_lt h2]
    have exy : x = y := by rw [← m1, e', m2]
    have e3 : N * cdv N xs = N * cdv N ys := by omega
    have e4 := Nat.eq_of_mul_eq_mul_left (show 0 < N by omega) e3
    rw [exy, cd_inj (by simpa using h) (fun z hz => hx z (List.mem_cons_of_mem _ hz)) (fun z hz => hy z (List.mem_cons_of_mem _ hz)) e4]
section
variable {C : Nat → VecI} {n : Nat} {w : VecI} {st : Nat → List Nat} {lv en : Nat → Nat} {L : Nat}
theorem frac_le {a b c d e f : Int} (hb : 0 < b) (hd : 0 < d) (hf : 0 < f) (h1 : a * d ≤ c * b) (h2 : c * f ≤ e * d) : a * f ≤ e * b := by
  have k1 := Int.mul_le_mul_of_nonneg_right h1 (Int.le_of_lt hf)
  have k2 := Int.mul_le_mul_of_nonneg_right h2 (Int.le_of_lt hb)
  have k3 : (a * f) * d ≤ (e * b) * d := by grind
  exact Int.le_of_mul_le_mul_right k3 hd
theorem frac_lt {a b c d e f : Int} (hb : 0 < b) (hd : 0 < d) (hf : 0 < f) (h1 : a * d < c * b) (h2 : c * f ≤ e * d) : a * f < e * b := by
  have k1 := Int.mul_lt_mul_of_pos_right h1 hf
  have k2 := Int.mul_le_mul_of_nonneg_right h2 (Int.le_of_lt hb)
  have k3 : (a * f) * d < (e * b) * d := by grind
  exact Int.lt_of_mul_lt_mul_right k3 (Int.le_of_lt hd)
theorem RunT.up (R : RunT C n w st lv en L) {t : Nat} (ht : t < L) : Tbl C n (st t) n w * scl C n (st (t + 1)) ≤ Tbl C n (st (t + 1)) n w * scl C n (st t) ∧ (Tbl C n (st t) (lv t) w ≠ 0 → Tbl C n (st t) n w * scl C n (st (t + 1)) < Tbl C n (st (t + 1)) n w * scl C n (st t)) := by
  have o := R.ok t (by omega)
  have p := R.piv t ht
  have hr := p.lt
  rw [R.nxt t ht, sc_next o.len p.lt]
  have e := T_next o p.lt (Nat.le_refl n) (by omega) (s := en t) w
  have h0 := o.nn _ p.lt
  have hn := p.neg
  refine ⟨?_, fun ne => ?_⟩
  · have k := Int.mul_nonneg (show 0 ≤ - Tbl C n (st t) n (C (en t)) by omega) h0
    grind
  · have k := Int.mul_pos (show 0 < - Tbl C n (st t) n (C (en t)) by omega) (show 0 < Tbl C n (st t) (lv t) w by omega)
    grind
theorem RunT.ups (R : RunT C n w st lv en L) {a : Nat} : ∀ b, a ≤ b → b ≤ L → Tbl C n (st a) n w * scl C n (st b) ≤ Tbl C n (st b) n w * scl C n (st a)
  | 0, ab, _ => by
    obtain rfl : a = 0 := by omega
    exact Int.le_refl _
  | b + 1, ab, bl => by
    by_cases e : a = b + 1
    · rw [e]
      exact Int.le_refl _
    · exact frac_le (R.ok a (by omega)).bas.pos (R.ok b (by omega)).bas.pos (R.ok (b + 1) bl).bas.pos (R.ups b (by omega) (by omega)) (R.up (by omega)).1
theorem RunT.grows (R : RunT C n w st lv en L) {a b : Nat} (ab : a < b) (bl : b ≤ L) (ne : Tbl C n (st a) (lv a) w ≠ 0) : st a ≠ st b := fun e => by
  have h1 := (R.up (show a < L by omega)).2 ne
  have h2 := R.ups (a := a + 1) b (by omega) bl
  have h3 := frac_lt (R.ok a (by omega)).bas.pos (R.ok (a + 1) (by omega)).bas.pos (R.ok b bl).bas.pos h1 h2
  rw [e] at h3
  omega
open Classical in
noncomputable def growV (C : Nat → VecI) (n : Nat) (w : VecI) (st : Nat → List Nat) (lv : Nat → Nat) (b : Nat) : List Nat := (List.range b).filter fun t => decide (Tbl C n (st t) (lv t) w ≠ 0)
theorem RunT.lt (R : RunT C n w st lv en L) {N : Nat} (h0 : ∀ x ∈ st 0, x < N) (he : ∀ t, t < L → en t < N) : ∀ t, t ≤ L → ∀ x ∈ st t, x < N
  | 0, _ => h0
  | t + 1, h => fun x hx => by
    rw [R.nxt t (by omega)] at hx
    rcases List.mem_or_eq_of_mem_set hx with k | k
    · exact R.lt h0 he t (by omega) x k
    · rw [k]
      exact he t (by omega)
theorem RunT.few (R : RunT C n w st lv en L) {N : Nat} (h0 : ∀ x ∈ st 0, x < N) (he : ∀ t, t < L → en t < N) {b : Nat} (bl : b ≤ L) : (growV C n w st lv b).length ≤ N ^ n := by
  have lt := R.lt h0 he
  have mem : ∀ t, t ∈ growV C n w st lv b → t < b ∧ Tbl C n (st t) (lv t) w ≠ 0 := fun t ht => by
    unfold growV at ht
    obtain ⟨k1, k2⟩ := List.mem_filter.mp ht
    exact ⟨List.mem_range.mp k1, of_decide_eq_true k2⟩
  have h := nodup_len (N ^ n) ((growV C n w st lv b).map fun t => cdv N (st t)) ?_ ?_
  · rw [List.length_map] at h
    exact h
  · have nd : (growV C n w st lv b).Nodup := by
      unfold growV
      exact List.nodup_range.filter _
    unfold List.Nodup at nd ⊢
    rw [List.pairwise_map]
    refine List.Pairwise.imp_of_mem (fun {x y} hx hy ne e => ?_) nd
    obtain ⟨x1, x2⟩ := mem x hx
    obtain ⟨y1, y2⟩ := mem y hy
    have e2 := cd_inj (by rw [(R.ok x (by omega)).len, (R.ok y (by omega)).len]) (lt x (by omega)) (lt y (by omega)) e
    rcases Nat.lt_or_gt_of_ne ne with k | k
    · exact R.grows k (by omega) x2 e2
    · exact R.grows k (by omega) y2 e2.symm
  · intro x hx
    obtain ⟨t, ht, rfl⟩ := List.mem_map.mp hx
    have k := cd_lt (lt t (by have := (mem t ht).1; omega))
    rw [(R.ok t (by have := (mem t ht).1; omega)).len] at k
    exact k
theorem grow_succ (b : Nat) : (growV C n w st lv (b + 1)).length = (growV C n w st lv b).length + if Tbl C n (st b) (lv b) w ≠ 0 then 1 else 0 := by
  unfold growV
  rw [List.range_succ, List.filter_append, List.length_append]
  congr 1
  by_cases h : Tbl C n (st b) (lv b) w ≠ 0
  · rw [if_pos h]
    simp [h]
  · rw [if_neg h]
    simp at h
    simp [h]
theorem grow_mono {a : Nat} : ∀ b, a ≤ b → (growV C n w st lv a).length ≤ (growV C n w st lv b).length
  | 0, h => by
    obtain rfl : a = 0 := by omega
    exact Nat.le_refl _
  | b + 1, h => by
    by_cases e : a = b + 1
    · rw [e]
      exact Nat.le_refl _
    · rw [grow_succ]
      exact Nat.le_trans (grow_mono b (by omega)) (Nat.le_add_right ..)
/-- the stretch that ends at b and in which nothing grows -/
theorem stretchV (C : Nat → VecI) (n : Nat) (w : VecI) (st : Nat → List Nat) (lv : Nat → Nat) : ∀ b, ∃ a, a ≤ b ∧ (∀ t, a ≤ t → t < b → Tbl C n (st t) (lv t) w = 0) ∧ (a = 0 ∨ ∃ c, a = c + 1 ∧ Tbl C n (st c) (lv c) w ≠ 0)
  | 0 => ⟨0, Nat.le_refl _, fun t h1 h2 => absurd h2 (by omega), .inl rfl⟩
  | b + 1 => by
    by_cases e : Tbl C n (st b) (lv b) w = 0
    · obtain ⟨a, h1, h2, h3⟩ := stretchV C n w st lv b
      refine ⟨a, by omega, fun t k1 k2 => ?_, h3⟩
      by_cases z : t = b
      · rw [z]
        exact e
      · exact h2 t k1 (by omega)
    · exact ⟨b + 1, Nat.le_refl _, fun t h1 h2 => absurd h2 (by omega), .inr ⟨b, rfl, e⟩⟩
theorem RunT.short (R : RunT C n w st lv en L) {N : Nat} (h0 : ∀ x ∈ st 0, x < N) (he : ∀ t, t < L → en t < N) : ∀ (k b : Nat), b ≤ k → b ≤ L → b + 1 ≤ ((growV C n w st lv b).length + 1) * 2 ^ N
  | 0, b, bk, _ => by
    obtain rfl : b = 0 := by omega
    have : 0 < 2 ^ N := Nat.pow_pos (by decide)
    have := Nat.mul_le_mul (show 1 ≤ (growV C n w st lv 0).length + 1 by omega) (show 1 ≤ 2 ^ N by omega)
    omega
  | k + 1, b, bk, bl => by
    have lt := R.lt h0 he
    obtain ⟨a, ab, hz, hc⟩ := stretchV C n w st lv b
    have f := R.flat N a b ab bl fun t h1 h2 => ⟨hz t h1 h2, he t (by omega), by
      have o := R.ok t (by omega)
      have p := R.piv t (by omega)
      have hl := o.len
      have hr := p.lt
      show (st t).getD (lv t) 0 < N
      rw [List.getD_eq_getElem?_getD, List.getElem?_eq_getElem (by omega)]
      exact lt t (by omega) _ (List.getElem_mem _)⟩
    have g0 := grow_mono (C := C) (n := n) (w := w) (st := st) (lv := lv) b ab
    rcases hc with rfl | ⟨c, rfl, hne⟩
    · have := Nat.mul_le_mul_right (2 ^ N) (show 1 ≤ (growV C n w st lv b).length + 1 by omega)
      omega
    · have ih := R.short h0 he k c (by omega) (by omega)
      rw [grow_succ, if_pos hne] at g0
      have := Nat.mul_le_mul_right (2 ^ N) (show (growV C n w st lv c).length + 1 + 1 ≤ (growV C n w st lv b).length + 1 by omega)
      rw [Nat.add_mul _ 1] at this
      omega
/-- how many steps there are at most -/
theorem RunT.most (R : RunT C n w st lv en L) {N : Nat} (h0 : ∀ x ∈ st 0, x < N) (he : ∀ t, t < L → en t < N) : L < (N ^ n + 1) * 2 ^ N := by
  have h1 := R.short h0 he L L (Nat.le_refl _) (Nat.le_refl _)
  have h2 := R.few h0 he (Nat.le_refl L)
  have := Nat.mul_le_mul_right (2 ^ N) (show (growV C n w st lv L).length + 1 ≤ N ^ n + 1 by omega)
  omega
end
end SX

/-! what the end of a search tells -/
namespace SX
/-- columns of a search: g given ones, then the units, and what is due; place n is for the costs -/
structure ColsV (C : Nat → VecI) (n g : Nat) (w : VecI) : Prop where
  giv : ∀ j, j < g → smv (n + 1) (C j) = 0
  art : ∀ k, k < n → C (g + k) = unv k
  due : smv (n + 1) w = 0
theorem sm_un {n k : Nat} (h : k < n) : smv n (unv k) = 1 := by
  rw [sm_one h fun i _ ne => by unfold unv; rw [if_neg ne]]
  unfold unv
  rw [if_pos rfl]
theorem sm_le {g h : Nat → Int} : ∀ {n : Nat}, (∀ i, i < n → g i ≤ h i) → smv n g ≤ smv n h
  | 0, _ => Int.le_refl _
  | n + 1, e => by
    have h1 := sm_le (n := n) (g := g) (h := h) fun i hi => e i (by omega)
    have h2 := e n (by omega)
    show smv n g + g n ≤ smv n h + h n
    omega
section
variable {C : Nat → VecI} {n g : Nat} {w : VecI} {bs : List Nat}
/-- what every basis keeps: the sum of all places -/
theorem OkT.sum (o : OkT C n w bs) (c : ColsV C n g w) (hb : ∀ x ∈ bs, x < g + n) (v : VecI) : scl C n bs * smv (n + 1) v = smv n (fun i => if g ≤ bs.getD i 0 then Tbl C n bs i v else 0) + Tbl C n bs n v := by
  have hl := o.len
  have h := o.bas.map (fm_form _) (fun v => smv (n + 1) v) (fun a b x y => sm_lc a b x y (n + 1)) (fun z hz => sm_zero hz) v
  have e : smv (n + 1) (fun i => fmv (n + 1) ((Bvv C n bs).set i v) * smv (n + 1) (atB (Bvv C n bs) i)) = smv n (fun i => if g ≤ bs.getD i 0 then Tbl C n bs i v else 0) + Tbl C n bs n v := by
    show smv n _ + _ * smv (n + 1) (atB (Bvv C n bs) n) = _
    rw [Bv_last o.len, sm_un (by omega), Int.mul_one]
    congr 1
    refine sm_congr fun i hi => ?_
    rw [Bv_at o.len hi]
    have hx := hb (bs.getD i 0) (by rw [List.getD_eq_getElem?_getD, List.getElem?_eq_getElem (by omega)]; exact List.getElem_mem _)
    by_cases z : g ≤ bs.getD i 0
    · rw [if_pos z]
      have e1 := c.art (bs.getD i 0 - g) (by omega)
      rw [show g + (bs.getD i 0 - g) = bs.getD i 0 by omega] at e1
      rw [e1, sm_un (by omega), Int.mul_one]
      rfl
    · rw [if_neg z, c.giv _ (by omega), Int.mul_zero]
  rw [← e]
  exact h
/-- where a cost is below 0 there is a line to take -/
theorem OkT.some_line (o : OkT C n w bs) (c : ColsV C n g w) (hb : ∀ x ∈ bs, x < g + n) {s : Nat} (hs : s < g) (h : Tbl C n bs n (C s) < 0) : ∃ i, i < n ∧ 0 < Tbl C n bs i (C s) := by
  have e := o.sum c hb (C s)
  rw [c.giv s hs, Int.mul_zero] at e
  obtain ⟨i, hi, hp⟩ := sm_pos (n := n) (g := fun i => if g ≤ bs.getD i 0 then Tbl C n bs i (C s) else 0) (by omega)
  refine ⟨i, hi, ?_⟩
  by_cases z : g ≤ bs.getD i 0
  · have hp' : 0 < if g ≤ bs.getD i 0 then Tbl C n bs i (C s) else 0 := hp
    rw [if_pos z] at hp'
    exact hp'
  · have hp' : 0 < if g ≤ bs.getD i 0 then Tbl C n bs i (C s) else 0 := hp
    rw [if_neg z] at hp'
    exact absurd hp' (Int.lt_irrefl 0)
theorem OkT.cost (o : OkT C n w bs) (c : ColsV C n g w) (hb : ∀ x ∈ bs, x < g + n) : Tbl C n bs n w ≤ 0 ∧ (Tbl C n bs n w = 0 → ∀ i, i < n → g ≤ bs.getD i 0 → Tbl C n bs i w = 0) := by
  have e := o.sum c hb w
  rw [c.due, Int.mul_zero] at e
  have nn : ∀ i, i < n → 0 ≤ if g ≤ bs.getD i 0 then Tbl C n bs i w else 0 := fun i hi => by
    by_cases z : g ≤ bs.getD i 0
    · rw [if_pos z]
      exact o.nn i hi
    · rw [if_neg z]
      exact Int.le_refl _
  have h0 := sm_le (n := n) (g := fun _ => 0) (h := fun i => if g ≤ bs.getD i 0 then Tbl C n bs i w else 0) nn
  rw [sm_zero (g := fun _ => 0) fun _ _ => rfl] at h0
  refine ⟨by omega, fun z i hi hg => ?_⟩
  refine Classical.byContradiction fun ne => ?_
  have h1 := sm_le (n := n) (g := fun k => if k = i then Tbl C n bs i w else 0) (h := fun i => if g ≤ bs.getD i 0 then Tbl C n bs i w else 0) fun k hk => by
    by_cases e2 : k = i
    · rw [if_pos e2, e2, if_pos hg]
      exact Int.le_refl _
    · rw [if_neg e2]
      exact nn k hk
  rw [sm_one (g := fun k => if k = i then Tbl C n bs i w else 0) hi fun k _ ne => by rw [if_neg ne]] at h1
  rw [if_pos rfl] at h1
  have := o.nn i hi
  omega
/-- a line of a table by its numbers at the units -/
theorem OkT.units (o : OkT C n w bs) {i : Nat} (hi : i ≤ n) (v : VecI) : Tbl C n bs i v = smv (n + 1) fun k => v k * Tbl C n bs i (unv k) := by
  have h := (I_bs (n + 1)).map (fm_form _) (fun v => Tbl C n bs i v) (fun a b x y => T_lin o hi a b x y) (fun z hz => T_zer o hi z hz) v
  rw [fm_unit, Int.one_mul] at h
  rw [h]
  exact sm_congr fun k hk => by rw [fm_at hk, I_at hk]
/-- the cost of a given column, by the numbers that the costs of the units tell -/
theorem OkT.point (o : OkT C n w bs) {v : VecI} (hv : smv (n + 1) v = 0) : Tbl C n bs n v = smv n fun k => v k * (Tbl C n bs n (unv k) - scl C n bs) := by
  have e := o.units (Nat.le_refl n) v
  have e1 : Tbl C n bs n v = smv n (fun k => v k * Tbl C n bs n (unv k)) + v n * scl C n bs := by
    rw [e]
    show smv n _ + v n * Tbl C n bs n (unv n) = _
    rw [o.last]
  have e2 : smv n v + v n = 0 := hv
  have e3 := sm_lc 1 (- scl C n bs) (fun k => v k * Tbl C n bs n (unv k)) v n
  have e4 : smv n (fun k => v k * (Tbl C n bs n (unv k) - scl C n bs)) = smv n (fun i => 1 * (v i * Tbl C n bs n (unv i)) + - scl C n bs * v i) := sm_congr fun k _ => by grind
  rw [e4, e3, e1]
  have : v n = - smv n v := by omega
  rw [this]
  grind
/-- what is due, by the columns of the basis -/
theorem OkT.shares (o : OkT C n w bs) (v : VecI) {k : Nat} (hk : k < n) : scl C n bs * v k = smv n fun i => Tbl C n bs i v * C (bs.getD i 0) k := by
  have h := o.bas.rep v k (by omega)
  have e : smv (n + 1) (fun i => fmv (n + 1) ((Bvv C n bs).set i v) * atB (Bvv C n bs) i k) = smv n (fun i => Tbl C n bs i v * C (bs.getD i 0) k) := by
    show smv n _ + _ * atB (Bvv C n bs) n k = _
    rw [Bv_last o.len, show unv n k = 0 by unfold unv; rw [if_neg (by omega)], Int.mul_zero, Int.add_zero]
    exact sm_congr fun i hi => by rw [Bv_at o.len hi]; rfl
  rw [← e]
  exact h
end
/-! how large the numbers get -/
def facV : Nat → Nat
  | 0 => 1
  | n + 1 => (n + 1) * facV n
theorem expand_le {f : List VecI → Int} {n M X : Nat} (hf : ∀ us : List VecI, us.length = n → (∀ u ∈ us, ∀ k, k < n → (u k).natAbs ≤ X) → (f us).natAbs ≤ M) : ∀ (post pre : List VecI), pre.length + post.length = n + 1 → (∀ u ∈ pre ++ post, ∀ k, k < n + 1 → (u k).natAbs ≤ X) → (expandV f n pre post).natAbs ≤ post.length * (X * M)
  | [], _, _, _ => by simp [expandV]
  | v :: post, pre, hl, h => by
    have ih := expand_le hf post (pre ++ [v]) (by simp at hl ⊢; omega) (fun u hu => h u (by simpa using hu))
    have h1 := hf (pre ++ post) (by simp at hl ⊢; omega) fun u hu k hk => h u (by rcases List.mem_append.mp hu with z | z; exact List.mem_append_left _ z; exact List.mem_append_right _ (List.mem_cons_of_mem _ z)) k (by omega)
    have h2 := h v (by simp) n (by omega)
    have h3 : (v n * f (pre ++ post)).natAbs ≤ X * M := by
      rw [Int.natAbs_mul]
      exact Nat.mul_le_mul h2 h1
    show (v n * f (pre ++ post) - expandV f n (pre ++ [v]) post).natAbs ≤ (post.length + 1) * (X * M)
    rw [Nat.add_mul, Nat.one_mul]
    omega
theorem D_le {X : Nat} : ∀ (n : Nat) (vs : List VecI), vs.length = n → (∀ u ∈ vs, ∀ k, k < n → (u k).natAbs ≤ X) → (Dfm n vs).natAbs ≤ facV n * X ^ n
  | 0, [], _, _ => by simp [Dfm, facV]
  | n + 1, vs, hl, h => by
    have k := expand_le (n := n) (M := facV n * X ^ n) (X := X) (fun us hu hx => D_le n us hu hx) vs [] (by simpa using hl) (by simpa using h)
    rw [hl] at k
    show (expandV (Dfm n) n [] vs).natAbs ≤ (n + 1) * facV n * X ^ (n + 1)
    rw [Nat.pow_succ]
    have : (n + 1) * (X * (facV n * X ^ n)) = (n + 1) * facV n * (X ^ n * X) := by
      rw [Nat.mul_assoc, Nat.mul_comm X, Nat.mul_assoc]
    omega
theorem fm_le {X n : Nat} {vs : List VecI} (hl : vs.length = n) (h : ∀ u ∈ vs, ∀ k, k < n → (u k).natAbs ≤ X) : (fmv n vs).natAbs ≤ facV n * X ^ n := by
  have k := D_le n vs hl h
  have u := D_unit n
  have u2 : (Dfm n (Uni n)).natAbs = 1 := by
    have e := congrArg Int.natAbs u
    rw [Int.natAbs_mul] at e
    exact Nat.eq_one_of_mul_eq_one_left e
  unfold fmv
  rw [Int.natAbs_mul, u2, Nat.one_mul]
  exact k
end SX

/-! a table of numbers is the table of a basis -/
namespace SX
def enV (tab : List (List Int)) (i j : Nat) : Int := (tab.getD i []).getD j 0
def woutV (row ch : List Int) (j : Nat) (d : Int) : List Int := (row.zip ch).map fun z => (z.1 * ch.getD j 0 - row.getD j 0 * z.2).fdiv d
def takeV (tab : List (List Int)) (r j : Nat) (d : Int) : List (List Int) := (List.range tab.length).map fun i => if i = r then tab.getD r [] else woutV (tab.getD i []) (tab.getD r []) j d
/-- the vector of column q, of N columns, what is due behind them -/
def colV (C : Nat → VecI) (w : VecI) (N q : Nat) : VecI := if q < N then C q else w
structure TabV (C : Nat → VecI) (n : Nat) (w : VecI) (N : Nat) (tab : List (List Int)) (cs : List Int) (bs : List Nat) (d : Int) : Prop where
  len : tab.length = n
  row : ∀ i, i < n → (tab.getD i []).length = N + 1
  cl : cs.length = N + 1
  en : ∀ i q, i < n → q ≤ N → enV tab i q = Tbl C n bs i (colV C w N q)
  co : ∀ q, q ≤ N → cs.getD q 0 = Tbl C n bs n (colV C w N q)
  sc : d = scl C n bs
theorem wout_len {row ch : List Int} {j : Nat} {d : Int} (h : row.length = ch.length) : (woutV row ch j d).length = row.length := by
  unfold woutV
  rw [List.length_map, List.length_zip]
  omega
theorem wout_at {row ch : List Int} {j q : Nat} {d : Int} (h : row.length = ch.length) (hq : q < row.length) : (woutV row ch j d).getD q 0 = (row.getD q 0 * ch.getD j 0 - row.getD j 0 * ch.getD q 0).fdiv d := by
  have hq2 : q < ch.length := by omega
  have e : (row.zip ch)[q]? = some (row[q], ch[q]) := List.getElem?_zip_eq_some.mpr ⟨List.getElem?_eq_getElem hq, List.getElem?_eq_getElem hq2⟩
  have e1 : row.getD q 0 = row[q] := by rw [List.getD_eq_getElem?_getD, List.getElem?_eq_getElem hq]; rfl
  have e2 : ch.getD q 0 = ch[q] := by rw [List.getD_eq_getElem?_getD, List.getElem?_eq_getElem hq2]; rfl
  unfold woutV
  rw [e1, e2, List.getD_eq_getElem?_getD, List.getElem?_map, e]
  rfl
theorem exact_div {d t x : Int} (h0 : d ≠ 0) (h : d * t = x) : x.fdiv d = t := by
  rw [← h]
  exact Int.mul_fdiv_cancel_left t h0
section
variable {C : Nat → VecI} {n N : Nat} {w : VecI} {tab : List (List Int)} {cs : List Int} {bs : List Nat} {d : Int}
theorem TabV.take (t : TabV C n w N tab cs bs d) (o : OkT C n w bs) {r j : Nat} (hr : r < n) (hj : j < N) : TabV C n w N (takeV tab r j d) (woutV cs (tab.getD r []) j d) (bs.set r j) (enV tab r j) := by
  have d0 : d ≠ 0 := by
    rw [t.sc]
    have : 0 < scl C n bs := o.bas.pos
    omega
  have cj : colV C w N j = C j := by unfold colV; rw [if_pos hj]
  have tl := t.len
  have ta : ∀ i, i < n → (takeV tab r j d).getD i [] = if i = r then tab.getD r [] else woutV (tab.getD i []) (tab.getD r []) j d := fun i hi => by
    unfold takeV
    rw [List.getD_eq_getElem?_getD, List.getElem?_map, List.getElem?_range (by omega)]
    rfl
  have key : ∀ i q (x s : Int), i ≤ n → i ≠ r → q ≤ N → x = Tbl C n bs i (colV C w N q) → s = Tbl C n bs i (colV C w N j) → (x * (tab.getD r []).getD j 0 - s * (tab.getD r []).getD q 0).fdiv d = Tbl C n (bs.set r j) i (colV C w N q) := fun i q x s hi ne hq hx hs => by
    refine exact_div d0 ?_
    have e := T_next o hr hi ne (s := j) (colV C w N q)
    have e1 : (tab.getD r []).getD j 0 = Tbl C n bs r (C j) := by rw [← cj]; exact t.en r j hr (by omega)
    have e2 : (tab.getD r []).getD q 0 = Tbl C n bs r (colV C w N q) := t.en r q hr hq
    rw [t.sc, e, hx, hs, e1, e2, cj]
    grind
  refine ⟨by unfold takeV; rw [List.length_map, List.length_range]; exact tl, fun i hi => ?_, ?_, fun i q hi hq => ?_, fun q hq => ?_, ?_⟩
  · rw [ta i hi]
    by_cases z : i = r
    · rw [if_pos z]
      exact t.row r hr
    · rw [if_neg z, wout_len (by rw [t.row i hi, t.row r hr])]
      exact t.row i hi
  · rw [wout_len (by rw [t.cl, t.row r hr])]
    exact t.cl
  · unfold enV
    rw [ta i hi]
    by_cases z : i = r
    · rw [if_pos z, z, T_row o.len hr]
      exact t.en r q hr hq
    · rw [if_neg z, wout_at (by rw [t.row i hi, t.row r hr]) (by rw [t.row i hi]; omega)]
      exact key i q _ _ (Nat.le_of_lt hi) z hq (t.en i q hi hq) (t.en i j hi (by omega))
  · rw [wout_at (by rw [t.cl, t.row r hr]) (by rw [t.cl]; omega)]
    exact key n q _ _ (Nat.le_refl n) (by omega) hq (t.co q hq) (t.co j (by omega))
  · rw [sc_next o.len hr, ← cj]
    exact t.en r j hr (by omega)
end
end SX

/-! a search from its first table to its end -/
namespace SX
/-- given columns of whole numbers, the units behind them -/
def cdV (cols : List (List Int)) (h : Nat) : Nat → VecI := fun j => if j < cols.length then fun k => if k < h then enV cols j k else if k = h then -((cols.getD j []).sum) else 0 else unv (j - cols.length)
def duV (h : Nat) : VecI := fun k => if k + 1 = h then 1 else if k = h then -1 else 0
def bs0V (g h : Nat) : List Nat := (List.range h).map fun i => g + i
def ln0V (cols : List (List Int)) (h i : Nat) : List Int := cols.map (fun c => c.getD i 0) ++ (List.range h).map (fun o => if o = i then 1 else 0) ++ [if i + 1 = h then 1 else 0]
def tb0V (cols : List (List Int)) (h : Nat) : List (List Int) := (List.range h).map (ln0V cols h)
def cs0V (cols : List (List Int)) (h : Nat) : List Int := cols.map (fun c => -c.sum) ++ (List.range h).map (fun _ => 0) ++ [-1]
theorem sum_sm : ∀ {h : Nat} {c : List Int}, c.length = h → smv h (fun k => c.getD k 0) = c.sum
  | 0, [], _ => rfl
  | h + 1, c, e => by
    have hc : c ≠ [] := fun z => by rw [z] at e; simp at e
    have e1 := List.dropLast_concat_getLast hc
    have l1 : c.dropLast.length = h := by simp; omega
    have e2 : smv h (fun k => c.getD k 0) = smv h (fun k => c.dropLast.getD k 0) := sm_congr fun i hi => by
      rw [List.getD_eq_getElem?_getD, List.getD_eq_getElem?_getD, List.getElem?_dropLast, if_pos (by omega)]
    show smv h _ + c.getD h 0 = _
    rw [e2, sum_sm l1]
    have e3 : c.getD h 0 = c.getLast hc := by
      rw [List.getD_eq_getElem?_getD, List.getLast_eq_getElem, List.getElem?_eq_getElem (by omega)]
      simp [e]
    rw [e3]
    conv => rhs; rw [← e1]
    simp
theorem cd_cols {cols : List (List Int)} {h : Nat} (h0 : 0 < h) (hc : ∀ c ∈ cols, c.length = h) : ColsV (cdV cols h) h cols.length (duV h) where
  giv j hj := by
    have hm : cols.getD j [] ∈ cols := by rw [List.getD_eq_getElem?_getD, List.getElem?_eq_getElem hj]; exact List.getElem_mem _
    show smv h (cdV cols h j) + cdV cols h j h = 0
    have e : smv h (cdV cols h j) = smv h (fun k => (cols.getD j []).getD k 0) := sm_congr fun i hi => by
      unfold cdV
      rw [if_pos hj, if_pos hi]
      rfl
    rw [e, sum_sm (hc _ hm)]
    unfold cdV
    rw [if_pos hj, if_neg (by omega), if_pos rfl]
    omega
  art k hk := by
    unfold cdV
    rw [if_neg (by omega), show cols.length + k - cols.length = k by omega]
  due := by
    show smv h (duV h) + duV h h = 0
    rw [sm_one (r := h - 1) (by omega) fun i hi ne => by unfold duV; rw [if_neg (by omega), if_neg (by omega)]]
    unfold duV
    rw [if_pos (by omega), if_neg (by omega), if_pos rfl]
    rfl
theorem bv0 (cols : List (List Int)) (h : Nat) : Bvv (cdV cols h) h (bs0V cols.length h) = Uni (h + 1) := by
  unfold Bvv bs0V Uni
  rw [List.range_succ, List.map_append, List.map_map]
  congr 1
  refine List.map_congr_left fun i hi => ?_
  show cdV cols h (cols.length + i) = unv i
  unfold cdV
  rw [if_neg (by omega), show cols.length + i - cols.length = i by omega]
theorem ok0 {cols : List (List Int)} {h : Nat} : OkT (cdV cols h) h (duV h) (bs0V cols.length h) where
  len := by unfold bs0V; rw [List.length_map, List.length_range]
  bas := by rw [bv0]; exact I_bs _
  nn i hi := by
    unfold Tbl
    rw [bv0, fm_at (by omega)]
    unfold duV
    split
    · decide
    · rw [if_neg (by omega)]
      exact Int.le_refl _
theorem gd_l {α : Type} {xs ys : List α} {i : Nat} {a : α} (h : i < xs.length) : (xs ++ ys).getD i a = xs.getD i a := by
  rw [List.getD_eq_getElem?_getD, List.getD_eq_getElem?_getD, List.getElem?_append_left h]
theorem gd_r {α : Type} {xs ys : List α} {i : Nat} {a : α} (h : xs.length ≤ i) : (xs ++ ys).getD i a = ys.getD (i - xs.length) a := by
  rw [List.getD_eq_getElem?_getD, List.getD_eq_getElem?_getD, List.getElem?_append_right h]
theorem gd_map {α β : Type} {f : α → β} {xs : List α} {i : Nat} {a : α} {b : β} (h : i < xs.length) : (xs.map f).getD i b = f (xs.getD i a) := by
  rw [List.getD_eq_getElem?_getD, List.getD_eq_getElem?_getD, List.getElem?_map, List.getElem?_eq_getElem h]
  rfl
theorem gd_rng {β : Type} {f : Nat → β} {n i : Nat} {b : β} (h : i < n) : ((List.range n).map f).getD i b = f i := by
  rw [List.getD_eq_getElem?_getD, List.getElem?_map, List.getElem?_range h]
  rfl
theorem tab0 {cols : List (List Int)} {h : Nat} : TabV (cdV cols h) h (duV h) (cols.length + h) (tb0V cols h) (cs0V cols h) (bs0V cols.length h) 1 where
  len := by unfold tb0V; rw [List.length_map, List.length_range]
  row i hi := by
    unfold tb0V
    rw [gd_rng hi]
    unfold ln0V
    simp
    omega
  cl := by unfold cs0V; simp; omega
  en i q hi hq := by
    unfold Tbl enV tb0V
    rw [bv0, fm_at (by omega), gd_rng hi]
    unfold ln0V colV
    by_cases z : q < cols.length
    · rw [List.append_assoc, gd_l (by rw [List.length_map]; exact z), gd_map (a := []) z, if_pos (by omega)]
      unfold cdV
      rw [if_pos z, if_pos hi]
      rfl
    · by_cases y : q < cols.length + h
      · rw [gd_l (by simp; omega), gd_r (by simp; omega), List.length_map, gd_rng (by omega), if_pos y]
        unfold cdV
        rw [if_neg z]
        unfold unv
        by_cases e : i = q - cols.length
        · rw [if_pos e, if_pos (by omega)]
        · rw [if_neg e, if_neg (by omega)]
      · rw [gd_r (by simp; omega), if_neg y]
        have e : q - (List.map (fun c => c.getD i 0) cols ++ List.map (fun o => if o = i then (1 : Int) else 0) (List.range h)).length = 0 := by simp; omega
        rw [e]
        unfold duV
        show (if i + 1 = h then (1 : Int) else 0) = _
        split
        · rfl
        · rw [if_neg (by omega)]
  co q hq := by
    unfold Tbl cs0V
    rw [bv0, fm_at (by omega)]
    unfold colV
    by_cases z : q < cols.length
    · rw [List.append_assoc, gd_l (by rw [List.length_map]; exact z), gd_map (a := []) z, if_pos (by omega)]
      unfold cdV
      rw [if_pos z, if_neg (by omega), if_pos rfl]
    · by_cases y : q < cols.length + h
      · rw [gd_l (by simp; omega), gd_r (by simp; omega), List.length_map, gd_rng (by omega), if_pos y]
        unfold cdV
        rw [if_neg z]
        unfold unv
        rw [if_neg (by omega)]
      · rw [gd_r (by simp; omega), if_neg y]
        have e : q - (List.map (fun c => -c.sum) cols ++ List.map (fun _ => (0 : Int)) (List.range h)).length = 0 := by simp; omega
        rw [e]
        unfold duV
        rw [if_neg (by omega), if_pos rfl]
        rfl
  sc := by
    unfold scl
    rw [bv0, fm_unit]
/-- L steps lead from one basis to another -/
def CntV (C : Nat → VecI) (n : Nat) (w : VecI) (N : Nat) (b0 bs : List Nat) (L : Nat) : Prop := ∃ st lv en, RunT C n w st lv en L ∧ st 0 = b0 ∧ st L = bs ∧ ∀ t, t < L → en t < N
section
variable {C : Nat → VecI} {n N L : Nat} {w : VecI} {b0 bs : List Nat}
theorem CntV.zer (o : OkT C n w b0) : CntV C n w N b0 b0 0 := ⟨fun _ => b0, fun _ => 0, fun _ => 0, ⟨o, fun t h => absurd h (Nat.not_lt_zero t), fun t h => absurd h (Nat.not_lt_zero t)⟩, rfl, rfl, fun t h => absurd h (Nat.not_lt_zero t)⟩
theorem CntV.ok (c : CntV C n w N b0 bs L) : OkT C n w bs := by
  obtain ⟨st, lv, en, R, _, e, _⟩ := c
  rw [← e]
  exact R.ok L (Nat.le_refl L)
theorem CntV.most (c : CntV C n w N b0 bs L) (h : ∀ x ∈ b0, x < N) : L < (N ^ n + 1) * 2 ^ N := by
  obtain ⟨st, lv, en, R, e0, _, he⟩ := c
  exact R.most (by rw [e0]; exact h) he
theorem CntV.lt (c : CntV C n w N b0 bs L) (h : ∀ x ∈ b0, x < N) : ∀ x ∈ bs, x < N := by
  obtain ⟨st, lv, en, R, e0, e, he⟩ := c
  rw [← e]
  exact R.lt (by rw [e0]; exact h) he L (Nat.le_refl L)
theorem CntV.step (c : CntV C n w N b0 bs L) {r s : Nat} (p : PivT C n w bs r s) (hs : s < N) : CntV C n w N b0 (bs.set r s) (L + 1) := by
  obtain ⟨st, lv, en, R, e0, e, he⟩ := c
  refine ⟨fun t => if t ≤ L then st t else bs.set r s, fun t => if t < L then lv t else r, fun t => if t < L then en t else s, ⟨?_, fun t ht => ?_, fun t ht => ?_⟩, ?_, ?_, fun t ht => ?_⟩
  · show OkT C n w (if 0 ≤ L then st 0 else bs.set r s)
    rw [if_pos (by omega)]
    exact R.ok0
  · show PivT C n w (if t ≤ L then st t else bs.set r s) (if t < L then lv t else r) (if t < L then en t else s)
    rw [if_pos (by omega)]
    by_cases z : t < L
    · rw [if_pos z, if_pos z]
      exact R.piv t z
    · rw [if_neg z, if_neg z, show t = L by omega, e]
      exact p
  · show (if t + 1 ≤ L then st (t + 1) else bs.set r s) = (if t ≤ L then st t else bs.set r s).set (if t < L then lv t else r) (if t < L then en t else s)
    rw [if_pos (show t ≤ L by omega)]
    by_cases z : t < L
    · rw [if_pos (by omega), if_pos z, if_pos z]
      exact R.nxt t z
    · rw [if_neg (by omega), if_neg z, if_neg z, show t = L by omega, e]
  · show (if 0 ≤ L then st 0 else bs.set r s) = b0
    rw [if_pos (by omega)]
    exact e0
  · show (if L + 1 ≤ L then st (L + 1) else bs.set r s) = bs.set r s
    rw [if_neg (by omega)]
  · show (if t < L then en t else s) < N
    by_cases z : t < L
    · rw [if_pos z]
      exact he t z
    · rw [if_neg z]
      exact hs
end
/-- what a basis gives of a column -/
def gvV (b : Nat → Nat) (t : Nat → Int) (n j : Nat) : Int := smv n fun i => if b i = j then t i else 0
theorem gv_swap (b : Nat → Nat) (t F : Nat → Int) (g : Nat) : ∀ n, (∀ i, i < n → b i < g ∨ t i = 0) → smv n (fun i => t i * F (b i)) = smv g fun j => gvV b t n j * F j
  | 0, _ => by
    rw [sm_zero (n := g) fun j _ => by unfold gvV smv; rw [Int.zero_mul]]
    rfl
  | n + 1, h => by
    have ih := gv_swap b t F g n fun i hi => h i (by omega)
    have e1 : smv g (fun j => gvV b t (n + 1) j * F j) = 1 * smv g (fun j => gvV b t n j * F j) + 1 * smv g (fun j => (if b n = j then t n else 0) * F j) := by
      rw [← sm_lc]
      refine sm_congr fun j _ => ?_
      show (gvV b t n j + _) * F j = _
      grind
    have e2 : smv g (fun j => (if b n = j then t n else 0) * F j) = t n * F (b n) := by
      rcases h n (by omega) with z | z
      · rw [sm_one z fun i _ ne => by rw [if_neg (Ne.symm ne), Int.zero_mul], if_pos rfl]
      · rw [z, Int.zero_mul]
        exact sm_zero fun i _ => by split <;> simp
    show smv n _ + t n * F (b n) = _
    rw [ih, e1, e2]
    omega
theorem gv_nn {b : Nat → Nat} {t : Nat → Int} {n : Nat} (h : ∀ i, i < n → 0 ≤ t i) (j : Nat) : 0 ≤ gvV b t n j := by
  have := sm_le (n := n) (g := fun _ => 0) (h := fun i => if b i = j then t i else 0) fun i hi => by
    show 0 ≤ if b i = j then t i else 0
    split
    · exact h i hi
    · exact Int.le_refl _
  rw [sm_zero (g := fun _ => 0) fun _ _ => rfl] at this
  exact this
theorem gv_one {b : Nat → Nat} {t : Nat → Int} {n i : Nat} (hi : i < n) (h : ∀ k, k < n → b k = b i → k = i) : gvV b t n (b i) = t i := by
  unfold gvV
  rw [sm_one hi fun k hk ne => by rw [if_neg fun z => ne (h k hk z)], if_pos rfl]
theorem gv_non {b : Nat → Nat} {t : Nat → Int} {n j : Nat} (h : ∀ k, k < n → b k ≠ j) : gvV b t n j = 0 := sm_zero fun k hk => by rw [if_neg (h k hk)]
end SX

/-! rows of fractions: what a search's end tells of them -/
namespace SX
def smQ : Nat → (Nat → Rat) → Rat
  | 0, _ => 0
  | n + 1, g => smQ n g + g n
theorem sq_congr {g h : Nat → Rat} : ∀ {n : Nat}, (∀ i, i < n → g i = h i) → smQ n g = smQ n h
  | 0, _ => rfl
  | n + 1, e => by
    show smQ n g + g n = smQ n h + h n
    rw [sq_congr fun i hi => e i (by omega), e n (by omega)]
theorem sq_lc (a b : Rat) (g h : Nat → Rat) : ∀ n, smQ n (fun i => a * g i + b * h i) = a * smQ n g + b * smQ n h
  | 0 => by simp [smQ]; grind
  | n + 1 => by
    show smQ n _ + (a * g n + b * h n) = a * (smQ n g + g n) + b * (smQ n h + h n)
    rw [sq_lc a b g h n]
    grind
theorem sq_zero {g : Nat → Rat} : ∀ {n : Nat}, (∀ i, i < n → g i = 0) → smQ n g = 0
  | 0, _ => rfl
  | n + 1, e => by
    show smQ n g + g n = 0
    rw [sq_zero fun i hi => e i (by omega), e n (by omega)]
    exact Rat.add_zero 0
theorem sq_nn {g : Nat → Rat} : ∀ {n : Nat}, (∀ i, i < n → 0 ≤ g i) → 0 ≤ smQ n g
  | 0, _ => Rat.le_refl
  | n + 1, e => by
    have h1 := sq_nn (n := n) fun i hi => e i (by omega)
    have h2 := e n (by omega)
    show 0 ≤ smQ n g + g n
    grind
theorem sq_pos {g : Nat → Rat} {j : Nat} : ∀ {n : Nat}, (∀ i, i < n → 0 ≤ g i) → j < n → 0 < g j → 0 < smQ n g
  | 0, _, h, _ => absurd h (Nat.not_lt_zero _)
  | n + 1, e, hj, hp => by
    have h2 := e n (by omega)
    show 0 < smQ n g + g n
    by_cases z : j = n
    · have h1 := sq_nn (n := n) fun i hi => e i (by omega)
      rw [z] at hp
      grind
    · have h1 := sq_pos (n := n) (fun i hi => e i (by omega)) (by omega) hp
      grind
theorem sq_swap (F : Nat → Nat → Rat) (m : Nat) : ∀ n, smQ n (fun j => smQ m fun k => F j k) = smQ m fun k => smQ n fun j => F j k
  | 0 => (sq_zero (n := m) (g := fun k => smQ 0 fun j => F j k) fun k _ => rfl).symm
  | n + 1 => by
    show smQ n _ + smQ m _ = _
    rw [sq_swap F m n]
    have := sq_lc 1 1 (fun k => smQ n fun j => F j k) (fun k => F n k) m
    rw [Rat.one_mul, Rat.one_mul] at this
    rw [← this]
    exact sq_congr fun k _ => by show 1 * _ + 1 * _ = smQ n _ + F n k; grind
/-- the number of row j at k, and whether it is strict -/
def nuQ (S : List (List Rat × Bool)) (j k : Nat) : Rat := (S.getD j ([], false)).1.getD k 0
def stQ (S : List (List Rat × Bool)) (j : Nat) : Bool := (S.getD j ([], false)).2
def vaQ (S : List (List Rat × Bool)) (m : Nat) (x : Nat → Rat) (j : Nat) : Rat := nuQ S j m + smQ m fun k => nuQ S j k * x k
def MetQ (m : Nat) (S : List (List Rat × Bool)) (x : Nat → Rat) : Prop := ∀ j, j < S.length → 0 < vaQ S m x j ∨ (vaQ S m x j = 0 ∧ stQ S j = false)
structure BarQ (m : Nat) (S : List (List Rat × Bool)) (l : Nat → Rat) : Prop where
  nn : ∀ j, j < S.length → 0 ≤ l j
  zer : ∀ k, k < m → smQ S.length (fun j => l j * nuQ S j k) = 0
  las : smQ S.length (fun j => l j * nuQ S j m) < 0 ∨ (smQ S.length (fun j => l j * nuQ S j m) = 0 ∧ ∃ j, j < S.length ∧ stQ S j = true ∧ 0 < l j)
theorem not_bothQ {m : Nat} {S : List (List Rat × Bool)} {x l : Nat → Rat} (h : MetQ m S x) (b : BarQ m S l) : False := by
  have e : smQ S.length (fun j => l j * vaQ S m x j) = smQ S.length (fun j => l j * nuQ S j m) := by
    have e1 : smQ S.length (fun j => l j * vaQ S m x j) = smQ S.length (fun j => 1 * (l j * nuQ S j m) + 1 * smQ m fun k => x k * (l j * nuQ S j k)) := sq_congr fun j _ => by
      unfold vaQ
      have := sq_lc (l j) 0 (fun k => nuQ S j k * x k) (fun _ => 0) m
      have e2 : smQ m (fun k => l j * (nuQ S j k * x k) + 0 * 0) = smQ m fun k => x k * (l j * nuQ S j k) := sq_congr fun k _ => by grind
      rw [← e2, this]
      grind
    rw [e1, sq_lc, sq_swap]
    have e3 : smQ m (fun k => smQ S.length fun j => x k * (l j * nuQ S j k)) = 0 := sq_zero fun k hk => by
      have := sq_lc (x k) 0 (fun j => l j * nuQ S j k) (fun _ => 0) S.length
      have e2 : smQ S.length (fun j => x k * (l j * nuQ S j k) + 0 * 0) = smQ S.length fun j => x k * (l j * nuQ S j k) := sq_congr fun k _ => by grind
      rw [← e2, this, b.zer k hk]
      grind
    rw [e3]
    grind
  have nn : ∀ j, j < S.length → 0 ≤ l j * vaQ S m x j := fun j hj => Rat.mul_nonneg (b.nn j hj) (by rcases h j hj with z | ⟨z, _⟩; exact Rat.le_of_lt z; rw [z]; exact Rat.le_refl)
  rcases b.las with z | ⟨z, j, hj, hs, hp⟩
  · have := sq_nn nn
    rw [e] at this
    grind
  · have hv : 0 < vaQ S m x j := by
      rcases h j hj with y | ⟨_, y⟩
      · exact y
      · rw [hs] at y
        cases y
    have := sq_pos nn hj (Rat.mul_pos hp hv)
    rw [e, z] at this
    exact absurd this (Rat.lt_irrefl)
/-- a row, times a whole number, as a column -/
structure RowC (m : Nat) (r : List Rat × Bool) (cb : Int) (col : List Int) : Prop where
  cp : 0 < cb
  cl : col.length = m + 2
  num : ∀ k, k ≤ m → (cb : Rat) * r.1.getD k 0 = (col.getD k 0 : Int)
  st : col.getD (m + 1) 0 = if r.2 = true then 1 else 0
theorem eq_divQ {x : Rat} {a b : Int} (hb : b ≠ 0) (h : x * b = a) : x = Rat.divInt a b := by
  rw [Rat.divInt_eq_div, ← h]
  have hb' : (b : Rat) ≠ 0 := by
    intro z
    exact hb (by exact_mod_cast z)
  grind
theorem div_mulQ {a b : Int} (hb : b ≠ 0) : Rat.divInt a b * (b : Rat) = (a : Rat) := by
  rw [Rat.divInt_eq_div]
  have hb' : (b : Rat) ≠ 0 := by
    intro z
    exact hb (by exact_mod_cast z)
  grind
theorem part_sm {m : Nat} {r : List Rat × Bool} {cb : Int} {col : List Int} (h : RowC m r cb col) {y : Nat → Int} (hy : 0 < y m) : ∀ i, i ≤ m → smQ i (fun k => r.1.getD k 0 * Rat.divInt (y k) (y m)) * ((cb * y m : Int) : Rat) = ((smv i fun k => col.getD k 0 * y k : Int) : Rat)
  | 0, _ => by
    show (0 : Rat) * _ = ((0 : Int) : Rat)
    rw [Rat.zero_mul]
    rfl
  | i + 1, hi => by
    have ih := part_sm h hy i (by omega)
    have e1 := h.num i (by omega)
    have e2 := div_mulQ (a := y i) (b := y m) (by omega)
    show (smQ i _ + r.1.getD i 0 * Rat.divInt (y i) (y m)) * _ = ((smv i _ + col.getD i 0 * y i : Int) : Rat)
    rw [Rat.intCast_add, Rat.intCast_mul (col.getD i 0), ← ih, ← e1, ← e2, Rat.intCast_mul]
    grind
theorem part_div {m : Nat} {r : List Rat × Bool} {cb : Int} {col : List Int} (h : RowC m r cb col) {y : Nat → Int} (hy : 0 < y m) {i : Nat} (hi : i ≤ m) : r.1.getD m 0 + smQ i (fun k => r.1.getD k 0 * Rat.divInt (y k) (y m)) = Rat.divInt (col.getD m 0 * y m + smv i fun k => col.getD k 0 * y k) (cb * y m) := by
  have hp : 0 < cb * y m := Int.mul_pos h.cp hy
  refine eq_divQ (by omega) ?_
  have e := part_sm h hy i hi
  have e1 := h.num m (Nat.le_refl m)
  rw [Rat.intCast_add, ← e, Rat.intCast_mul (col.getD m 0), ← e1, Rat.intCast_mul]
  grind
theorem divQ_pos {a b : Int} (hb : 0 < b) : (0 < Rat.divInt a b ↔ 0 < a) ∧ (Rat.divInt a b = 0 ↔ a = 0) := by
  have e := div_mulQ (a := a) (b := b) (by omega)
  have hb' : (0 : Rat) < (b : Rat) := by exact_mod_cast hb
  refine ⟨⟨fun h => ?_, fun h => ?_⟩, ⟨fun h => ?_, fun h => ?_⟩⟩
  · have := Rat.mul_pos h hb'
    rw [e] at this
    exact_mod_cast this
  · have h' : (0 : Rat) < (a : Rat) := by exact_mod_cast h
    rw [← e] at h'
    refine Classical.byContradiction fun z => ?_
    have z : Rat.divInt a b ≤ 0 := Rat.not_lt.mp z
    have := Rat.mul_nonneg (a := -Rat.divInt a b) (b := (b : Rat)) (by grind) (Rat.le_of_lt hb')
    grind
  · rw [h, Rat.zero_mul] at e
    exact_mod_cast e.symm
  · rw [h]
    simp
def resV (m : Nat) : List Int := (List.range m).map (fun _ => 0) ++ [1, 1]
theorem res_at (m k : Nat) : (resV m).getD k 0 = if k = m ∨ k = m + 1 then 1 else 0 := by
  unfold resV
  by_cases z : k < m
  · rw [gd_l (by simpa using z), gd_rng z, if_neg (by omega)]
  · rw [gd_r (by simp; omega)]
    simp only [List.length_map, List.length_range]
    by_cases y : k = m ∨ k = m + 1
    · rw [if_pos y]
      rcases y with y | y
      · rw [y, show m - m = 0 by omega]
        rfl
      · rw [y, show m + 1 - m = 1 by omega]
        rfl
    · rw [if_neg y, List.getD_eq_getElem?_getD, List.getElem?_eq_none (by simp; omega)]
      rfl
theorem res_len (m : Nat) : (resV m).length = m + 2 := by unfold resV; simp
/-- the columns of rows, and the rest behind them -/
structure SysV (m : Nat) (S : List (List Rat × Bool)) (cbs : List Int) (cols : List (List Int)) : Prop where
  l1 : cbs.length = S.length
  l2 : cols.length = S.length
  row : ∀ j, j < S.length → RowC m (S.getD j ([], false)) (cbs.getD j 0) (cols.getD j [])
section
variable {m : Nat} {S : List (List Rat × Bool)} {cbs : List Int} {cols : List (List Int)} {bs : List Nat}
abbrev alV (cols : List (List Int)) (m : Nat) : List (List Int) := cols ++ [resV m]
theorem SysV.len (s : SysV m S cbs cols) : ∀ c ∈ alV cols m, c.length = m + 2 := fun c hc => by
  rcases List.mem_append.mp hc with z | z
  · obtain ⟨j, hj, e⟩ := List.mem_iff_getElem.mp z
    have := s.l2
    have h := (s.row j (by omega)).cl
    rw [List.getD_eq_getElem?_getD, List.getElem?_eq_getElem hj] at h
    rw [← e]
    exact h
  · rw [List.mem_singleton.mp z]
    exact res_len m
theorem SysV.at (s : SysV m S cbs cols) {j k : Nat} (hj : j < S.length) (hk : k < m + 2) : cdV (alV cols m) (m + 2) j k = (cols.getD j []).getD k 0 := by
  have := s.l2
  unfold cdV enV
  rw [if_pos (by simp; omega), if_pos hk, gd_l (by omega)]
theorem SysV.rest (s : SysV m S cbs cols) {k : Nat} (hk : k < m + 2) : cdV (alV cols m) (m + 2) S.length k = if k = m ∨ k = m + 1 then 1 else 0 := by
  have := s.l2
  unfold cdV enV
  rw [if_pos (by simp; omega), if_pos hk, gd_r (by omega), show S.length - cols.length = 0 by omega]
  exact res_at m k
abbrev yV (cols : List (List Int)) (m : Nat) (bs : List Nat) (k : Nat) : Int := Tbl (cdV (alV cols m) (m + 2)) (m + 2) bs (m + 2) (unv k) - scl (cdV (alV cols m) (m + 2)) (m + 2) bs
theorem SysV.point (s : SysV m S cbs cols) (o : OkT (cdV (alV cols m) (m + 2)) (m + 2) (duV (m + 2)) bs) (hb : ∀ x ∈ bs, x < S.length + 1 + (m + 2)) (h : ∀ j, j < S.length + 1 → 0 ≤ Tbl (cdV (alV cols m) (m + 2)) (m + 2) bs (m + 2) (cdV (alV cols m) (m + 2) j)) (ne : Tbl (cdV (alV cols m) (m + 2)) (m + 2) bs (m + 2) (duV (m + 2)) ≠ 0) : 0 < yV cols m bs m ∧ MetQ m S fun k => Rat.divInt (yV cols m bs k) (yV cols m bs m) := by
  have al : (alV cols m).length = S.length + 1 := by simp [s.l2]
  have cv := cd_cols (cols := alV cols m) (h := m + 2) (by omega) s.len
  rw [al] at cv
  have c1 := (o.cost cv hb).1
  have e1 := o.point (v := duV (m + 2)) cv.due
  rw [sm_one (r := m + 1) (by omega) fun i hi ne => by unfold duV; rw [if_neg (by omega), if_neg (by omega), Int.zero_mul]] at e1
  have e2 : duV (m + 2) (m + 1) = 1 := by unfold duV; rw [if_pos rfl]
  rw [e2, Int.one_mul] at e1
  have lt : yV cols m bs (m + 1) < 0 := by unfold yV; omega
  have key : ∀ j, j < S.length + 1 → 0 ≤ smv m (fun k => cdV (alV cols m) (m + 2) j k * yV cols m bs k) + cdV (alV cols m) (m + 2) j m * yV cols m bs m + cdV (alV cols m) (m + 2) j (m + 1) * yV cols m bs (m + 1) := fun j hj => by
    have := o.point (v := cdV (alV cols m) (m + 2) j) (cv.giv j hj)
    have h1 := h j hj
    rw [this] at h1
    exact h1
  have k1 := key S.length (by omega)
  rw [sm_zero fun k hk => by rw [s.rest (by omega), if_neg (by omega), Int.zero_mul], s.rest (by omega), s.rest (by omega), if_pos (Or.inl rfl), if_pos (Or.inr rfl)] at k1
  have yp : 0 < yV cols m bs m := by omega
  refine ⟨yp, fun j hj => ?_⟩
  have rc := s.row j hj
  have e := part_div rc yp (Nat.le_refl m)
  have e3 : vaQ S m (fun k => Rat.divInt (yV cols m bs k) (yV cols m bs m)) j = Rat.divInt ((cols.getD j []).getD m 0 * yV cols m bs m + smv m fun k => (cols.getD j []).getD k 0 * yV cols m bs k) (cbs.getD j 0 * yV cols m bs m) := e
  rw [e3]
  have k2 := key j (by omega)
  rw [s.at hj (by omega), s.at hj (by omega), rc.st, sm_congr fun k hk => by rw [s.at hj (show k < m + 2 by omega)]] at k2
  obtain ⟨d1, d2⟩ := divQ_pos (a := (cols.getD j []).getD m 0 * yV cols m bs m + smv m fun k => (cols.getD j []).getD k 0 * yV cols m bs k) (Int.mul_pos rc.cp yp)
  rw [d1, d2]
  cases hs : (S.getD j ([], false)).2 with
  | true =>
    rw [hs, if_pos rfl] at k2
    exact .inl (by omega)
  | false =>
    rw [hs, if_neg (by decide)] at k2
    rcases Int.lt_or_eq_of_le (show 0 ≤ (cols.getD j []).getD m 0 * yV cols m bs m + smv m fun k => (cols.getD j []).getD k 0 * yV cols m bs k by omega) with z | z
    · exact .inl z
    · exact .inr ⟨z.symm, hs⟩
/-- how much of each column the end has -/
abbrev shV (cols : List (List Int)) (m : Nat) (bs : List Nat) (j : Nat) : Int := gvV (fun i => bs.getD i 0) (fun i => Tbl (cdV (alV cols m) (m + 2)) (m + 2) bs i (duV (m + 2))) (m + 2) j
theorem SysV.shares (s : SysV m S cbs cols) (o : OkT (cdV (alV cols m) (m + 2)) (m + 2) (duV (m + 2)) bs) (hb : ∀ x ∈ bs, x < S.length + 1 + (m + 2)) (h0 : Tbl (cdV (alV cols m) (m + 2)) (m + 2) bs (m + 2) (duV (m + 2)) = 0) :
    (∀ j, 0 ≤ shV cols m bs j) ∧ (∃ j, j < S.length ∧ 0 < shV cols m bs j) ∧ ∀ (sh : Int) (l : Nat → Rat), 0 < sh → (∀ j, j < S.length → l j * (sh : Rat) = ((shV cols m bs j * cbs.getD j 0 : Int) : Rat)) → BarQ m S l := by
  have al : (alV cols m).length = S.length + 1 := by simp [s.l2]
  have cv := cd_cols (cols := alV cols m) (h := m + 2) (by omega) s.len
  rw [al] at cv
  have c1 := (o.cost cv hb).2 h0
  have nn : ∀ j, 0 ≤ shV cols m bs j := fun j => gv_nn (fun i hi => o.nn i hi) j
  have sp : 0 < scl (cdV (alV cols m) (m + 2)) (m + 2) bs := o.bas.pos
  have key : ∀ k, k < m + 2 → scl (cdV (alV cols m) (m + 2)) (m + 2) bs * duV (m + 2) k = smv S.length (fun j => shV cols m bs j * (cols.getD j []).getD k 0) + shV cols m bs S.length * if k = m ∨ k = m + 1 then 1 else 0 := fun k hk => by
    rw [o.shares (duV (m + 2)) hk, gv_swap (fun i => bs.getD i 0) (fun i => Tbl (cdV (alV cols m) (m + 2)) (m + 2) bs i (duV (m + 2))) (fun j => cdV (alV cols m) (m + 2) j k) (S.length + 1) (m + 2) fun i hi => ?_]
    · show smv S.length _ + shV cols m bs S.length * cdV (alV cols m) (m + 2) S.length k = _
      rw [s.rest hk]
      congr 1
      exact sm_congr fun j hj => by rw [s.at hj hk]
    · by_cases z : bs.getD i 0 < S.length + 1
      · exact .inl z
      · exact .inr (c1 i hi (by omega))
  have kz : ∀ k, k < m → smv S.length (fun j => shV cols m bs j * (cols.getD j []).getD k 0) = 0 := fun k hk => by
    have := key k (by omega)
    unfold duV at this
    rw [if_neg (by omega), if_neg (by omega), if_neg (by omega)] at this
    omega
  have km : smv S.length (fun j => shV cols m bs j * (cols.getD j []).getD m 0) + shV cols m bs S.length = 0 := by
    have := key m (by omega)
    unfold duV at this
    rw [if_neg (by omega), if_neg (by omega), if_pos (Or.inl rfl)] at this
    omega
  have ks : smv S.length (fun j => shV cols m bs j * (cols.getD j []).getD (m + 1) 0) + shV cols m bs S.length = scl (cdV (alV cols m) (m + 2)) (m + 2) bs := by
    have := key (m + 1) (by omega)
    unfold duV at this
    rw [if_pos (by omega), if_pos (Or.inr rfl)] at this
    omega
  have cast : ∀ (f : Nat → Int) n, smQ n (fun j => (f j : Rat)) = ((smv n f : Int) : Rat) := fun f n => by
    induction n with
    | zero => rfl
    | succ n ih =>
      show smQ n _ + _ = ((smv n f + f n : Int) : Rat)
      rw [ih, Rat.intCast_add]
  refine ⟨nn, ?_, fun sh l hs hl => ?_⟩
  · refine Classical.byContradiction fun no => ?_
    have z : ∀ j, j < S.length → shV cols m bs j = 0 := fun j hj => by
      have := nn j
      have : ¬ 0 < shV cols m bs j := fun y => no ⟨j, hj, y⟩
      omega
    rw [sm_zero fun j hj => by rw [z j hj, Int.zero_mul]] at km ks
    omega
  · have hs' : (0 : Rat) < (sh : Rat) := by exact_mod_cast hs
    have tot : ∀ k, k ≤ m → smQ S.length (fun j => l j * nuQ S j k) * (sh : Rat) = ((smv S.length (fun j => shV cols m bs j * (cols.getD j []).getD k 0) : Int) : Rat) := fun k hk => by
      rw [← cast]
      have := sq_lc (sh : Rat) 0 (fun j => l j * nuQ S j k) (fun _ => 0) S.length
      have e : smQ S.length (fun j => ((shV cols m bs j * (cols.getD j []).getD k 0 : Int) : Rat)) = smQ S.length (fun j => (sh : Rat) * (l j * nuQ S j k) + 0 * 0) := sq_congr fun j hj => by
        have h1 := hl j hj
        have h2 := (s.row j hj).num k hk
        rw [Rat.intCast_mul] at h1 ⊢
        rw [← h2]
        show _ = (sh : Rat) * (l j * (S.getD j ([], false)).1.getD k 0) + 0 * 0
        grind
      rw [e, this]
      grind
    refine ⟨fun j hj => ?_, fun k hk => ?_, ?_⟩
    · have h1 := hl j hj
      have h2 : (0 : Rat) ≤ ((shV cols m bs j * cbs.getD j 0 : Int) : Rat) := by
        exact_mod_cast Int.mul_nonneg (nn j) (Int.le_of_lt (s.row j hj).cp)
      rw [← h1] at h2
      refine Classical.byContradiction fun z => ?_
      have z : l j < 0 := Rat.not_le.mp z
      have := Rat.mul_pos (a := -l j) (b := (sh : Rat)) (by grind) hs'
      grind
    · have h1 := tot k (by omega)
      rw [kz k hk] at h1
      have h2 : smQ S.length (fun j => l j * nuQ S j k) * (sh : Rat) = 0 := h1
      rcases Rat.mul_eq_zero.mp h2 with z | z
      · exact z
      · rw [z] at hs'
        exact absurd hs' Rat.lt_irrefl
    · have h1 := tot m (Nat.le_refl m)
      have nr := nn S.length
      rcases Int.lt_or_eq_of_le nr with z | z
      · refine .inl ?_
        have : smv S.length (fun j => shV cols m bs j * (cols.getD j []).getD m 0) < 0 := by omega
        have h3 : ((smv S.length (fun j => shV cols m bs j * (cols.getD j []).getD m 0) : Int) : Rat) < 0 := by exact_mod_cast this
        rw [← h1] at h3
        refine Classical.byContradiction fun y => ?_
        have := Rat.mul_nonneg (Rat.not_lt.mp y) (Rat.le_of_lt hs')
        grind
      · refine .inr ⟨?_, ?_⟩
        · have : smv S.length (fun j => shV cols m bs j * (cols.getD j []).getD m 0) = 0 := by omega
          rw [this] at h1
          have h2 : smQ S.length (fun j => l j * nuQ S j m) * (sh : Rat) = 0 := h1
          rcases Rat.mul_eq_zero.mp h2 with z | z
          · exact z
          · rw [z] at hs'
            exact absurd hs' Rat.lt_irrefl
        · obtain ⟨j, hj, hp⟩ := sm_pos (n := S.length) (g := fun j => shV cols m bs j * (cols.getD j []).getD (m + 1) 0) (by omega)
          have hp : 0 < shV cols m bs j * (cols.getD j []).getD (m + 1) 0 := hp
          have rc := s.row j hj
          rw [rc.st] at hp
          cases e : (S.getD j ([], false)).2 with
          | false =>
            rw [e, if_neg (by decide), Int.mul_zero] at hp
            exact absurd hp (Int.lt_irrefl 0)
          | true =>
            rw [e, if_pos rfl, Int.mul_one] at hp
            refine ⟨j, hj, e, ?_⟩
            have h1 := hl j hj
            have h2 : (0 : Rat) < ((shV cols m bs j * cbs.getD j 0 : Int) : Rat) := by
              exact_mod_cast Int.mul_pos hp rc.cp
            rw [← h1] at h2
            refine Classical.byContradiction fun y => ?_
            have := Rat.mul_nonneg (a := -l j) (b := (sh : Rat)) (by have := Rat.not_lt.mp y; grind) (Rat.le_of_lt hs')
            grind
end
end SX

/-! sizes, and rows made whole -/
namespace SX
def lcQ (b d : Int) : Int := (b * d).fdiv (Int.gcd b d : Int)
theorem lc_eq {b d : Int} (hb : 0 < b) (hd : 0 < d) : lcQ b d = (Int.lcm b d : Int) := by
  unfold lcQ
  have g0 : Int.gcd b d ≠ 0 := by
    have := Int.gcd_pos_of_ne_zero_left d (show b ≠ 0 by omega)
    omega
  have e : b * d = (Int.gcd b d : Int) * (Int.lcm b d : Int) := by
    have := Int.gcd_mul_lcm b d
    have h : ((Int.gcd b d * Int.lcm b d : Nat) : Int) = ((b * d).natAbs : Int) := by rw [this, Int.natAbs_mul]
    rw [Int.natCast_mul] at h
    rw [h]
    have := Int.mul_pos hb hd
    omega
  rw [e]
  exact Int.mul_fdiv_cancel_left _ (by omega)
theorem lc_pos {b d : Int} (hb : 0 < b) (hd : 0 < d) : 0 < lcQ b d := by
  rw [lc_eq hb hd]
  have := Int.lcm_pos (m := b) (n := d) (by omega) (by omega)
  omega
def cbQ (ds : List Int) : Int := ds.foldl lcQ 1
theorem cb_snoc (ds : List Int) (d : Int) : cbQ (ds ++ [d]) = lcQ (cbQ ds) d := by
  unfold cbQ
  rw [List.foldl_append]
  rfl
theorem fold_lc {D : Int} : ∀ (ds : List Int) (b : Int), 0 < b → b ∣ D → (∀ d ∈ ds, 0 < d ∧ d ∣ D) → 0 < ds.foldl lcQ b ∧ b ∣ ds.foldl lcQ b ∧ (∀ d ∈ ds, d ∣ ds.foldl lcQ b) ∧ ds.foldl lcQ b ∣ D
  | [], b, hb, hD, _ => ⟨hb, Int.dvd_refl b, fun d hd => (by cases hd), hD⟩
  | d :: ds, b, hb, hD, h => by
    obtain ⟨d0, dD⟩ := h d (by simp)
    have e := lc_eq hb d0
    have l1 : b ∣ lcQ b d := by rw [e]; exact Int.dvd_lcm_left b d
    have l2 : d ∣ lcQ b d := by rw [e]; exact Int.dvd_lcm_right b d
    have l3 : lcQ b d ∣ D := by
      rw [e, ← Int.dvd_natAbs (b := D)]
      exact Int.natCast_dvd_natCast.mpr (Int.lcm_dvd (Int.dvd_natAbs.mpr hD) (Int.dvd_natAbs.mpr dD))
    obtain ⟨a1, a2, a3, a4⟩ := fold_lc ds (lcQ b d) (lc_pos hb d0) l3 fun x hx => h x (by simp [hx])
    refine ⟨a1, Int.dvd_trans l1 a2, fun x hx => ?_, a4⟩
    rcases List.mem_cons.mp hx with z | z
    · rw [z]
      exact Int.dvd_trans l2 a2
    · exact a3 x z
/-- a fraction of bottom D -/
def AtQ (D : Int) (Z : Nat) (r : Rat) : Prop := ∃ z : Int, r = Rat.divInt z D ∧ z.natAbs ≤ Z
theorem AtQ.dvd {D : Int} {Z : Nat} {r : Rat} (D0 : D ≠ 0) (h : AtQ D Z r) : (r.den : Int) ∣ D := by
  obtain ⟨z, e, _⟩ := h
  have d0 : (r.den : Int) ≠ 0 := by
    have := r.den_nz
    omega
  have e1 : Rat.divInt r.num r.den = Rat.divInt z D := by rw [Rat.num_divInt_den, e]
  have e2 := (Rat.divInt_eq_divInt_iff d0 D0).mp e1
  have h1 : (r.den : Int) ∣ r.num * D := by
    rw [e2]
    exact Int.dvd_mul_left _ _
  have h2 : r.den ∣ r.num.natAbs * D.natAbs := by
    rw [← Int.natAbs_mul]
    exact Int.natCast_dvd_natCast.mp (Int.dvd_natAbs.mpr h1)
  have h3 : r.den ∣ D.natAbs := Nat.Coprime.dvd_of_dvd_mul_left (Nat.Coprime.symm r.reduced) h2
  exact Int.dvd_natAbs.mp (Int.natCast_dvd_natCast.mpr h3)
theorem AtQ.mono {D : Int} {Z Z' : Nat} {r : Rat} (h : AtQ D Z r) (k : Z ≤ Z') : AtQ D Z' r := by
  obtain ⟨z, e, h⟩ := h
  exact ⟨z, e, by omega⟩
def wnQ (cb : Int) (r : Rat) : Int := r.num * cb.fdiv (r.den : Int)
theorem wn_eq {cb : Int} {r : Rat} (h : (r.den : Int) ∣ cb) : (cb : Rat) * r = (wnQ cb r : Int) := by
  obtain ⟨t, e⟩ := h
  have d0 : (r.den : Int) ≠ 0 := by
    have := r.den_nz
    omega
  unfold wnQ
  rw [e, Int.mul_fdiv_cancel_left _ d0, Rat.intCast_mul, Rat.intCast_mul]
  have h1 := div_mulQ (a := r.num) d0
  rw [Rat.num_divInt_den] at h1
  rw [← h1]
  grind
theorem wn_le {cb D : Int} {Z : Nat} {r : Rat} (h : (r.den : Int) ∣ cb) (h0 : D ≠ 0) (hD : cb ∣ D) (a : AtQ D Z r) : (wnQ cb r).natAbs ≤ Z := by
  obtain ⟨z, e, hz⟩ := a
  obtain ⟨t, et⟩ := hD
  have e1 := wn_eq h
  have e2 := div_mulQ (a := z) h0
  rw [← e, et, Rat.intCast_mul] at e2
  have e3 : ((wnQ cb r * t : Int) : Rat) = (z : Rat) := by
    rw [Rat.intCast_mul, ← e1, ← e2]
    grind
  have e4 : wnQ cb r * t = z := by exact_mod_cast e3
  have t0 : t ≠ 0 := fun y => h0 (by rw [et, y, Int.mul_zero])
  have e5 : (wnQ cb r).natAbs * t.natAbs = z.natAbs := by rw [← Int.natAbs_mul, e4]
  have : 1 ≤ t.natAbs := by omega
  have := Nat.le_mul_of_pos_right (wnQ cb r).natAbs this
  omega
def coQ (r : List Rat) (cb : Int) (s : Bool) : List Int := r.map (wnQ cb) ++ [if s = true then 1 else 0]
theorem row_mk {m : Nat} {r : List Rat} {s : Bool} {D : Int} {Z : Nat} (hl : r.length = m + 1) (D0 : 0 < D) (h : ∀ x ∈ r, AtQ D Z x) : RowC m (r, s) (cbQ (r.map fun x => (x.den : Int))) (coQ r (cbQ (r.map fun x => (x.den : Int))) s) ∧ cbQ (r.map fun x => (x.den : Int)) ≤ D ∧ ∀ x ∈ coQ r (cbQ (r.map fun x => (x.den : Int))) s, x.natAbs ≤ max Z 1 := by
  obtain ⟨c1, _, c3, c4⟩ := fold_lc (D := D) (r.map fun x => (x.den : Int)) 1 (by decide) (Int.one_dvd D) fun d hd => by
    obtain ⟨x, hx, e⟩ := List.mem_map.mp hd
    rw [← e]
    refine ⟨?_, (h x hx).dvd (by omega)⟩
    have := x.den_nz
    omega
  have cle : cbQ (r.map fun x => (x.den : Int)) ≤ D := Int.le_of_dvd D0 c4
  have dv : ∀ x ∈ r, (x.den : Int) ∣ cbQ (r.map fun x => (x.den : Int)) := fun x hx => c3 _ (List.mem_map.mpr ⟨x, hx, rfl⟩)
  have c1 : 0 < cbQ (r.map fun x => (x.den : Int)) := c1
  have c4 : cbQ (r.map fun x => (x.den : Int)) ∣ D := c4
  generalize cbQ (r.map fun x => (x.den : Int)) = cb at *
  refine ⟨⟨c1, by unfold coQ; simp [hl], fun k hk => ?_, ?_⟩, cle, fun x hx => ?_⟩
  · have hk' : k < r.length := by omega
    unfold coQ
    rw [gd_l (by simpa using hk'), gd_map (a := (0 : Rat)) hk']
    refine wn_eq (dv _ ?_)
    rw [List.getD_eq_getElem?_getD, List.getElem?_eq_getElem hk']
    exact List.getElem_mem _
  · unfold coQ
    rw [gd_r (by simp; omega)]
    simp [hl]
  · unfold coQ at hx
    rcases List.mem_append.mp hx with z | z
    · obtain ⟨y, hy, e⟩ := List.mem_map.mp z
      rw [← e]
      have := wn_le (dv y hy) (by omega) c4 (h y hy)
      omega
    · rw [List.mem_singleton.mp z]
      split <;> simp <;> omega
theorem sum_le {X : Nat} : ∀ (c : List Int), (∀ x ∈ c, x.natAbs ≤ X) → c.sum.natAbs ≤ c.length * X
  | [], _ => by simp
  | x :: c, h => by
    have h1 := sum_le c fun y hy => h y (by simp [hy])
    have h2 := h x (by simp)
    rw [List.sum_cons, List.length_cons, Nat.add_mul, Nat.one_mul]
    omega
theorem cd_le {cols : List (List Int)} {h X : Nat} (h1 : 1 ≤ h) (x1 : 1 ≤ X) (hl : ∀ c ∈ cols, c.length = h) (hx : ∀ c ∈ cols, ∀ x ∈ c, x.natAbs ≤ X) (j k : Nat) : (cdV cols h j k).natAbs ≤ h * X := by
  have hX : X ≤ h * X := Nat.le_mul_of_pos_left _ h1
  have one : 1 ≤ h * X := by omega
  unfold cdV
  by_cases z : j < cols.length
  · rw [if_pos z]
    have hm : cols.getD j [] ∈ cols := by rw [List.getD_eq_getElem?_getD, List.getElem?_eq_getElem z]; exact List.getElem_mem _
    by_cases y : k < h
    · rw [if_pos y]
      have hk : k < (cols.getD j []).length := by rw [hl _ hm]; exact y
      have : enV cols j k ∈ cols.getD j [] := by
        unfold enV
        rw [List.getD_eq_getElem?_getD (l := cols.getD j []), List.getElem?_eq_getElem hk]
        exact List.getElem_mem _
      have := hx _ hm _ this
      omega
    · rw [if_neg y]
      split
      · have := sum_le _ (hx _ hm)
        rw [hl _ hm] at this
        omega
      · simp
  · rw [if_neg z]
    unfold unv
    split
    · simpa using one
    · simp
theorem tb_le {C : Nat → VecI} {n X i : Nat} {bs : List Nat} {v : VecI} (x1 : 1 ≤ X) (hl : bs.length = n) (hC : ∀ j k, (C j k).natAbs ≤ X) (hv : ∀ k, (v k).natAbs ≤ X) : (Tbl C n bs i v).natAbs ≤ facV (n + 1) * X ^ (n + 1) ∧ (scl C n bs).natAbs ≤ facV (n + 1) * X ^ (n + 1) := by
  have hB : ∀ u ∈ Bvv C n bs, ∀ k, k < n + 1 → (u k).natAbs ≤ X := fun u hu k _ => by
    unfold Bvv at hu
    rcases List.mem_append.mp hu with z | z
    · obtain ⟨j, _, e⟩ := List.mem_map.mp z
      rw [← e]
      exact hC j k
    · rw [List.mem_singleton.mp z]
      unfold unv
      split
      · simpa using x1
      · simp
  refine ⟨fm_le ?_ fun u hu k hk => ?_, fm_le ?_ hB⟩
  · unfold Bvv
    simp [hl]
  · rcases List.mem_or_eq_of_mem_set hu with z | z
    · exact hB u z k hk
    · rw [z]
      exact hv k
  · unfold Bvv
    simp [hl]
set_option exponentiation.threshold 10000 in
theorem fac_le {n : Nat} (h : n ≤ 6) : facV (n + 1) * (6 * 2 ^ 350) ^ (n + 1) < 2 ^ 2484 := by
  match n, h with
  | 0, _ => decide +kernel
  | 1, _ => decide +kernel
  | 2, _ => decide +kernel
  | 3, _ => decide +kernel
  | 4, _ => decide +kernel
  | 5, _ => decide +kernel
  | 6, _ => decide +kernel
theorem un_le {X : Nat} (x1 : 1 ≤ X) (i k : Nat) : (unv i k).natAbs ≤ X := by
  unfold unv
  split
  · simpa using x1
  · simp
theorem du_le {X : Nat} (x1 : 1 ≤ X) (h k : Nat) : (duV h k).natAbs ≤ X := by
  unfold duV
  split
  · simpa using x1
  · split
    · simpa using x1
    · simp
/-- all numbers of a search of rows -/
theorem all_le {cols : List (List Int)} {n : Nat} {bs : List Nat} (h1 : 1 ≤ n) (h6 : n ≤ 6) (hl : ∀ c ∈ cols, c.length = n) (hx : ∀ c ∈ cols, ∀ x ∈ c, x.natAbs ≤ 2 ^ 350) (hb : bs.length = n) : (scl (cdV cols n) n bs).natAbs < 2 ^ 2484 ∧ ∀ i, (∀ j, (Tbl (cdV cols n) n bs i (cdV cols n j)).natAbs < 2 ^ 2484) ∧ (Tbl (cdV cols n) n bs i (duV n)).natAbs < 2 ^ 2484 ∧ ∀ k, (Tbl (cdV cols n) n bs i (unv k)).natAbs < 2 ^ 2484 := by
  have x1 : 1 ≤ 6 * 2 ^ 350 := by decide +kernel
  have hC : ∀ j k, (cdV cols n j k).natAbs ≤ 6 * 2 ^ 350 := fun j k => Nat.le_trans (cd_le h1 (by decide +kernel) hl hx j k) (Nat.mul_le_mul_right _ h6)
  have f := fac_le h6
  refine ⟨Nat.lt_of_le_of_lt (tb_le (i := 0) x1 hb hC (un_le x1 0)).2 f, fun i => ⟨fun j => Nat.lt_of_le_of_lt (tb_le x1 hb hC (hC j)).1 f, Nat.lt_of_le_of_lt (tb_le x1 hb hC (du_le x1 n)).1 f, fun k => Nat.lt_of_le_of_lt (tb_le x1 hb hC (un_le x1 k)).1 f⟩⟩
end SX

/-! fractions of a given bottom -/
namespace SX
theorem atQ_mk {D z : Int} {Z : Nat} {r : Rat} (D0 : D ≠ 0) (e : r * (D : Rat) = (z : Rat)) (h : z.natAbs ≤ Z) : AtQ D Z r := ⟨z, eq_divQ D0 e, h⟩
theorem AtQ.eq {D : Int} {Z : Nat} {r : Rat} (D0 : D ≠ 0) (h : AtQ D Z r) : ∃ z : Int, r * (D : Rat) = (z : Rat) ∧ z.natAbs ≤ Z := by
  obtain ⟨z, e, hz⟩ := h
  exact ⟨z, by rw [e]; exact div_mulQ D0, hz⟩
theorem AtQ.add {D : Int} {Y Z : Nat} {r s : Rat} (D0 : D ≠ 0) (h : AtQ D Y r) (k : AtQ D Z s) : AtQ D (Y + Z) (r + s) := by
  obtain ⟨y, e1, hy⟩ := h.eq D0
  obtain ⟨z, e2, hz⟩ := k.eq D0
  refine atQ_mk D0 (z := y + z) ?_ (by omega)
  rw [Rat.intCast_add, ← e1, ← e2]
  grind
theorem AtQ.mul {D E : Int} {Y Z : Nat} {r s : Rat} (D0 : D ≠ 0) (E0 : E ≠ 0) (h : AtQ D Y r) (k : AtQ E Z s) : AtQ (D * E) (Y * Z) (r * s) := by
  obtain ⟨y, e1, hy⟩ := h.eq D0
  obtain ⟨z, e2, hz⟩ := k.eq E0
  refine atQ_mk (Int.mul_ne_zero D0 E0) (z := y * z) ?_ (by rw [Int.natAbs_mul]; exact Nat.mul_le_mul hy hz)
  rw [Rat.intCast_mul, Rat.intCast_mul, ← e1, ← e2]
  grind
theorem AtQ.up {D c : Int} {Z : Nat} {r : Rat} (D0 : D ≠ 0) (c0 : c ≠ 0) (h : AtQ D Z r) : AtQ (D * c) (Z * c.natAbs) r := by
  obtain ⟨z, e, hz⟩ := h.eq D0
  refine atQ_mk (Int.mul_ne_zero D0 c0) (z := z * c) ?_ (by rw [Int.natAbs_mul]; exact Nat.mul_le_mul_right _ hz)
  rw [Rat.intCast_mul, Rat.intCast_mul, ← e]
  grind
theorem atQ_zero {D : Int} (D0 : D ≠ 0) (Z : Nat) : AtQ D Z 0 := atQ_mk D0 (z := 0) (by rw [Rat.zero_mul]; rfl) (Nat.zero_le _)
theorem atQ_int (l : Int) : AtQ 1 l.natAbs (l : Rat) := atQ_mk (by decide) (z := l) (by have : ((1 : Int) : Rat) = 1 := rfl; rw [this, Rat.mul_one]) (Nat.le_refl _)
theorem AtQ.num {D : Int} {Z : Nat} {r : Rat} (D0 : D ≠ 0) (h : AtQ D Z r) : r.num.natAbs ≤ Z := by
  have d := h.dvd D0
  have w := wn_le (cb := (r.den : Int)) (D := D) (Int.dvd_refl _) D0 d h
  have d0 : (r.den : Int) ≠ 0 := by
    have := r.den_nz
    omega
  unfold wnQ at w
  have e : (r.den : Int).fdiv (r.den : Int) = 1 := by
    have := Int.mul_fdiv_cancel_left 1 d0
    rw [Int.mul_one] at this
    exact this
  rw [e, Int.mul_one] at w
  exact w
theorem AtQ.den {D : Int} {Z : Nat} {r : Rat} (D0 : D ≠ 0) (h : AtQ D Z r) : r.den ≤ D.natAbs := by
  have d := h.dvd D0
  have h2 : r.den ∣ D.natAbs := Int.natCast_dvd_natCast.mp (Int.dvd_natAbs.mpr d)
  exact Nat.le_of_dvd (by omega) h2
theorem numQ (r : Rat) : (0 < r ↔ 0 < r.num) ∧ (r = 0 ↔ r.num = 0) ∧ (r < 0 ↔ r.num < 0) := by
  have d0 : 0 < (r.den : Int) := by
    have := r.den_nz
    omega
  obtain ⟨h1, h2⟩ := divQ_pos (a := r.num) d0
  rw [Rat.num_divInt_den] at h1 h2
  refine ⟨h1, h2, ⟨fun h => ?_, fun h => ?_⟩⟩
  · have n1 : ¬ 0 < r.num := fun z => by have := h1.mpr z; grind
    have n2 : ¬ r.num = 0 := fun z => by have := h2.mpr z; grind
    omega
  · have n1 : ¬ 0 < r := fun z => by have := h1.mp z; omega
    have n2 : ¬ r = 0 := fun z => by have := h2.mp z; omega
    grind
end SX


set_option Elab.async false
set_option linter.all false
set_option maxRecDepth 100000
set_option maxHeartbeats 4000000
namespace L4
open PySem L2
/-! comprehensions that give whole numbers -/
theorem comp_rI {t : Nat} {te : TE} {σ0 : St} {H1 : Hp} {Q : VK} {D : Addr} {lo : Int} {n : Nat} (f : Nat → Int) (hD : H1 D = none) (hn : n ≤ 900)
    (he : ∀ i H' Q', i < n → Same H1 H' → Q' (.int (f i)) H' → te (σ0.set t (some (.int (lo + i)))) H' Q')
    (q : ∀ H', Same H1 H' → H' D = some (.lst (((List.range n).map f).map V.int)) → Q (.ref D) H') : CompGo (Itr lo n) (gName t) tYes te σ0 H1 Q D := by
  refine comp_range (fun i ys H' => Same H1 H' ∧ ys = ((List.range i).map f).map V.int) ⟨same_new hD _, rfl⟩ ?_ ?_
  · rintro i ys H' hi ⟨s1, rfl⟩ hD'
    refine yes (he i H' _ hi s1 ?_)
    refine cyes hi rset1 hD' (by rw [List.length_map, List.length_map, List.length_range]; exact small1000 (by omega)) ⟨s1.put hD, ?_⟩
    rw [List.range_succ, List.map_append, List.map_append]
    rfl
  · rintro ys H' ⟨s1, rfl⟩ hD'
    exact q H' s1 hD'
theorem comp_lIs {K : PySem.W.Frag} {a : Addr} {xs : List V} {t : Nat} {te : TE} {σ0 : St} {H1 : Hp} {Q : VK} {D : Addr} (fs : List Int) (ha : H1 a = some (.lst xs)) (hf : fs.length = xs.length) (hD : H1 D = none) (hn : fs.length ≤ 900)
    (he : ∀ (i : Nat) x z H' Q', xs[i]? = some x → fs[i]? = some z → Same H1 H' → (∀ H'', Same H' H'' → Q' (.int z) H'') → te (σ0.set t (some x)) H' Q')
    (q : ∀ H', Same H1 H' → H' D = some (.lst (fs.map V.int)) → Q (.ref D) H') : CompGo (Itl K a) (gName t) tYes te σ0 H1 Q D := by
  refine comp_list (xs := xs) (fun i ys H' => Same H1 H' ∧ ys = (fs.take i).map V.int) ⟨same_new hD _, rfl⟩ (fun i ys H' h _ => SqL.of (h.1 _ _ ha)) ?_ ?_
  · rintro i ys H' x hx ⟨s1, rfl⟩ hD'
    have hi := (List.getElem?_eq_some_iff.mp hx).1
    have hz : fs[i]? = some fs[i] := List.getElem?_eq_getElem (by omega)
    refine yes (he i x _ H' _ hx hz s1 fun H'' s2 => ?_)
    refine cyes hi rset1 (s2 _ _ hD') (by rw [List.length_map, List.length_take]; exact small1000 (by omega)) ⟨(s1.trans s2).put hD, ?_⟩
    rw [take_snoc hz, List.map_append]
    rfl
  · rintro ys H' ⟨s1, rfl⟩ hD'
    rw [List.take_of_length_le (by omega)] at hD'
    exact q H' s1 hD'
theorem comp_lI {K : PySem.W.Frag} {a : Addr} {xs : List V} {t : Nat} {te : TE} {σ0 : St} {H1 : Hp} {Q : VK} {D : Addr} (fs : List Int) (ha : H1 a = some (.lst xs)) (hf : fs.length = xs.length) (hD : H1 D = none) (hn : fs.length ≤ 900)
    (he : ∀ (i : Nat) x z H' Q', xs[i]? = some x → fs[i]? = some z → Same H1 H' → Q' (.int z) H' → te (σ0.set t (some x)) H' Q')
    (q : ∀ H', Same H1 H' → H' D = some (.lst (fs.map V.int)) → Q (.ref D) H') : CompGo (Itl K a) (gName t) tYes te σ0 H1 Q D := comp_lIs fs ha hf hD hn (fun i x z H' Q' hx hz s k => he i x z H' Q' hx hz s (k _ (Same.refl _))) q
/-- fractions whose pairs stand in the heap -/
def FRh (H : Hp) (v : V) (r : Rat) (n : Nat) : Prop := ∃ p, v = .ref p ∧ H p = some (tupR r) ∧ Sz n r.num ∧ Sz n r.den
theorem FRh.fr {K : PySem.W.Frag} {H : Hp} {v : V} {r : Rat} {n : Nat} (h : FRh H v r n) : FR K H v r n := by
  obtain ⟨p, e, hp, k⟩ := h
  exact ⟨p, e, SqT.of hp, k⟩
theorem FRh.same {H H' : Hp} {v : V} {r : Rat} {n : Nat} (h : FRh H v r n) (s : Same H H') : FRh H' v r n := by
  obtain ⟨p, e, hp, k⟩ := h
  exact ⟨p, e, s _ _ hp, k⟩
theorem FRh.put {H : Hp} {v : V} {r : Rat} {n : Nat} {D : Addr} {xs : List V} {o : HO} (h : FRh H v r n) (hD : H D = some (.lst xs)) : FRh (upd H D o) v r n := by
  obtain ⟨p, e, hp, k⟩ := h
  exact ⟨p, e, by rw [upd_ne (ne_of hp hD (by intro z; cases z))]; exact hp, k⟩
def FRhs (H : Hp) (zs : List (V × Rat)) (n : Nat) : Prop := ∀ z ∈ zs, FRh H z.1 z.2 n
theorem FRhs.same {H H' : Hp} {zs : List (V × Rat)} {n : Nat} (h : FRhs H zs n) (s : Same H H') : FRhs H' zs n := fun z hz => (h z hz).same s
theorem FRhs.fr {K : PySem.W.Frag} {H : Hp} {zs : List (V × Rat)} {n : Nat} (h : FRhs H zs n) : FRs K H zs n := fun z hz => (h z hz).fr
theorem ansRh {H : Hp} {n : Nat} {t b : Int} {r : Rat} {Q : VK} (h : ∀ v H', Same H H' → FRh H' v r n → Q v H') (e : Rat.divInt t b = r) (nb : b ≠ 0) (st : Sz n t) (sb : Sz n b) : ∀ p, H p = none → Q (.ref p) (upd H p (.tup [.int (t.fdiv (Fr.sg t b)), .int (b.fdiv (Fr.sg t b))])) := fun p hp => by
  subst e
  obtain ⟨f1, f2, f3, f4⟩ := Fr.fracR (t := t) nb
  rw [f1, f2]
  exact h _ _ (same_new hp _) ⟨p, rfl, upd_same, st.le f3, sb.le f4⟩
theorem comp_frn {t : Nat} {te : TE} {σ0 : St} {H1 : Hp} {Q : VK} {D : Addr} {lo : Int} {n b : Nat} (f : Nat → Rat) (hD : H1 D = none) (hn : n ≤ 900)
    (he : ∀ i H' Q', i < n → Same H1 H' → (∀ v H'', Same H' H'' → FRh H'' v (f i) b → Q' v H'') → te (σ0.set t (some (.int (lo + i)))) H' Q')
    (q : ∀ zs H', Same H1 H' → zs.map Prod.snd = (List.range n).map f → FRhs H' zs b → H' D = some (.lst (zs.map Prod.fst)) → Q (.ref D) H') : CompGo (Itr lo n) (gName t) tYes te σ0 H1 Q D := by
  refine comp_range (fun i ys H' => Same H1 H' ∧ ∃ zs : List (V × Rat), ys = zs.map Prod.fst ∧ zs.map Prod.snd = (List.range i).map f ∧ FRhs H' zs b) ⟨same_new hD _, [], rfl, rfl, fun z hz => by cases hz⟩ ?_ ?_
  · rintro i ys H' hi ⟨s1, zs, rfl, hl, hz⟩ hD'
    refine yes (he i H' _ hi s1 fun v H'' s2 f2 => ?_)
    have hlen : zs.length = i := by
      have := congrArg List.length hl
      rw [List.length_map, List.length_map, List.length_range] at this
      exact this
    refine cyes hi rset1 (s2 _ _ hD') (by rw [List.length_map]; exact small1000 (by omega)) ⟨(s1.trans s2).put hD, zs ++ [(v, f i)], by rw [List.map_append]; rfl, by rw [List.map_append, hl, List.range_succ, List.map_append]; rfl, ?_⟩
    intro z hz'
    rcases List.mem_append.mp hz' with h | h
    · exact ((hz z h).same s2).put (s2 _ _ hD')
    · rw [List.mem_singleton.mp h]
      exact f2.put (s2 _ _ hD')
  · rintro ys H' ⟨s1, zs, rfl, hl, hz⟩ hD'
    exact q zs H' s1 hl hz hD'
theorem comp_frlh {K : PySem.W.Frag} {a : Addr} {gs : List Int} {f : Int → Rat} {t : Nat} {te : TE} {σ0 : St} {H1 : Hp} {Q : VK} {D : Addr} {b : Nat} (ha : H1 a = some (.lst (gs.map V.int))) (hD : H1 D = none) (hn : gs.length ≤ 900)
    (he : ∀ g H' Q', g ∈ gs → Same H1 H' → (∀ v H'', Same H' H'' → FRh H'' v (f g) b → Q' v H'') → te (σ0.set t (some (.int g))) H' Q')
    (q : ∀ zs H', Same H1 H' → zs.map Prod.snd = gs.map f → FRhs H' zs b → H' D = some (.lst (zs.map Prod.fst)) → Q (.ref D) H') : CompGo (Itl K a) (gName t) tYes te σ0 H1 Q D := by
  refine comp_list (xs := gs.map V.int) (fun i ys H' => Same H1 H' ∧ ∃ zs : List (V × Rat), ys = zs.map Prod.fst ∧ zs.map Prod.snd = (gs.take i).map f ∧ FRhs H' zs b) ⟨same_new hD _, [], rfl, rfl, fun z hz => by cases hz⟩ (fun i ys H' h _ => SqL.of (h.1 _ _ ha)) ?_ ?_
  · rintro i ys H' x hx ⟨s1, zs, rfl, hl, hz⟩ hD'
    have hi : i < (gs.map V.int).length := (List.getElem?_eq_some_iff.mp hx).1
    rw [List.getElem?_map] at hx
    obtain ⟨g, hg, rfl⟩ := Option.map_eq_some_iff.mp hx
    refine yes (he g H' _ (List.mem_of_getElem? hg) s1 fun v H'' s2 f2 => ?_)
    have hlen : zs.length ≤ 900 := by
      have := congrArg List.length hl
      rw [List.length_map, List.length_map, List.length_take] at this
      omega
    refine cyes hi rset1 (s2 _ _ hD') (by rw [List.length_map]; exact small1000 (by omega)) ⟨(s1.trans s2).put hD, zs ++ [(v, f g)], by rw [List.map_append]; rfl, by rw [List.map_append, hl, take_snoc hg, List.map_append]; rfl, ?_⟩
    intro z hz'
    rcases List.mem_append.mp hz' with h | h
    · exact ((hz z h).same s2).put (s2 _ _ hD')
    · rw [List.mem_singleton.mp h]
      exact f2.put (s2 _ _ hD')
  · rintro ys H' ⟨s1, zs, rfl, hl, hz⟩ hD'
    rw [List.length_map, List.take_length] at hl
    exact q zs H' s1 hl hz hD'
theorem comp_frP {K : PySem.W.Frag} {t : Nat} {te : TE} {σ0 : St} {H1 : Hp} {Q : VK} {D : Addr} {lo : Int} {n b : Nat} (Pr : Rat → Prop) (hD : H1 D = none) (hn : n ≤ 900)
    (he : ∀ i H' Q', i < n → Same H1 H' → (∀ v r H'', Same H' H'' → FR K H'' v r b → Pr r → Q' v H'') → te (σ0.set t (some (.int (lo + i)))) H' Q')
    (q : ∀ zs H', Same H1 H' → zs.length = n → FRs K H' zs b → (∀ z ∈ zs, Pr z.2) → H' D = some (.lst (zs.map Prod.fst)) → Q (.ref D) H') : CompGo (Itr lo n) (gName t) tYes te σ0 H1 Q D := by
  refine comp_range (fun i ys H' => Same H1 H' ∧ ∃ zs : List (V × Rat), ys = zs.map Prod.fst ∧ zs.length = i ∧ FRs K H' zs b ∧ ∀ z ∈ zs, Pr z.2) ⟨same_new hD _, [], rfl, rfl, (fun z hz => by cases hz), (fun z hz => by cases hz)⟩ ?_ ?_
  · rintro i ys H' hi ⟨s1, zs, rfl, hl, hz, hp⟩ hD'
    refine yes (he i H' _ hi s1 fun v r H'' s2 f2 p2 => ?_)
    refine cyes hi rset1 (s2 _ _ hD') (by rw [List.length_map, hl]; exact small1000 (by omega)) ⟨(s1.trans s2).put hD, zs ++ [(v, r)], by rw [List.map_append]; rfl, by rw [List.length_append, hl]; rfl, ?_, ?_⟩
    · intro z hz'
      rcases List.mem_append.mp hz' with h | h
      · exact ((hz z h).same s2).put (s2 _ _ hD')
      · rw [List.mem_singleton.mp h]
        exact f2.put (s2 _ _ hD')
    · intro z hz'
      rcases List.mem_append.mp hz' with h | h
      · exact hp z h
      · rw [List.mem_singleton.mp h]
        exact p2
  · rintro ys H' ⟨s1, zs, rfl, hl, hz, hp⟩ hD'
    exact q zs H' s1 hl hz hp hD'
theorem comp_tI {K : PySem.W.Frag} {a : Addr} {xs : List V} {t : Nat} {te : TE} {σ0 : St} {H1 : Hp} {Q : VK} {D : Addr} (fs : List Int) (ha : SqT K H1 a xs) (hf : fs.length = xs.length) (hD : H1 D = none) (hn : fs.length ≤ 900)
    (he : ∀ (i : Nat) x z H' Q', xs[i]? = some x → fs[i]? = some z → Same H1 H' → Q' (.int z) H' → te (σ0.set t (some x)) H' Q')
    (q : ∀ H', Same H1 H' → H' D = some (.lst (fs.map V.int)) → Q (.ref D) H') : CompGo (Itt K a) (gName t) tYes te σ0 H1 Q D := by
  refine comp_tup (xs := xs) (fun i ys H' => Same H1 H' ∧ ys = (fs.take i).map V.int) ⟨same_new hD _, rfl⟩ (fun i ys H' h _ => ha.same h.1) ?_ ?_
  · rintro i ys H' x hx ⟨s1, rfl⟩ hD'
    have hi := (List.getElem?_eq_some_iff.mp hx).1
    have hz : fs[i]? = some fs[i] := List.getElem?_eq_getElem (by omega)
    refine yes (he i x _ H' _ hx hz s1 ?_)
    refine cyes hi rset1 hD' (by rw [List.length_map, List.length_take]; exact small1000 (by omega)) ⟨s1.put hD, ?_⟩
    rw [take_snoc hz, List.map_append]
    rfl
  · rintro ys H' ⟨s1, rfl⟩ hD'
    rw [List.take_of_length_le (by omega)] at hD'
    exact q H' s1 hD'
end L4
namespace L2
open PySem PySem.Spec PyProof.Rows
/-- for a, b in zip(l, m): over the pairs of two lists that the body leaves as they are -/
theorem for_zipL {K : PySem.W.Frag} {p q : Addr} {xs ys : List V} {n a b : Nat} {tb : TS} {D : Ends} {σ : St} {H : Hp} (Pv : Nat → St → Hp → Prop) (hn : n = min xs.length ys.length) (h0 : Pv 0 σ H) (hl : ∀ i σ H, i ≤ n → Pv i σ H → SqL K H p xs ∧ SqL K H q ys)
    (hs : ∀ i x y σ H T, i < n → xs[i]? = some x → ys[i]? = some y → H T = none → Pv i σ H → tb { D with nx := Pv (i + 1), ct := Pv (i + 1), bk := D.nx } ((σ.set a (some x)).set b (some y)) (upd H T (.tup [x, y]))) (hd : ∀ σ H, Pv n σ H → D.nx σ H) :
    ∃ W : Nat → Nat → St → Hp → Prop, (∃ m, W 0 m σ H) ∧ ∀ i m σ H, W i m σ H →
      ((ItzK false K p q).stop i H ∧ D.nx σ H) ∨ ((ItzK false K p q).go i H ∧ ∃ N : St → Hp → Prop, (∀ σ' H', N σ' H' → ∃ m', m' < m ∧ W (i + 1) m' σ' H') ∧ ∀ x H', (ItzK false K p q).yld i H x H' → (gTup K 2 (gCons (gName a) (gCons (gName b) gNil))) x σ H' fun σ2 H2 => tb { D with nx := N, ct := N, bk := D.nx } σ2 H2) := by
  refine ⟨fun i m σ H => m = n - i ∧ i ≤ n ∧ Pv i σ H, ⟨n, by simp, Nat.zero_le _, h0⟩, ?_⟩
  rintro i m σ H ⟨rfl, hi, pp⟩
  obtain ⟨q1, q2⟩ := hl i σ H hi pp
  by_cases hlt : i < n
  · have k1 : xs[i]? = some (xs.getD i .non) := by simp [List.getD, show i < xs.length by omega]
    have k2 : ys[i]? = some (ys.getD i .non) := by simp [List.getD, show i < ys.length by omega]
    refine .inr ⟨⟨xs, ys, _, _, q1, q2, k1, k2⟩, Pv (i + 1), fun σ' H' p' => ⟨n - (i + 1), by omega, rfl, hlt, p'⟩, ?_⟩
    rintro v H2 ⟨T, x, y, hT, rfl, rfl, hall⟩
    obtain ⟨e1, e2⟩ := hall xs ys q1 q2
    exact ⟨T, _, rfl, SqT.of upd_same, rfl, _, _, rfl, _, _, rfl, rfl, hs i x y σ H T hlt e1 e2 hT pp⟩
  · have e : i = n := by omega
    subst e
    exact .inl ⟨⟨xs, ys, q1, q2, by omega⟩, hd σ H pp⟩
theorem kpe_fld {X : Cx} (K : PySem.W.Frag) {e : Expr} {f : Str} {pos : Pos} {ta : TE} (he : PE X e ta) (hb : attributeBase e f X.env (eval e X.env) = eval e X.env) (hK : X.K = K := by rfl) : PE X (.Attribute e f pos) (tFld K ta f) := hK ▸ pe_fld he hb
end L2

set_option Elab.async false
set_option linter.all false
set_option maxRecDepth 100000
set_option maxHeartbeats 4000000
namespace L2
open PySem PySem.Spec PyProof.Rows
/-! zip(l, t) of a list and a tuple -/
section
variable {prog : Program} {w : World} {A : Around} {E : Value → Shared → Prop} {s : Shared}
variable {z TI TO i1 i2 t1 t2 : Addr} {xs ys : Array Value} {k1 k2 : Nat}
end
end L2
namespace L2
open PySem PySem.Spec PyProof.Rows
section
variable {X : Cx}
end
end L2

set_option Elab.async false
set_option linter.all false
set_option maxRecDepth 100000
set_option maxHeartbeats 4000000
namespace L2
open PySem PySem.Spec PyProof.Rows
/-! dict(a tuple of pairs) -/
section
variable {prog : Program} {w : World} {A : Around} {R : Result → Shared → Prop}
end
section
variable {X : Cx}
end
end L2

set_option Elab.async false
set_option linter.all false
namespace L2
open PySem PySem.Spec PyProof.Rows
end L2

set_option Elab.async false
set_option linter.all false
set_option maxRecDepth 100000
set_option maxHeartbeats 4000000
namespace L2
open PySem PySem.Spec PyProof.Rows
section
variable {X : Cx}
end
end L2

set_option Elab.async false
set_option linter.all false
set_option maxRecDepth 100000
set_option maxHeartbeats 4000000
namespace L2
open PySem PySem.Spec PyProof.Rows PySem.W
section
variable {prog : Program} {w : World} {A : Around} {E : Value → Shared → Prop} {s : Shared}
end
section
variable {prog : Program} {w : World} {A : Around} {E : Value → Shared → Prop} {s : Shared} {a I : Addr} {es : Array (Int × Value)} {ep : Nat} {t : SetTable}
end
section
variable {prog : Program} {w : World} {A : Around} {E : Value → Shared → Prop} {s : Shared}

/-! a set whose order is drawn -/
section
variable {a I p : Addr} {es : Array (Int × Value)} {ep : Nat} {t : SetTable} {pl : List Nat}
end
/-! both ways together -/
end
section
variable {X : Cx}
end
end L2

set_option Elab.async false
set_option linter.all false
set_option maxRecDepth 100000
set_option maxHeartbeats 4000000
namespace L2
open PySem PySem.Spec PyProof.Rows
theorem pick_rev (its : List Value) : slicePick its.toArray none none (some (-1)) = its.reverse.toArray := by
  unfold slicePick
  have h1 : (sliceBounds none none (some (-1)) its.toArray.size).1 = (its.length : Int) - 1 := by simp [sliceBounds]
  have h2 : (sliceBounds none none (some (-1)) its.toArray.size).2.1 = -1 := by simp [sliceBounds]
  have h3 : (sliceBounds none none (some (-1)) its.toArray.size).2.2 = -1 := by simp [sliceBounds]
  rw [h1, h2, h3]
  congr 1
  unfold sliceRange
  dsimp only
  have ec : (if (-1 : Int) > 0 then (if (its.length : Int) - 1 < -1 then (-1 - ((its.length : Int) - 1) + -1 - 1) / -1 else 0) else (if (its.length : Int) - 1 > -1 then ((its.length : Int) - 1 - -1 - -1 - 1) / (- -1) else 0)) = (its.length : Int) := by
    rw [if_neg (by decide)]
    split
    · rw [show (- -1 : Int) = 1 by decide, Int.ediv_one]
      omega
    · omega
  rw [ec, Int.toNat_natCast, List.filterMap_map]
  have e2 : ∀ n, n ≤ its.length → (List.range n).filterMap ((fun x => its.toArray[x]?) ∘ fun (k : Nat) => ((its.length : Int) - 1 + -1 * (k : Int)).toNat) = its.reverse.take n := by
    intro n
    induction n with
    | zero => intro _; rfl
    | succ n ih =>
      intro hn
      rw [List.range_succ, List.filterMap_append, ih (by omega), List.take_add_one]
      congr 1
      have e3 : ((its.length : Int) - 1 + -1 * (n : Int)).toNat = its.length - 1 - n := by omega
      simp only [List.filterMap_cons, List.filterMap_nil, Function.comp_apply, e3]
      rw [List.getElem?_reverse (by omega), List.getElem?_toArray, List.getElem?_eq_getElem (by omega)]
      rfl
  rw [e2 _ (Nat.le_refl _), ← List.length_reverse, List.take_length]
section
variable {X : Cx}
/-- xs[::-1] of a list: a new list -/
def tRevL (K : PySem.W.Frag) (te : TE) (ts : TO) : TE := fun σ H Q => te σ H fun x H1 => ts σ H1 fun st H2 => ∃ a xs, st = some (-1) ∧ x = .ref a ∧ SqL K H2 a xs ∧ ∀ p, H2 p = none → Q (.ref p) (upd H2 p (.lst xs.reverse))
theorem pe_revL (K : PySem.W.Frag) {e st : Expr} {te : TE} {ts : TO} {p2 pos : Pos} (he : PE X e te) (hs : PO X (some st) ts) (hK : X.K = K := by rfl) : PE X (.Subscript e (.Slice none none (some st) p2) pos) (tRevL K te ts) := by
  subst hK
  intro pins s σ H Q I h
  refine Subscript_ (thn (he pins s σ H _ I h) fun v s1 ⟨x, H1, I1, r1, q1⟩ => ?_)
  refine wpAny_Slice ?_
  rw [evalPart_none]
  refine wpAny_pure ?_
  refine wpAny_pure ?_
  refine thn (hs pins s1 σ H1 _ I1 q1) fun vs s3 ⟨o, H3, I3, pu, q3⟩ => ?_
  obtain ⟨a, xs, rfl, rfl, hx, q⟩ := q3
  cases r1
  have I4 : Inv X pins σ H3 { s3 with heap := s3.heap.push { cls := .type "slice", data := .fields #[.none, .none, vs] } } := I3.kept (t' := s3.toks) fun b ob q => Heap.get?_push_of_some _ q
  show wpAny (model X.prog X.w) X.A (subscriptTail e (.Slice none none (some st) p2) (.ref a) (.ref s3.heap.objs.size)) (EP X pins σ Q) X.xe { s3 with heap := s3.heap.push { cls := .type "slice", data := .fields #[.none, .none, vs] } }
  obtain ⟨its, r, ht, hz⟩ := I4.list hx
  have hlen := r.length
  refine tail_any (ops := [.ref a, .ref s3.heap.objs.size]) ht.isList.typeIs slot_list_getitem.lookup ?_ (by with_unfolding_all rfl)
  refine wpAny_getItem_list_slice ht.isList (Heap.IsSliceOf.new ..) .none .none pu (by simp) ?_ (by rw [List.size_toArray] <;> omega)
  rw [pick_rev]
  refine ⟨.ref _, _, I4.laid (t' := s3.toks) (o := .lst xs.reverse) (fun b ob q => Heap.get?_push_of_some _ q) (Nat.le_refl _) ?_, rfl, q _ (I4.hok.fresh (Nat.le_refl _))⟩
  exact ⟨by rw [List.length_reverse]; exact hz, _, 0, r.reverse, Heap.get?_push_size _ rfl⟩
end
end L2

set_option Elab.async false
set_option linter.all false
set_option maxRecDepth 100000
set_option maxHeartbeats 4000000
namespace L4
open PySem L2

/-! sayings -/
namespace Sy
end Sy
/-! possible grades, where some letters are set -/
/-! gradings in the heap -/
end L4

set_option Elab.async false
set_option linter.all false
set_option maxRecDepth 100000
set_option maxHeartbeats 4000000
namespace L2
open PySem PySem.Spec PyProof.Rows
theorem adjust_rev (n : Nat) : Builtin.Slice.sliceAdjust none none (-1) (n : Int) = ((n : Int) - 1, -1) := by
  simp [Builtin.Slice.sliceAdjust]
theorem places_rev (n : Nat) : Builtin.Slice.slicePlaces ((n : Int) - 1) (-1) (-1) = n := by
  simp [Builtin.Slice.slicePlaces]
  omega
theorem pick_revT (xs : List Value) : ((List.range xs.length).filterMap fun (m : Nat) => xs.toArray[((xs.length : Int) - 1 + (m : Int) * (-1)).toNat]?) = xs.reverse := by
  have e2 : ∀ n, n ≤ xs.length → ((List.range n).filterMap fun (m : Nat) => xs.toArray[((xs.length : Int) - 1 + (m : Int) * (-1)).toNat]?) = xs.reverse.take n := by
    intro n
    induction n with
    | zero => intro _; rfl
    | succ n ih =>
      intro hn
      rw [List.range_succ, List.filterMap_append, ih (by omega), List.take_add_one]
      congr 1
      have e3 : ((xs.length : Int) - 1 + (n : Int) * (-1)).toNat = xs.length - 1 - n := by omega
      simp only [List.filterMap_cons, List.filterMap_nil, e3]
      rw [List.getElem?_reverse (by omega), List.getElem?_toArray, List.getElem?_eq_getElem (by omega)]
      rfl
  rw [e2 _ (Nat.le_refl _), ← List.length_reverse, List.take_length]
section
variable {prog : Program} {w : World} {A : Around} {E : Value → Shared → Prop} {s : Shared}
theorem getItem_tuple_rev {t sl : Addr} {its : List Value} {vs : Value} {Q : Value → Shared → Prop} (ht : IsTup s.heap t its.toArray) (hs : s.heap.IsSliceOf sl .none .none vs) (pu : IsPart vs (some (-1)))
    (h : Q (.ref s.heap.objs.size) { s with heap := s.heap.push { cls := .type "tuple", data := .seq its.reverse.toArray } })
    (hsz : its.length ≤ sizeLine) : wpAny (model prog w) A (getItem (.ref t) (.ref sl)) Q E s := by
  obtain ⟨os, hos, hcs, hds⟩ := id hs
  have hTs : s.TypeIs (.ref sl) "slice" := ⟨os, hos, hcs⟩
  unfold getItem
  try with_reducible refine wpAny_holding ?_
  first | refine wpAny_bind (wpAny_pure ?_) | skip
  refine wpAny_bind (wpAny_sequenceKey ht.typeIs (by decide) ?_)
  refine wpAny_bind (wpAny_callSpecial?_slot (name := Str.ofString "__getitem__") ht.typeIs PyProof.Rows.slot_tuple_getitem
    (wpAny_call_entry PyProof.Rows.slot_tuple_getitem ht.typeIs entry_tuple_getitem ?_ (args_tuple_getitem _ _)))
  show wpAny _ _ (Builtin.Tuple.tupleItemsOf (.ref t) >>= _) _ _ s
  refine wpAny_bind (tupleItemsOf_ ht ?_)
  refine wpAny_bind (wpAny_typeOf hTs ?_)
  rw [if_pos (by decide)]
  refine wpAny_bind ?_
  unfold Builtin.Slice.sliceApplied Builtin.Slice.sliceFields
  refine wpAny_bind (wpAny_bind (wpAny_field hos hds (x := .none) rfl (wpAny_bind (wpAny_field hos hds (x := .none) rfl (wpAny_bind (wpAny_field hos hds (x := vs) rfl (wpAny_pure ?_)))))))
  refine wpAny_bind (HT.slicePart_ pu ?_)
  show wpAny _ _ (if ((-1 : Int) == 0) = true then _ else _) _ _ s
  rw [if_neg (by decide)]
  refine wpAny_bind (slicePart_none (wpAny_bind (slicePart_none (wpAny_bind (wpAny_pure ?_)))))
  show wpAny _ _ (match Builtin.Slice.sliceAdjust none none (-1) ((its.toArray.size : Nat) : Int) with | (lo, hi) => pure (lo, (-1 : Int), Builtin.Slice.slicePlaces lo hi (-1))) _ _ s
  rw [List.size_toArray, adjust_rev]
  show wpAny _ _ (pure (((its.length : Int) - 1), (-1 : Int), Builtin.Slice.slicePlaces ((its.length : Int) - 1) (-1) (-1))) _ _ s
  rw [places_rev]
  refine wpAny_pure ?_
  show wpAny _ _ (if ((its.length : Int) - 1 == 0 && (-1 : Int) == 1 && its.length == its.toArray.size) = true then _ else _) _ _ s
  rw [if_neg (by simp), pick_revT]
  have htake : sizeOk (.seq its.reverse.toArray) := by
    show its.reverse.toArray.size ≤ sizeLine
    rw [List.size_toArray, List.length_reverse]
    exact hsz
  first
    | exact wpAny_bind (m := Builtin.Tuple.tupleExact _) (wpAny_newObj_type (wpAny_pure ⟨_, rfl, wpAny_pure h⟩) htake)
    | exact wpAny_bind (m := Builtin.Tuple.tupleExact _) (wpAny_newObj_type (wpAny_bind (wpAny_pure (wpAny_pure ⟨_, rfl, wpAny_pure h⟩))) htake)
    | exact wpAny_bind (wpAny_bind (m := Builtin.Tuple.tupleExact _) (wpAny_newObj_type (wpAny_pure (wpAny_pure ⟨_, rfl, wpAny_pure h⟩)) htake))
    | exact wpAny_bind (wpAny_bind (m := Builtin.Tuple.tupleExact _) (wpAny_newObj_type (wpAny_pure ⟨_, rfl, wpAny_pure h⟩) htake))
end
section
variable {X : Cx}
/-- t[::-1] of a tuple: a new tuple -/
def tRevT (K : PySem.W.Frag) (te : TE) (ts : TO) : TE := fun σ H Q => te σ H fun x H1 => ts σ H1 fun st H2 => ∃ a xs, st = some (-1) ∧ x = .ref a ∧ SqT K H2 a xs ∧ ∀ p, H2 p = none → Q (.ref p) (upd H2 p (.tup xs.reverse))
theorem pe_revT (K : PySem.W.Frag) {e st : Expr} {te : TE} {ts : TO} {p2 pos : Pos} (he : PE X e te) (hs : PO X (some st) ts) (hK : X.K = K := by rfl) : PE X (.Subscript e (.Slice none none (some st) p2) pos) (tRevT K te ts) := by
  subst hK
  intro pins s σ H Q I h
  refine Subscript_ (thn (he pins s σ H _ I h) fun v s1 ⟨x, H1, I1, r1, q1⟩ => ?_)
  refine wpAny_Slice ?_
  rw [evalPart_none]
  refine wpAny_pure ?_
  refine wpAny_pure ?_
  refine thn (hs pins s1 σ H1 _ I1 q1) fun vs s3 ⟨o, H3, I3, pu, q3⟩ => ?_
  obtain ⟨a, xs, rfl, rfl, hx, q⟩ := q3
  cases r1
  have I4 : Inv X pins σ H3 { s3 with heap := s3.heap.push { cls := .type "slice", data := .fields #[.none, .none, vs] } } := I3.kept (t' := s3.toks) fun b ob q => Heap.get?_push_of_some _ q
  show wpAny (model X.prog X.w) X.A (subscriptTail e (.Slice none none (some st) p2) (.ref a) (.ref s3.heap.objs.size)) (EP X pins σ Q) X.xe { s3 with heap := s3.heap.push { cls := .type "slice", data := .fields #[.none, .none, vs] } }
  obtain ⟨its, r, ht, hz⟩ := I4.tuple hx
  have hlen := r.length
  refine tail_any (ops := [.ref a, .ref s3.heap.objs.size]) ht.typeIs PyProof.Rows.slot_tuple_getitem.lookup ?_ (by with_unfolding_all rfl)
  refine getItem_tuple_rev ht (Heap.IsSliceOf.new ..) pu ?_ (by omega)
  refine ⟨.ref _, _, I4.laid (t' := s3.toks) (o := .tup xs.reverse) (fun b ob q => Heap.get?_push_of_some _ q) (Nat.le_refl _) ?_, rfl, q _ (I4.hok.fresh (Nat.le_refl _))⟩
  exact ⟨by rw [List.length_reverse]; exact hz, _, r.reverse, PTup.new _ _⟩
end
end L2

set_option Elab.async false
set_option linter.all false
set_option maxRecDepth 100000
set_option maxHeartbeats 4000000
namespace L4
open PySem L2

/-! a table turned, as the law turns it -/
/-! connectives renamed -/
/-! all grades wished, none wished -/
end L4

set_option Elab.async false
set_option linter.all false
set_option maxRecDepth 100000
set_option maxHeartbeats 4000000
namespace L2
open PySem PySem.Spec PyProof.Rows
/-! a zip has no keys -/
/-! a zip whose last pair is still held -/
section
variable {prog : Program} {w : World} {A : Around} {E : Value → Shared → Prop} {s : Shared}
variable {z TI TO i1 i2 t1 t2 : Addr} {xs ys : Array Value} {k : Nat} {a0 : Addr} {b : Bool}
variable {R : Result → Shared → Prop}
end
section
variable {X : Cx}
end
end L2

set_option Elab.async false
set_option linter.all false
set_option maxRecDepth 100000
set_option maxHeartbeats 4000000
namespace L2
open PySem PySem.Spec PyProof.Rows
section
variable {X : Cx}
end
end L2
namespace L4
open PySem L2
/-! sayings put in -/
/-! letters in a round -/
end L4

set_option Elab.async false
set_option linter.all false
set_option maxRecDepth 100000
set_option maxHeartbeats 4000000
namespace L2
open PySem PySem.Spec PyProof.Rows
/-! the keys of a dict walked: it is frozen from then on -/
section
variable {X : Cx}
end
/-! list(d) -/
section
variable {prog : Program} {w : World} {A : Around} {E : Value → Shared → Prop} {s : Shared}
end
section
variable {X : Cx}
end
end L2

set_option Elab.async false
set_option linter.all false
set_option maxRecDepth 100000
set_option maxHeartbeats 4000000
namespace L2
open PySem PySem.Spec PyProof.Rows
/-! the values of a dict walked: it is frozen from then on -/
section
variable {X : Cx}
end
end L2

set_option Elab.async false
set_option linter.all false
set_option maxRecDepth 100000
set_option maxHeartbeats 4000000
namespace L2
open PySem PySem.Spec PyProof.Rows
section
variable {X : Cx}
end
/-! d == e, their keys alike and in one order, their values whole numbers -/
section
variable {prog : Program} {w : World} {A : Around} {E : Value → Shared → Prop} {s : Shared}
end
section
variable {X : Cx}
end
end L2

set_option Elab.async false
set_option linter.all false
set_option maxRecDepth 100000
set_option maxHeartbeats 4000000
namespace L2
open PySem PySem.Spec PyProof.Rows
end L2
namespace L4
open PySem L2
end L4

set_option Elab.async false
set_option linter.all false
set_option maxRecDepth 100000
set_option maxHeartbeats 4000000
namespace L4
open PySem L2
theorem comp_tF {K : PySem.W.Frag} {a : Addr} {zs : List (V × Rat)} {b : Nat} {t : Nat} {te : TE} {σ0 : St} {H1 : Hp} {Q : VK} {D : Addr} (f : Rat → Rat) (ha : SqT K H1 a (zs.map Prod.fst)) (hD : H1 D = none) (hn : zs.length ≤ 900)
    (he : ∀ z H' Q', z ∈ zs → Same H1 H' → (∀ v H'', Same H' H'' → FR K H'' v (f z.2) b → Q' v H'') → te (σ0.set t (some z.1)) H' Q')
    (q : ∀ ys H', Same H1 H' → ys.map Prod.snd = zs.map (fun z => f z.2) → FRs K H' ys b → H' D = some (.lst (ys.map Prod.fst)) → Q (.ref D) H') : CompGo (Itt K a) (gName t) tYes te σ0 H1 Q D := by
  refine comp_tup (xs := zs.map Prod.fst) (fun i ys H' => Same H1 H' ∧ ∃ ws : List (V × Rat), ys = ws.map Prod.fst ∧ ws.map Prod.snd = (zs.take i).map (fun z => f z.2) ∧ FRs K H' ws b) ⟨same_new hD _, [], rfl, rfl, fun z hz => by cases hz⟩ (fun i ys H' h _ => ha.same h.1) ?_ ?_
  · rintro i ys H' x hx ⟨s1, ws, rfl, hl, hz⟩ hD'
    have hi : i < (zs.map Prod.fst).length := (List.getElem?_eq_some_iff.mp hx).1
    rw [List.getElem?_map] at hx
    obtain ⟨g, hg, rfl⟩ := Option.map_eq_some_iff.mp hx
    refine yes (he g H' _ (List.mem_of_getElem? hg) s1 fun v H'' s2 f2 => ?_)
    have hlen : ws.length ≤ 900 := by
      have := congrArg List.length hl
      rw [List.length_map, List.length_map, List.length_take] at this
      omega
    refine cyes hi rset1 (s2 _ _ hD') (by rw [List.length_map]; exact small1000 (by omega)) ⟨(s1.trans s2).put hD, ws ++ [(v, f g.2)], by rw [List.map_append]; rfl, by rw [List.map_append, hl, take_snoc hg, List.map_append]; rfl, ?_⟩
    intro z hz'
    rcases List.mem_append.mp hz' with h | h
    · exact ((hz z h).same s2).put (s2 _ _ hD')
    · rw [List.mem_singleton.mp h]
      exact f2.put (s2 _ _ hD')
  · rintro ys H' ⟨s1, ws, rfl, hl, hz⟩ hD'
    rw [List.length_map, List.take_length] at hl
    exact q ws H' s1 hl hz hD'
end L4

namespace K51
open PySem L2 L4

local macro_rules | `(tactic| walk_at "hp") => `(tactic| first | assumption | exact upd_same | (rw [upd_ne (by first | assumption | exact Ne.symm (by assumption) | exact ne_of_none (by assumption) (by assumption) | exact Ne.symm (ne_of_none (by assumption) (by assumption)))]; walk_at "hp"))
local macro_rules | `(tactic| walk_at "r1") => `(tactic| first | refine ⟨_, rfl, ?_⟩ | refine .inl ⟨_, _, _, _, rfl, rfl, SqL.of (by walk_at "hp"), rfl, ?_⟩ | refine .inr (.inl ⟨_, _, _, _, rfl, rfl, SqT.of (by walk_at "hp"), rfl, ?_⟩) | refine ⟨_, _, rfl, rfl, ?_⟩ | refine ⟨(show CMul _ _ from .inr ⟨by omega, by omega⟩), ?_⟩ | refine ⟨(show CMul _ _ from .inl ⟨by omega, by omega⟩), ?_⟩ | refine ⟨(show CDiv _ _ from ⟨by omega, by omega⟩), ?_⟩ | refine ⟨(show CPow _ _ from ⟨by decide, by decide, by decide⟩), ?_⟩ | refine ⟨(show (0 : Int) < _ by omega), ?_⟩ | refine ⟨_, _, _, _, rfl, rfl, (by walk_at "hp"), rfl, ?_⟩)
local macro_rules | `(tactic| walk_at "rd") => `(tactic| repeat walk_at "r1")

local macro_rules | `(tactic| walk_at "dc") => `(tactic| first | refine iteT ?_ | refine iteF ?_ | refine iteDT (by decide +kernel) ?_ | refine iteDF (by decide +kernel) ?_ | refine ⟨_, rfl, rfl, _, rfl, ?_⟩)
local macro_rules | `(tactic| walk_at "ds") => `(tactic| repeat walk_at "dc")

open SX
/-- an instance's fields -/
def flds (g : Nat) (lL lC lB : Addr) (d : Int) : List (Str × V) := [("given", nV g), ("lines", .ref lL), ("costs", .ref lC), ("basis", .ref lB), ("scale", .int d)]
theorem put_costs (g : Nat) (lL lC lB p : Addr) (d : Int) : putF "costs" (.ref p) (flds g lL lC lB d) = flds g lL p lB d := by
  unfold flds putF
  first | rfl | decide +kernel
theorem put_lines (g : Nat) (lL lC lB p : Addr) (d : Int) : putF "lines" (.ref p) (flds g lL lC lB d) = flds g p lC lB d := by
  unfold flds putF
  first | rfl | decide +kernel
theorem put_scale (g : Nat) (lL lC lB : Addr) (d e : Int) : putF "scale" (.int e) (flds g lL lC lB d) = flds g lL lC lB e := by
  unfold flds putF
  first | rfl | decide +kernel
/-- the state of a search -/
structure Sr (H : Hp) (C a : Addr) (tab : List (List Int)) (cs : List Int) (bs : List Nat) (g : Nat) (d : Int) (dx lL lC lB : Addr) (us : List V) : Prop where
  ob : H a = some (.ins C dx (flds g lL lC lB d))
  co : H lC = some (.lst (cs.map V.int))
  ba : H lB = some (.lst (bs.map nV))
  li : H lL = some (.lst us)
  ro : Paired (fun row u => ∃ p, u = .ref p ∧ H p = some (.lst (row.map V.int))) tab us
  n1 : lB ≠ lC
  n2 : lB ≠ lL
  n3 : V.ref lB ∉ us
def spFound (C : Addr) : Sp := fun vs H Q _ => ∃ (a : Addr) (tab : List (List Int)) (cs : List Int) (z : Int) (bs : List Nat) (g : Nat) (d : Int) (dx lL lC lB : Addr) (us : List V), vs = [.ref a] ∧ Sr H C a tab (cs ++ [z]) bs g d dx lL lC lB us ∧ Q (.bl (decide (V.int z = V.int 0))) H
/-- what entering tells -/
def Ent (cs : List Int) (g : Nat) (v : V) : Prop := (v = .non ∧ ∀ i, i < g → 0 ≤ cs.getD i 0) ∨ ∃ s, v = nV s ∧ s < g ∧ cs.getD s 0 < 0 ∧ ∀ i, i < s → 0 ≤ cs.getD i 0
def spEnter (C : Addr) : Sp := fun vs H Q _ => ∃ (a : Addr) (tab : List (List Int)) (cs : List Int) (bs : List Nat) (g : Nat) (d : Int) (dx lL lC lB : Addr) (us : List V), vs = [.ref a] ∧ Sr H C a tab cs bs g d dx lL lC lB us ∧ g ≤ cs.length ∧ g ≤ 1000 ∧ ∀ v, Ent cs g v → Q v H
theorem at_nV {xs : List Nat} {i : Nat} (hi : i < xs.length) : atI (xs.map nV) (i : Int) = some (nV (xs.getD i 0)) := by
  refine atI_nat ?_
  rw [List.getElem?_map, List.getElem?_eq_getElem hi, List.getD_eq_getElem?_getD, List.getElem?_eq_getElem hi]
  rfl
theorem at_int {cs : List Int} {i : Nat} (h : i < cs.length) : atI (cs.map V.int) (i : Int) = some (.int (cs.getD i 0)) := by
  refine atI_nat ?_
  rw [List.getElem?_map, List.getElem?_eq_getElem h, List.getD_eq_getElem?_getD, List.getElem?_eq_getElem h]
  rfl
/-- a table of lines of wd numbers -/
structure Wd (tab : List (List Int)) (bs : List Nat) (wd : Nat) : Prop where
  row : ∀ r ∈ tab, r.length = wd ∧ ∀ x ∈ r, Mid x
  len : bs.length = tab.length
  few : tab.length ≤ 10
def nar (tab : List (List Int)) (bs : List Nat) (wd i k j : Nat) : Bool := decide (enV tab i (wd - 1) * enV tab k j < enV tab k (wd - 1) * enV tab i j) || (decide (enV tab i (wd - 1) * enV tab k j = enV tab k (wd - 1) * enV tab i j) && decide (bs.getD i 0 < bs.getD k 0))
def spNarrow (C : Addr) : Sp := fun vs H Q _ => ∃ (a : Addr) (tab : List (List Int)) (cs : List Int) (bs : List Nat) (g : Nat) (d : Int) (dx lL lC lB : Addr) (us : List V) (wd i k j : Nat), vs = [.ref a, nV i, nV k, nV j] ∧ Sr H C a tab cs bs g d dx lL lC lB us ∧ Wd tab bs wd ∧ i < tab.length ∧ k < tab.length ∧ j + 1 < wd ∧ Q (.bl (nar tab bs wd i k j)) H
theorem Sr.line {H : Hp} {C a : Addr} {tab : List (List Int)} {cs : List Int} {bs : List Nat} {g : Nat} {d : Int} {dx lL lC lB : Addr} {us : List V} (h : Sr H C a tab cs bs g d dx lL lC lB us) {i : Nat} (hi : i < tab.length) : ∃ p, atI us (i : Int) = some (.ref p) ∧ H p = some (.lst ((tab.getD i []).map V.int)) := by
  have hul := Paired.length h.ro
  have h1 : tab[i]? = some (tab.getD i []) := by rw [List.getD_eq_getElem?_getD, List.getElem?_eq_getElem hi]; rfl
  have h2 : us[i]? = some us[i] := List.getElem?_eq_getElem (by omega)
  obtain ⟨p, e, hp⟩ := Paired.at h.ro _ _ _ h1 h2
  rw [e] at h2
  exact ⟨p, atI_nat h2, hp⟩
theorem Wd.at {tab : List (List Int)} {bs : List Nat} {wd : Nat} (h : Wd tab bs wd) {i : Nat} (hi : i < tab.length) : (tab.getD i []).length = wd ∧ ∀ j, j < wd → Mid (enV tab i j) := by
  have h1 : tab.getD i [] ∈ tab := by
    rw [List.getD_eq_getElem?_getD, List.getElem?_eq_getElem hi]
    exact List.getElem_mem _
  obtain ⟨a, b⟩ := h.row _ h1
  refine ⟨a, fun j hj => b _ ?_⟩
  unfold enV
  rw [List.getD_eq_getElem?_getD (l := tab.getD i []), List.getElem?_eq_getElem (by omega)]
  exact List.getElem_mem _
theorem at_end {r : List Int} {wd : Nat} (h : r.length = wd) (hw : 0 < wd) : atI (r.map V.int) (-1) = some (.int (r.getD (wd - 1) 0)) := by
  unfold atI ixN
  rw [if_neg (by decide), if_pos (by rw [List.length_map]; omega)]
  show (r.map V.int)[(-1 + (((r.map V.int).length : Nat) : Int)).toNat]? = _
  rw [List.length_map, show (-1 + ((r.length : Nat) : Int)).toNat = wd - 1 by omega, List.getElem?_map, List.getElem?_eq_getElem (by omega), List.getD_eq_getElem?_getD, List.getElem?_eq_getElem (by omega)]
  rfl
/-- r leaves not more than k -/
def Low (tab : List (List Int)) (bs : List Nat) (wd r k j : Nat) : Prop := enV tab r (wd - 1) * enV tab k j < enV tab k (wd - 1) * enV tab r j ∨ (enV tab r (wd - 1) * enV tab k j = enV tab k (wd - 1) * enV tab r j ∧ bs.getD r 0 ≤ bs.getD k 0)
def spLeave (C : Addr) : Sp := fun vs H Q _ => ∃ (a : Addr) (tab : List (List Int)) (cs : List Int) (bs : List Nat) (g : Nat) (d : Int) (dx lL lC lB : Addr) (us : List V) (wd j : Nat), vs = [.ref a, nV j] ∧ Sr H C a tab cs bs g d dx lL lC lB us ∧ Wd tab bs wd ∧ j + 1 < wd ∧ (∃ i, i < tab.length ∧ 0 < enV tab i j) ∧
  ∀ r, r < tab.length → 0 < enV tab r j → (∀ k, k < tab.length → 0 < enV tab k j → Low tab bs wd r k j) → Q (nV r) H
theorem low_not {tab : List (List Int)} {bs : List Nat} {wd i r j : Nat} (h : nar tab bs wd i r j = false) : Low tab bs wd r i j := by
  unfold nar at h
  unfold Low
  rw [Bool.or_eq_false_iff, Bool.and_eq_false_iff] at h
  obtain ⟨h1, h2⟩ := h
  have h1 := of_decide_eq_false h1
  rcases h2 with h2 | h2
  · have h2 := of_decide_eq_false h2
    exact .inl (by omega)
  · have h2 := of_decide_eq_false h2
    by_cases e : enV tab i (wd - 1) * enV tab r j = enV tab r (wd - 1) * enV tab i j
    · exact .inr ⟨e.symm, by omega⟩
    · exact .inl (by omega)
theorem low_of {tab : List (List Int)} {bs : List Nat} {wd i r j : Nat} (h : nar tab bs wd i r j = true) : Low tab bs wd i r j := by
  unfold nar at h
  unfold Low
  rw [Bool.or_eq_true, Bool.and_eq_true] at h
  rcases h with h | ⟨h1, h2⟩
  · exact .inl (of_decide_eq_true h)
  · exact .inr ⟨of_decide_eq_true h1, Nat.le_of_lt (of_decide_eq_true h2)⟩
theorem low_trans {tab : List (List Int)} {bs : List Nat} {wd i r k j : Nat} (hi : 0 < enV tab i j) (hr : 0 < enV tab r j) (hk : 0 < enV tab k j) (h1 : Low tab bs wd i r j) (h2 : Low tab bs wd r k j) : Low tab bs wd i k j := by
  unfold Low at *
  generalize enV tab i (wd - 1) = a at *
  generalize enV tab r (wd - 1) = b at *
  generalize enV tab k (wd - 1) = c at *
  generalize enV tab i j = x at *
  generalize enV tab r j = y at *
  generalize enV tab k j = z at *
  have up : ∀ p q : Int, p * y < q * y → p < q := fun p q h => Int.lt_of_mul_lt_mul_right h (Int.le_of_lt hr)
  have eq : ∀ p q : Int, p * y = q * y → p = q := fun p q h => Int.eq_of_mul_eq_mul_right (by omega) h
  rcases h1 with h1 | ⟨h1, g1⟩
  · have k1 := Int.mul_lt_mul_of_pos_right h1 hk
    have k2 : b * z * x ≤ c * y * x := Int.mul_le_mul_of_nonneg_right (by rcases h2 with h2 | ⟨h2, _⟩ <;> omega) (Int.le_of_lt hi)
    exact .inl (up _ _ (by grind))
  · have k1 : a * y * z = b * x * z := by rw [h1]
    rcases h2 with h2 | ⟨h2, g2⟩
    · have k2 := Int.mul_lt_mul_of_pos_right h2 hi
      exact .inl (up _ _ (by grind))
    · have k2 : b * z * x = c * y * x := by rw [h2]
      exact .inr ⟨eq _ _ (by grind), by omega⟩
def spWout : Sp := fun vs H Q _ => ∃ (l c2 : Addr) (row ch : List Int) (j : Nat) (d : Int), vs = [.ref l, .ref c2, nV j, .int d] ∧ H l = some (.lst (row.map V.int)) ∧ H c2 = some (.lst (ch.map V.int)) ∧ row.length = ch.length ∧ row.length ≤ 100 ∧ j < row.length ∧ (∀ x ∈ row, Mid x) ∧ (∀ x ∈ ch, Mid x) ∧ d ≠ 0 ∧ Mid d ∧ ∀ p H', Same H H' → H p = none → H' p = some (.lst ((woutV row ch j d).map V.int)) → Q (.ref p) H'
theorem pr_app {α : Type} {R : α → V → Prop} {as bs : List α} {us ws : List V} (h : Paired R as us) (k : Paired R bs ws) : Paired R (as ++ bs) (us ++ ws) := by
  induction h with
  | nil => exact k
  | cons r _ ih => exact .cons r ih
/-- all but what stands at a and b stays -/
def Ex (a b : Addr) (H H' : Hp) : Prop := ∀ x o, H x = some o → x ≠ a → x ≠ b → H' x = some o
def spTake (C : Addr) : Sp := fun vs H Q _ => ∃ (a : Addr) (tab : List (List Int)) (cs : List Int) (bs : List Nat) (g : Nat) (d : Int) (dx lL lC lB : Addr) (us : List V) (wd r j : Nat), vs = [.ref a, nV r, nV j] ∧ Sr H C a tab cs bs g d dx lL lC lB us ∧ Wd tab bs wd ∧ r < tab.length ∧ j + 1 < wd ∧ cs.length = wd ∧ wd ≤ 100 ∧ (∀ x ∈ cs, Mid x) ∧ d ≠ 0 ∧ Mid d ∧
  ∀ H' lL' lC' us', Ex a lB H H' → Sr H' C a (takeV tab r j d) (woutV cs (tab.getD r []) j d) (bs.set r j) g (enV tab r j) dx lL' lC' lB us' → Q .non H'
theorem at_last (cs : List Int) (z : Int) : atI ((cs ++ [z]).map V.int) (-1) = some (.int z) := by
  unfold atI ixN
  have h1 : ((cs ++ [z]).map V.int).length = cs.length + 1 := by simp
  rw [h1]
  rw [if_neg (by decide), if_pos (by omega)]
  show ((cs ++ [z]).map V.int)[(((cs.length + 1 : Nat) : Int) + -1).toNat]? = _
  rw [show (((cs.length + 1 : Nat) : Int) + -1).toNat = cs.length by omega]
  simp

theorem bits_mid {i : Int} (h : i.natAbs < 2 ^ 2484) : Mid i := Nat.lt_of_lt_of_le h (Nat.pow_le_pow_right (by decide) (by decide))
/-- what is given to a search: columns of n whole numbers -/
structure Gvn (cols : List (List Int)) (n : Nat) : Prop where
  n2 : 2 ≤ n
  n6 : n ≤ 6
  g1 : 1 ≤ cols.length
  g9 : cols.length ≤ 40
  len : ∀ c ∈ cols, c.length = n
  le : ∀ c ∈ cols, ∀ x ∈ c, x.natAbs ≤ 2 ^ 350
abbrev TabG (cols : List (List Int)) (n : Nat) (tab : List (List Int)) (cs : List Int) (bs : List Nat) (d : Int) : Prop := TabV (cdV cols n) n (duV n) (cols.length + n) tab cs bs d
abbrev TblG (cols : List (List Int)) (n : Nat) (bs : List Nat) (i : Nat) (v : VecI) : Int := Tbl (cdV cols n) n bs i v
theorem gd_mem {α : Type} {xs : List α} {x a : α} (h : x ∈ xs) : ∃ i, i < xs.length ∧ xs.getD i a = x := by
  obtain ⟨i, hi, e⟩ := List.mem_iff_getElem.mp h
  exact ⟨i, hi, by rw [List.getD_eq_getElem?_getD, List.getElem?_eq_getElem hi]; exact e⟩
theorem tabg_le {cols : List (List Int)} {n : Nat} {tab : List (List Int)} {cs : List Int} {bs : List Nat} {d : Int} (G : Gvn cols n) (t : TabG cols n tab cs bs d) (hb : bs.length = n) : (∀ i q, i < n → q ≤ cols.length + n → (enV tab i q).natAbs < 2 ^ 2484) ∧ (∀ q, q ≤ cols.length + n → (cs.getD q 0).natAbs < 2 ^ 2484) ∧ d.natAbs < 2 ^ 2484 := by
  obtain ⟨a1, a2⟩ := all_le (cols := cols) (n := n) (bs := bs) (by have := G.n2; omega) G.n6 G.len G.le hb
  have key : ∀ i q, (TblG cols n bs i (colV (cdV cols n) (duV n) (cols.length + n) q)).natAbs < 2 ^ 2484 := fun i q => by
    unfold colV
    split
    · exact (a2 i).1 q
    · exact (a2 i).2.1
  refine ⟨fun i q hi hq => ?_, fun q hq => ?_, ?_⟩
  · rw [t.en i q hi hq]
    exact key i q
  · rw [t.co q hq]
    exact key n q
  · rw [t.sc]
    exact a1
theorem tabg_wd {cols : List (List Int)} {n : Nat} {tab : List (List Int)} {cs : List Int} {bs : List Nat} {d : Int} (G : Gvn cols n) (t : TabG cols n tab cs bs d) (hb : bs.length = n) : Wd tab bs (cols.length + n + 1) ∧ (∀ x ∈ cs, Mid x) ∧ Mid d := by
  obtain ⟨b1, b2, b3⟩ := tabg_le G t hb
  have tl := t.len
  have n6 := G.n6
  refine ⟨⟨fun r hr => ?_, by omega, by omega⟩, fun x hx => ?_, bits_mid b3⟩
  · obtain ⟨i, hi, e⟩ := gd_mem (a := []) hr
    have rl := t.row i (by omega)
    rw [e] at rl
    refine ⟨rl, fun x hx => ?_⟩
    obtain ⟨q, hq, e2⟩ := gd_mem (a := 0) hx
    have := b1 i q (by omega) (by omega)
    unfold enV at this
    rw [e, e2] at this
    exact bits_mid this
  · obtain ⟨q, hq, e2⟩ := gd_mem (a := 0) hx
    have := t.cl
    have := b2 q (by omega)
    rw [e2] at this
    exact bits_mid this
theorem last_cut {cs : List Int} {N : Nat} (h : cs.length = N + 1) : cs = cs.dropLast ++ [cs.getD N 0] := by
  have hc : cs ≠ [] := fun z => by rw [z] at h; cases h
  have e : cs.getD N 0 = cs.getLast hc := by
    rw [List.getD_eq_getElem?_getD, List.getLast_eq_getElem, List.getElem?_eq_getElem (by omega)]
    simp [h]
  rw [e]
  exact (List.dropLast_concat_getLast hc).symm
theorem Ex.refl (a b : Addr) (H : Hp) : Ex a b H H := fun _ _ h _ _ => h
theorem Ex.trans {a b : Addr} {H H1 H2 : Hp} (h : Ex a b H H1) (k : Ex a b H1 H2) : Ex a b H H2 := fun x o e na nb => k x o (h x o e na nb) na nb
def spRun (C : Addr) : Sp := fun vs H Q _ => ∃ (a : Addr) (cols : List (List Int)) (n : Nat) (dx lL lC lB : Addr) (us : List V), vs = [.ref a] ∧ Gvn cols n ∧ Sr H C a (tb0V cols n) (cs0V cols n) (bs0V cols.length n) cols.length 1 dx lL lC lB us ∧
  ∀ H' tab cs bs d lL' lC' us', Ex a lB H H' → Sr H' C a tab cs bs cols.length d dx lL' lC' lB us' → TabG cols n tab cs bs d → OkT (cdV cols n) n (duV n) bs → (∀ x ∈ bs, x < cols.length + n) → (TblG cols n bs n (duV n) = 0 ∨ ∀ j, j < cols.length → 0 ≤ TblG cols n bs n (cdV cols n j)) → Q .non H'
theorem put_all (g : Nat) (lL lC lB : Addr) : putF "scale" (.int 1) (putF "basis" (.ref lB) (putF "costs" (.ref lC) (putF "lines" (.ref lL) (putF "given" (nV g) [])))) = flds g lL lC lB 1 := by
  unfold flds
  first | rfl | decide +kernel | simp [putF]
/-- the columns' lists -/
abbrev Rws (H : Hp) (cols : List (List Int)) (us : List V) : Prop := Paired (fun row u => ∃ p, u = .ref p ∧ H p = some (.lst (row.map V.int))) cols us
/-- all but what stands at a stays -/
def Ex1 (a : Addr) (H H' : Hp) : Prop := ∀ x o, H x = some o → x ≠ a → H' x = some o
def spInitS (C : Addr) : Sp := fun vs H Q _ => ∃ (a lc dx : Addr) (cols : List (List Int)) (n : Nat) (us : List V), vs = [.ref a, .ref lc] ∧ H a = some (.ins C dx []) ∧ H lc = some (.lst us) ∧ Rws H cols us ∧ Gvn cols n ∧
  ∀ H' lL lC lB us', Ex1 a H H' → H lB = none → Sr H' C a (tb0V cols n) (cs0V cols n) (bs0V cols.length n) cols.length 1 dx lL lC lB us' → Q .non H'

/-- a row of fractions in the heap: m numbers and one more, and whether it is strict -/
def IsRw (K : PySem.W.Frag) (H : Hp) (v : V) (r : List Rat × Bool) (m : Nat) : Prop := ∃ (p pn : Addr) (vc : V) (rz : List (V × Rat)) (c0 : Rat), v = .ref p ∧ SqT K H p [.ref pn, vc, .bl r.2] ∧ SqT K H pn (rz.map Prod.fst) ∧ FRs K H (rz ++ [(vc, c0)]) 350 ∧ r.1 = (rz ++ [(vc, c0)]).map Prod.snd ∧ rz.length = m
theorem IsRw.same {K : PySem.W.Frag} {H H' : Hp} {v : V} {r : List Rat × Bool} {m : Nat} (h : IsRw K H v r m) (s : Same H H') : IsRw K H' v r m := by
  obtain ⟨p, pn, vc, rz, c0, e, hp, hn, f, e2, l⟩ := h
  exact ⟨p, pn, vc, rz, c0, e, hp.same s, hn.same s, f.same s, e2, l⟩
/-- a common bottom of a row's fractions, and how large they are by it -/
def RwB (r : List Rat) : Prop := ∃ D : Int, 0 < D ∧ D < 2 ^ 350 ∧ ∀ x ∈ r, AtQ D (2 ^ 350) x
abbrev dnQ (r : List Rat) : List Int := r.map fun x => (x.den : Int)
theorem RwB.cb {r : List Rat} (h : RwB r) (i : Nat) : 0 < cbQ ((dnQ r).take i) ∧ cbQ ((dnQ r).take i) < 2 ^ 350 := by
  obtain ⟨D, D0, D1, hD⟩ := h
  obtain ⟨c1, _, _, c4⟩ := fold_lc (D := D) ((dnQ r).take i) 1 (by decide) (Int.one_dvd D) fun d hd => by
    obtain ⟨x, hx, e⟩ := List.mem_map.mp (List.mem_of_mem_take hd)
    rw [← e]
    refine ⟨?_, (hD x hx).dvd (by omega)⟩
    have := x.den_nz
    omega
  have c5 : cbQ ((dnQ r).take i) ≤ D := Int.le_of_dvd D0 c4
  have c1 : 0 < cbQ ((dnQ r).take i) := c1
  exact ⟨c1, by omega⟩
def spBot (K : PySem.W.Frag) : Sp := fun vs H Q _ => ∃ (v : V) (r : List Rat × Bool) (m : Nat), vs = [v] ∧ IsRw K H v r m ∧ m ≤ 4 ∧ RwB r.1 ∧ ∀ H', Same H H' → Q (.int (cbQ (dnQ r.1))) H'
def spCol (K : PySem.W.Frag) : Sp := fun vs H Q _ => ∃ (v : V) (r : List Rat × Bool) (m : Nat), vs = [v, .int (cbQ (dnQ r.1))] ∧ IsRw K H v r m ∧ m ≤ 4 ∧ RwB r.1 ∧ ∀ p H', Same H H' → H p = none → H' p = some (.lst ((coQ r.1 (cbQ (dnQ r.1)) r.2).map V.int)) → Q (.ref p) H'
theorem cat_row {K : PySem.W.Frag} {H : Hp} {pn : Addr} {vc : V} {rz : List (V × Rat)} {c0 : Rat} {Q : VK} {p1 : Addr} (hn : SqT K H pn (rz.map Prod.fst)) (h4 : rz.length ≤ 4) (hp1 : H p1 = none) (q : ∀ pt H', Same H H' → SqT K H' pt ((rz ++ [(vc, c0)]).map Prod.fst) → Q (.ref pt) H') : rCatA K (.ref pn) (.ref p1) (upd H p1 (.tup [vc])) Q := by
  have n1 := same_new hp1 (.tup [vc])
  refine ⟨pn, p1, _, _, rfl, rfl, hn.same n1, SqT.of upd_same, small9 (by rw [List.length_map]; show rz.length + 1 ≤ 1000; omega), fun e => ?_, fun _ z => (by cases z), fun _ _ p hp => ?_⟩
  · refine q _ _ n1 (SqT.of ?_)
    rw [List.map_append, e, upd_same]
    rfl
  · refine q _ _ (n1.trans (same_new hp _)) (SqT.of ?_)
    rw [upd_same, List.map_append]
    rfl
theorem sz_lt {i : Int} {n : Nat} (h0 : 0 ≤ i) (h : i < 2 ^ n) : Sz n i := by
  unfold Sz
  have e : ((2 ^ n : Nat) : Int) = 2 ^ n := by simp
  omega

/-- what is told of each row, not yet made small -/
def whV (tab : List (List Int)) (bs : List Nat) (wd : Nat) (cbs : List Int) (i j : Nat) : Int := gvV (fun i => bs.getD i 0) (fun i => enV tab i (wd - 1)) i j * cbs.getD j 0
def whL (tab : List (List Int)) (bs : List Nat) (wd : Nat) (cbs : List Int) (i : Nat) : List Int := (List.range cbs.length).map (whV tab bs wd cbs i)
def spShares (K : PySem.W.Frag) (C : Addr) : Sp := fun vs H Q _ => ∃ (a lb : Addr) (tab : List (List Int)) (cs : List Int) (bs : List Nat) (g : Nat) (d : Int) (dx lL lC lB : Addr) (us : List V) (cbs : List Int) (wd : Nat), vs = [.ref a, .ref lb] ∧ Sr H C a tab cs bs g d dx lL lC lB us ∧ Wd tab bs wd ∧ 0 < wd ∧ H lb = some (.lst (cbs.map V.int)) ∧ cbs.length ≤ 40 ∧ (∀ x ∈ cbs, Mid x) ∧
  (∀ i j, i < tab.length → j < tab.length → bs.getD i 0 = bs.getD j 0 → i = j) ∧ (∀ j, j < cbs.length → 0 ≤ whV tab bs wd cbs tab.length j ∧ Sz 2834 (whV tab bs wd cbs tab.length j)) ∧ (∃ j, j < cbs.length ∧ 0 < whV tab bs wd cbs tab.length j) ∧
  ∀ t zs H', Same H H' → H' t = some (.tup (zs.map Prod.fst)) → FRhs H' zs 2834 → (∃ (sh : Int) (l : Nat → Int), 0 < sh ∧ zs.map Prod.snd = (List.range cbs.length).map (fun j => ((l j : Int) : Rat)) ∧ ∀ j, j < cbs.length → l j * sh = whV tab bs wd cbs tab.length j ∧ Sz 2834 (l j)) → Q (.ref t) H'
theorem wh_skip {tab : List (List Int)} {bs : List Nat} {wd : Nat} {cbs : List Int} {i : Nat} (h : cbs.length ≤ bs.getD i 0) : whL tab bs wd cbs (i + 1) = whL tab bs wd cbs i := by
  unfold whL
  refine List.map_congr_left fun j hj => ?_
  have := List.mem_range.mp hj
  unfold whV
  congr 1
  show gvV _ _ i j + (if bs.getD i 0 = j then _ else 0) = _
  rw [if_neg (by omega), Int.add_zero]
theorem wh_set {tab : List (List Int)} {bs : List Nat} {wd : Nat} {cbs : List Int} {i : Nat} (h : bs.getD i 0 < cbs.length) (un : ∀ k, k < i → bs.getD k 0 ≠ bs.getD i 0) : (whL tab bs wd cbs i).set (bs.getD i 0) (enV tab i (wd - 1) * cbs.getD (bs.getD i 0) 0) = whL tab bs wd cbs (i + 1) := by
  refine List.ext_getElem? fun j => ?_
  unfold whL
  rw [List.getElem?_set, List.length_map, List.length_range, if_pos h]
  by_cases z : j < cbs.length
  · rw [List.getElem?_map, List.getElem?_range z, List.getElem?_map, List.getElem?_range z]
    unfold whV
    have e : gvV (fun i => bs.getD i 0) (fun i => enV tab i (wd - 1)) (i + 1) j = gvV (fun i => bs.getD i 0) (fun i => enV tab i (wd - 1)) i j + (if bs.getD i 0 = j then enV tab i (wd - 1) else 0) := rfl
    by_cases y : bs.getD i 0 = j
    · rw [if_pos y]
      show some (enV tab i (wd - 1) * cbs.getD (bs.getD i 0) 0) = some (gvV (fun i => bs.getD i 0) (fun i => enV tab i (wd - 1)) (i + 1) j * cbs.getD j 0)
      rw [e, if_pos y, ← y, gv_non un, Int.zero_add]
    · rw [if_neg y]
      show some (gvV (fun i => bs.getD i 0) (fun i => enV tab i (wd - 1)) i j * cbs.getD j 0) = some (gvV (fun i => bs.getD i 0) (fun i => enV tab i (wd - 1)) (i + 1) j * cbs.getD j 0)
      rw [e, if_neg y, Int.add_zero]
  · rw [if_neg (by omega), List.getElem?_eq_none (by simp; omega), List.getElem?_eq_none (by simp; omega)]
theorem wh_at {tab : List (List Int)} {bs : List Nat} {wd : Nat} {cbs : List Int} {n : Nat} {w : Int} (h : w ∈ whL tab bs wd cbs n) : ∃ j, j < cbs.length ∧ w = whV tab bs wd cbs n j := by
  unfold whL at h
  obtain ⟨j, hj, e⟩ := List.mem_map.mp h
  exact ⟨j, List.mem_range.mp hj, e.symm⟩
def spPoint (K : PySem.W.Frag) (C : Addr) : Sp := fun vs H Q _ => ∃ (a : Addr) (tab : List (List Int)) (cs : List Int) (bs : List Nat) (g : Nat) (d : Int) (dx lL lC lB : Addr) (us : List V) (m : Nat), vs = [.ref a, nV m] ∧ Sr H C a tab cs bs g d dx lL lC lB us ∧ tab.length = m + 2 ∧ cs.length = g + (m + 2) + 1 ∧ m ≤ 4 ∧ g ≤ 40 ∧ 0 < cs.getD (g + m) 0 - d ∧ (∀ k, k < m + 2 → Sz 2485 (cs.getD (g + k) 0 - d)) ∧
  ∀ t zs H', Same H H' → H' t = some (.tup (zs.map Prod.fst)) → FRhs H' zs 2485 → zs.map Prod.snd = (List.range m).map (fun k => Rat.divInt (cs.getD (g + k) 0 - d) (cs.getD (g + m) 0 - d)) → Q (.ref t) H'
theorem cut_mid {cs : List Int} {g n : Nat} (h : cs.length = g + n + 1) : cutV (cs.map V.int) (some (g : Int)) (some (-1)) = ((List.range n).map fun k => cs.getD (g + k) 0).map V.int := by
  unfold cutV
  rw [List.length_map, h]
  have e1 : HT.sIx (g + n + 1) 0 (some (g : Int)) = g := by
    unfold HT.sIx
    dsimp only
    rw [if_neg (by omega), Int.toNat_natCast]
    omega
  have e2 : HT.sIx (g + n + 1) (g + n + 1) (some (-1)) = g + n := by
    unfold HT.sIx
    dsimp only
    rw [if_pos (by decide)]
    omega
  rw [e1, e2, show g + n - g = n by omega]
  refine List.ext_getElem? fun j => ?_
  by_cases z : j < n
  · rw [List.getElem?_take, if_pos z, List.getElem?_drop, List.getElem?_map, List.getElem?_map, List.getElem?_map, List.getElem?_range z, List.getElem?_eq_getElem (by omega)]
    show some _ = some (V.int (cs.getD (g + j) 0))
    rw [List.getD_eq_getElem?_getD, List.getElem?_eq_getElem (by omega)]
    rfl
  · rw [List.getElem?_take, if_neg z, List.getElem?_eq_none (by simp; omega)]

abbrev cbL (S : List (List Rat × Bool)) : List Int := S.map fun r => cbQ (dnQ r.1)
abbrev coL (S : List (List Rat × Bool)) : List (List Int) := S.map fun r => coQ r.1 (cbQ (dnQ r.1)) r.2
theorem sys_mk {m : Nat} {S : List (List Rat × Bool)} (h : ∀ r ∈ S, r.1.length = m + 1 ∧ RwB r.1) : SysV m S (cbL S) (coL S) ∧ (∀ c ∈ coL S, ∀ x ∈ c, x.natAbs ≤ 2 ^ 350) ∧ ∀ x ∈ cbL S, Sz 350 x := by
  have key : ∀ r ∈ S, RowC m r (cbQ (dnQ r.1)) (coQ r.1 (cbQ (dnQ r.1)) r.2) ∧ (∀ x ∈ coQ r.1 (cbQ (dnQ r.1)) r.2, x.natAbs ≤ 2 ^ 350) ∧ Sz 350 (cbQ (dnQ r.1)) := fun r hr => by
    obtain ⟨hl, D, D0, D1, hD⟩ := h r hr
    obtain ⟨a, b, c⟩ := row_mk (s := r.2) hl D0 hD
    have cp := a.cp
    have b : cbQ (dnQ r.1) ≤ D := b
    refine ⟨a, fun x hx => ?_, sz_lt (Int.le_of_lt cp) (by omega)⟩
    have := c x hx
    rw [Nat.max_eq_left (Nat.one_le_two_pow)] at this
    exact this
  refine ⟨⟨List.length_map .., List.length_map .., fun j hj => ?_⟩, fun c hc => ?_, fun x hx => ?_⟩
  · rw [gd_map (a := ([], false)) hj, gd_map (a := ([], false)) hj]
    refine (key _ ?_).1
    rw [List.getD_eq_getElem?_getD, List.getElem?_eq_getElem hj]
    exact List.getElem_mem _
  · obtain ⟨r, hr, e⟩ := List.mem_map.mp hc
    rw [← e]
    exact (key r hr).2.1
  · obtain ⟨r, hr, e⟩ := List.mem_map.mp hx
    rw [← e]
    exact (key r hr).2.2
theorem gvn_mk {m : Nat} {S : List (List Rat × Bool)} (h : ∀ r ∈ S, r.1.length = m + 1 ∧ RwB r.1) (h4 : m ≤ 4) (hS : S.length ≤ 36) : Gvn (alV (coL S) m) (m + 2) := by
  obtain ⟨a, b, _⟩ := sys_mk h
  have al : (alV (coL S) m).length = S.length + 1 := by simp
  refine ⟨by omega, by omega, by omega, by omega, a.len, fun c hc x hx => ?_⟩
  rcases List.mem_append.mp hc with z | z
  · exact b c z x hx
  · rw [List.mem_singleton.mp z] at hx
    have one : (1 : Nat) ≤ 2 ^ 350 := Nat.one_le_two_pow
    unfold resV at hx
    rcases List.mem_append.mp hx with y | y
    · obtain ⟨_, _, e⟩ := List.mem_map.mp y
      rw [← e]
      simp
    · simp at y
      rw [y]
      simpa using one
theorem gv_le {b : Nat → Nat} {t : Nat → Int} {n k : Nat} (un : ∀ i j, i < n → j < n → b i = b j → i = j) (h : ∀ i, i < n → Sz k (t i)) (j : Nat) : Sz k (gvV b t n j) := by
  by_cases z : ∃ i, i < n ∧ b i = j
  · obtain ⟨i, hi, e⟩ := z
    rw [← e, gv_one hi fun k hk e2 => un k i hk hi e2]
    exact h i hi
  · rw [gv_non fun k hk e => z ⟨k, hk, e⟩]
    exact Nat.two_pow_pos k
/-- a point as it is told: one bottom for all -/
def PtQ (m : Nat) (zs : List (V × Rat)) : Prop := zs.length = m ∧ ∃ y : Nat → Int, 0 < y m ∧ (∀ k, k ≤ m → Sz 2485 (y k)) ∧ ∀ k, k < m → (zs.map Prod.snd).getD k 0 = Rat.divInt (y k) (y m)
/-- shares as they are told: whole numbers -/
def ShQ (n : Nat) (zs : List (V × Rat)) : Prop := zs.length = n ∧ ∀ j, j < n → ∃ l : Int, (zs.map Prod.snd).getD j 0 = (l : Rat) ∧ Sz 2834 l
theorem met_congr {m : Nat} {S : List (List Rat × Bool)} {x y : Nat → Rat} (h : MetQ m S x) (e : ∀ k, k < m → x k = y k) : MetQ m S y := fun j hj => by
  have e1 : vaQ S m y j = vaQ S m x j := by
    unfold vaQ
    rw [sq_congr (g := fun k => nuQ S j k * y k) (h := fun k => nuQ S j k * x k) fun k hk => by rw [e k hk]]
  rw [e1]
  exact h j hj
def spMeet (K : PySem.W.Frag) : Sp := fun vs H Q _ => ∃ (lr : Addr) (us : List V) (S : List (List Rat × Bool)) (m : Nat), vs = [.ref lr, nV m] ∧ H lr = some (.lst us) ∧ Paired (fun r u => IsRw K H u r m ∧ RwB r.1) S us ∧ m ≤ 4 ∧ S.length ≤ 36 ∧
  (∀ t p zs H', Same H H' → H' t = some (.tup [.str "met", .ref p]) → H' p = some (.tup (zs.map Prod.fst)) → FRhs H' zs 2485 → PtQ m zs → MetQ m S (fun k => (zs.map Prod.snd).getD k 0) → Q (.ref t) H') ∧
  ∀ t p zs H', Same H H' → H' t = some (.tup [.str "unmet", .ref p]) → H' p = some (.tup (zs.map Prod.fst)) → FRhs H' zs 2834 → ShQ S.length zs → BarQ m S (fun j => (zs.map Prod.snd).getD j 0) → Q (.ref t) H'
theorem IsRw.len {K : PySem.W.Frag} {H : Hp} {v : V} {r : List Rat × Bool} {m : Nat} (h : IsRw K H v r m) : r.1.length = m + 1 := by
  obtain ⟨p, pn, vc, rz, c0, e, hp, hn, f, e2, l⟩ := h
  rw [e2, List.length_map, List.length_append, l]
  rfl
theorem pr_mem {α : Type} {R : α → V → Prop} {as : List α} {us : List V} (h : Paired R as us) : ∀ r ∈ as, ∃ u, R r u := by
  induction h with
  | nil => exact fun r hr => by cases hr
  | cons k _ ih =>
    intro r hr
    rcases List.mem_cons.mp hr with z | z
    · rw [z]
      exact ⟨_, k⟩
    · exact ih r z

theorem fr_tight {K : PySem.W.Frag} {H : Hp} {v : V} {r : Rat} {n e : Nat} {D : Int} {Z : Nat} (h : FR K H v r n) (a : AtQ D Z r) (D0 : D ≠ 0) (hD : Sz e D) (hZ : Z < 2 ^ e) : FR K H v r e := by
  obtain ⟨p, ev, hp, _⟩ := h
  refine ⟨p, ev, hp, Nat.lt_of_le_of_lt (a.num D0) hZ, ?_⟩
  have := a.den D0
  unfold Sz at *
  simp only [Int.natAbs_natCast]
  omega
def spCell (K : PySem.W.Frag) : Sp := fun vs H Q _ => ∃ (a : Addr) (ns : List Int), vs = [.ref a, .int 0] ∧ SqL K H a (ns.map V.int) ∧ ∀ i, Q (.int i) H
def spStrewn (n : Nat) : Sp := fun vs H Q _ => ∃ c : Int, vs = [.int c, nV n] ∧ ∀ (p : Addr) (ys : List Int) (H' : Hp), Same H H' → H' p = some (.lst (ys.map V.int)) → ys.length = n → (∀ y ∈ ys, 0 ≤ y ∧ y < 1000000000) → Q (.ref p) H'
def spIsFr : Sp := fun vs H Q _ => ∃ (v : V) (r : Rat) (b : Nat), vs = [v] ∧ FRh H v r b ∧ Q (.bl true) H
def spFrs : Sp := fun vs H Q _ => ∃ (p : Addr) (zs : List (V × Rat)) (b : Nat), vs = [.ref p, nV zs.length] ∧ H p = some (.tup (zs.map Prod.fst)) ∧ FRhs H zs b ∧ zs.length ≤ 900 ∧ ∀ H', Same H H' → Q (.bl true) H'
/-- what a point comes to, the first i numbers of it -/
abbrev coR (r x : List Rat) (m i : Nat) : Rat := r.getD m 0 + smQ i fun k => r.getD k 0 * x.getD k 0
def spComes (K : PySem.W.Frag) : Sp := fun vs H Q _ => ∃ (v : V) (pq : Addr) (r : List Rat × Bool) (m : Nat) (zs : List (V × Rat)) (b e : Nat) (D : Int) (Z : Nat), vs = [v, .ref pq] ∧ IsRw K H v r m ∧ SqT K H pq (zs.map Prod.fst) ∧ FRs K H zs b ∧ zs.length = m ∧ m ≤ 4 ∧ D ≠ 0 ∧ Sz e D ∧ Z < 2 ^ e ∧ e + (351 + b) ≤ 7000 ∧ (∀ i, i ≤ m → AtQ D Z (coR r.1 (zs.map Prod.snd) m i)) ∧ ∀ u H', Same H H' → FR K H' u (coR r.1 (zs.map Prod.snd) m m) e → Q u H'
def spMet (K : PySem.W.Frag) : Sp := fun vs H Q _ => ∃ (v : V) (pq : Addr) (r : List Rat × Bool) (m : Nat) (zs : List (V × Rat)), vs = [v, .ref pq] ∧ IsRw K H v r m ∧ RwB r.1 ∧ SqT K H pq (zs.map Prod.fst) ∧ FRs K H zs 2485 ∧ PtQ m zs ∧ m ≤ 4 ∧ (0 < coR r.1 (zs.map Prod.snd) m m ∨ (coR r.1 (zs.map Prod.snd) m m = 0 ∧ r.2 = false)) ∧ ∀ H', Same H H' → Q (.bl true) H'

def spBarred (K : PySem.W.Frag) : Sp := fun vs H Q _ => ∃ (lr p : Addr) (us : List V) (S : List (List Rat × Bool)) (m : Nat) (zs : List (V × Rat)) (D : Int) (Z : Nat), vs = [.ref lr, nV m, .ref p] ∧ H lr = some (.lst us) ∧ Paired (fun r u => IsRw K H u r m) S us ∧ m ≤ 4 ∧ S.length ≤ 36 ∧ H p = some (.tup (zs.map Prod.fst)) ∧ FRhs H zs 2834 ∧ ShQ S.length zs ∧ D ≠ 0 ∧ Sz 350 D ∧ Z < 2 ^ 350 ∧ (∀ r ∈ S, ∀ x ∈ r.1, AtQ D Z x) ∧ BarQ m S (fun j => (zs.map Prod.snd).getD j 0) ∧ ∀ H', Same H H' → Q (.bl true) H'
theorem at_sm {D : Int} {Y : Nat} {f : Nat → Rat} (D0 : D ≠ 0) : ∀ n, (∀ k, k < n → AtQ D Y (f k)) → AtQ D (n * Y) (smQ n f)
  | 0, _ => atQ_zero D0 _
  | n + 1, h => by
    have h1 := at_sm D0 n fun k hk => h k (by omega)
    have h2 := h n (by omega)
    have h3 := h1.add D0 h2
    rw [Nat.add_mul, Nat.one_mul]
    exact h3
/-- a strict row of the first i has a share above 0 -/
def stB (S : List (List Rat × Bool)) (L : Nat → Rat) (i : Nat) : Bool := (List.range i).any fun k => stQ S k && decide (0 < (L k).num)
theorem st_succ (S : List (List Rat × Bool)) (L : Nat → Rat) (i : Nat) : stB S L (i + 1) = (stB S L i || (stQ S i && decide (0 < (L i).num))) := by
  unfold stB
  rw [List.range_succ, List.any_append]
  simp
theorem st_true {S : List (List Rat × Bool)} {L : Nat → Rat} {n j : Nat} (hj : j < n) (h1 : stQ S j = true) (h2 : 0 < L j) : stB S L n = true := by
  unfold stB
  rw [List.any_eq_true]
  exact ⟨j, List.mem_range.mpr hj, by rw [h1, decide_eq_true ((numQ _).1.mp h2)]; rfl⟩
/-- the sums, the first j of them of one row more -/
def suQ (S : List (List Rat × Bool)) (L : Nat → Rat) (m i j : Nat) : List Rat := (List.range (m + 1)).map fun k => smQ (if k < j then i + 1 else i) fun r => L r * nuQ S r k
theorem su_len (S : List (List Rat × Bool)) (L : Nat → Rat) (m i j : Nat) : (suQ S L m i j).length = m + 1 := by unfold suQ; rw [List.length_map, List.length_range]
theorem su_set {S : List (List Rat × Bool)} {L : Nat → Rat} {m i j : Nat} (hj : j < m + 1) : (suQ S L m i j).set j (smQ i (fun r => L r * nuQ S r j) + L i * nuQ S i j) = suQ S L m i (j + 1) := by
  refine List.ext_getElem? fun k => ?_
  unfold suQ
  rw [List.getElem?_set, List.length_map, List.length_range, if_pos hj]
  by_cases z : k < m + 1
  · rw [List.getElem?_map, List.getElem?_range z, List.getElem?_map, List.getElem?_range z]
    by_cases y : j = k
    · rw [if_pos y]
      show some _ = some (smQ (if k < j + 1 then i + 1 else i) fun r => L r * nuQ S r k)
      rw [if_pos (by omega), ← y]
      rfl
    · rw [if_neg y]
      show some (smQ (if k < j then i + 1 else i) fun r => L r * nuQ S r k) = some (smQ (if k < j + 1 then i + 1 else i) fun r => L r * nuQ S r k)
      by_cases x : k < j
      · rw [if_pos x, if_pos (by omega)]
      · rw [if_neg x, if_neg (by omega)]
  · rw [if_neg (by omega), List.getElem?_eq_none (by simp; omega), List.getElem?_eq_none (by simp; omega)]
theorem su_at {S : List (List Rat × Bool)} {L : Nat → Rat} {m i j k : Nat} (hk : k < m + 1) : (suQ S L m i j)[k]? = some (smQ (if k < j then i + 1 else i) fun r => L r * nuQ S r k) := by
  unfold suQ
  rw [List.getElem?_map, List.getElem?_range hk]
  rfl
theorem su_next (S : List (List Rat × Bool)) (L : Nat → Rat) (m i : Nat) : suQ S L m i (m + 1) = suQ S L m (i + 1) 0 := by
  unfold suQ
  refine List.map_congr_left fun k hk => ?_
  have := List.mem_range.mp hk
  rw [if_pos this, if_neg (by omega)]
theorem rep_flat (n : Nat) (v : V) : (List.replicate n [v]).flatten = List.replicate n v := by
  induction n with
  | zero => rfl
  | succ n ih => rw [List.replicate_succ, List.flatten_cons, ih, List.replicate_succ]; rfl
/-- an answer as it is told -/
def Told (H : Hp) (t : Addr) (m : Nat) (S : List (List Rat × Bool)) (met : Bool) : Prop := ∃ (p : Addr) (zs : List (V × Rat)), H p = some (.tup (zs.map Prod.fst)) ∧ if met = true then H t = some (.tup [.str "met", .ref p]) ∧ FRhs H zs 2485 ∧ PtQ m zs ∧ MetQ m S (fun k => (zs.map Prod.snd).getD k 0) else H t = some (.tup [.str "unmet", .ref p]) ∧ FRhs H zs 2834 ∧ ShQ S.length zs ∧ BarQ m S (fun j => (zs.map Prod.snd).getD j 0)
def spRight (K : PySem.W.Frag) : Sp := fun vs H Q _ => ∃ (t lr : Addr) (us : List V) (S : List (List Rat × Bool)) (m : Nat) (met : Bool), vs = [.ref t, .ref lr, nV m] ∧ H lr = some (.lst us) ∧ Paired (fun r u => IsRw K H u r m ∧ RwB r.1) S us ∧ m ≤ 4 ∧ S.length ≤ 36 ∧ Told H t m S met ∧ (met = false → ∃ (D : Int) (Z : Nat), D ≠ 0 ∧ Sz 350 D ∧ Z < 2 ^ 350 ∧ ∀ r ∈ S, ∀ x ∈ r.1, AtQ D Z x) ∧ ∀ H', Same H H' → Q (.bl true) H'
def spSmall (K : PySem.W.Frag) : Sp := fun vs H Q _ => ∃ x : Int, vs = [.int x] ∧ ∀ v r H', Same H H' → FR K H' v r 20 → AtQ 2520 50400 r → Q v H'
theorem at_small {t b : Int} (h1 : t.natAbs ≤ 20) (h2 : 1 ≤ b) (h3 : b ≤ 9) : AtQ 2520 50400 (Rat.divInt t b) := by
  have key : ∀ c : Int, c ≠ 0 → b * c = 2520 → c.natAbs ≤ 2520 → AtQ 2520 50400 (Rat.divInt t b) := fun c c0 e hc => by
    have a : AtQ b 20 (Rat.divInt t b) := ⟨t, rfl, h1⟩
    have a2 := a.up (by omega) c0
    rw [e] at a2
    exact a2.mono (Nat.mul_le_mul_left 20 hc)
  have : b = 1 ∨ b = 2 ∨ b = 3 ∨ b = 4 ∨ b = 5 ∨ b = 6 ∨ b = 7 ∨ b = 8 ∨ b = 9 := by omega
  rcases this with h | h | h | h | h | h | h | h | h
  · exact key 2520 (by decide) (by rw [h]; rfl) (by decide)
  · exact key 1260 (by decide) (by rw [h]; rfl) (by decide)
  · exact key 840 (by decide) (by rw [h]; rfl) (by decide)
  · exact key 630 (by decide) (by rw [h]; rfl) (by decide)
  · exact key 504 (by decide) (by rw [h]; rfl) (by decide)
  · exact key 420 (by decide) (by rw [h]; rfl) (by decide)
  · exact key 360 (by decide) (by rw [h]; rfl) (by decide)
  · exact key 315 (by decide) (by rw [h]; rfl) (by decide)
  · exact key 280 (by decide) (by rw [h]; rfl) (by decide)
theorem sz20 {i : Int} (h : i.natAbs ≤ 20) : Sz 20 i := Nat.lt_of_le_of_lt h (by decide)

/-- all numbers of a row are of a given bottom -/
def RwS (D : Int) (Z : Nat) (r : List Rat × Bool) : Prop := ∀ x ∈ r.1, AtQ D Z x
theorem RwS.b {D : Int} {Z : Nat} {r : List Rat × Bool} (h : RwS D Z r) (D0 : 0 < D) (D1 : D < 2 ^ 350) (hZ : Z ≤ 2 ^ 350) : RwB r.1 := ⟨D, D0, D1, fun x hx => (h x hx).mono hZ⟩
theorem cut_ints (ns : List Int) (lo hi : Option Int) : ∃ ms : List Int, cutV (ns.map V.int) lo hi = ms.map V.int := by
  unfold cutV
  rw [← List.map_drop, ← List.map_take]
  exact ⟨_, rfl⟩
theorem cat_ints (i : Int) (ms : List Int) : ([.int i] ++ ms.map V.int : List V) = (i :: ms).map V.int := rfl
theorem gd_end {zs : List (V × Rat)} {z : V × Rat} {m : Nat} (hk : zs.length = m) : ((zs ++ [z]).map Prod.snd).getD m 0 = z.2 := by
  rw [List.map_append, gd_r (by rw [List.length_map]; omega), List.length_map, hk, Nat.sub_self]
  rfl
theorem fr_new {K : PySem.W.Frag} {H : Hp} {p : Addr} {r : Rat} {n : Nat} (_ : H p = none) (a : Sz n r.num) (b : Sz n r.den) : FR K (upd H p (tupR r)) (.ref p) r n := FR.new a b
theorem IsRw.put {K : PySem.W.Frag} {H : Hp} {v : V} {r : List Rat × Bool} {m : Nat} {D : Addr} {xs : List V} {o : HO} (h : IsRw K H v r m) (hD : H D = some (.lst xs)) : IsRw K (upd H D o) v r m := by
  obtain ⟨p, pn, vc, rz, c0, e, hp, hn, f, e2, l⟩ := h
  exact ⟨p, pn, vc, rz, c0, e, hp.put hD, hn.put hD, f.put hD, e2, l⟩
theorem hide {R : TS} {D : Ends} {P : TS → Ends → Prop} {G : Prop} (main : P R D → G) (r : P R D) : G := main r
theorem rws_app {D : Int} {Z : Nat} {rz : List (V × Rat)} {z : V × Rat} {s : Bool} (h : ∀ z ∈ rz, AtQ D Z z.2) (k : AtQ D Z z.2) : RwS D Z ((rz ++ [z]).map Prod.snd, s) := fun x hx => by
  obtain ⟨y, hy, e⟩ := List.mem_map.mp hx
  rw [← e]
  rcases List.mem_append.mp hy with q | q
  · exact h y q
  · rw [List.mem_singleton.mp q]
    exact k
theorem frs_app {K : PySem.W.Frag} {H : Hp} {rz : List (V × Rat)} {z : V × Rat} {n : Nat} (h : FRs K H rz n) (k : FR K H z.1 z.2 n) : FRs K H (rz ++ [z]) n := fun y hy => by
  rcases List.mem_append.mp hy with q | q
  · exact h y q
  · rw [List.mem_singleton.mp q]
    exact k
theorem frs_mono {K : PySem.W.Frag} {H : Hp} {rz : List (V × Rat)} {n m : Nat} (h : FRs K H rz n) (k : n ≤ m) : FRs K H rz m := fun y hy => (h y hy).mono k
/-- a row that a point meets -/
def RwOk (x : Nat → Rat) (m : Nat) (r : List Rat × Bool) : Prop := 0 < r.1.getD m 0 + smQ m (fun k => r.1.getD k 0 * x k) ∨ (r.1.getD m 0 + smQ m (fun k => r.1.getD k 0 * x k) = 0 ∧ r.2 = false)
theorem met_all {x : Nat → Rat} {m : Nat} {S : List (List Rat × Bool)} (h : ∀ r ∈ S, RwOk x m r) : MetQ m S x := fun j hj => by
  have hr : S[j]? = some (S.getD j ([], false)) := by rw [List.getD_eq_getElem?_getD, List.getElem?_eq_getElem hj]; rfl
  exact h _ (List.mem_of_getElem? hr)
theorem met_mem {x : Nat → Rat} {m : Nat} {S : List (List Rat × Bool)} (h : MetQ m S x) : ∀ r ∈ S, RwOk x m r := fun r hr => by
  obtain ⟨j, hj, e⟩ := gd_mem (a := ([], false)) hr
  have := h j hj
  unfold vaQ nuQ stQ at this
  rw [e] at this
  exact this
theorem pr_take {α : Type} {R : α → V → Prop} {as : List α} {us : List V} (h : Paired R as us) : ∀ i, Paired R (as.take i) (us.take i) := by
  induction h with
  | nil => intro i; rw [List.take_nil, List.take_nil]; exact .nil
  | cons x y ih =>
    intro i
    cases i with
    | zero => exact .nil
    | succ i => exact .cons x (ih i)

def Sol (m : Nat) (S : List (List Rat × Bool)) : Prop := ∃ x, MetQ m S x
theorem sol_mem {m : Nat} {S S' : List (List Rat × Bool)} (h : ∀ r, r ∈ S ↔ r ∈ S') : Sol m S ↔ Sol m S' := ⟨fun ⟨x, hx⟩ => ⟨x, met_all fun r hr => met_mem hx r ((h r).mpr hr)⟩, fun ⟨x, hx⟩ => ⟨x, met_all fun r hr => met_mem hx r ((h r).mp hr)⟩⟩
theorem sol_map {m m' : Nat} {S : List (List Rat × Bool)} {f : List Rat × Bool → List Rat × Bool} (g h : (Nat → Rat) → Nat → Rat) (h1 : ∀ x r, r ∈ S → RwOk x m r → RwOk (g x) m' (f r)) (h2 : ∀ x r, r ∈ S → RwOk x m' (f r) → RwOk (h x) m r) : Sol m (S) ↔ Sol m' (S.map f) := by
  refine ⟨fun ⟨x, hx⟩ => ⟨g x, met_all fun r hr => ?_⟩, fun ⟨x, hx⟩ => ⟨h x, met_all fun r hr => h2 x r hr (met_mem hx _ (List.mem_map.mpr ⟨r, hr, rfl⟩))⟩⟩
  obtain ⟨r', hr', e⟩ := List.mem_map.mp hr
  rw [← e]
  exact h1 x r' hr' (met_mem hx r' hr')
abbrev vaR (x : Nat → Rat) (m : Nat) (r : List Rat) : Rat := r.getD m 0 + smQ m fun k => r.getD k 0 * x k
theorem rwok_eq {x y : Nat → Rat} {m m' : Nat} {r r' : List Rat × Bool} (e : vaR y m' r'.1 = vaR x m r.1) (s : r'.2 = r.2) (h : RwOk x m r) : RwOk y m' r' := by
  have h' : 0 < vaR x m r.1 ∨ (vaR x m r.1 = 0 ∧ r.2 = false) := h
  rw [← e, ← s] at h'
  exact h'
/-- a row so many times -/
def timR (t : Rat) (r : List Rat × Bool) : List Rat × Bool := (r.1.map fun x => x * t, r.2)
theorem tim_at (t : Rat) (r : List Rat) (k : Nat) : (r.map fun x => x * t).getD k 0 = r.getD k 0 * t := by
  rw [List.getD_eq_getElem?_getD, List.getD_eq_getElem?_getD, List.getElem?_map]
  cases r[k]? with
  | none => exact (Rat.zero_mul t).symm
  | some y => rfl
theorem sol_tim {m : Nat} {S : List (List Rat × Bool)} {t : Rat} (h : 0 < t) : Sol m S ↔ Sol m (S.map (timR t)) := by
  have e : ∀ x r, vaR x m (timR t r).1 = vaR x m r.1 * t := fun x r => by
    show (r.1.map fun x => x * t).getD m 0 + smQ m _ = (r.1.getD m 0 + smQ m _) * t
    have h1 := sq_lc t 0 (fun k => r.1.getD k 0 * x k) (fun _ => 0) m
    have h2 : smQ m (fun k => (r.1.map fun x => x * t).getD k 0 * x k) = smQ m (fun k => t * (r.1.getD k 0 * x k) + 0 * 0) := sq_congr fun k _ => by rw [tim_at]; grind
    show (r.1.map fun x => x * t).getD m 0 + smQ m (fun k => (r.1.map fun x => x * t).getD k 0 * x k) = _
    rw [h2, h1, tim_at]
    grind
  refine sol_map id id (fun x r _ hx => ?_) (fun x r _ hx => ?_)
  · have hx : 0 < vaR x m r.1 ∨ (vaR x m r.1 = 0 ∧ r.2 = false) := hx
    show 0 < vaR x m (timR t r).1 ∨ (vaR x m (timR t r).1 = 0 ∧ r.2 = false)
    rw [e]
    rcases hx with z | ⟨z, y⟩
    · exact .inl (Rat.mul_pos z h)
    · exact .inr ⟨by rw [z, Rat.zero_mul], y⟩
  · have hx : 0 < vaR x m (timR t r).1 ∨ (vaR x m (timR t r).1 = 0 ∧ r.2 = false) := hx
    show 0 < vaR x m r.1 ∨ (vaR x m r.1 = 0 ∧ r.2 = false)
    rw [e] at hx
    rcases hx with z | ⟨z, y⟩
    · refine .inl (Classical.byContradiction fun n => ?_)
      have := Rat.mul_nonneg (a := -vaR x m r.1) (b := t) (by have := Rat.not_lt.mp n; grind) (Rat.le_of_lt h)
      grind
    · refine .inr ⟨?_, y⟩
      rcases Rat.mul_eq_zero.mp z with w | w
      · exact w
      · rw [w] at h
        exact absurd h Rat.lt_irrefl
theorem take_at {r : List Rat} {m k : Nat} (hk : k < m) : (r.take m).getD k 0 = r.getD k 0 := by
  rw [List.getD_eq_getElem?_getD, List.getD_eq_getElem?_getD, List.getElem?_take, if_pos hk]
/-- a row whose numbers stand in the other order -/
def revR (m : Nat) (r : List Rat × Bool) : List Rat × Bool := ((r.1.take m).reverse ++ [r.1.getD m 0], r.2)
theorem sq_head (g : Nat → Rat) : ∀ n, smQ (n + 1) g = g 0 + smQ n fun k => g (k + 1)
  | 0 => by show (0 : Rat) + g 0 = g 0 + 0; grind
  | n + 1 => by
    show smQ (n + 1) g + g (n + 1) = g 0 + (smQ n (fun k => g (k + 1)) + g (n + 1))
    rw [sq_head g n]
    grind
theorem sq_rev : ∀ (n : Nat) (g : Nat → Rat), smQ n (fun k => g (n - 1 - k)) = smQ n g
  | 0, _ => rfl
  | n + 1, g => by
    show smQ n (fun k => g (n + 1 - 1 - k)) + g (n + 1 - 1 - n) = _
    rw [sq_head, show n + 1 - 1 - n = 0 by omega, ← sq_rev n fun k => g (k + 1), sq_congr (h := fun k => g (n - 1 - k + 1)) fun k hk => by rw [show n + 1 - 1 - k = n - 1 - k + 1 by omega]]
    grind
theorem va_rev {m : Nat} {r : List Rat × Bool} (hl : r.1.length = m + 1) (x : Nat → Rat) : vaR (fun k => x (m - 1 - k)) m (revR m r).1 = vaR x m r.1 := by
  have lt : (r.1.take m).reverse.length = m := by rw [List.length_reverse, List.length_take]; omega
  show ((r.1.take m).reverse ++ [r.1.getD m 0]).getD m 0 + smQ m (fun k => ((r.1.take m).reverse ++ [r.1.getD m 0]).getD k 0 * x (m - 1 - k)) = r.1.getD m 0 + smQ m fun k => r.1.getD k 0 * x k
  rw [gd_r (by omega), lt, Nat.sub_self]
  congr 1
  rw [← sq_rev m fun k => r.1.getD k 0 * x k]
  refine sq_congr fun k hk => ?_
  rw [gd_l (by omega), List.getD_eq_getElem?_getD, List.getElem?_reverse (by rw [List.length_take]; omega), List.length_take, ← List.getD_eq_getElem?_getD, show min m r.1.length - 1 - k = m - 1 - k by omega, take_at (by omega)]
theorem sol_rev {m : Nat} {S : List (List Rat × Bool)} (hl : ∀ r ∈ S, r.1.length = m + 1) : Sol m S ↔ Sol m (S.map (revR m)) := by
  refine sol_map (fun x k => x (m - 1 - k)) (fun x k => x (m - 1 - k)) (fun x r hr hx => rwok_eq (va_rev (hl r hr) x) rfl hx) (fun x r hr hx => rwok_eq (r := revR m r) ?_ rfl hx)
  rw [← va_rev (hl r hr)]
  refine congrArg (fun z => (revR m r).1.getD m 0 + z) (sq_congr fun k hk => ?_)
  show _ * x (m - 1 - (m - 1 - k)) = _ * x k
  rw [show m - 1 - (m - 1 - k) = k by omega]
/-- a row told of a point so much further off -/
def movR (m : Nat) (b : Rat) (r : List Rat × Bool) : List Rat × Bool := (r.1.take m ++ [r.1.getD m 0 + smQ m fun k => r.1.getD k 0 * b], r.2)
theorem va_mov {m : Nat} {b : Rat} {r : List Rat × Bool} (hl : r.1.length = m + 1) (x : Nat → Rat) : vaR (fun k => x k - b) m (movR m b r).1 = vaR x m r.1 := by
  have lt : (r.1.take m).length = m := by rw [List.length_take]; omega
  show (r.1.take m ++ [r.1.getD m 0 + smQ m fun k => r.1.getD k 0 * b]).getD m 0 + smQ m (fun k => (r.1.take m ++ [r.1.getD m 0 + smQ m fun k => r.1.getD k 0 * b]).getD k 0 * (x k - b)) = r.1.getD m 0 + smQ m fun k => r.1.getD k 0 * x k
  have h1 : ∀ y : Rat, smQ m (fun k => (r.1.take m ++ [y]).getD k 0 * (x k - b)) = 1 * smQ m (fun k => r.1.getD k 0 * x k) + (-1) * smQ m (fun k => r.1.getD k 0 * b) := fun y => by
    rw [← sq_lc]
    refine sq_congr fun k hk => ?_
    rw [gd_l (by omega), take_at hk]
    grind
  rw [h1, gd_r (by omega), lt, Nat.sub_self]
  show r.1.getD m 0 + _ + _ = _
  grind
theorem sol_mov {m : Nat} {b : Rat} {S : List (List Rat × Bool)} (hl : ∀ r ∈ S, r.1.length = m + 1) : Sol m S ↔ Sol m (S.map (movR m b)) := by
  refine sol_map (fun x k => x k - b) (fun x k => x k + b) (fun x r hr hx => rwok_eq (va_mov (hl r hr) x) rfl hx) (fun x r hr hx => rwok_eq (r := movR m b r) ?_ rfl hx)
  rw [← va_mov (b := b) (hl r hr)]
  refine congrArg (fun z => (movR m b r).1.getD m 0 + z) (sq_congr fun k hk => ?_)
  show _ * (x k + b - b) = _ * x k
  rw [show x k + b - b = x k by grind]
/-- a row with one number 0 more -/
def widR (m : Nat) (r : List Rat × Bool) : List Rat × Bool := (r.1.take m ++ [0] ++ [r.1.getD m 0], r.2)
theorem va_wid {m : Nat} {r : List Rat × Bool} (hl : r.1.length = m + 1) (x : Nat → Rat) : vaR x (m + 1) (widR m r).1 = vaR x m r.1 := by
  have lt : (r.1.take m).length = m := by rw [List.length_take]; omega
  have l2 : (r.1.take m ++ [(0 : Rat)]).length = m + 1 := by rw [List.length_append, lt]; rfl
  show (r.1.take m ++ [0] ++ [r.1.getD m 0]).getD (m + 1) 0 + (smQ m (fun k => (r.1.take m ++ [0] ++ [r.1.getD m 0]).getD k 0 * x k) + (r.1.take m ++ [0] ++ [r.1.getD m 0]).getD m 0 * x m) = r.1.getD m 0 + smQ m fun k => r.1.getD k 0 * x k
  rw [gd_r (by omega), l2, Nat.sub_self, gd_l (i := m) (by omega), gd_r (i := m) (by omega), lt, Nat.sub_self, sq_congr (h := fun k => r.1.getD k 0 * x k) fun k hk => by rw [gd_l (by omega), gd_l (by omega), take_at hk]]
  show r.1.getD m 0 + (_ + 0 * x m) = _
  grind
theorem sol_wid {m : Nat} {S : List (List Rat × Bool)} (hl : ∀ r ∈ S, r.1.length = m + 1) : Sol m S ↔ Sol (m + 1) (S.map (widR m)) := sol_map id id (fun x r hr hx => rwok_eq (va_wid (hl r hr) x) rfl hx) (fun x r hr hx => rwok_eq (va_wid (hl r hr) x).symm rfl hx)

def wdV (b : Bool) : Str := if b = true then "met" else "unmet"
abbrev RwD (K : PySem.W.Frag) (H : Hp) (m : Nat) (D : Int) (Z : Nat) (S : List (List Rat × Bool)) (us : List V) : Prop := Paired (fun r u => IsRw K H u r m ∧ RwS D Z r) S us
/-- rows in the heap, of one small bottom -/
def SyH (K : PySem.W.Frag) (H : Hp) (m : Nat) (S : List (List Rat × Bool)) (l : Addr) : Prop := ∃ (us : List V) (D : Int) (Z : Nat), H l = some (.lst us) ∧ RwD K H m D Z S us ∧ 0 < D ∧ D ≤ 60000 ∧ Z ≤ 2000000 ∧ S.length ≤ 36
theorem SyH.same {K : PySem.W.Frag} {H H' : Hp} {m : Nat} {S : List (List Rat × Bool)} {l : Addr} (h : SyH K H m S l) (s : Same H H') : SyH K H' m S l := by
  obtain ⟨us, D, Z, hl, hP, k⟩ := h
  exact ⟨us, D, Z, s _ _ hl, Paired.mapP hP fun r u ⟨a1, a2⟩ => ⟨a1.same s, a2⟩, k⟩
theorem SyH.put {K : PySem.W.Frag} {H : Hp} {m : Nat} {S : List (List Rat × Bool)} {l D9 : Addr} {xs : List V} {o : HO} (h : SyH K H m S l) (hD : H D9 = some (.lst xs)) (ne : l ≠ D9) : SyH K (upd H D9 o) m S l := by
  obtain ⟨us, D, Z, hl, hP, k⟩ := h
  exact ⟨us, D, Z, by rw [upd_ne ne]; exact hl, Paired.mapP hP fun r u ⟨a1, a2⟩ => ⟨a1.put hD, a2⟩, k⟩
def spWord (K : PySem.W.Frag) : Sp := fun vs H Q _ => ∃ (lr : Addr) (S : List (List Rat × Bool)) (m : Nat), vs = [.ref lr, nV m] ∧ SyH K H m S lr ∧ m ≤ 4 ∧ ∀ b H', Same H H' → (b = true ↔ Sol m S) → Q (.str (wdV b)) H'
def spRows (K : PySem.W.Frag) : Sp := fun vs H Q _ => ∃ (p : Addr) (ys : List Int), vs = [.ref p] ∧ H p = some (.lst (ys.map V.int)) ∧ ys.length = 70 ∧ (∀ y ∈ ys, 0 ≤ y ∧ y < 1000000000) ∧ ∀ (t lr : Addr) (us : List V) (S : List (List Rat × Bool)) (m : Nat) H', Same H H' → H' t = some (.tup [nV m, .ref lr]) → H' lr = some (.lst us) → RwD K H' m 2520 50400 S us → 1 ≤ m → m ≤ 4 → S.length ≤ 7 → Q (.ref t) H'
def spTimes (K : PySem.W.Frag) : Sp := fun vs H Q _ => ∃ (v vb : V) (r : List Rat × Bool) (m : Nat) (t : Rat) (B : Int), vs = [v, vb] ∧ IsRw K H v r m ∧ m ≤ 4 ∧ RwS 2520 50400 r ∧ FR K H vb t 10 ∧ AtQ B 20 t ∧ 0 < B ∧ B ≤ 20 ∧ ∀ v' H', Same H H' → IsRw K H' v' (timR t r) m → Q v' H'
def spMoved (K : PySem.W.Frag) : Sp := fun vs H Q _ => ∃ (v vb : V) (r : List Rat × Bool) (m : Nat) (t : Rat), vs = [v, vb] ∧ IsRw K H v r m ∧ m ≤ 4 ∧ RwS 2520 50400 r ∧ FR K H vb t 10 ∧ AtQ 1 9 t ∧ ∀ v' H', Same H H' → IsRw K H' v' (movR m t r) m → Q v' H'
def spRightC : Sp := fun vs H Q _ => ∃ c : Int, vs = [.int c] ∧ ∀ H', Same H H' → Q (.bl true) H'
def spLaw (K : PySem.W.Frag) : Sp := fun vs H Q _ => ∃ (a : Addr) (ns : List Int), vs = [.ref a] ∧ SqL K H a (ns.map V.int) ∧ ns.length ≤ 63 ∧ ∀ H', Q (.bl true) H'
theorem comp_rows {K : PySem.W.Frag} {a : Addr} {us : List V} {S : List (List Rat × Bool)} {m m' : Nat} {D9 : Int} {Z9 : Nat} {t : Nat} {te : TE} {σ0 : St} {H1 : Hp} {Q : VK} {D : Addr} (f : List Rat × Bool → List Rat × Bool) (ha : H1 a = some (.lst us)) (hP : RwD K H1 m D9 Z9 S us) (hD : H1 D = none) (hn : S.length ≤ 900)
    (he : ∀ r u H' Q', r ∈ S → IsRw K H' u r m → RwS D9 Z9 r → Same H1 H' → (∀ v H'', Same H' H'' → IsRw K H'' v (f r) m' → Q' v H'') → te (σ0.set t (some u)) H' Q')
    (q : ∀ ws H', Same H1 H' → H' D = some (.lst ws) → Paired (fun r u => IsRw K H' u (f r) m') S ws → Q (.ref D) H') : CompGo (Itl K a) (gName t) tYes te σ0 H1 Q D := by
  have hl := Paired.length hP
  refine comp_list (xs := us) (fun i ys H' => Same H1 H' ∧ Paired (fun r u => IsRw K H' u (f r) m') (S.take i) ys) ⟨same_new hD _, .nil⟩ (fun i ys H' h _ => SqL.of (h.1 _ _ ha)) ?_ ?_
  · rintro i ys H' x hx ⟨s1, hy⟩ hD'
    have hi := (List.getElem?_eq_some_iff.mp hx).1
    have hr : S[i]? = some S[i] := List.getElem?_eq_getElem (by omega)
    obtain ⟨h1, h2⟩ := Paired.at hP _ _ _ hr hx
    have hyl := Paired.length hy
    rw [List.length_take] at hyl
    refine yes (he _ x H' _ (List.mem_of_getElem? hr) (h1.same s1) h2 s1 fun v H'' s2 f2 => ?_)
    refine cyes hi rset1 (s2 _ _ hD') (small1000 (by omega)) ⟨(s1.trans s2).put hD, ?_⟩
    rw [take_snoc hr]
    exact pr_app (Paired.mapP hy fun r u a1 => (a1.same s2).put (s2 _ _ hD')) (.cons (f2.put (s2 _ _ hD')) .nil)
  · rintro ys H' ⟨s1, hy⟩ hD'
    rw [List.take_of_length_le (by omega)] at hy
    exact q ys H' s1 hD' hy
theorem pr_rev {α : Type} {R : α → V → Prop} {as : List α} {us : List V} (h : Paired R as us) : Paired R as.reverse us.reverse := by
  induction h with
  | nil => exact .nil
  | cons x _ ih =>
    rw [List.reverse_cons, List.reverse_cons]
    exact pr_app ih (.cons x .nil)
theorem row_take {r : List Rat × Bool} {rz : List (V × Rat)} {z : V × Rat} {m : Nat} (er : r.1 = (rz ++ [z]).map Prod.snd) (rl : rz.length = m) : r.1.take m = rz.map Prod.snd := by
  rw [er, List.map_append, List.take_append_of_le_length (by rw [List.length_map]; omega), List.take_of_length_le (by rw [List.length_map]; omega)]
theorem row_last {r : List Rat × Bool} {rz : List (V × Rat)} {z : V × Rat} {m : Nat} (er : r.1 = (rz ++ [z]).map Prod.snd) (rl : rz.length = m) : r.1.getD m 0 = z.2 := by
  rw [er]
  exact gd_end rl
theorem pr_map {α β : Type} {R : β → V → Prop} {f : α → β} {as : List α} {us : List V} (h : Paired (fun r u => R (f r) u) as us) : Paired R (as.map f) us := by
  induction h with
  | nil => exact .nil
  | cons x _ ih => exact .cons x ih
theorem pr_and {α : Type} {R : α → V → Prop} {P : α → Prop} {as : List α} {us : List V} (h : Paired R as us) (hp : ∀ r ∈ as, P r) : Paired (fun r u => R r u ∧ P r) as us := by
  induction h with
  | nil => exact .nil
  | cons x _ ih => exact .cons ⟨x, hp _ (List.mem_cons_self ..)⟩ (ih fun r hr => hp r (List.mem_cons_of_mem _ hr))
def top (i : Nat) : Stmt := PySem.Challenge.pw_truthgrades_k51_whole_rows_turned.main.body.getD i (.Pass ⟨0, 0, 0, 0⟩)
/-- the built-in names that the text asks: none is a name of its own -/
structure Gb (mg : Str → Option Value) : Prop where
  «abs» : mg "abs" = none
  «range» : mg "range" = none
  «tuple» : mg "tuple" = none
  «list» : mg "list" = none
  «isinstance» : mg "isinstance" = none
  «int» : mg "int" = none
  «bool» : mg "bool" = none
  «len» : mg "len" = none
  «all» : mg "all" = none
  «any» : mg "any" = none
  «sum» : mg "sum" = none
  «zip» : mg "zip" = none
  «enumerate» : mg "enumerate" = none
/-- the own classes, and what is to be known of them -/
structure Cl (K : PySem.W.Frag) (mg : Str → Option Value) (c : Nat → Addr) : Prop where
  g_GradeError : mg "GradeError" = some (.ref (c 0))
  g_NoFraction : mg "NoFraction" = some (.ref (c 1))
  g_Search : mg "Search" = some (.ref (c 2))
  x_NoFraction : PySem.W.excIn K (c 1) [.type "ValueError", .type "Exception", .type "BaseException", .type "object"] "ValueError.__new__" = true
  pg : PySem.W.plainGet K (c 2) Str.empty = true
  hd : PySem.W.hasDictIn K (c 2) = true
  po : PySem.W.plainOver K (c 2) = true
  sa : PySem.W.findIn K (.ref (c 2)) "__setattr__" = some (some (.builtin "object.__setattr__"))
  mk_Search : PySem.W.makesIn K (c 2) = true
  kp_Search : PySem.W.keepIn K (.ref (c 2)) = true
  no_given : PySem.W.findIn K (.ref (c 2)) "given" = some none
  no_lines : PySem.W.findIn K (.ref (c 2)) "lines" = some none
  no_costs : PySem.W.findIn K (.ref (c 2)) "costs" = some none
  no_basis : PySem.W.findIn K (.ref (c 2)) "basis" = some none
  no_scale : PySem.W.findIn K (.ref (c 2)) "scale" = some none
theorem Cl.c_Search {K : PySem.W.Frag} {mg : Str → Option Value} {c : Nat → Addr} (cl : Cl K mg c) : Cls K (c 2) := ⟨cl.pg, cl.hd, cl.po, cl.sa⟩
abbrev s_is_whole : Stmt := top 4
theorem sc_is_whole : FnScope ["thing"] ["thing"] (defScope s_is_whole) := ⟨rfl, rfl, rfl, by decide +kernel, rfl, by decide +kernel, by decide +kernel⟩
theorem ok_is_whole {P : Program} {w : World} {K : PySem.W.Frag} {mg : Str → Option Value} {base : Heap} {f : Addr} {fd : FuncData} (F : Fun K "is_whole" "is_whole" s_is_whole f fd) (gb : Gb mg) {c : Nat → Addr} (cl : Cl K mg c) : FnOk P w K mg base CX0 1 f fd ["thing"] spWhole := by
  refine F.ok sc_is_whole (fun vs H Q E h => ?_) (fun cdv A outer s H vs Q E hr h => ?_)
  · obtain ⟨i, rfl, _⟩ := h
    rfl
  obtain ⟨i, rfl, q⟩ := h
  refine ⟨_, (@pss_one _ _ _ (@ps_ret _ _ _ _ (@pe_and _ _ _ _ _ _ _ (@pe_callB _ _ _ _ _ _ _ _ _ (@kcall_isiT _ K (by rfl)) rfl gb.isinstance bt_isinstance (@pa_cons _ _ _ _ _ (@pv _ 0 _ _ (by rfl) (by first | exact Or.inl rfl | exact Or.inr (Or.inl rfl) | exact Or.inr (Or.inr rfl)) (by decide) (by decide)) (@pa_cons _ _ _ _ _ (@pe_bltn _ _ (.ty "int") _ _ rfl gb.int bt_int rfl (by decide) (by decide)) (@pa_nil _) (by rfl)) (by rfl)) (by decide) (by decide) (by rfl) (by rfl)) (@pe_one _ _ _ _ _ (@pe_not _ _ _ _ (@pe_callB _ _ _ _ _ _ _ _ _ (@kcall_isiT _ K (by rfl)) rfl gb.isinstance bt_isinstance (@pa_cons _ _ _ _ _ (@pv _ 0 _ _ (by rfl) (by first | exact Or.inl rfl | exact Or.inr (Or.inl rfl) | exact Or.inr (Or.inr rfl)) (by decide) (by decide)) (@pa_cons _ _ _ _ _ (@pe_bltn _ _ (.ty "bool") _ _ rfl gb.bool bt_bool rfl (by decide) (by decide)) (@pa_nil _) (by rfl)) (by rfl)) (by decide) (by decide) (by rfl) (by rfl))))))), ?_⟩
  refine ⟨_, rfl, _, _, _, true, rfl, .int _, kit_same "int", true, rfl, iteT ?_⟩
  exact ⟨_, rfl, _, _, _, false, rfl, .int _, kit_int_bool, false, rfl, q⟩

abbrev s_shared_part : Stmt := top 7
theorem sc_shared_part : FnScope ["one", "other", "larger", "smaller", "rest"] ["one", "other"] (defScope s_shared_part) := ⟨rfl, rfl, rfl, by decide +kernel, rfl, by decide +kernel, by decide +kernel⟩
theorem ok_shared_part {P : Program} {w : World} {K : PySem.W.Frag} {mg : Str → Option Value} {base : Heap} {f : Addr} {fd : FuncData} (F : Fun K "shared_part" "shared_part" s_shared_part f fd) (gb : Gb mg) {c : Nat → Addr} (cl : Cl K mg c) : FnOk P w K mg base CX0 1 f fd ["one", "other"] spShared := by
  refine F.ok sc_shared_part (fun vs H Q E h => ?_) (fun cdv A outer s H vs Q E hr h => ?_)
  · obtain ⟨a, b, rfl, _⟩ := h
    rfl
  obtain ⟨a, b, rfl, q⟩ := h
  refine ⟨_, (@pss_cons _ _ _ _ _ (@ps_set _ _ 2 _ _ _ _ sc_shared_part.nd rfl (Or.inl rfl) (@pe_callB _ _ _ _ _ _ _ _ _ (@call_abs _) rfl gb.abs bt_abs (@pa_cons _ _ _ _ _ (@pv _ 0 _ _ (by rfl) (by first | exact Or.inl rfl | exact Or.inr (Or.inl rfl) | exact Or.inr (Or.inr rfl)) (by decide) (by decide)) (@pa_nil _) (by rfl)) (by decide) (by decide) (by rfl) (by rfl)) (by rfl) (by first | exact .inl rfl | exact .inr rfl | assumption)) (@pss_cons _ _ _ _ _ (@ps_set _ _ 3 _ _ _ _ sc_shared_part.nd rfl (Or.inl rfl) (@pe_callB _ _ _ _ _ _ _ _ _ (@call_abs _) rfl gb.abs bt_abs (@pa_cons _ _ _ _ _ (@pv _ 1 _ _ (by rfl) (by first | exact Or.inl rfl | exact Or.inr (Or.inl rfl) | exact Or.inr (Or.inr rfl)) (by decide) (by decide)) (@pa_nil _) (by rfl)) (by decide) (by decide) (by rfl) (by rfl)) (by rfl) (by first | exact .inl rfl | exact .inr rfl | assumption)) (@pss_cons _ _ _ _ _ (@ps_while _ _ _ _ _ _ PassesOwn.never (@pt_cmpR _ _ _ _ _ _ _ _ (@op_gt _) (@pv _ 3 _ _ (by rfl) (by first | exact Or.inl rfl | exact Or.inr (Or.inl rfl) | exact Or.inr (Or.inr rfl)) (by decide) (by decide)) (@pe_int _ _ _ _) (@nomark _ _ (by decide) (by decide))) (@pss_cons _ _ _ _ _ (@ps_set _ _ 4 _ _ _ _ sc_shared_part.nd rfl (Or.inl rfl) (@pe_op _ _ _ _ _ _ _ _ (@op_mod _) (@pv _ 2 _ _ (by rfl) (by first | exact Or.inl rfl | exact Or.inr (Or.inl rfl) | exact Or.inr (Or.inr rfl)) (by decide) (by decide)) (@pv _ 3 _ _ (by rfl) (by first | exact Or.inl rfl | exact Or.inr (Or.inl rfl) | exact Or.inr (Or.inr rfl)) (by decide) (by decide))) (by rfl) (by first | exact .inl rfl | exact .inr rfl | assumption)) (@pss_cons _ _ _ _ _ (@ps_set _ _ 2 _ _ _ _ sc_shared_part.nd rfl (Or.inl rfl) (@pv _ 3 _ _ (by rfl) (by first | exact Or.inl rfl | exact Or.inr (Or.inl rfl) | exact Or.inr (Or.inr rfl)) (by decide) (by decide)) (by rfl) (by first | exact .inl rfl | exact .inr rfl | assumption)) (@pss_one _ _ _ (@ps_set _ _ 3 _ _ _ _ sc_shared_part.nd rfl (Or.inl rfl) (@pv _ 4 _ _ (by rfl) (by first | exact Or.inl rfl | exact Or.inr (Or.inl rfl) | exact Or.inr (Or.inr rfl)) (by decide) (by decide)) (by rfl) (by first | exact .inl rfl | exact .inr rfl | assumption)))))) (@pss_one _ _ _ (@ps_ret _ _ _ _ (@pv _ 2 _ _ (by rfl) (by first | exact Or.inl rfl | exact Or.inr (Or.inl rfl) | exact Or.inr (Or.inr rfl)) (by decide) (by decide))))))), ?_⟩
  refine ⟨_, rfl, a, rfl, _, rfl, b, rfl, ?_⟩
  refine while_by (fun σ H' => H' = H ∧ ∃ (l s : Int) (x4 : Option V), σ = [some (.int a), some (.int b), some (.int l), some (.int s), x4] ∧ 0 ≤ l ∧ 0 ≤ s ∧ Int.gcd l s = Int.gcd a b)
    (fun σ _ => match σ with | [_, _, _, some (.int s), _] => s.toNat | _ => 0) ⟨rfl, _, _, none, rfl, by split <;> omega, by split <;> omega, ?_⟩ ?_ (fun _ _ _ _ k ⟨v, e, i, j, a, b, c, d, q⟩ => ⟨v, e, i, j, a, b, c, d, k _ _ q⟩)
  · unfold Int.gcd
    congr 1 <;> (split <;> omega)
  · rintro σ H' ⟨rfl, l, s, x4, rfl, l0, s0, hg⟩
    refine ⟨_, rfl, _, _, rfl, rfl, _, rfl, ?_⟩
    refine ite2 (fun c => ?_) (fun c => ?_)
    · have sp : 0 < s := of_decide_eq_true c
      refine ⟨_, rfl, _, rfl, _, _, rfl, rfl, sp, _, rfl, _, rfl, ⟨rfl, _, _, _, rfl, s0, Int.emod_nonneg _ (by omega), ?_⟩, ?_⟩
      · rw [← hg]
        exact Fr.gcd_step' l s sp
      · show (l % s).toNat < s.toNat
        have h1 := Int.emod_lt_of_pos l sp
        have h2 := Int.emod_nonneg l (show s ≠ 0 by omega)
        omega
    · have sz : s = 0 := by
        have : ¬ (0 < s) := fun z => c (decide_eq_true z)
        omega
      refine ⟨_, rfl, ?_⟩
      have el : l = (Int.gcd a b : Int) := by
        rw [← hg, sz]
        simp
        omega
      rw [el]
      exact q

abbrev s_fraction : Stmt := top 6
theorem sc_fraction : FnScope ["top", "bottom", "shared"] ["top", "bottom"] (defScope s_fraction) := ⟨rfl, rfl, rfl, by decide +kernel, rfl, by decide +kernel, by decide +kernel⟩
theorem ok_fraction {P : Program} {w : World} {K : PySem.W.Frag} {mg : Str → Option Value} {base : Heap} {f : Addr} {fd : FuncData} (F : Fun K "fraction" "fraction" s_fraction f fd) (gb : Gb mg) {c : Nat → Addr} (cl : Cl K mg c) (d_is_whole : Def P w K mg base 1 "is_whole" ["thing"] spWhole) (d_shared_part : Def P w K mg base 1 "shared_part" ["one", "other"] spShared) : FnOk P w K mg base (CX1 P w) 2 f fd ["top", "bottom"] (spFrac (c 1)) := by
  refine F.ok1 sc_fraction (fun vs H Q E h => ?_) (fun cdv A outer s H vs Q E hr h => ?_)
  · obtain ⟨t, b, rfl, _⟩ := h
    rfl
  obtain ⟨t, b, rfl, mb, q0, q1⟩ := h
  refine ⟨_, (@pss_cons _ _ _ _ _ (@ps_if _ _ _ _ _ _ _ _ (@PW.pt _ _ _ (@pw_or _ _ _ _ _ _ _ (@pt_not _ _ _ _ (@pt_val _ _ _ (@pe_def _ _ _ _ _ _ _ _ _ _ _ d_is_whole hr (by omega) rfl (@pa_cons _ _ _ _ _ (@pv _ 0 _ _ (by rfl) (by first | exact Or.inl rfl | exact Or.inr (Or.inl rfl) | exact Or.inr (Or.inr rfl)) (by decide) (by decide)) (@pa_nil _) (by rfl)) (by decide) (by rfl) (by rfl)) (by intro _; rfl))) (@pw_or1 _ _ _ _ (@pt_not _ _ _ _ (@pt_val _ _ _ (@pe_def _ _ _ _ _ _ _ _ _ _ _ d_is_whole hr (by omega) rfl (@pa_cons _ _ _ _ _ (@pv _ 1 _ _ (by rfl) (by first | exact Or.inl rfl | exact Or.inr (Or.inl rfl) | exact Or.inr (Or.inr rfl)) (by decide) (by decide)) (@pa_nil _) (by rfl)) (by decide) (by rfl) (by rfl)) (by intro _; rfl)))))) (@pss_one _ _ _ (@ps_raise _ _ _ _ _ _ _ _ _ _ _ _ _ _ _ _ _ _ rfl cl.g_NoFraction cl.x_NoFraction PySem.F.excBase_ValueError rfl PySem.F.excBase_ValueError rfl (@thrown1 _ _ _ _ _ _ _ _ _ _ _ _ _ _ _) (@pa_cons _ _ _ _ _ (@pe_str _ _ _ _) (@pa_nil _) (by rfl)) (by decide) (by rfl) (by rfl))) (@pss_nil _)) (@pss_cons _ _ _ _ _ (@ps_if _ _ _ _ _ _ _ _ (@pt_cmpR _ _ _ _ _ _ _ _ (@op_eq _) (@pv _ 1 _ _ (by rfl) (by first | exact Or.inl rfl | exact Or.inr (Or.inl rfl) | exact Or.inr (Or.inr rfl)) (by decide) (by decide)) (@pe_int _ _ _ _) (@nomark _ _ (by decide) (by decide))) (@pss_one _ _ _ (@ps_raise _ _ _ _ _ _ _ _ _ _ _ _ _ _ _ _ _ _ rfl cl.g_NoFraction cl.x_NoFraction PySem.F.excBase_ValueError rfl PySem.F.excBase_ValueError rfl (@thrown1 _ _ _ _ _ _ _ _ _ _ _ _ _ _ _) (@pa_cons _ _ _ _ _ (@pe_str _ _ _ _) (@pa_nil _) (by rfl)) (by decide) (by rfl) (by rfl))) (@pss_nil _)) (@pss_cons _ _ _ _ _ (@ps_set _ _ 2 _ _ _ _ sc_fraction.nd rfl (Or.inl rfl) (@pe_ifExp _ _ _ _ _ _ _ _ (@pt_cmpR _ _ _ _ _ _ _ _ (@op_gt _) (@pv _ 1 _ _ (by rfl) (by first | exact Or.inl rfl | exact Or.inr (Or.inl rfl) | exact Or.inr (Or.inr rfl)) (by decide) (by decide)) (@pe_int _ _ _ _) (@nomark _ _ (by decide) (by decide))) (@pe_def _ _ _ _ _ _ _ _ _ _ _ d_shared_part hr (by omega) rfl (@pa_cons _ _ _ _ _ (@pv _ 0 _ _ (by rfl) (by first | exact Or.inl rfl | exact Or.inr (Or.inl rfl) | exact Or.inr (Or.inr rfl)) (by decide) (by decide)) (@pa_cons _ _ _ _ _ (@pv _ 1 _ _ (by rfl) (by first | exact Or.inl rfl | exact Or.inr (Or.inl rfl) | exact Or.inr (Or.inr rfl)) (by decide) (by decide)) (@pa_nil _) (by rfl)) (by rfl)) (by decide) (by rfl) (by rfl)) (@pe_un _ _ _ _ _ _ (@un_neg _) (@pe_def _ _ _ _ _ _ _ _ _ _ _ d_shared_part hr (by omega) rfl (@pa_cons _ _ _ _ _ (@pv _ 0 _ _ (by rfl) (by first | exact Or.inl rfl | exact Or.inr (Or.inl rfl) | exact Or.inr (Or.inr rfl)) (by decide) (by decide)) (@pa_cons _ _ _ _ _ (@pv _ 1 _ _ (by rfl) (by first | exact Or.inl rfl | exact Or.inr (Or.inl rfl) | exact Or.inr (Or.inr rfl)) (by decide) (by decide)) (@pa_nil _) (by rfl)) (by rfl)) (by decide) (by rfl) (by rfl)))) (by rfl) (by first | exact .inl rfl | exact .inr rfl | assumption)) (@pss_one _ _ _ (@ps_ret _ _ _ _ (@pe_tup _ _ _ _ _ (@pa_cons _ _ _ _ _ (@pe_op _ _ _ _ _ _ _ _ (@op_fdivM _) (@pv _ 0 _ _ (by rfl) (by first | exact Or.inl rfl | exact Or.inr (Or.inl rfl) | exact Or.inr (Or.inr rfl)) (by decide) (by decide)) (@pv _ 2 _ _ (by rfl) (by first | exact Or.inl rfl | exact Or.inr (Or.inl rfl) | exact Or.inr (Or.inr rfl)) (by decide) (by decide))) (@pa_cons _ _ _ _ _ (@pe_op _ _ _ _ _ _ _ _ (@op_fdivM _) (@pv _ 1 _ _ (by rfl) (by first | exact Or.inl rfl | exact Or.inr (Or.inl rfl) | exact Or.inr (Or.inr rfl)) (by decide) (by decide)) (@pv _ 2 _ _ (by rfl) (by first | exact Or.inl rfl | exact Or.inr (Or.inl rfl) | exact Or.inr (Or.inr rfl)) (by decide) (by decide))) (@pa_nil _) (by rfl)) (by rfl)))))))), ?_⟩
  refine ⟨_, rfl, t, rfl, true, rfl, ?_⟩
  refine ⟨_, rfl, b, rfl, true, rfl, ?_⟩
  refine ⟨_, rfl, rfl, _, rfl, ?_⟩
  refine ite2 (fun c0 => ?_) (fun c0 => ?_)
  · have e : V.int b = V.int 0 := of_decide_eq_true c0
    cases e
    exact ⟨small9 (by show 1 ≤ 1000; decide), q0 rfl⟩
  · have nb : b ≠ 0 := fun z => c0 (decide_eq_true (by rw [z]))
    obtain ⟨f1, f2, f3, f4, f5, f6, f7⟩ := Fr.frac (t := t) nb
    have mg : Mid (Fr.sg t b) := Nat.lt_of_le_of_lt f5 mb
    have fin : ∀ g : Int, g = Fr.sg t b → tRet (tTup (tCons (tOp (rI (fun _ j => j ≠ 0 ∧ Mid j) fun i j => .int (i.fdiv j)) (tVar 0) (tVar 2)) (tCons (tOp (rI (fun _ j => j ≠ 0 ∧ Mid j) fun i j => .int (i.fdiv j)) (tVar 1) (tVar 2)) tNil))) { nx := fun _ H' => Q .non H', rt := Q } [some (.int t), some (.int b), some (.int g)] H := fun g eg => by
      subst eg
      exact ⟨_, rfl, _, rfl, _, _, rfl, rfl, ⟨f1, mg⟩, _, rfl, _, rfl, _, _, rfl, rfl, ⟨f1, mg⟩, small9 (by show 2 ≤ 1000; decide), fun p hp => q1 nb p hp⟩
    refine ⟨_, rfl, _, _, rfl, rfl, _, rfl, ?_⟩
    refine ite2 (fun c => ?_) (fun c => ?_)
    · have bp : 0 < b := of_decide_eq_true c
      refine ⟨_, rfl, _, rfl, t, b, rfl, fin _ ?_⟩
      unfold Fr.sg
      rw [if_pos bp]
    · have bp : ¬ 0 < b := fun z => c (decide_eq_true z)
      refine ⟨_, rfl, _, rfl, t, b, rfl, _, rfl, fin _ ?_⟩
      unfold Fr.sg
      rw [if_neg bp]

abbrev s_without_column : Stmt := top 15
theorem sc_without_column : FnScope ["line", "chosen", "column", "scale", "pivot", "share"] ["line", "chosen", "column", "scale"] (defScope s_without_column) := ⟨rfl, rfl, rfl, by decide +kernel, rfl, by decide +kernel, by decide +kernel⟩
theorem ok_without_column {P : Program} {w : World} {K : PySem.W.Frag} {mg : Str → Option Value} {base : Heap} {f : Addr} {fd : FuncData} (F : Fun K "without_column" "without_column" s_without_column f fd) (gb : Gb mg) {c : Nat → Addr} (cl : Cl K mg c) : FnOk P w K mg base CX0 1 f fd ["line", "chosen", "column", "scale"] spWout := by
  refine F.ok sc_without_column (fun vs H Q E h => ?_) (fun cdv A outer s H vs Q E hr h => ?_)
  · obtain ⟨l, c2, row, ch, j, d, rfl, _⟩ := h
    rfl
  obtain ⟨l, c2, row, ch, j, d, rfl, hl, hc, hlen, l9, hj, M1, M2, d0, dM, q⟩ := h
  have nd0 : (["cell", "other", "pivot", "share", "scale"] : List Str).Nodup := by decide +kernel
  refine ⟨_, (@pss_cons _ _ _ _ _ (@ps_set _ _ 4 _ _ _ _ sc_without_column.nd rfl (Or.inr rfl) (@pe_ix _ _ _ _ _ _ _ (@kix_seq _ K (by rfl)) (@pv _ 1 _ _ (by rfl) (by first | exact Or.inl rfl | exact Or.inr (Or.inl rfl) | exact Or.inr (Or.inr rfl)) (by decide) (by decide)) (@pv _ 2 _ _ (by rfl) (by first | exact Or.inl rfl | exact Or.inr (Or.inl rfl) | exact Or.inr (Or.inr rfl)) (by decide) (by decide)) (fun _ _ => rfl)) (by rfl) (by first | exact .inl rfl | exact .inr rfl | assumption)) (@pss_cons _ _ _ _ _ (@ps_set _ _ 5 _ _ _ _ sc_without_column.nd rfl (Or.inr rfl) (@pe_ix _ _ _ _ _ _ _ (@kix_seq _ K (by rfl)) (@pv _ 0 _ _ (by rfl) (by first | exact Or.inl rfl | exact Or.inr (Or.inl rfl) | exact Or.inr (Or.inr rfl)) (by decide) (by decide)) (@pv _ 2 _ _ (by rfl) (by first | exact Or.inl rfl | exact Or.inr (Or.inl rfl) | exact Or.inr (Or.inr rfl)) (by decide) (by decide)) (fun _ _ => rfl)) (by rfl) (by first | exact .inl rfl | exact .inr rfl | assumption)) (@pss_one _ _ _ (@ps_ret _ _ _ _ (@pe_comp _ ["cell", "other", "pivot", "share", "scale"] [none, none, some 4, some 5, some 3] _ _ _ _ _ _ _ _ _ _ (by exact (show CompOk ["line", "chosen", "column", "scale", "pivot", "share"] (defScope s_without_column) ["cell", "other", "pivot", "share", "scale"] [none, none, some 4, some 5, some 3] _ from ⟨rfl, by decide +kernel, by decide +kernel, by decide +kernel, by decide +kernel, rfl, by decide +kernel⟩)) rfl (@kpi_zipK _ false K _ _ _ _ _ _ _ _ rfl gb.zip (@pa_cons _ _ _ _ _ (@pv _ 0 _ _ (by rfl) (by first | exact Or.inl rfl | exact Or.inr (Or.inl rfl) | exact Or.inr (Or.inr rfl)) (by decide) (by decide)) (@pa_cons _ _ _ _ _ (@pv _ 1 _ _ (by rfl) (by first | exact Or.inl rfl | exact Or.inr (Or.inl rfl) | exact Or.inr (Or.inr rfl)) (by decide) (by decide)) (@pa_nil _) (by rfl)) (by rfl)) (by rfl) (by rfl) (by rfl)) (fun _ _ _ _ => (@kpg_tup _ K _ _ _ _ 2 rfl (@pgs_cons _ _ _ _ _ (@pg_name _ _ 0 _ nd0 rfl (Or.inl rfl) (by first | exact .inl rfl | exact .inr rfl | assumption)) (@pgs_cons _ _ _ _ _ (@pg_name _ _ 1 _ nd0 rfl (Or.inl rfl) (by first | exact .inl rfl | exact .inr rfl | assumption)) (@pgs_nil _) (by rfl)) (by rfl)) (by rfl) (by rfl) (by rfl))) (fun _ _ _ _ => (@pf_nil _)) (fun _ _ _ _ => (@pe_op _ _ _ _ _ _ _ _ (@op_fdivM _) (@pe_op _ _ _ _ _ _ _ _ (@op_sub _) (@pe_op _ _ _ _ _ _ _ _ (@op_mulM _) (@pv _ 0 _ _ (by rfl) (by first | exact Or.inl rfl | exact Or.inr (Or.inl rfl) | exact Or.inr (Or.inr rfl)) (by decide) (by decide)) (@pv _ 2 _ _ (by rfl) (by first | exact Or.inl rfl | exact Or.inr (Or.inl rfl) | exact Or.inr (Or.inr rfl)) (by decide) (by decide))) (@pe_op _ _ _ _ _ _ _ _ (@op_mulM _) (@pv _ 3 _ _ (by rfl) (by first | exact Or.inl rfl | exact Or.inr (Or.inl rfl) | exact Or.inr (Or.inr rfl)) (by decide) (by decide)) (@pv _ 1 _ _ (by rfl) (by first | exact Or.inl rfl | exact Or.inr (Or.inl rfl) | exact Or.inr (Or.inr rfl)) (by decide) (by decide)))) (@pv _ 4 _ _ (by rfl) (by first | exact Or.inl rfl | exact Or.inr (Or.inl rfl) | exact Or.inr (Or.inr rfl)) (by decide) (by decide)))) (by intro _; rfl)))))), ?_⟩
  have e1 : atI (row.map V.int) (j : Int) = some (.int (row.getD j 0)) := at_int (by omega)
  have e2 : atI (ch.map V.int) (j : Int) = some (.int (ch.getD j 0)) := at_int (by omega)
  have gm : ∀ (r : List Int), j < r.length → r.getD j 0 ∈ r := fun r hj => by
    rw [List.getD_eq_getElem?_getD, List.getElem?_eq_getElem hj]
    exact List.getElem_mem _
  have m1 := M1 _ (gm row hj)
  have m2 := M2 _ (gm ch (by omega))
  refine ⟨_, rfl, _, rfl, .inl ⟨c2, _, _, _, rfl, rfl, SqL.of hc, e2, _, rfl, _, rfl, .inl ⟨l, _, _, _, rfl, rfl, SqL.of hl, e1, ?_⟩⟩⟩
  refine ⟨_, rfl, _, rfl, l, c2, _, _, rfl, SqL.of hl, SqL.of hc, fun D hD => ?_⟩
  refine comp_zipL (xs := row.map V.int) (ys := ch.map V.int) (n := row.length) (more := [some (.int (ch.getD j 0)), some (.int (row.getD j 0)), some (.int d)]) (fun i zs H' => Same H H' ∧ zs = (((row.zip ch).take i).map fun z => (z.1 * ch.getD j 0 - row.getD j 0 * z.2).fdiv d).map V.int) (by rw [List.length_map, List.length_map]; omega) ⟨same_new hD _, rfl⟩ (fun i zs H' h _ => ⟨SqL.of (h.1 _ _ hl), SqL.of (h.1 _ _ hc)⟩) ?_ ?_
  · rintro i zs H6 W u v hu hv hi ⟨s6, rfl⟩ hD6 hW6
    rw [List.getElem?_map] at hu hv
    obtain ⟨x, hx, rfl⟩ := Option.map_eq_some_iff.mp hu
    obtain ⟨y, hy, rfl⟩ := Option.map_eq_some_iff.mp hv
    have nW := same_new hW6 (.tup [V.int x, V.int y])
    have hD7 := nW _ _ hD6
    have hz : (row.zip ch)[i]? = some (x, y) := List.getElem?_zip_eq_some.mpr ⟨hx, hy⟩
    refine yes ⟨_, rfl, _, rfl, _, _, rfl, rfl, ⟨M1 x (List.mem_of_getElem? hx), m2⟩, _, rfl, _, rfl, _, _, rfl, rfl, ⟨m1, M2 y (List.mem_of_getElem? hy)⟩, _, _, rfl, rfl, _, rfl, _, _, rfl, rfl, ⟨d0, dM⟩, ?_⟩
    refine cyes hi ⟨_, _, rfl⟩ hD7 (by rw [List.length_map, List.length_map, List.length_take]; exact small1000 (by omega)) ⟨(s6.trans nW).put hD, ?_⟩
    rw [take_snoc hz, List.map_append, List.map_append]
    rfl
  · rintro zs H6 ⟨s6, rfl⟩ hD6
    rw [List.take_of_length_le (by rw [List.length_zip]; omega)] at hD6
    exact q D H6 s6 hD hD6

abbrev s_Search_entering : Stmt := clsAt (top 14) 3
theorem sc_Search_entering : FnScope ["self", "column"] ["self"] (defScope s_Search_entering) := ⟨rfl, rfl, rfl, by decide +kernel, rfl, by decide +kernel, by decide +kernel⟩
theorem ok_Search_entering {P : Program} {w : World} {K : PySem.W.Frag} {mg : Str → Option Value} {base : Heap} {f : Addr} {fd : FuncData} (F : Fun K "entering" "Search.entering" s_Search_entering f fd) (gb : Gb mg) {c : Nat → Addr} (cl : Cl K mg c) : FnOk P w K mg base CX0 1 f fd ["self"] (spEnter (c 2)) := by
  refine F.ok sc_Search_entering (fun vs H Q E h => ?_) (fun cdv A outer s H vs Q E hr h => ?_)
  · obtain ⟨a, tab, cs, bs, g, d, dx, lL, lC, lB, us, rfl, _⟩ := h
    rfl
  obtain ⟨a, tab, cs, bs, g, d, dx, lL, lC, lB, us, rfl, h, hg, g9, q⟩ := h
  refine ⟨_, (@pss_cons _ _ _ _ _ (@ps_for _ _ _ _ _ _ _ _ PassesOwn.never rfl (@pi_range1 _ _ _ _ _ _ rfl gb.range (@pa_cons _ _ _ _ _ (@pe_fld _ _ _ _ _ (@pv _ 0 _ _ (by rfl) (by first | exact Or.inl rfl | exact Or.inr (Or.inl rfl) | exact Or.inr (Or.inr rfl)) (by decide) (by decide)) rfl) (@pa_nil _) (by rfl)) (by rfl)) (@pg_name _ _ 1 _ sc_Search_entering.nd rfl (Or.inl rfl) (by first | exact .inl rfl | exact .inr rfl | assumption)) (@pss_one _ _ _ (@ps_if _ _ _ _ _ _ _ _ (@pt_cmpR _ _ _ _ _ _ _ _ (@op_lt _) (@pe_ix _ _ _ _ _ _ _ (@kix_seq _ K (by rfl)) (@pe_fld _ _ _ _ _ (@pv _ 0 _ _ (by rfl) (by first | exact Or.inl rfl | exact Or.inr (Or.inl rfl) | exact Or.inr (Or.inr rfl)) (by decide) (by decide)) rfl) (@pv _ 1 _ _ (by rfl) (by first | exact Or.inl rfl | exact Or.inr (Or.inl rfl) | exact Or.inr (Or.inr rfl)) (by decide) (by decide)) (fun _ _ => rfl)) (@pe_int _ _ _ _) (@nomark _ _ (by decide) (by decide))) (@pss_one _ _ _ (@ps_ret _ _ _ _ (@pv _ 1 _ _ (by rfl) (by first | exact Or.inl rfl | exact Or.inr (Or.inl rfl) | exact Or.inr (Or.inr rfl)) (by decide) (by decide)))) (@pss_nil _))) (by intro _; rfl)) (@pss_one _ _ _ (@ps_ret _ _ _ _ (@pe_non _ _ _)))), ?_⟩
  refine ⟨_, rfl, a, _, dx, _, nV g, rfl, h.ob, cl.c_Search, cl.no_given, rfl, (g : Int), rfl, by omega, by omega, ?_⟩
  rw [Int.toNat_natCast]
  refine for_range (fun i σ H' => (∃ x1, σ = [some (.ref a), x1]) ∧ H' = H ∧ ∀ k, k < i → 0 ≤ cs.getD k 0) ⟨⟨_, rfl⟩, rfl, fun k hk => absurd hk (Nat.not_lt_zero _)⟩ ?_ ?_
  · rintro i σ _ hi ⟨⟨x1, rfl⟩, rfl, hk⟩
    have e : atI (cs.map V.int) (0 + (i : Int)) = some (.int (cs.getD i 0)) := by rw [Int.zero_add]; exact at_int (by omega)
    refine ⟨_, rfl, a, _, dx, _, .ref lC, rfl, h.ob, cl.c_Search, cl.no_costs, rfl, _, rfl, .inl ⟨lC, _, _, _, rfl, rfl, SqL.of h.co, e, _, _, rfl, rfl, _, rfl, ite2 (fun c1 => ?_) (fun c1 => ?_)⟩⟩
    · refine ⟨_, rfl, ?_⟩
      have z := q _ (.inr ⟨i, rfl, hi, of_decide_eq_true c1, hk⟩)
      show Q (.int (0 + (i : Int))) _
      rw [Int.zero_add]
      exact z
    · refine ⟨⟨_, rfl⟩, rfl, fun k hk' => ?_⟩
      by_cases z : k = i
      · rw [z]
        exact Int.not_lt.mp fun z => c1 (decide_eq_true z)
      · exact hk k (by omega)
  · rintro σ _ ⟨⟨x1, rfl⟩, rfl, hk⟩
    exact q _ (.inl ⟨rfl, hk⟩)

abbrev s_Search_is_narrower : Stmt := clsAt (top 14) 5
theorem sc_Search_is_narrower : FnScope ["self", "number", "other", "column", "bound", "other_bound"] ["self", "number", "other", "column"] (defScope s_Search_is_narrower) := ⟨rfl, rfl, rfl, by decide +kernel, rfl, by decide +kernel, by decide +kernel⟩
theorem ok_Search_is_narrower {P : Program} {w : World} {K : PySem.W.Frag} {mg : Str → Option Value} {base : Heap} {f : Addr} {fd : FuncData} (F : Fun K "is_narrower" "Search.is_narrower" s_Search_is_narrower f fd) (gb : Gb mg) {c : Nat → Addr} (cl : Cl K mg c) : FnOk P w K mg base CX0 1 f fd ["self", "number", "other", "column"] (spNarrow (c 2)) := by
  refine F.ok sc_Search_is_narrower (fun vs H Q E h => ?_) (fun cdv A outer s H vs Q E hr h => ?_)
  · obtain ⟨a, tab, cs, bs, g, d, dx, lL, lC, lB, us, wd, i, k, j, rfl, _⟩ := h
    rfl
  obtain ⟨a, tab, cs, bs, g, d, dx, lL, lC, lB, us, wd, i, k, j, rfl, h, hw, hi, hk, hj, q⟩ := h
  refine ⟨_, (@pss_cons _ _ _ _ _ (@ps_set _ _ 4 _ _ _ _ sc_Search_is_narrower.nd rfl (Or.inl rfl) (@pe_op _ _ _ _ _ _ _ _ (@op_mulM _) (@pe_ix _ _ _ _ _ _ _ (@kix_seq _ K (by rfl)) (@pe_ix _ _ _ _ _ _ _ (@kix_seq _ K (by rfl)) (@pe_fld _ _ _ _ _ (@pv _ 0 _ _ (by rfl) (by first | exact Or.inl rfl | exact Or.inr (Or.inl rfl) | exact Or.inr (Or.inr rfl)) (by decide) (by decide)) rfl) (@pv _ 1 _ _ (by rfl) (by first | exact Or.inl rfl | exact Or.inr (Or.inl rfl) | exact Or.inr (Or.inr rfl)) (by decide) (by decide)) (fun _ _ => rfl)) (@pe_un _ _ _ _ _ _ (@un_neg _) (@pe_int _ _ _ _)) (fun _ _ => rfl)) (@pe_ix _ _ _ _ _ _ _ (@kix_seq _ K (by rfl)) (@pe_ix _ _ _ _ _ _ _ (@kix_seq _ K (by rfl)) (@pe_fld _ _ _ _ _ (@pv _ 0 _ _ (by rfl) (by first | exact Or.inl rfl | exact Or.inr (Or.inl rfl) | exact Or.inr (Or.inr rfl)) (by decide) (by decide)) rfl) (@pv _ 2 _ _ (by rfl) (by first | exact Or.inl rfl | exact Or.inr (Or.inl rfl) | exact Or.inr (Or.inr rfl)) (by decide) (by decide)) (fun _ _ => rfl)) (@pv _ 3 _ _ (by rfl) (by first | exact Or.inl rfl | exact Or.inr (Or.inl rfl) | exact Or.inr (Or.inr rfl)) (by decide) (by decide)) (fun _ _ => rfl))) (by rfl) (by first | exact .inl rfl | exact .inr rfl | assumption)) (@pss_cons _ _ _ _ _ (@ps_set _ _ 5 _ _ _ _ sc_Search_is_narrower.nd rfl (Or.inl rfl) (@pe_op _ _ _ _ _ _ _ _ (@op_mulM _) (@pe_ix _ _ _ _ _ _ _ (@kix_seq _ K (by rfl)) (@pe_ix _ _ _ _ _ _ _ (@kix_seq _ K (by rfl)) (@pe_fld _ _ _ _ _ (@pv _ 0 _ _ (by rfl) (by first | exact Or.inl rfl | exact Or.inr (Or.inl rfl) | exact Or.inr (Or.inr rfl)) (by decide) (by decide)) rfl) (@pv _ 2 _ _ (by rfl) (by first | exact Or.inl rfl | exact Or.inr (Or.inl rfl) | exact Or.inr (Or.inr rfl)) (by decide) (by decide)) (fun _ _ => rfl)) (@pe_un _ _ _ _ _ _ (@un_neg _) (@pe_int _ _ _ _)) (fun _ _ => rfl)) (@pe_ix _ _ _ _ _ _ _ (@kix_seq _ K (by rfl)) (@pe_ix _ _ _ _ _ _ _ (@kix_seq _ K (by rfl)) (@pe_fld _ _ _ _ _ (@pv _ 0 _ _ (by rfl) (by first | exact Or.inl rfl | exact Or.inr (Or.inl rfl) | exact Or.inr (Or.inr rfl)) (by decide) (by decide)) rfl) (@pv _ 1 _ _ (by rfl) (by first | exact Or.inl rfl | exact Or.inr (Or.inl rfl) | exact Or.inr (Or.inr rfl)) (by decide) (by decide)) (fun _ _ => rfl)) (@pv _ 3 _ _ (by rfl) (by first | exact Or.inl rfl | exact Or.inr (Or.inl rfl) | exact Or.inr (Or.inr rfl)) (by decide) (by decide)) (fun _ _ => rfl))) (by rfl) (by first | exact .inl rfl | exact .inr rfl | assumption)) (@pss_cons _ _ _ _ _ (@ps_if _ _ _ _ _ _ _ _ (@pt_cmpR _ _ _ _ _ _ _ _ (@op_eq _) (@pv _ 4 _ _ (by rfl) (by first | exact Or.inl rfl | exact Or.inr (Or.inl rfl) | exact Or.inr (Or.inr rfl)) (by decide) (by decide)) (@pv _ 5 _ _ (by rfl) (by first | exact Or.inl rfl | exact Or.inr (Or.inl rfl) | exact Or.inr (Or.inr rfl)) (by decide) (by decide)) (@nomark _ _ (by decide) (by decide))) (@pss_one _ _ _ (@ps_ret _ _ _ _ (@pe_cmpR _ _ _ _ _ _ _ _ (@op_lt _) (@pe_ix _ _ _ _ _ _ _ (@kix_seq _ K (by rfl)) (@pe_fld _ _ _ _ _ (@pv _ 0 _ _ (by rfl) (by first | exact Or.inl rfl | exact Or.inr (Or.inl rfl) | exact Or.inr (Or.inr rfl)) (by decide) (by decide)) rfl) (@pv _ 1 _ _ (by rfl) (by first | exact Or.inl rfl | exact Or.inr (Or.inl rfl) | exact Or.inr (Or.inr rfl)) (by decide) (by decide)) (fun _ _ => rfl)) (@pe_ix _ _ _ _ _ _ _ (@kix_seq _ K (by rfl)) (@pe_fld _ _ _ _ _ (@pv _ 0 _ _ (by rfl) (by first | exact Or.inl rfl | exact Or.inr (Or.inl rfl) | exact Or.inr (Or.inr rfl)) (by decide) (by decide)) rfl) (@pv _ 2 _ _ (by rfl) (by first | exact Or.inl rfl | exact Or.inr (Or.inl rfl) | exact Or.inr (Or.inr rfl)) (by decide) (by decide)) (fun _ _ => rfl)) (@nomark _ _ (by decide) (by decide))))) (@pss_nil _)) (@pss_one _ _ _ (@ps_ret _ _ _ _ (@pe_cmpR _ _ _ _ _ _ _ _ (@op_lt _) (@pv _ 4 _ _ (by rfl) (by first | exact Or.inl rfl | exact Or.inr (Or.inl rfl) | exact Or.inr (Or.inr rfl)) (by decide) (by decide)) (@pv _ 5 _ _ (by rfl) (by first | exact Or.inl rfl | exact Or.inr (Or.inl rfl) | exact Or.inr (Or.inr rfl)) (by decide) (by decide)) (@nomark _ _ (by decide) (by decide)))))))), ?_⟩
  obtain ⟨p1, a1, hp1⟩ := h.line hi
  obtain ⟨p2, a2, hp2⟩ := h.line hk
  obtain ⟨l1, M1⟩ := hw.at hi
  obtain ⟨l2, M2⟩ := hw.at hk
  have e1 : atI ((tab.getD i []).map V.int) (j : Int) = some (.int (enV tab i j)) := at_int (by omega)
  have e2 : atI ((tab.getD k []).map V.int) (j : Int) = some (.int (enV tab k j)) := at_int (by omega)
  have hbl := hw.len
  unfold nar at q
  refine ⟨_, rfl, a, _, dx, _, .ref lL, rfl, h.ob, cl.c_Search, cl.no_lines, rfl, _, rfl, .inl ⟨lL, _, _, _, rfl, rfl, SqL.of h.li, a1, _, rfl, .inl ⟨p1, _, _, _, rfl, rfl, SqL.of hp1, at_end l1 (by omega), _, rfl, a, _, dx, _, .ref lL, rfl, h.ob, cl.c_Search, cl.no_lines, rfl, _, rfl, .inl ⟨lL, _, _, _, rfl, rfl, SqL.of h.li, a2, _, rfl, .inl ⟨p2, _, _, _, rfl, rfl, SqL.of hp2, e2, _, _, rfl, rfl, ⟨M1 _ (by omega), M2 _ (by omega)⟩, ?_⟩⟩⟩⟩⟩
  refine ⟨_, rfl, a, _, dx, _, .ref lL, rfl, h.ob, cl.c_Search, cl.no_lines, rfl, _, rfl, .inl ⟨lL, _, _, _, rfl, rfl, SqL.of h.li, a2, _, rfl, .inl ⟨p2, _, _, _, rfl, rfl, SqL.of hp2, at_end l2 (by omega), _, rfl, a, _, dx, _, .ref lL, rfl, h.ob, cl.c_Search, cl.no_lines, rfl, _, rfl, .inl ⟨lL, _, _, _, rfl, rfl, SqL.of h.li, a1, _, rfl, .inl ⟨p1, _, _, _, rfl, rfl, SqL.of hp1, e1, _, _, rfl, rfl, ⟨M2 _ (by omega), M1 _ (by omega)⟩, ?_⟩⟩⟩⟩⟩
  refine ⟨_, rfl, _, rfl, rfl, _, rfl, ite2 (fun c1 => ?_) (fun c1 => ?_)⟩
  · have c2 : enV tab i (wd - 1) * enV tab k j = enV tab k (wd - 1) * enV tab i j := V.int.inj (of_decide_eq_true c1)
    have b1 : atI (bs.map nV) (i : Int) = some (nV (bs.getD i 0)) := at_nV (by omega)
    have b2 : atI (bs.map nV) (k : Int) = some (nV (bs.getD k 0)) := at_nV (by omega)
    refine ⟨_, rfl, a, _, dx, _, .ref lB, rfl, h.ob, cl.c_Search, cl.no_basis, rfl, _, rfl, .inl ⟨lB, _, _, _, rfl, rfl, SqL.of h.ba, b1, _, rfl, a, _, dx, _, .ref lB, rfl, h.ob, cl.c_Search, cl.no_basis, rfl, _, rfl, .inl ⟨lB, _, _, _, rfl, rfl, SqL.of h.ba, b2, _, _, rfl, rfl, ?_⟩⟩⟩
    rw [decide_eq_false (by omega), decide_eq_true c2] at q
    have e : decide (((bs.getD i 0 : Nat) : Int) < ((bs.getD k 0 : Nat) : Int)) = (false || (true && decide (bs.getD i 0 < bs.getD k 0))) := by
      rw [Bool.true_and, Bool.false_or]
      exact decide_eq_decide.mpr Int.ofNat_lt
    show Q (.bl (decide (((bs.getD i 0 : Nat) : Int) < ((bs.getD k 0 : Nat) : Int)))) H
    rw [e]
    exact q
  · have c2 : ¬ (enV tab i (wd - 1) * enV tab k j = enV tab k (wd - 1) * enV tab i j) := fun z => c1 (decide_eq_true (congrArg V.int z))
    refine ⟨_, rfl, _, rfl, _, _, rfl, rfl, ?_⟩
    rw [decide_eq_false c2, Bool.false_and, Bool.or_false] at q
    exact q

abbrev s_Search_leaving : Stmt := clsAt (top 14) 4
theorem sc_Search_leaving : FnScope ["self", "column", "least", "number"] ["self", "column"] (defScope s_Search_leaving) := ⟨rfl, rfl, rfl, by decide +kernel, rfl, by decide +kernel, by decide +kernel⟩
theorem ok_Search_leaving {P : Program} {w : World} {K : PySem.W.Frag} {mg : Str → Option Value} {base : Heap} {f : Addr} {fd : FuncData} (F : Fun K "leaving" "Search.leaving" s_Search_leaving f fd) (gb : Gb mg) {c : Nat → Addr} (cl : Cl K mg c) (d_Search_is_narrower : DefM P w K mg base 1 (c 2) "is_narrower" ["self", "number", "other", "column"] (spNarrow (c 2))) : FnOk P w K mg base CX0 2 f fd ["self", "column"] (spLeave (c 2)) := by
  refine F.ok sc_Search_leaving (fun vs H Q E h => ?_) (fun cdv A outer s H vs Q E hr h => ?_)
  · obtain ⟨a, tab, cs, bs, g, d, dx, lL, lC, lB, us, wd, j, rfl, _⟩ := h
    rfl
  obtain ⟨a, tab, cs, bs, g, d, dx, lL, lC, lB, us, wd, j, rfl, h, hw, hj, hex, q⟩ := h
  refine ⟨_, (@pss_cons _ _ _ _ _ (@ps_set _ _ 2 _ _ _ _ sc_Search_leaving.nd rfl (Or.inl rfl) (@pe_non _ _ _) (by rfl) (by first | exact .inl rfl | exact .inr rfl | assumption)) (@pss_cons _ _ _ _ _ (@ps_for _ _ _ _ _ _ _ _ PassesOwn.never rfl (@pi_range1 _ _ _ _ _ _ rfl gb.range (@pa_cons _ _ _ _ _ (@pe_callB _ _ _ _ _ _ _ _ _ (@kcall_len _ K (by rfl)) rfl gb.len bt_len (@pa_cons _ _ _ _ _ (@pe_fld _ _ _ _ _ (@pv _ 0 _ _ (by rfl) (by first | exact Or.inl rfl | exact Or.inr (Or.inl rfl) | exact Or.inr (Or.inr rfl)) (by decide) (by decide)) rfl) (@pa_nil _) (by rfl)) (by decide) (by decide) (by rfl) (by rfl)) (@pa_nil _) (by rfl)) (by rfl)) (@pg_name _ _ 3 _ sc_Search_leaving.nd rfl (Or.inl rfl) (by first | exact .inl rfl | exact .inr rfl | assumption)) (@pss_one _ _ _ (@ps_if _ _ _ _ _ _ _ _ (@PW.pt _ _ _ (@pw_and _ _ _ _ _ _ _ (@pt_cmpR _ _ _ _ _ _ _ _ (@op_gt _) (@pe_ix _ _ _ _ _ _ _ (@kix_seq _ K (by rfl)) (@pe_ix _ _ _ _ _ _ _ (@kix_seq _ K (by rfl)) (@pe_fld _ _ _ _ _ (@pv _ 0 _ _ (by rfl) (by first | exact Or.inl rfl | exact Or.inr (Or.inl rfl) | exact Or.inr (Or.inr rfl)) (by decide) (by decide)) rfl) (@pv _ 3 _ _ (by rfl) (by first | exact Or.inl rfl | exact Or.inr (Or.inl rfl) | exact Or.inr (Or.inr rfl)) (by decide) (by decide)) (fun _ _ => rfl)) (@pv _ 1 _ _ (by rfl) (by first | exact Or.inl rfl | exact Or.inr (Or.inl rfl) | exact Or.inr (Or.inr rfl)) (by decide) (by decide)) (fun _ _ => rfl)) (@pe_int _ _ _ _) (@nomark _ _ (by decide) (by decide))) (@pw_and1 _ _ _ _ (@PW.pt _ _ _ (@pw_or _ _ _ _ _ _ _ (@pt_cmpR _ _ _ _ _ _ _ _ (@op_isN _) (@pv _ 2 _ _ (by rfl) (by first | exact Or.inl rfl | exact Or.inr (Or.inl rfl) | exact Or.inr (Or.inr rfl)) (by decide) (by decide)) (@pe_non _ _ _) (@nomark _ _ (by decide) (by decide))) (@pw_or1 _ _ _ _ (@pt_val _ _ _ (pe_methM d_Search_is_narrower cl.c_Search hr (by omega) (@pv _ 0 _ _ (by rfl) (by first | exact Or.inl rfl | exact Or.inr (Or.inl rfl) | exact Or.inr (Or.inr rfl)) (by decide) (by decide)) (@pa_cons _ _ _ _ _ (@pv _ 3 _ _ (by rfl) (by first | exact Or.inl rfl | exact Or.inr (Or.inl rfl) | exact Or.inr (Or.inr rfl)) (by decide) (by decide)) (@pa_cons _ _ _ _ _ (@pv _ 2 _ _ (by rfl) (by first | exact Or.inl rfl | exact Or.inr (Or.inl rfl) | exact Or.inr (Or.inr rfl)) (by decide) (by decide)) (@pa_cons _ _ _ _ _ (@pv _ 1 _ _ (by rfl) (by first | exact Or.inl rfl | exact Or.inr (Or.inl rfl) | exact Or.inr (Or.inr rfl)) (by decide) (by decide)) (@pa_nil _) (by rfl)) (by rfl)) (by rfl))) (by intro _; rfl)))))))) (@pss_one _ _ _ (@ps_set _ _ 2 _ _ _ _ sc_Search_leaving.nd rfl (Or.inl rfl) (@pv _ 3 _ _ (by rfl) (by first | exact Or.inl rfl | exact Or.inr (Or.inl rfl) | exact Or.inr (Or.inr rfl)) (by decide) (by decide)) (by rfl) (by first | exact .inl rfl | exact .inr rfl | assumption))) (@pss_nil _))) (by intro _; rfl)) (@pss_one _ _ _ (@ps_ret _ _ _ _ (@pv _ 2 _ _ (by rfl) (by first | exact Or.inl rfl | exact Or.inr (Or.inl rfl) | exact Or.inr (Or.inr rfl)) (by decide) (by decide)))))), ?_⟩
  have hul := Paired.length h.ro
  have few := hw.few
  have self : ∀ i, Low tab bs wd i i j := fun i => .inr ⟨rfl, Nat.le_refl _⟩
  refine ⟨_, rfl, a, _, dx, _, .ref lL, rfl, h.ob, cl.c_Search, cl.no_lines, rfl, _, _, rfl, .inl ⟨_, SqL.of h.li, rfl⟩, (us.length : Int), rfl, by omega, by omega, ?_⟩
  rw [Int.toNat_natCast, ← hul]
  refine for_range (fun i σ H' => (∃ x3 lv, σ = [some (.ref a), some (nV j), some lv, x3] ∧ ((lv = .non ∧ ∀ k, k < i → ¬ 0 < enV tab k j) ∨ ∃ r, lv = nV r ∧ r < i ∧ 0 < enV tab r j ∧ ∀ k, k < i → 0 < enV tab k j → Low tab bs wd r k j)) ∧ H' = H) ⟨⟨_, _, rfl, .inl ⟨rfl, fun k hk => absurd hk (Nat.not_lt_zero _)⟩⟩, rfl⟩ ?_ ?_
  · rintro i σ _ hi ⟨⟨x3, lv, rfl, hlv⟩, rfl⟩
    obtain ⟨p1, a1, hp1⟩ := h.line hi
    obtain ⟨l1, M1⟩ := hw.at hi
    have a1' : atI us (0 + (i : Int)) = some (.ref p1) := by rw [Int.zero_add]; exact a1
    have e1 : atI ((tab.getD i []).map V.int) (j : Int) = some (.int (enV tab i j)) := at_int (by omega)
    have ei : V.int (0 + (i : Int)) = nV i := by rw [Int.zero_add]
    refine ⟨_, rfl, a, _, dx, _, .ref lL, rfl, h.ob, cl.c_Search, cl.no_lines, rfl, _, rfl, .inl ⟨lL, _, _, _, rfl, rfl, SqL.of h.li, a1', _, rfl, .inl ⟨p1, _, _, _, rfl, rfl, SqL.of hp1, e1, _, _, rfl, rfl, _, rfl, ?_⟩⟩⟩
    by_cases c1 : 0 < enV tab i j
    · rw [decide_eq_true c1]
      refine iteT ?_
      rcases hlv with ⟨rfl, hn⟩ | ⟨r, rfl, hr2, hp, hlo⟩
      · refine ⟨_, rfl, rfl, _, rfl, ?_⟩
        rw [decide_eq_true rfl]
        refine iteT (iteT ⟨_, rfl, ⟨_, _, rfl, .inr ⟨i, ei, by omega, c1, fun k hk hp => ?_⟩⟩, rfl⟩)
        by_cases z : k = i
        · rw [z]
          exact self i
        · exact absurd hp (hn k (by omega))
      · refine ⟨_, rfl, rfl, _, rfl, ?_⟩
        rw [decide_eq_false (show ¬ nV r = V.non from fun z => nomatch z)]
        refine iteF ⟨_, rfl, a, dx, _, rfl, h.ob, rfl, _, rfl, _, rfl, _, rfl, a, tab, cs, bs, g, d, dx, lL, lC, lB, us, wd, i, r, j, by (show [V.ref a, V.int (0 + (i : Int)), nV r, nV j] = _; rw [ei]), h, hw, hi, by omega, hj, _, rfl, ?_⟩
        cases hb : nar tab bs wd i r j with
        | true =>
          refine iteT ⟨_, rfl, ⟨_, _, rfl, .inr ⟨i, ei, by omega, c1, fun k hk hp2 => ?_⟩⟩, rfl⟩
          by_cases z : k = i
          · rw [z]
            exact self i
          · exact low_trans c1 hp hp2 (low_of hb) (hlo k (by omega) hp2)
        | false =>
          refine iteF ⟨⟨_, _, rfl, .inr ⟨r, rfl, by omega, hp, fun k hk hp2 => ?_⟩⟩, rfl⟩
          by_cases z : k = i
          · rw [z]
            exact low_not hb
          · exact hlo k (by omega) hp2
    · rw [decide_eq_false c1]
      refine iteF (iteF ⟨⟨_, _, rfl, ?_⟩, rfl⟩)
      rcases hlv with ⟨rfl, hn⟩ | ⟨r, rfl, hr2, hp, hlo⟩
      · refine .inl ⟨rfl, fun k hk => ?_⟩
        by_cases z : k = i
        · rw [z]
          exact c1
        · exact hn k (by omega)
      · refine .inr ⟨r, rfl, by omega, hp, fun k hk hp2 => ?_⟩
        by_cases z : k = i
        · rw [z] at hp2
          exact absurd hp2 c1
        · exact hlo k (by omega) hp2
  · rintro σ _ ⟨⟨x3, lv, rfl, hlv⟩, rfl⟩
    rcases hlv with ⟨rfl, hn⟩ | ⟨r, rfl, hr2, hp, hlo⟩
    · obtain ⟨i, hi, hp⟩ := hex
      exact absurd hp (hn i hi)
    · exact ⟨_, rfl, q r hr2 hp hlo⟩

abbrev s_Search_take : Stmt := clsAt (top 14) 6
theorem sc_Search_take : FnScope ["self", "number", "column", "chosen", "others", "other", "line"] ["self", "number", "column"] (defScope s_Search_take) := ⟨rfl, rfl, rfl, by decide +kernel, rfl, by decide +kernel, by decide +kernel⟩
theorem ok_Search_take {P : Program} {w : World} {K : PySem.W.Frag} {mg : Str → Option Value} {base : Heap} {f : Addr} {fd : FuncData} (F : Fun K "take" "Search.take" s_Search_take f fd) (gb : Gb mg) {c : Nat → Addr} (cl : Cl K mg c) (d_without_column : Def P w K mg base 1 "without_column" ["line", "chosen", "column", "scale"] spWout) : FnOk P w K mg base CX0 2 f fd ["self", "number", "column"] (spTake (c 2)) := by
  refine F.ok sc_Search_take (fun vs H Q E h => ?_) (fun cdv A outer s H vs Q E hr h => ?_)
  · obtain ⟨a, tab, cs, bs, g, d, dx, lL, lC, lB, us, wd, r, j, rfl, _⟩ := h
    rfl
  obtain ⟨a, tab, cs, bs, g, d, dx, lL, lC, lB, us, wd, r, j, rfl, h, hw, hr2, hj, hcl, w9, hcm, d0, dM, q⟩ := h
  refine ⟨_, (@pss_cons _ _ _ _ _ (@ps_set _ _ 3 _ _ _ _ sc_Search_take.nd rfl (Or.inl rfl) (@pe_ix _ _ _ _ _ _ _ (@kix_seq _ K (by rfl)) (@pe_fld _ _ _ _ _ (@pv _ 0 _ _ (by rfl) (by first | exact Or.inl rfl | exact Or.inr (Or.inl rfl) | exact Or.inr (Or.inr rfl)) (by decide) (by decide)) rfl) (@pv _ 1 _ _ (by rfl) (by first | exact Or.inl rfl | exact Or.inr (Or.inl rfl) | exact Or.inr (Or.inr rfl)) (by decide) (by decide)) (fun _ _ => rfl)) (by rfl) (by first | exact .inl rfl | exact .inr rfl | assumption)) (@pss_cons _ _ _ _ _ (@ps_fld _ _ _ _ _ _ _ _ (@pv _ 0 _ _ (by rfl) (by first | exact Or.inl rfl | exact Or.inr (Or.inl rfl) | exact Or.inr (Or.inr rfl)) (by decide) (by decide)) (@pe_def _ _ _ _ _ _ _ _ _ _ _ d_without_column hr (by omega) rfl (@pa_cons _ _ _ _ _ (@pe_fld _ _ _ _ _ (@pv _ 0 _ _ (by rfl) (by first | exact Or.inl rfl | exact Or.inr (Or.inl rfl) | exact Or.inr (Or.inr rfl)) (by decide) (by decide)) rfl) (@pa_cons _ _ _ _ _ (@pv _ 3 _ _ (by rfl) (by first | exact Or.inl rfl | exact Or.inr (Or.inl rfl) | exact Or.inr (Or.inr rfl)) (by decide) (by decide)) (@pa_cons _ _ _ _ _ (@pv _ 2 _ _ (by rfl) (by first | exact Or.inl rfl | exact Or.inr (Or.inl rfl) | exact Or.inr (Or.inr rfl)) (by decide) (by decide)) (@pa_cons _ _ _ _ _ (@pe_fld _ _ _ _ _ (@pv _ 0 _ _ (by rfl) (by first | exact Or.inl rfl | exact Or.inr (Or.inl rfl) | exact Or.inr (Or.inr rfl)) (by decide) (by decide)) rfl) (@pa_nil _) (by rfl)) (by rfl)) (by rfl)) (by rfl)) (by decide) (by rfl) (by rfl)) rfl) (@pss_cons _ _ _ _ _ (@ps_set _ _ 4 _ _ _ _ sc_Search_take.nd rfl (Or.inl rfl) (@pe_lst _ _ _ _ (@pa_nil _)) (by rfl) (by first | exact .inl rfl | exact .inr rfl | assumption)) (@pss_cons _ _ _ _ _ (@ps_for _ _ _ _ _ _ _ _ PassesOwn.never rfl (@kpi_enum _ K _ _ _ _ _ _ _ rfl gb.enumerate (@pa_cons _ _ _ _ _ (@pe_fld _ _ _ _ _ (@pv _ 0 _ _ (by rfl) (by first | exact Or.inl rfl | exact Or.inr (Or.inl rfl) | exact Or.inr (Or.inr rfl)) (by decide) (by decide)) rfl) (@pa_nil _) (by rfl)) (by rfl) (by rfl)) (@kpg_tup _ K _ _ _ _ 2 rfl (@pgs_cons _ _ _ _ _ (@pg_name _ _ 5 _ sc_Search_take.nd rfl (Or.inl rfl) (by first | exact .inl rfl | exact .inr rfl | assumption)) (@pgs_cons _ _ _ _ _ (@pg_name _ _ 6 _ sc_Search_take.nd rfl (Or.inl rfl) (by first | exact .inl rfl | exact .inr rfl | assumption)) (@pgs_nil _) (by rfl)) (by rfl)) (by rfl) (by rfl) (by rfl)) (@pss_one _ _ _ (@ps_expr _ _ _ _ (@kpe_bm _ K _ _ _ _ _ _ _ _ _ _ _ PySem.F.plainAttrs_list PySem.F.slot_list_append PySem.F.type_list_append (@mt_append _) (@pv _ 4 _ _ (by rfl) (by first | exact Or.inl rfl | exact Or.inr (Or.inl rfl) | exact Or.inr (Or.inr rfl)) (by decide) (by decide)) (@pa_cons _ _ _ _ _ (@pe_ifExp _ _ _ _ _ _ _ _ (@pt_cmpR _ _ _ _ _ _ _ _ (@op_eq _) (@pv _ 5 _ _ (by rfl) (by first | exact Or.inl rfl | exact Or.inr (Or.inl rfl) | exact Or.inr (Or.inr rfl)) (by decide) (by decide)) (@pv _ 1 _ _ (by rfl) (by first | exact Or.inl rfl | exact Or.inr (Or.inl rfl) | exact Or.inr (Or.inr rfl)) (by decide) (by decide)) (@nomark _ _ (by decide) (by decide))) (@pv _ 6 _ _ (by rfl) (by first | exact Or.inl rfl | exact Or.inr (Or.inl rfl) | exact Or.inr (Or.inr rfl)) (by decide) (by decide)) (@pe_def _ _ _ _ _ _ _ _ _ _ _ d_without_column hr (by omega) rfl (@pa_cons _ _ _ _ _ (@pv _ 6 _ _ (by rfl) (by first | exact Or.inl rfl | exact Or.inr (Or.inl rfl) | exact Or.inr (Or.inr rfl)) (by decide) (by decide)) (@pa_cons _ _ _ _ _ (@pv _ 3 _ _ (by rfl) (by first | exact Or.inl rfl | exact Or.inr (Or.inl rfl) | exact Or.inr (Or.inr rfl)) (by decide) (by decide)) (@pa_cons _ _ _ _ _ (@pv _ 2 _ _ (by rfl) (by first | exact Or.inl rfl | exact Or.inr (Or.inl rfl) | exact Or.inr (Or.inr rfl)) (by decide) (by decide)) (@pa_cons _ _ _ _ _ (@pe_fld _ _ _ _ _ (@pv _ 0 _ _ (by rfl) (by first | exact Or.inl rfl | exact Or.inr (Or.inl rfl) | exact Or.inr (Or.inr rfl)) (by decide) (by decide)) rfl) (@pa_nil _) (by rfl)) (by rfl)) (by rfl)) (by rfl)) (by decide) (by rfl) (by rfl))) (@pa_nil _) (by rfl)) (by rfl) (by rfl) (by rfl) (by rfl) (by rfl) (by rfl)) (by rfl))) (by intro _; rfl)) (@pss_cons _ _ _ _ _ (@ps_fld _ _ _ _ _ _ _ _ (@pv _ 0 _ _ (by rfl) (by first | exact Or.inl rfl | exact Or.inr (Or.inl rfl) | exact Or.inr (Or.inr rfl)) (by decide) (by decide)) (@pv _ 4 _ _ (by rfl) (by first | exact Or.inl rfl | exact Or.inr (Or.inl rfl) | exact Or.inr (Or.inr rfl)) (by decide) (by decide)) rfl) (@pss_cons _ _ _ _ _ (@ps_asg _ _ _ _ _ _ (@pv _ 2 _ _ (by rfl) (by first | exact Or.inl rfl | exact Or.inr (Or.inl rfl) | exact Or.inr (Or.inr rfl)) (by decide) (by decide)) (@pg_sub _ _ _ _ _ _ _ (@pe_fld _ _ _ _ _ (@pv _ 0 _ _ (by rfl) (by first | exact Or.inl rfl | exact Or.inr (Or.inl rfl) | exact Or.inr (Or.inr rfl)) (by decide) (by decide)) rfl) (@pv _ 1 _ _ (by rfl) (by first | exact Or.inl rfl | exact Or.inr (Or.inl rfl) | exact Or.inr (Or.inr rfl)) (by decide) (by decide)) (@set_list _) (by intro _; rfl)) (by rfl) (by rfl) (by rfl)) (@pss_one _ _ _ (@ps_fld _ _ _ _ _ _ _ _ (@pv _ 0 _ _ (by rfl) (by first | exact Or.inl rfl | exact Or.inr (Or.inl rfl) | exact Or.inr (Or.inr rfl)) (by decide) (by decide)) (@pe_ix _ _ _ _ _ _ _ (@kix_seq _ K (by rfl)) (@pv _ 3 _ _ (by rfl) (by first | exact Or.inl rfl | exact Or.inr (Or.inl rfl) | exact Or.inr (Or.inr rfl)) (by decide) (by decide)) (@pv _ 2 _ _ (by rfl) (by first | exact Or.inl rfl | exact Or.inr (Or.inl rfl) | exact Or.inr (Or.inr rfl)) (by decide) (by decide)) (fun _ _ => rfl)) rfl)))))))), ?_⟩
  obtain ⟨pr, ar, hpr⟩ := h.line hr2
  obtain ⟨lr, Mr⟩ := hw.at hr2
  have rm : ∀ i, i < tab.length → ∀ x ∈ tab.getD i [], Mid x := fun i hi => (hw.row _ (by rw [List.getD_eq_getElem?_getD, List.getElem?_eq_getElem hi]; exact List.getElem_mem _)).2
  have hul := Paired.length h.ro
  have few := hw.few
  refine ⟨_, rfl, a, _, dx, _, .ref lL, rfl, h.ob, cl.c_Search, cl.no_lines, rfl, _, rfl, .inl ⟨lL, _, _, _, rfl, rfl, SqL.of h.li, ar, ?_⟩⟩
  refine ⟨_, rfl, a, _, dx, _, .ref lC, rfl, h.ob, cl.c_Search, cl.no_costs, rfl, _, rfl, _, rfl, _, rfl, a, _, dx, _, .int d, rfl, h.ob, cl.c_Search, cl.no_scale, rfl, lC, pr, cs, tab.getD r [], j, d, rfl, h.co, hpr, by omega, by omega, by omega, hcm, rm r hr2, d0, dM, fun pc H1 s1 fpc hpc => ?_⟩
  refine ⟨_, rfl, a, _, dx, _, rfl, s1 _ _ h.ob, cl.c_Search, cl.no_costs, (by show 5 < 1000; decide), ?_⟩
  have ha1 := s1 _ _ h.ob
  rw [put_costs]
  have lst2 : ∀ x xs, H1 x = some (.lst xs) → upd H1 a (.ins (c 2) dx (flds g lL pc lB d)) x = some (.lst xs) := fun x xs hx => by rw [upd_ne (ne_of hx ha1 (by intro z; cases z))]; exact hx
  have ob2 := @upd_same H1 a (.ins (c 2) dx (flds g lL pc lB d))
  have ex2 : Ex a lB H (upd H1 a (.ins (c 2) dx (flds g lL pc lB d))) := fun x o hx na _ => by rw [upd_ne na]; exact s1 _ _ hx
  have pc2 := lst2 _ _ hpc
  have li2 := lst2 _ _ (s1 _ _ h.li)
  have ba2 := lst2 _ _ (s1 _ _ h.ba)
  have pr2 := lst2 _ _ (s1 _ _ hpr)
  have ro2 : Paired (fun row u => ∃ p, u = .ref p ∧ upd H1 a (.ins (c 2) dx (flds g lL pc lB d)) p = some (.lst (row.map V.int))) tab us := Paired.mapP h.ro fun _ _ ⟨p, e, hp⟩ => ⟨p, e, lst2 _ _ (s1 _ _ hp)⟩
  generalize upd H1 a (.ins (c 2) dx (flds g lL pc lB d)) = H2 at *
  refine ⟨small9 (by show 0 ≤ 1000; decide), fun lo hlo => ?_⟩
  have n3 := same_new hlo (.lst [])
  refine ⟨_, rfl, a, _, dx, _, .ref lL, rfl, n3 _ _ ob2, cl.c_Search, cl.no_lines, rfl, lL, _, rfl, SqL.of (n3 _ _ li2), ?_⟩
  have tl : (takeV tab r j d).length = tab.length := by unfold takeV; rw [List.length_map, List.length_range]
  have ta : ∀ i, i < tab.length → (takeV tab r j d)[i]? = some (if i = r then tab.getD r [] else woutV (tab.getD i []) (tab.getD r []) j d) := fun i hi => by
    unfold takeV
    rw [List.getElem?_map, List.getElem?_range hi]
    rfl
  have nlo : lB ≠ lo := fun z => by rw [z, hlo] at ba2; cases ba2
  refine for_enumL (xs := us) (fun i σ H' => (∃ x5 x6, σ = [some (.ref a), some (nV r), some (nV j), some (.ref pr), some (.ref lo), x5, x6]) ∧ Same H2 H' ∧ ∃ ws, H' lo = some (.lst ws) ∧ Paired (fun row u => ∃ p, u = .ref p ∧ H' p = some (.lst (row.map V.int)) ∧ p ≠ lB ∧ p ≠ lo) ((takeV tab r j d).take i) ws) ⟨⟨_, _, rfl⟩, n3, [], upd_same, .nil⟩ (fun i σ H' _ h => SqL.of (h.2.1 _ _ li2)) ?_ ?_
  · rintro i x σ H3 T hx ⟨⟨x5, x6, rfl⟩, s3, ws, hws, hP⟩ hT
    have hi := (List.getElem?_eq_some_iff.mp hx).1
    have hi2 : i < tab.length := by omega
    have hti : tab[i]? = some (tab.getD i []) := by rw [List.getD_eq_getElem?_getD, List.getElem?_eq_getElem hi2]; rfl
    obtain ⟨p, rfl, hp⟩ := Paired.at ro2 _ _ _ hti hx
    have nT := same_new hT (.tup [nV i, .ref p])
    have npB : p ≠ lB := fun z => h.n3 (by rw [← z]; exact List.mem_of_getElem? hx)
    have npo : p ≠ lo := fun z => by rw [z, hlo] at hp; cases hp
    have hpl := Paired.length hP
    rw [List.length_take, tl] at hpl
    have step : ∀ (q5 : Addr) (H5 : Hp), Same (upd H3 T (.tup [nV i, .ref p])) H5 → (∃ row, (takeV tab r j d)[i]? = some row ∧ H5 q5 = some (.lst (row.map V.int))) → q5 ≠ lB → q5 ≠ lo → ∃ ws', (upd H5 lo (.lst (ws ++ [.ref q5]))) lo = some (.lst ws') ∧ Paired (fun row u => ∃ p, u = .ref p ∧ (upd H5 lo (.lst (ws ++ [.ref q5]))) p = some (.lst (row.map V.int)) ∧ p ≠ lB ∧ p ≠ lo) ((takeV tab r j d).take (i + 1)) ws' := fun q5 H5 s5 ⟨row, hrow, hq⟩ nB no => by
      refine ⟨_, upd_same, ?_⟩
      rw [take_snoc hrow]
      exact pr_app (Paired.mapP hP fun _ _ ⟨p', e, hp', b1, b2⟩ => ⟨p', e, by rw [upd_ne b2]; exact s5 _ _ (nT _ _ hp'), b1, b2⟩) (.cons ⟨q5, rfl, by rw [upd_ne no]; exact hq, nB, no⟩ .nil)
    refine ⟨T, _, rfl, SqT.of upd_same, rfl, _, _, rfl, _, _, rfl, rfl, ?_⟩
    refine ⟨_, rfl, .inl ⟨rfl, _, SqL.of (nT _ _ hws)⟩, _, rfl, _, rfl, rfl, _, rfl, ?_⟩
    have wl : ws.length < 1000 := by omega
    by_cases z : i = r
    · refine iteDT (decide_eq_true (by rw [z])) ?_
      refine ⟨_, rfl, lo, _, _, rfl, rfl, nT _ _ hws, small1000 (by omega), ⟨_, _, rfl⟩, (s3.trans nT).put hlo, step p _ (Same.refl _) ⟨_, ta i hi2, ?_⟩ npB npo⟩
      rw [if_pos z, ← z]
      exact nT _ _ (s3 _ _ hp)
    · refine iteDF (decide_eq_false fun y => z (by have := V.int.inj y; omega)) ?_
      obtain ⟨li, Mi⟩ := hw.at hi2
      refine ⟨_, rfl, _, rfl, _, rfl, _, rfl, a, _, dx, _, .int d, rfl, nT _ _ (s3 _ _ ob2), cl.c_Search, cl.no_scale, rfl, p, pr, tab.getD i [], tab.getD r [], j, d, rfl, nT _ _ (s3 _ _ hp), nT _ _ (s3 _ _ pr2), by omega, by omega, by omega, rm i hi2, rm r hr2, d0, dM, fun pn H5 s5 fpn hpn => ?_⟩
      have nb : pn ≠ lB := fun y => by
        have := nT _ _ (s3 _ _ ba2)
        rw [← y, fpn] at this
        cases this
      have no : pn ≠ lo := fun y => by
        have := nT _ _ hws
        rw [← y, fpn] at this
        cases this
      refine ⟨lo, _, _, rfl, rfl, s5 _ _ (nT _ _ hws), small1000 (by omega), ⟨_, _, rfl⟩, ((s3.trans nT).trans s5).put hlo, step pn H5 s5 ⟨_, ta i hi2, ?_⟩ nb no⟩
      rw [if_neg z]
      exact hpn
  · rintro σ H3 ⟨⟨x5, x6, rfl⟩, s3, ws, hws, hP⟩
    rw [List.take_of_length_le (by omega)] at hP
    have ob3 := s3 _ _ ob2
    refine ⟨_, rfl, _, rfl, a, _, dx, _, rfl, ob3, cl.c_Search, cl.no_lines, (by show 5 < 1000; decide), ?_⟩
    rw [put_lines]
    have lst4 : ∀ x xs, H3 x = some (.lst xs) → upd H3 a (.ins (c 2) dx (flds g lo pc lB d)) x = some (.lst xs) := fun x xs hx => by rw [upd_ne (ne_of hx ob3 (by intro z; cases z))]; exact hx
    have ob4 := @upd_same H3 a (.ins (c 2) dx (flds g lo pc lB d))
    have ex4 : Ex a lB H (upd H3 a (.ins (c 2) dx (flds g lo pc lB d))) := fun x o hx na nb => by rw [upd_ne na]; exact s3 _ _ (ex2 x o hx na nb)
    have pc4 := lst4 _ _ (s3 _ _ pc2)
    have ba4 := lst4 _ _ (s3 _ _ ba2)
    have pr4 := lst4 _ _ (s3 _ _ pr2)
    have lo4 := lst4 _ _ hws
    have ro4 : Paired (fun row u => ∃ p, u = .ref p ∧ (upd H3 a (.ins (c 2) dx (flds g lo pc lB d))) p = some (.lst (row.map V.int)) ∧ p ≠ lB) (takeV tab r j d) ws := Paired.mapP hP fun _ _ ⟨p, e, hp, b1, _⟩ => ⟨p, e, lst4 _ _ hp, b1⟩
    generalize upd H3 a (.ins (c 2) dx (flds g lo pc lB d)) = H4 at *
    have hbl := hw.len
    have ix : ixN (bs.map nV).length (r : Int) = some r := by
      unfold ixN
      rw [if_pos (by omega), if_pos (by rw [List.length_map]; omega), Int.toNat_natCast]
    refine ⟨_, rfl, _, rfl, a, _, dx, _, .ref lB, rfl, ob4, cl.c_Search, cl.no_basis, rfl, _, rfl, lB, _, _, r, rfl, rfl, ba4, ix, ?_⟩
    have npB : pr ≠ lB := fun z => by
      have hr3 : r < us.length := by omega
      have e : atI us (r : Int) = us[r]? := by
        unfold atI ixN
        rw [if_pos (by omega), if_pos (by omega), Int.toNat_natCast]
        rfl
      rw [e, z] at ar
      exact h.n3 (List.mem_of_getElem? ar)
    have ncB : pc ≠ lB := fun z => by
      have := h.ba
      rw [← z, fpc] at this
      cases this
    have aB : lB ≠ a := ne_of ba4 ob4 (by intro z; cases z)
    have e5 : atI ((tab.getD r []).map V.int) (j : Int) = some (.int (enV tab r j)) := at_int (by omega)
    refine ⟨_, rfl, _, rfl, .inl ⟨pr, _, _, _, rfl, rfl, SqL.of (by rw [upd_ne npB]; exact pr4), e5, _, rfl, a, _, dx, _, rfl, (by rw [upd_ne (Ne.symm aB)]; exact ob4), cl.c_Search, cl.no_scale, (by show 5 < 1000; decide), ?_⟩⟩
    rw [put_scale]
    have lst6 : ∀ x xs, H4 x = some (.lst xs) → x ≠ lB → upd (upd H4 lB (.lst ((bs.map nV).set r (nV j)))) a (.ins (c 2) dx (flds g lo pc lB (enV tab r j))) x = some (.lst xs) := fun x xs hx nb => by
      rw [upd_ne (ne_of hx ob4 (by intro z; cases z)), upd_ne nb]
      exact hx
    refine q _ lo pc ws (fun x o hx na nb => by rw [upd_ne na, upd_ne nb]; exact ex4 x o hx na nb) ⟨upd_same, lst6 _ _ pc4 ncB, ?_, lst6 _ _ lo4 (Ne.symm nlo), Paired.mapP ro4 fun _ _ ⟨p, e, hp, b⟩ => ⟨p, e, lst6 _ _ hp b⟩, Ne.symm ncB, nlo, fun hm => ?_⟩
    · rw [upd_ne aB, upd_same, List.map_set]
    · obtain ⟨i, hi⟩ := List.mem_iff_getElem?.mp hm
      have hl4 := Paired.length ro4
      have hil := (List.getElem?_eq_some_iff.mp hi).1
      obtain ⟨p, e, _, b⟩ := Paired.at ro4 i _ _ (ta i (by omega)) hi
      cases e
      exact b rfl

abbrev s_Search_is_found : Stmt := clsAt (top 14) 1
theorem sc_Search_is_found : FnScope ["self"] ["self"] (defScope s_Search_is_found) := ⟨rfl, rfl, rfl, by decide +kernel, rfl, by decide +kernel, by decide +kernel⟩
theorem ok_Search_is_found {P : Program} {w : World} {K : PySem.W.Frag} {mg : Str → Option Value} {base : Heap} {f : Addr} {fd : FuncData} (F : Fun K "is_found" "Search.is_found" s_Search_is_found f fd) (gb : Gb mg) {c : Nat → Addr} (cl : Cl K mg c) : FnOk P w K mg base CX0 1 f fd ["self"] (spFound (c 2)) := by
  refine F.ok sc_Search_is_found (fun vs H Q E h => ?_) (fun cdv A outer s H vs Q E hr h => ?_)
  · obtain ⟨a, tab, cs, z, bs, g, d, dx, lL, lC, lB, us, rfl, _⟩ := h
    rfl
  obtain ⟨a, tab, cs, z, bs, g, d, dx, lL, lC, lB, us, rfl, h, q⟩ := h
  refine ⟨_, (@pss_one _ _ _ (@ps_ret _ _ _ _ (@pe_cmpR _ _ _ _ _ _ _ _ (@op_eq _) (@pe_ix _ _ _ _ _ _ _ (@kix_seq _ K (by rfl)) (@pe_fld _ _ _ _ _ (@pv _ 0 _ _ (by rfl) (by first | exact Or.inl rfl | exact Or.inr (Or.inl rfl) | exact Or.inr (Or.inr rfl)) (by decide) (by decide)) rfl) (@pe_un _ _ _ _ _ _ (@un_neg _) (@pe_int _ _ _ _)) (fun _ _ => rfl)) (@pe_int _ _ _ _) (@nomark _ _ (by decide) (by decide))))), ?_⟩
  refine ⟨_, rfl, a, _, dx, _, .ref lC, rfl, h.ob, cl.c_Search, cl.no_costs, rfl, _, rfl, .inl ⟨lC, _, _, _, rfl, rfl, SqL.of h.co, at_last cs z, rfl, q⟩⟩

abbrev s_Search_init : Stmt := clsAt (top 14) 0
theorem sc_Search_init : FnScope ["self", "columns", "height", "number", "own", "due"] ["self", "columns"] (defScope s_Search_init) := ⟨rfl, rfl, rfl, by decide +kernel, rfl, by decide +kernel, by decide +kernel⟩
theorem ok_Search_init {P : Program} {w : World} {K : PySem.W.Frag} {mg : Str → Option Value} {base : Heap} {f : Addr} {fd : FuncData} (F : Fun K "__init__" "Search.__init__" s_Search_init f fd) (gb : Gb mg) {c : Nat → Addr} (cl : Cl K mg c) : FnOk P w K mg base CX0 1 f fd ["self", "columns"] (spInitS (c 2)) := by
  refine F.ok sc_Search_init (fun vs H Q E h => ?_) (fun cdv A outer s H vs Q E hr h => ?_)
  · obtain ⟨a, lc, dx, cols, n, us, rfl, _⟩ := h
    rfl
  obtain ⟨a, lc, dx, cols, n, us, rfl, ha, hlc, ro, G, q⟩ := h
  have nd0 : (["other", "number"] : List Str).Nodup := by decide +kernel
  have nd1 : (["column", "number"] : List Str).Nodup := by decide +kernel
  have nd2 : (["column"] : List Str).Nodup := by decide +kernel
  have nd3 : (["number"] : List Str).Nodup := by decide +kernel
  have nd4 : (["number", "self"] : List Str).Nodup := by decide +kernel
  refine ⟨_, (@pss_cons _ _ _ _ _ (@ps_set _ _ 2 _ _ _ _ sc_Search_init.nd rfl (Or.inl rfl) (@pe_callB _ _ _ _ _ _ _ _ _ (@kcall_len _ K (by rfl)) rfl gb.len bt_len (@pa_cons _ _ _ _ _ (@pe_ix _ _ _ _ _ _ _ (@kix_seq _ K (by rfl)) (@pv _ 1 _ _ (by rfl) (by first | exact Or.inl rfl | exact Or.inr (Or.inl rfl) | exact Or.inr (Or.inr rfl)) (by decide) (by decide)) (@pe_int _ _ _ _) (fun _ _ => rfl)) (@pa_nil _) (by rfl)) (by decide) (by decide) (by rfl) (by rfl)) (by rfl) (by first | exact .inl rfl | exact .inr rfl | assumption)) (@pss_cons _ _ _ _ _ (@ps_fld _ _ _ _ _ _ _ _ (@pv _ 0 _ _ (by rfl) (by first | exact Or.inl rfl | exact Or.inr (Or.inl rfl) | exact Or.inr (Or.inr rfl)) (by decide) (by decide)) (@pe_callB _ _ _ _ _ _ _ _ _ (@kcall_len _ K (by rfl)) rfl gb.len bt_len (@pa_cons _ _ _ _ _ (@pv _ 1 _ _ (by rfl) (by first | exact Or.inl rfl | exact Or.inr (Or.inl rfl) | exact Or.inr (Or.inr rfl)) (by decide) (by decide)) (@pa_nil _) (by rfl)) (by decide) (by decide) (by rfl) (by rfl)) rfl) (@pss_cons _ _ _ _ _ (@ps_fld _ _ _ _ _ _ _ _ (@pv _ 0 _ _ (by rfl) (by first | exact Or.inl rfl | exact Or.inr (Or.inl rfl) | exact Or.inr (Or.inr rfl)) (by decide) (by decide)) (@pe_lst _ _ _ _ (@pa_nil _)) rfl) (@pss_cons _ _ _ _ _ (@ps_for _ _ _ _ _ _ _ _ PassesOwn.never rfl (@pi_range1 _ _ _ _ _ _ rfl gb.range (@pa_cons _ _ _ _ _ (@pv _ 2 _ _ (by rfl) (by first | exact Or.inl rfl | exact Or.inr (Or.inl rfl) | exact Or.inr (Or.inr rfl)) (by decide) (by decide)) (@pa_nil _) (by rfl)) (by rfl)) (@pg_name _ _ 3 _ sc_Search_init.nd rfl (Or.inr rfl) (by first | exact .inl rfl | exact .inr rfl | assumption)) (@pss_cons _ _ _ _ _ (@ps_setComp _ ["other", "number"] [none, some 3] _ 4 _ _ _ _ _ _ _ _ _ _ _ _ (by exact (show CompOk ["self", "columns", "height", "number", "own", "due"] (defScope s_Search_init) ["other", "number"] [none, some 3] _ from ⟨rfl, by decide +kernel, by decide +kernel, by decide +kernel, by decide +kernel, rfl, by decide +kernel⟩)) rfl (@pi_range1 _ _ _ _ _ _ rfl gb.range (@pa_cons _ _ _ _ _ (@pv _ 2 _ _ (by rfl) (by first | exact Or.inl rfl | exact Or.inr (Or.inl rfl) | exact Or.inr (Or.inr rfl)) (by decide) (by decide)) (@pa_nil _) (by rfl)) (by rfl)) (fun _ _ _ _ => (@pg_name _ _ 0 _ nd0 rfl (Or.inl rfl) (by first | exact .inl rfl | exact .inr rfl | assumption))) (fun _ _ _ _ => (@pf_nil _)) (fun _ _ _ _ => (@pe_ifExp _ _ _ _ _ _ _ _ (@pt_cmpR _ _ _ _ _ _ _ _ (@op_eq _) (@pv _ 0 _ _ (by rfl) (by first | exact Or.inl rfl | exact Or.inr (Or.inl rfl) | exact Or.inr (Or.inr rfl)) (by decide) (by decide)) (@pv _ 1 _ _ (by rfl) (by first | exact Or.inl rfl | exact Or.inr (Or.inl rfl) | exact Or.inr (Or.inr rfl)) (by decide) (by decide)) (@nomark _ _ (by decide) (by decide))) (@pe_int _ _ _ _) (@pe_int _ _ _ _))) sc_Search_init.nd rfl rfl rfl (by intro _; rfl)) (@pss_cons _ _ _ _ _ (@ps_set _ _ 5 _ _ _ _ sc_Search_init.nd rfl (Or.inl rfl) (@pe_ifExp _ _ _ _ _ _ _ _ (@pt_cmpR _ _ _ _ _ _ _ _ (@op_eq _) (@pv _ 3 _ _ (by rfl) (by first | exact Or.inl rfl | exact Or.inr (Or.inl rfl) | exact Or.inr (Or.inr rfl)) (by decide) (by decide)) (@pe_op _ _ _ _ _ _ _ _ (@op_sub _) (@pv _ 2 _ _ (by rfl) (by first | exact Or.inl rfl | exact Or.inr (Or.inl rfl) | exact Or.inr (Or.inr rfl)) (by decide) (by decide)) (@pe_int _ _ _ _)) (@nomark _ _ (by decide) (by decide))) (@pe_int _ _ _ _) (@pe_int _ _ _ _)) (by rfl) (by first | exact .inl rfl | exact .inr rfl | assumption)) (@pss_one _ _ _ (@ps_expr _ _ _ _ (@kpe_bm _ K _ _ _ _ _ _ _ _ _ _ _ PySem.F.plainAttrs_list PySem.F.slot_list_append PySem.F.type_list_append (@mt_append _) (@pe_fld _ _ _ _ _ (@pv _ 0 _ _ (by rfl) (by first | exact Or.inl rfl | exact Or.inr (Or.inl rfl) | exact Or.inr (Or.inr rfl)) (by decide) (by decide)) rfl) (@pa_cons _ _ _ _ _ (@pe_op _ _ _ _ _ _ _ _ (@op_cat _) (@pe_op _ _ _ _ _ _ _ _ (@op_cat _) (@pe_comp _ ["column", "number"] [none, some 3] _ _ _ _ _ _ _ _ _ _ (by exact (show CompOk ["self", "columns", "height", "number", "own", "due"] (defScope s_Search_init) ["column", "number"] [none, some 3] _ from ⟨rfl, by decide +kernel, by decide +kernel, by decide +kernel, by decide +kernel, rfl, by decide +kernel⟩)) rfl (@kpi_list _ K _ _ _ (@pv _ 1 _ _ (by rfl) (by first | exact Or.inl rfl | exact Or.inr (Or.inl rfl) | exact Or.inr (Or.inr rfl)) (by decide) (by decide)) (by rfl)) (fun _ _ _ _ => (@pg_name _ _ 0 _ nd1 rfl (Or.inl rfl) (by first | exact .inl rfl | exact .inr rfl | assumption))) (fun _ _ _ _ => (@pf_nil _)) (fun _ _ _ _ => (@pe_ix _ _ _ _ _ _ _ (@kix_seq _ K (by rfl)) (@pv _ 0 _ _ (by rfl) (by first | exact Or.inl rfl | exact Or.inr (Or.inl rfl) | exact Or.inr (Or.inr rfl)) (by decide) (by decide)) (@pv _ 1 _ _ (by rfl) (by first | exact Or.inl rfl | exact Or.inr (Or.inl rfl) | exact Or.inr (Or.inr rfl)) (by decide) (by decide)) (fun _ _ => rfl))) (by intro _; rfl)) (@pv _ 4 _ _ (by rfl) (by first | exact Or.inl rfl | exact Or.inr (Or.inl rfl) | exact Or.inr (Or.inr rfl)) (by decide) (by decide))) (@pe_lst _ _ _ _ (@pa_cons _ _ _ _ _ (@pv _ 5 _ _ (by rfl) (by first | exact Or.inl rfl | exact Or.inr (Or.inl rfl) | exact Or.inr (Or.inr rfl)) (by decide) (by decide)) (@pa_nil _) (by rfl)))) (@pa_nil _) (by rfl)) (by rfl) (by rfl) (by rfl) (by rfl) (by rfl) (by rfl)) (by rfl))))) (by intro _; rfl)) (@pss_cons _ _ _ _ _ (@ps_fld _ _ _ _ _ _ _ _ (@pv _ 0 _ _ (by rfl) (by first | exact Or.inl rfl | exact Or.inr (Or.inl rfl) | exact Or.inr (Or.inr rfl)) (by decide) (by decide)) (@pe_op _ _ _ _ _ _ _ _ (@op_cat _) (@pe_op _ _ _ _ _ _ _ _ (@op_cat _) (@pe_comp _ ["column"] [none] _ _ _ _ _ _ _ _ _ _ (by exact (show CompOk ["self", "columns", "height", "number", "own", "due"] (defScope s_Search_init) ["column"] [none] _ from ⟨rfl, by decide +kernel, by decide +kernel, by decide +kernel, by decide +kernel, rfl, by decide +kernel⟩)) rfl (@kpi_list _ K _ _ _ (@pv _ 1 _ _ (by rfl) (by first | exact Or.inl rfl | exact Or.inr (Or.inl rfl) | exact Or.inr (Or.inr rfl)) (by decide) (by decide)) (by rfl)) (fun _ _ _ _ => (@pg_name _ _ 0 _ nd2 rfl (Or.inl rfl) (by first | exact .inl rfl | exact .inr rfl | assumption))) (fun _ _ _ _ => (@pf_nil _)) (fun _ _ _ _ => (@pe_un _ _ _ _ _ _ (@un_neg _) (@pe_callB _ _ _ _ _ _ _ _ _ (@kcall_sum _ K rfl (by rfl)) rfl gb.sum bt_sum (@pa_cons _ _ _ _ _ (@pv _ 0 _ _ (by rfl) (by first | exact Or.inl rfl | exact Or.inr (Or.inl rfl) | exact Or.inr (Or.inr rfl)) (by decide) (by decide)) (@pa_nil _) (by rfl)) (by decide) (by decide) (by rfl) (by rfl)))) (by intro _; rfl)) (@pe_comp _ ["number"] [none] _ _ _ _ _ _ _ _ _ _ (by exact (show CompOk ["self", "columns", "height", "number", "own", "due"] (defScope s_Search_init) ["number"] [none] _ from ⟨rfl, by decide +kernel, by decide +kernel, by decide +kernel, by decide +kernel, rfl, by decide +kernel⟩)) rfl (@pi_range1 _ _ _ _ _ _ rfl gb.range (@pa_cons _ _ _ _ _ (@pv _ 2 _ _ (by rfl) (by first | exact Or.inl rfl | exact Or.inr (Or.inl rfl) | exact Or.inr (Or.inr rfl)) (by decide) (by decide)) (@pa_nil _) (by rfl)) (by rfl)) (fun _ _ _ _ => (@pg_name _ _ 0 _ nd3 rfl (Or.inl rfl) (by first | exact .inl rfl | exact .inr rfl | assumption))) (fun _ _ _ _ => (@pf_nil _)) (fun _ _ _ _ => (@pe_int _ _ _ _)) (by intro _; rfl))) (@pe_lst _ _ _ _ (@pa_cons _ _ _ _ _ (@pe_un _ _ _ _ _ _ (@un_neg _) (@pe_int _ _ _ _)) (@pa_nil _) (by rfl)))) rfl) (@pss_cons _ _ _ _ _ (@ps_fld _ _ _ _ _ _ _ _ (@pv _ 0 _ _ (by rfl) (by first | exact Or.inl rfl | exact Or.inr (Or.inl rfl) | exact Or.inr (Or.inr rfl)) (by decide) (by decide)) (@pe_comp _ ["number", "self"] [none, some 0] _ _ _ _ _ _ _ _ _ _ (by exact (show CompOk ["self", "columns", "height", "number", "own", "due"] (defScope s_Search_init) ["number", "self"] [none, some 0] _ from ⟨rfl, by decide +kernel, by decide +kernel, by decide +kernel, by decide +kernel, rfl, by decide +kernel⟩)) rfl (@pi_range1 _ _ _ _ _ _ rfl gb.range (@pa_cons _ _ _ _ _ (@pv _ 2 _ _ (by rfl) (by first | exact Or.inl rfl | exact Or.inr (Or.inl rfl) | exact Or.inr (Or.inr rfl)) (by decide) (by decide)) (@pa_nil _) (by rfl)) (by rfl)) (fun _ _ _ _ => (@pg_name _ _ 0 _ nd4 rfl (Or.inl rfl) (by first | exact .inl rfl | exact .inr rfl | assumption))) (fun _ _ _ _ => (@pf_nil _)) (fun _ _ _ _ => (@pe_op _ _ _ _ _ _ _ _ (@op_add _) (@kpe_fld _ K _ _ _ _ (@pv _ 1 _ _ (by rfl) (by first | exact Or.inl rfl | exact Or.inr (Or.inl rfl) | exact Or.inr (Or.inr rfl)) (by decide) (by decide)) rfl (by rfl)) (@pv _ 0 _ _ (by rfl) (by first | exact Or.inl rfl | exact Or.inr (Or.inl rfl) | exact Or.inr (Or.inr rfl)) (by decide) (by decide)))) (by intro _; rfl)) rfl) (@pss_one _ _ _ (@ps_fld _ _ _ _ _ _ _ _ (@pv _ 0 _ _ (by rfl) (by first | exact Or.inl rfl | exact Or.inr (Or.inl rfl) | exact Or.inr (Or.inr rfl)) (by decide) (by decide)) (@pe_int _ _ _ _) rfl)))))))), ?_⟩
  have n2 := G.n2
  have n6 := G.n6
  have g1 := G.g1
  have g9 := G.g9
  have hul := Paired.length ro
  have nea : ∀ {x : Addr} {o : HO}, H x = some o → (∀ C dx fs, o ≠ .ins C dx fs) → x ≠ a := fun {x o} hx ne z => by
    rw [z, ha] at hx
    exact ne _ _ _ (Option.some.inj hx).symm
  have c0 : cols[0]? = some (cols.getD 0 []) := by rw [List.getD_eq_getElem?_getD, List.getElem?_eq_getElem (by omega)]; rfl
  have u0 : us[0]? = some us[0] := List.getElem?_eq_getElem (by omega)
  obtain ⟨p0, e0, hp0⟩ := Paired.at ro _ _ _ c0 u0
  rw [e0] at u0
  have l0 : (cols.getD 0 []).length = n := G.len _ (List.mem_of_getElem? c0)
  refine ⟨_, rfl, .inl ⟨lc, _, 0, _, rfl, rfl, SqL.of hlc, atI_nat (j := 0) u0, _, _, rfl, .inl ⟨_, SqL.of hp0, rfl⟩, ?_⟩⟩
  refine ⟨_, rfl, _, _, rfl, .inl ⟨_, SqL.of hlc, rfl⟩, _, rfl, a, _, dx, _, rfl, ha, cl.c_Search, cl.no_given, (by show 0 < 1000; decide), ?_⟩
  rw [List.length_map, l0, ← hul]
  have ob1 := @upd_same H a (.ins (c 2) dx (putF "given" (nV cols.length) []))
  have ex1 : Ex1 a H (upd H a (.ins (c 2) dx (putF "given" (nV cols.length) []))) := fun x o hx na => by rw [upd_ne na]; exact hx
  have fr1 : ∀ x, upd H a (.ins (c 2) dx (putF "given" (nV cols.length) [])) x = none → H x = none := fun x hx => by
    by_cases z : x = a
    · rw [z, upd_same] at hx
      cases hx
    · rw [upd_ne z] at hx
      exact hx
  generalize upd H a (.ins (c 2) dx (putF "given" (nV cols.length) [])) = H1 at *
  refine ⟨small9 (by show 0 ≤ 1000; decide), fun lL hlL => ?_⟩
  have n1 := same_new hlL (.lst [])
  refine ⟨_, rfl, a, _, dx, _, rfl, n1 _ _ ob1, cl.c_Search, cl.no_lines, (by show 1 < 1000; decide), ?_⟩
  have naL : lL ≠ a := fun z => by rw [z, ob1] at hlL; cases hlL
  have ob2 := @upd_same (upd H1 lL (.lst [])) a (.ins (c 2) dx (putF "lines" (.ref lL) (putF "given" (nV cols.length) [])))
  have ex2 : Ex1 a H (upd (upd H1 lL (.lst [])) a (.ins (c 2) dx (putF "lines" (.ref lL) (putF "given" (nV cols.length) [])))) := fun x o hx na => by rw [upd_ne na]; exact n1 _ _ (ex1 x o hx na)
  have li2 : upd (upd H1 lL (.lst [])) a (.ins (c 2) dx (putF "lines" (.ref lL) (putF "given" (nV cols.length) []))) lL = some (.lst []) := by rw [upd_ne naL, upd_same]
  have hL0 := fr1 _ hlL
  generalize upd (upd H1 lL (.lst [])) a (.ins (c 2) dx (putF "lines" (.ref lL) (putF "given" (nV cols.length) []))) = H2 at *
  refine ⟨_, rfl, (n : Int), rfl, by omega, by omega, ?_⟩
  rw [Int.toNat_natCast]
  have lca : lc ≠ a := nea hlc (by intro _ _ _ z; cases z)
  refine for_range (fun i σ H' => (∃ x3 x4 x5, σ = [some (.ref a), some (.ref lc), some (nV n), x3, x4, x5]) ∧ Ex1 a H H' ∧ H' a = some (.ins (c 2) dx (putF "lines" (.ref lL) (putF "given" (nV cols.length) []))) ∧ ∃ ws, H' lL = some (.lst ws) ∧ Paired (fun row u => ∃ p, u = .ref p ∧ H' p = some (.lst (row.map V.int)) ∧ p ≠ lL) ((List.range i).map (ln0V cols n)) ws) ⟨⟨_, _, _, rfl⟩, ex2, ob2, [], li2, .nil⟩ ?_ ?_
  · rintro i σ H3 hi ⟨⟨x3, x4, x5, rfl⟩, ex3, ob3, ws, hws, hP⟩
    refine ⟨_, rfl, (n : Int), rfl, by omega, by omega, fun D hD => ?_⟩
    rw [Int.toNat_natCast]
    refine comp_rI (fun o => if o = i then 1 else 0) hD (by omega) (fun o H4 Q4 ho s4 k4 => ?_) (fun H4 s4 hD4 => ?_)
    · refine ⟨_, rfl, _, rfl, rfl, _, rfl, ite2 (fun c1 => ?_) (fun c1 => ?_)⟩
      · rw [if_pos (by have := V.int.inj (of_decide_eq_true c1); omega)] at k4
        exact k4
      · rw [if_neg (fun z => c1 (decide_eq_true (by rw [z])))] at k4
        exact k4
    refine ⟨_, rfl, _, rfl, _, _, rfl, rfl, rfl, _, rfl, ite2 (fun c1 => ?_) (fun c1 => ?_)⟩
    · have hz : (if i + 1 = n then (1 : Int) else 0) = 1 := if_pos (by have := V.int.inj (of_decide_eq_true c1); omega)
      refine ⟨_, rfl, a, _, dx, _, .ref lL, rfl, s4 _ _ ob3, cl.c_Search, cl.no_lines, rfl, .inl ⟨rfl, _, SqL.of (s4 _ _ hws)⟩, ?_⟩
      refine ⟨_, rfl, lc, rfl, ⟨_, SqL.of (s4 _ _ (ex3 _ _ hlc lca))⟩, fun D2 hD2 => ?_⟩
      refine comp_lI (cols.map fun c => c.getD i 0) (s4 _ _ (ex3 _ _ hlc lca)) (by rw [List.length_map]; omega) hD2 (by rw [List.length_map]; omega) (fun j x z H5 Q5 hx hz5 s5 k5 => ?_) (fun H5 s5 hD5 => ?_)
      · rw [List.getElem?_map] at hz5
        obtain ⟨row, hrow, rfl⟩ := Option.map_eq_some_iff.mp hz5
        obtain ⟨p, rfl, hp⟩ := Paired.at ro _ _ _ hrow hx
        have pa := nea hp (by intro _ _ _ z; cases z)
        have rl := G.len _ (List.mem_of_getElem? hrow)
        have e5 : atI (row.map V.int) (0 + (i : Int)) = some (.int (row.getD i 0)) := by rw [Int.zero_add]; exact at_int (by omega)
        exact ⟨_, rfl, _, rfl, .inl ⟨p, _, _, _, rfl, rfl, SqL.of (s5 _ _ (s4 _ _ (ex3 _ _ hp pa))), e5, k5⟩⟩
      refine ⟨_, rfl, D2, D, _, _, rfl, rfl, hD5, s5 _ _ hD4, ?_, fun p1 hp1 => ?_⟩
      · simp only [List.length_map, List.length_range]
        exact small9 (by omega)
      have m1 := same_new hp1 (.lst ((cols.map fun c => c.getD i 0).map V.int ++ ((List.range n).map fun o => if o = i then (1 : Int) else 0).map V.int))
      refine ⟨_, rfl, small9 (by show 1 ≤ 1000; decide), fun p2 hp2 => ?_⟩
      have m2 := same_new hp2 (.lst [.int (if i + 1 = n then 1 else 0)])
      rw [hz] at m2
      refine ⟨p1, p2, _, _, rfl, rfl, m2 _ _ upd_same, upd_same, ?_, fun p3 hp3 => ?_⟩
      · simp only [List.length_append, List.length_map, List.length_range]
        exact small9 (by show cols.length + n + 1 ≤ 1000; omega)
      have m3 := same_new hp3 (.lst ((cols.map fun c => c.getD i 0).map V.int ++ ((List.range n).map fun o => if o = i then (1 : Int) else 0).map V.int ++ [.int (if i + 1 = n then 1 else 0)]))
      rw [hz] at m3
      have sA := (s4.trans s5).trans (m1.trans (m2.trans m3))
      have hw6 := sA _ _ hws
      have np3 : p3 ≠ lL := fun z => by
        rw [z] at hp3
        have := m2 _ _ (m1 _ _ (s5 _ _ (s4 _ _ hws)))
        rw [hp3] at this
        cases this
      have hpl := Paired.length hP
      rw [List.length_map, List.length_range] at hpl
      refine ⟨lL, _, _, rfl, rfl, hw6, small1000 (by omega), ⟨_, _, _, rfl⟩, fun x o hx na => ?_, ?_, _, upd_same, ?_⟩
      · rw [upd_ne (fun z => by rw [z, hL0] at hx; cases hx)]
        exact sA _ _ (ex3 _ _ hx na)
      · rw [upd_ne (Ne.symm naL)]
        exact sA _ _ ob3
      · rw [List.range_succ, List.map_append]
        refine pr_app (Paired.mapP hP fun _ _ ⟨p', e, hp', b1⟩ => ⟨p', e, by rw [upd_ne b1]; exact sA _ _ hp', b1⟩) (.cons ⟨p3, rfl, ?_, np3⟩ .nil)
        rw [upd_ne np3, upd_same]
        unfold ln0V
        rw [hz]
        simp only [List.map_append]
        rfl
    · have hz : (if i + 1 = n then (1 : Int) else 0) = 0 := if_neg (fun z => c1 (decide_eq_true (congrArg V.int (by omega))))
      refine ⟨_, rfl, a, _, dx, _, .ref lL, rfl, s4 _ _ ob3, cl.c_Search, cl.no_lines, rfl, .inl ⟨rfl, _, SqL.of (s4 _ _ hws)⟩, ?_⟩
      refine ⟨_, rfl, lc, rfl, ⟨_, SqL.of (s4 _ _ (ex3 _ _ hlc lca))⟩, fun D2 hD2 => ?_⟩
      refine comp_lI (cols.map fun c => c.getD i 0) (s4 _ _ (ex3 _ _ hlc lca)) (by rw [List.length_map]; omega) hD2 (by rw [List.length_map]; omega) (fun j x z H5 Q5 hx hz5 s5 k5 => ?_) (fun H5 s5 hD5 => ?_)
      · rw [List.getElem?_map] at hz5
        obtain ⟨row, hrow, rfl⟩ := Option.map_eq_some_iff.mp hz5
        obtain ⟨p, rfl, hp⟩ := Paired.at ro _ _ _ hrow hx
        have pa := nea hp (by intro _ _ _ z; cases z)
        have rl := G.len _ (List.mem_of_getElem? hrow)
        have e5 : atI (row.map V.int) (0 + (i : Int)) = some (.int (row.getD i 0)) := by rw [Int.zero_add]; exact at_int (by omega)
        exact ⟨_, rfl, _, rfl, .inl ⟨p, _, _, _, rfl, rfl, SqL.of (s5 _ _ (s4 _ _ (ex3 _ _ hp pa))), e5, k5⟩⟩
      refine ⟨_, rfl, D2, D, _, _, rfl, rfl, hD5, s5 _ _ hD4, ?_, fun p1 hp1 => ?_⟩
      · simp only [List.length_map, List.length_range]
        exact small9 (by omega)
      have m1 := same_new hp1 (.lst ((cols.map fun c => c.getD i 0).map V.int ++ ((List.range n).map fun o => if o = i then (1 : Int) else 0).map V.int))
      refine ⟨_, rfl, small9 (by show 1 ≤ 1000; decide), fun p2 hp2 => ?_⟩
      have m2 := same_new hp2 (.lst [.int (if i + 1 = n then 1 else 0)])
      rw [hz] at m2
      refine ⟨p1, p2, _, _, rfl, rfl, m2 _ _ upd_same, upd_same, ?_, fun p3 hp3 => ?_⟩
      · simp only [List.length_append, List.length_map, List.length_range]
        exact small9 (by show cols.length + n + 1 ≤ 1000; omega)
      have m3 := same_new hp3 (.lst ((cols.map fun c => c.getD i 0).map V.int ++ ((List.range n).map fun o => if o = i then (1 : Int) else 0).map V.int ++ [.int (if i + 1 = n then 1 else 0)]))
      rw [hz] at m3
      have sA := (s4.trans s5).trans (m1.trans (m2.trans m3))
      have hw6 := sA _ _ hws
      have np3 : p3 ≠ lL := fun z => by
        rw [z] at hp3
        have := m2 _ _ (m1 _ _ (s5 _ _ (s4 _ _ hws)))
        rw [hp3] at this
        cases this
      have hpl := Paired.length hP
      rw [List.length_map, List.length_range] at hpl
      refine ⟨lL, _, _, rfl, rfl, hw6, small1000 (by omega), ⟨_, _, _, rfl⟩, fun x o hx na => ?_, ?_, _, upd_same, ?_⟩
      · rw [upd_ne (fun z => by rw [z, hL0] at hx; cases hx)]
        exact sA _ _ (ex3 _ _ hx na)
      · rw [upd_ne (Ne.symm naL)]
        exact sA _ _ ob3
      · rw [List.range_succ, List.map_append]
        refine pr_app (Paired.mapP hP fun _ _ ⟨p', e, hp', b1⟩ => ⟨p', e, by rw [upd_ne b1]; exact sA _ _ hp', b1⟩) (.cons ⟨p3, rfl, ?_, np3⟩ .nil)
        rw [upd_ne np3, upd_same]
        unfold ln0V
        rw [hz]
        simp only [List.map_append]
        rfl
  · rintro σ H3 ⟨⟨x3, x4, x5, rfl⟩, ex3, ob3, ws, hws, hP⟩
    have hlc3 := ex3 _ _ hlc lca
    refine ⟨_, rfl, lc, rfl, ⟨_, SqL.of hlc3⟩, fun D hD => ?_⟩
    refine comp_lI (cols.map fun c => -c.sum) hlc3 (by rw [List.length_map]; omega) hD (by rw [List.length_map]; omega) (fun j x z H5 Q5 hx hz5 s5 k5 => ?_) (fun H4 s4 hD4 => ?_)
    · rw [List.getElem?_map] at hz5
      obtain ⟨row, hrow, rfl⟩ := Option.map_eq_some_iff.mp hz5
      obtain ⟨p, rfl, hp⟩ := Paired.at ro _ _ _ hrow hx
      have pa := nea hp (by intro _ _ _ z; cases z)
      exact ⟨_, rfl, p, row, rfl, SqL.of (s5 _ _ (ex3 _ _ hp pa)), _, rfl, k5⟩
    refine ⟨_, rfl, (n : Int), rfl, by omega, by omega, fun D2 hD2 => ?_⟩
    rw [Int.toNat_natCast]
    refine comp_rI (fun o => 0) hD2 (by omega) (fun o H5 Q5 ho s5 k5 => k5) (fun H5 s5 hD5 => ?_)
    refine ⟨D, D2, _, _, rfl, rfl, s5 _ _ hD4, hD5, ?_, fun p1 hp1 => ?_⟩
    · simp only [List.length_map, List.length_range]
      exact small9 (by omega)
    have m1 := same_new hp1 (.lst ((cols.map fun c => -c.sum).map V.int ++ ((List.range n).map fun _ => (0 : Int)).map V.int))
    refine ⟨_, rfl, small9 (by show 1 ≤ 1000; decide), fun p2 hp2 => ?_⟩
    have m2 := same_new hp2 (.lst [.int (-1)])
    refine ⟨p1, p2, _, _, rfl, rfl, m2 _ _ upd_same, upd_same, ?_, fun p3 hp3 => ?_⟩
    · simp only [List.length_append, List.length_map, List.length_range]
      exact small9 (by show cols.length + n + 1 ≤ 1000; omega)
    have m3 := same_new hp3 (.lst ((cols.map fun c => -c.sum).map V.int ++ ((List.range n).map fun _ => (0 : Int)).map V.int ++ [.int (-1)]))
    have sA := (s4.trans s5).trans (m1.trans (m2.trans m3))
    have ec : (cols.map fun c => -c.sum).map V.int ++ ((List.range n).map fun _ => (0 : Int)).map V.int ++ [.int (-1)] = (cs0V cols n).map V.int := by
      unfold cs0V
      simp only [List.map_append]
      rfl
    rw [ec] at sA ⊢
    have co7 := @upd_same (upd (upd H5 p1 (.lst ((cols.map fun c => -c.sum).map V.int ++ ((List.range n).map fun _ => (0 : Int)).map V.int))) p2 (.lst [.int (-1)])) p3 (.lst ((cs0V cols n).map V.int))
    have f3 : H3 p3 = none := by
      cases e : H3 p3 with
      | none => rfl
      | some o =>
        have := m2 _ _ (m1 _ _ (s5 _ _ (s4 _ _ e)))
        rw [hp3] at this
        cases this
    generalize upd (upd (upd H5 p1 (.lst ((cols.map fun c => -c.sum).map V.int ++ ((List.range n).map fun _ => (0 : Int)).map V.int))) p2 (.lst [.int (-1)])) p3 (.lst ((cs0V cols n).map V.int)) = H7 at *
    have ob7 := sA _ _ ob3
    refine ⟨_, rfl, a, _, dx, _, rfl, ob7, cl.c_Search, cl.no_costs, (by show 2 < 1000; decide), ?_⟩
    have k8 : ∀ {x : Addr} {o : HO}, H7 x = some o → x ≠ a → upd H7 a (.ins (c 2) dx (putF "costs" (.ref p3) (putF "lines" (.ref lL) (putF "given" (nV cols.length) [])))) x = some o := fun {x o} hx na => by rw [upd_ne na]; exact hx
    have ob8 := @upd_same H7 a (.ins (c 2) dx (putF "costs" (.ref p3) (putF "lines" (.ref lL) (putF "given" (nV cols.length) []))))
    have na8 : ∀ {x : Addr}, upd H7 a (.ins (c 2) dx (putF "costs" (.ref p3) (putF "lines" (.ref lL) (putF "given" (nV cols.length) [])))) x = none → x ≠ a ∧ H7 x = none := fun {x} hx => by
      by_cases z : x = a
      · rw [z, upd_same] at hx
        cases hx
      · rw [upd_ne z] at hx
        exact ⟨z, hx⟩
    generalize upd H7 a (.ins (c 2) dx (putF "costs" (.ref p3) (putF "lines" (.ref lL) (putF "given" (nV cols.length) [])))) = H8 at *
    refine ⟨_, rfl, (n : Int), rfl, by omega, by omega, fun D3 hD3 => ?_⟩
    rw [Int.toNat_natCast]
    refine comp_rI (fun o => (cols.length : Int) + (0 + (o : Int))) hD3 (by omega) (fun o H9 Q9 ho s9 k9 => ?_) (fun H9 s9 hD9 => ?_)
    · exact ⟨_, rfl, a, _, dx, _, nV cols.length, rfl, s9 _ _ ob8, cl.c_Search, cl.no_given, rfl, _, rfl, _, _, rfl, rfl, k9⟩
    have eb : ((List.range n).map fun o : Nat => (cols.length : Int) + (0 + (o : Int))).map V.int = (bs0V cols.length n).map nV := by
      unfold bs0V
      rw [List.map_map, List.map_map]
      refine List.map_congr_left fun o _ => ?_
      show V.int ((cols.length : Int) + (0 + (o : Int))) = V.int ((cols.length + o : Nat) : Int)
      exact congrArg V.int (by omega)
    rw [eb] at hD9
    have ob9 := s9 _ _ ob8
    obtain ⟨nD, fD⟩ := na8 hD3
    refine ⟨_, rfl, a, _, dx, _, rfl, ob9, cl.c_Search, cl.no_basis, (by show 3 < 1000; decide), ?_⟩
    refine ⟨_, rfl, a, _, dx, _, rfl, upd_same, cl.c_Search, cl.no_scale, (by show 4 < 1000; decide), ?_⟩
    have st : ∀ {x : Addr} {o : HO}, H3 x = some o → x ≠ a → upd (upd H9 a (.ins (c 2) dx (putF "basis" (.ref D3) (putF "costs" (.ref p3) (putF "lines" (.ref lL) (putF "given" (nV cols.length) [])))))) a (.ins (c 2) dx (putF "scale" (.int 1) (putF "basis" (.ref D3) (putF "costs" (.ref p3) (putF "lines" (.ref lL) (putF "given" (nV cols.length) [])))))) x = some o := fun {x o} hx na => by
      rw [upd_ne na, upd_ne na]
      exact s9 _ _ (k8 (sA _ _ hx) na)
    have n3 : ∀ {x : Addr} {o : HO}, H3 x = some o → x ≠ D3 := fun {x o} hx z => by
      have := sA _ _ hx
      rw [z, fD] at this
      cases this
    have n7 : p3 ≠ D3 := fun z => by
      rw [z, fD] at co7
      cases co7
    have na3 : p3 ≠ a := ne_of co7 ob7 (by intro z; cases z)
    refine q _ lL p3 D3 ws (fun x o hx na => st (ex3 _ _ hx na) na) ?_ ⟨?_, ?_, ?_, st hws naL, ?_, Ne.symm n7, Ne.symm (n3 hws), fun hm => ?_⟩
    · cases e : H D3 with
      | none => rfl
      | some o => exact absurd rfl (n3 (ex3 _ _ e (fun z => nD z)))
    · rw [upd_same, put_all]
    · rw [upd_ne na3, upd_ne na3]
      exact s9 _ _ (k8 co7 na3)
    · rw [upd_ne nD, upd_ne nD]
      exact hD9
    · exact Paired.mapP hP fun _ _ ⟨p, e, hp, _⟩ => ⟨p, e, st hp (ne_of hp ob3 (by intro z; cases z))⟩
    · obtain ⟨k, hk⟩ := List.mem_iff_getElem?.mp hm
      have hl4 := Paired.length hP
      have hkl := (List.getElem?_eq_some_iff.mp hk).1
      obtain ⟨p, e, hp, _⟩ := Paired.at hP k _ _ (List.getElem?_eq_getElem (by omega)) hk
      cases e
      exact n3 hp rfl

abbrev s_Search_run : Stmt := clsAt (top 14) 2
theorem sc_Search_run : FnScope ["self", "column"] ["self"] (defScope s_Search_run) := ⟨rfl, rfl, rfl, by decide +kernel, rfl, by decide +kernel, by decide +kernel⟩
theorem ok_Search_run {P : Program} {w : World} {K : PySem.W.Frag} {mg : Str → Option Value} {base : Heap} {f : Addr} {fd : FuncData} (F : Fun K "run" "Search.run" s_Search_run f fd) (gb : Gb mg) {c : Nat → Addr} (cl : Cl K mg c) (d_Search_entering : DefM P w K mg base 1 (c 2) "entering" ["self"] (spEnter (c 2))) (d_Search_leaving : DefM P w K mg base 2 (c 2) "leaving" ["self", "column"] (spLeave (c 2))) (d_Search_take : DefM P w K mg base 2 (c 2) "take" ["self", "number", "column"] (spTake (c 2))) (d_Search_is_found : DefM P w K mg base 1 (c 2) "is_found" ["self"] (spFound (c 2))) : FnOk P w K mg base CX0 3 f fd ["self"] (spRun (c 2)) := by
  refine F.ok sc_Search_run (fun vs H Q E h => ?_) (fun cdv A outer s H vs Q E hr h => ?_)
  · obtain ⟨a, cols, n, dx, lL, lC, lB, us, rfl, _⟩ := h
    rfl
  obtain ⟨a, cols, n, dx, lL, lC, lB, us, rfl, G, h, q⟩ := h
  refine ⟨_, (@pss_cons _ _ _ _ _ (@ps_set _ _ 1 _ _ _ _ sc_Search_run.nd rfl (Or.inl rfl) (pe_methM0 d_Search_entering cl.c_Search hr (by omega) (@pv _ 0 _ _ (by rfl) (by first | exact Or.inl rfl | exact Or.inr (Or.inl rfl) | exact Or.inr (Or.inr rfl)) (by decide) (by decide))) (by rfl) (by first | exact .inl rfl | exact .inr rfl | assumption)) (@pss_one _ _ _ (@ps_while _ _ _ _ _ _ PassesOwn.never (@PW.pt _ _ _ (@pw_and _ _ _ _ _ _ _ (@pt_cmpR _ _ _ _ _ _ _ _ (@op_notN _) (@pv _ 1 _ _ (by rfl) (by first | exact Or.inl rfl | exact Or.inr (Or.inl rfl) | exact Or.inr (Or.inr rfl)) (by decide) (by decide)) (@pe_non _ _ _) (@nomark _ _ (by decide) (by decide))) (@pw_and1 _ _ _ _ (@pt_not _ _ _ _ (@pt_val _ _ _ (pe_methM0 d_Search_is_found cl.c_Search hr (by omega) (@pv _ 0 _ _ (by rfl) (by first | exact Or.inl rfl | exact Or.inr (Or.inl rfl) | exact Or.inr (Or.inr rfl)) (by decide) (by decide))) (by intro _; rfl)))))) (@pss_cons _ _ _ _ _ (@ps_expr _ _ _ _ (pe_methM d_Search_take cl.c_Search hr (by omega) (@pv _ 0 _ _ (by rfl) (by first | exact Or.inl rfl | exact Or.inr (Or.inl rfl) | exact Or.inr (Or.inr rfl)) (by decide) (by decide)) (@pa_cons _ _ _ _ _ (pe_methM d_Search_leaving cl.c_Search hr (by omega) (@pv _ 0 _ _ (by rfl) (by first | exact Or.inl rfl | exact Or.inr (Or.inl rfl) | exact Or.inr (Or.inr rfl)) (by decide) (by decide)) (@pa_cons _ _ _ _ _ (@pv _ 1 _ _ (by rfl) (by first | exact Or.inl rfl | exact Or.inr (Or.inl rfl) | exact Or.inr (Or.inr rfl)) (by decide) (by decide)) (@pa_nil _) (by rfl))) (@pa_cons _ _ _ _ _ (@pv _ 1 _ _ (by rfl) (by first | exact Or.inl rfl | exact Or.inr (Or.inl rfl) | exact Or.inr (Or.inr rfl)) (by decide) (by decide)) (@pa_nil _) (by rfl)) (by rfl))) (by rfl)) (@pss_one _ _ _ (@ps_set _ _ 1 _ _ _ _ sc_Search_run.nd rfl (Or.inl rfl) (pe_methM0 d_Search_entering cl.c_Search hr (by omega) (@pv _ 0 _ _ (by rfl) (by first | exact Or.inl rfl | exact Or.inr (Or.inl rfl) | exact Or.inr (Or.inr rfl)) (by decide) (by decide))) (by rfl) (by first | exact .inl rfl | exact .inr rfl | assumption))))))), ?_⟩
  have b0 : ∀ x ∈ bs0V cols.length n, x < cols.length + n := fun x hx => by
    unfold bs0V at hx
    obtain ⟨i, hi, e⟩ := List.mem_map.mp hx
    have := List.mem_range.mp hi
    omega
  have n2 := G.n2
  have n6 := G.n6
  have g9 := G.g9
  have cg : ∀ j, j < cols.length → colV (cdV cols n) (duV n) (cols.length + n) j = cdV cols n j := fun j hj => by
    unfold colV
    rw [if_pos (by omega)]
  have cw : colV (cdV cols n) (duV n) (cols.length + n) (cols.length + n) = duV n := by
    unfold colV
    rw [if_neg (by omega)]
  refine ⟨_, rfl, a, dx, _, rfl, h.ob, rfl, a, _, _, _, _, _, dx, lL, lC, lB, us, rfl, h, by rw [tab0.cl]; omega, by omega, fun v0 e0 => ?_⟩
  refine ⟨fun mm σ H1 => ∃ L tab cs bs d lL' lC' us' cv, σ = [some (.ref a), some cv] ∧ Ex a lB H H1 ∧ Sr H1 (c 2) a tab cs bs cols.length d dx lL' lC' lB us' ∧ TabG cols n tab cs bs d ∧ CntV (cdV cols n) n (duV n) (cols.length + n) (bs0V cols.length n) bs L ∧ Ent cs cols.length cv ∧ mm = ((cols.length + n) ^ n + 1) * 2 ^ (cols.length + n) - L, ⟨_, 0, _, _, _, _, lL, lC, us, v0, rfl, Ex.refl a lB H, h, tab0, CntV.zer ok0, e0, rfl⟩, ?_⟩
  rintro mm σ H1 ⟨L, tab, cs, bs, d, lL', lC', us', cv, rfl, ex, h1, t, cn, en, rfl⟩
  have o := cn.ok
  have hb := cn.lt b0
  have tl := t.len
  have cl9 := t.cl
  obtain ⟨W, M1, M2⟩ := tabg_wd G t o.len
  have d0 : d ≠ 0 := by
    rw [t.sc]
    have : 0 < scl (cdV cols n) n bs := o.bas.pos
    omega
  have cv2 := cd_cols (cols := cols) (h := n) (by omega) G.len
  rcases en with ⟨rfl, hn⟩ | ⟨s, rfl, hs, neg, fst⟩
  · refine ⟨_, rfl, rfl, _, rfl, iteF (iteF ?_)⟩
    refine q H1 tab cs bs d lL' lC' us' ex h1 t o hb (.inr fun j hj => ?_)
    have := hn j hj
    rw [t.co j (by omega), cg j hj] at this
    exact this
  · refine ⟨_, rfl, rfl, _, rfl, iteT ?_⟩
    refine ⟨_, rfl, a, dx, _, rfl, h1.ob, rfl, a, tab, cs.dropLast, cs.getD (cols.length + n) 0, bs, _, d, dx, lL', lC', lB, us', rfl, (by rw [← last_cut cl9]; exact h1), _, rfl, ?_⟩
    have ez : cs.getD (cols.length + n) 0 = TblG cols n bs n (duV n) := by rw [t.co _ (Nat.le_refl _), cw]
    by_cases z : TblG cols n bs n (duV n) = 0
    · rw [decide_eq_true (by rw [ez, z])]
      exact iteF (q H1 tab cs bs d lL' lC' us' ex h1 t o hb (.inl z))
    · rw [decide_eq_false (fun y => z (by have := V.int.inj y; rw [← ez]; exact this))]
      refine iteT ?_
      have ng : TblG cols n bs n (cdV cols n s) < 0 := by
        rw [t.co s (by omega), cg s hs] at neg
        exact neg
      have es : ∀ i, i < n → enV tab i s = TblG cols n bs i (cdV cols n s) := fun i hi => by rw [t.en i s hi (by omega), cg s hs]
      have ew : ∀ i, i < n → enV tab i (cols.length + n + 1 - 1) = TblG cols n bs i (duV n) := fun i hi => by rw [show cols.length + n + 1 - 1 = cols.length + n by omega, t.en i _ hi (Nat.le_refl _), cw]
      obtain ⟨i0, hi0, hp0⟩ := o.some_line cv2 hb hs ng
      refine ⟨fun σ' H' => ∃ m', m' < ((cols.length + n) ^ n + 1) * 2 ^ (cols.length + n) - L ∧ ∃ L tab cs bs d lL' lC' us' cv, σ' = [some (.ref a), some cv] ∧ Ex a lB H H' ∧ Sr H' (c 2) a tab cs bs cols.length d dx lL' lC' lB us' ∧ TabG cols n tab cs bs d ∧ CntV (cdV cols n) n (duV n) (cols.length + n) (bs0V cols.length n) bs L ∧ Ent cs cols.length cv ∧ m' = ((cols.length + n) ^ n + 1) * 2 ^ (cols.length + n) - L, fun _ _ hx => hx, ?_⟩
      refine ⟨_, rfl, a, dx, _, rfl, h1.ob, rfl, _, rfl, a, dx, _, rfl, h1.ob, rfl, _, rfl, a, tab, cs, bs, _, d, dx, lL', lC', lB, us', cols.length + n + 1, s, rfl, h1, W, by omega, ⟨i0, by omega, by rw [es i0 hi0]; exact hp0⟩, fun r hr hp lo => ?_⟩
      refine ⟨_, rfl, a, tab, cs, bs, _, d, dx, lL', lC', lB, us', cols.length + n + 1, r, s, rfl, h1, W, hr, by omega, cl9, by omega, M1, d0, M2, fun H2 lL2 lC2 us2 ex2 h2 => ?_⟩
      have hr' : r < n := by omega
      have pv : PivT (cdV cols n) n (duV n) bs r s := by
        refine ⟨hr', ng, fun j hj => ?_, ?_, fun i hi hp2 => ?_⟩
        · have := fst j hj
          rw [t.co j (by omega), cg j (by omega)] at this
          exact this
        · rw [es r hr'] at hp
          exact hp
        · have := lo i (by omega) (by rw [es i hi]; exact hp2)
          unfold Low at this
          rw [ew r hr', ew i hi, es r hr', es i hi] at this
          exact this
      have t2 := t.take o hr' (show s < cols.length + n by omega)
      have cn2 := cn.step pv (show s < cols.length + n by omega)
      have mo := cn2.most b0
      refine ⟨_, rfl, a, dx, _, rfl, h2.ob, rfl, a, _, _, _, _, _, dx, lL2, lC2, lB, us2, rfl, h2, by rw [t2.cl]; omega, by omega, fun v2 e2 => ?_⟩
      exact ⟨_, by omega, L + 1, _, _, _, _, lL2, lC2, us2, v2, rfl, ex.trans ex2, h2, t2, cn2, e2, rfl⟩

abbrev s_common_bottom : Stmt := top 10
theorem sc_common_bottom : FnScope ["row", "bottom", "part"] ["row"] (defScope s_common_bottom) := ⟨rfl, rfl, rfl, by decide +kernel, rfl, by decide +kernel, by decide +kernel⟩
theorem ok_common_bottom {P : Program} {w : World} {K : PySem.W.Frag} {mg : Str → Option Value} {base : Heap} {f : Addr} {fd : FuncData} (F : Fun K "common_bottom" "common_bottom" s_common_bottom f fd) (gb : Gb mg) {c : Nat → Addr} (cl : Cl K mg c) (d_shared_part : Def P w K mg base 1 "shared_part" ["one", "other"] spShared) : FnOk P w K mg base CX0 2 f fd ["row"] (spBot K) := by
  refine F.ok sc_common_bottom (fun vs H Q E h => ?_) (fun cdv A outer s H vs Q E hr h => ?_)
  · obtain ⟨v, r, m, rfl, _⟩ := h
    rfl
  obtain ⟨v, r, m, rfl, hv, h4, hB, q⟩ := h
  refine ⟨_, (@pss_cons _ _ _ _ _ (@ps_set _ _ 1 _ _ _ _ sc_common_bottom.nd rfl (Or.inl rfl) (@pe_int _ _ _ _) (by rfl) (by first | exact .inl rfl | exact .inr rfl | assumption)) (@pss_cons _ _ _ _ _ (@ps_for _ _ _ _ _ _ _ _ PassesOwn.never rfl (@kpi_tup _ K _ _ _ (@pe_op _ _ _ _ _ _ _ _ (@op_catA _ K (by rfl)) (@pe_ix _ _ _ _ _ _ _ (@kix_seq _ K (by rfl)) (@pv _ 0 _ _ (by rfl) (by first | exact Or.inl rfl | exact Or.inr (Or.inl rfl) | exact Or.inr (Or.inr rfl)) (by decide) (by decide)) (@pe_int _ _ _ _) (fun _ _ => rfl)) (@pe_tup _ _ _ _ _ (@pa_cons _ _ _ _ _ (@pe_ix _ _ _ _ _ _ _ (@kix_seq _ K (by rfl)) (@pv _ 0 _ _ (by rfl) (by first | exact Or.inl rfl | exact Or.inr (Or.inl rfl) | exact Or.inr (Or.inr rfl)) (by decide) (by decide)) (@pe_int _ _ _ _) (fun _ _ => rfl)) (@pa_nil _) (by rfl)))) (by rfl)) (@pg_name _ _ 2 _ sc_common_bottom.nd rfl (Or.inl rfl) (by first | exact .inl rfl | exact .inr rfl | assumption)) (@pss_one _ _ _ (@ps_set _ _ 1 _ _ _ _ sc_common_bottom.nd rfl (Or.inl rfl) (@pe_op _ _ _ _ _ _ _ _ (@op_fdivM _) (@pe_op _ _ _ _ _ _ _ _ (@op_mulM _) (@pv _ 1 _ _ (by rfl) (by first | exact Or.inl rfl | exact Or.inr (Or.inl rfl) | exact Or.inr (Or.inr rfl)) (by decide) (by decide)) (@pe_ix _ _ _ _ _ _ _ (@kix_seq _ K (by rfl)) (@pv _ 2 _ _ (by rfl) (by first | exact Or.inl rfl | exact Or.inr (Or.inl rfl) | exact Or.inr (Or.inr rfl)) (by decide) (by decide)) (@pe_int _ _ _ _) (fun _ _ => rfl))) (@pe_def _ _ _ _ _ _ _ _ _ _ _ d_shared_part hr (by omega) rfl (@pa_cons _ _ _ _ _ (@pv _ 1 _ _ (by rfl) (by first | exact Or.inl rfl | exact Or.inr (Or.inl rfl) | exact Or.inr (Or.inr rfl)) (by decide) (by decide)) (@pa_cons _ _ _ _ _ (@pe_ix _ _ _ _ _ _ _ (@kix_seq _ K (by rfl)) (@pv _ 2 _ _ (by rfl) (by first | exact Or.inl rfl | exact Or.inr (Or.inl rfl) | exact Or.inr (Or.inr rfl)) (by decide) (by decide)) (@pe_int _ _ _ _) (fun _ _ => rfl)) (@pa_nil _) (by rfl)) (by rfl)) (by decide) (by rfl) (by rfl))) (by rfl) (by first | exact .inl rfl | exact .inr rfl | assumption))) (by intro _; rfl)) (@pss_one _ _ _ (@ps_ret _ _ _ _ (@pv _ 1 _ _ (by rfl) (by first | exact Or.inl rfl | exact Or.inr (Or.inl rfl) | exact Or.inr (Or.inr rfl)) (by decide) (by decide)))))), ?_⟩
  obtain ⟨p, pn, vc, rz, c0, rfl, hp, hn, ff, e, rfl⟩ := hv
  refine ⟨_, rfl, .inr (.inl ⟨p, _, 0, _, rfl, rfl, hp, rfl, _, rfl, .inr (.inl ⟨p, _, 1, _, rfl, rfl, hp, rfl, small9 (by show 1 ≤ 1000; decide), fun p1 hp1 => ?_⟩)⟩)⟩
  refine cat_row (c0 := c0) hn h4 hp1 fun pt H1 s1 hpt => ?_
  refine ⟨pt, rfl, ⟨_, hpt⟩, ?_⟩
  generalize rz ++ [(vc, c0)] = zs at *
  have ed : dnQ r.1 = zs.map fun z => (z.2.den : Int) := by
    unfold dnQ
    rw [e, List.map_map]
    rfl
  refine for_tup (xs := zs.map Prod.fst) (fun i σ H' => (∃ x2, σ = [some (.ref p), some (.int (cbQ ((dnQ r.1).take i))), x2]) ∧ Same H1 H') ⟨⟨_, rfl⟩, Same.refl _⟩ (fun i σ H' _ h => hpt.same h.2) ?_ ?_
  · rintro i x σ H2 hx ⟨⟨x2, rfl⟩, s2⟩
    rw [List.getElem?_map] at hx
    obtain ⟨z, hz, rfl⟩ := Option.map_eq_some_iff.mp hx
    obtain ⟨pz, ez, hpz, sz1, sz2⟩ := (ff z (List.mem_of_getElem? hz)).same (s1.trans s2)
    obtain ⟨b1, b2⟩ := hB.cb i
    have mb : Mid (cbQ ((dnQ r.1).take i)) := (sz_lt (Int.le_of_lt b1) b2).mid (by decide)
    have md : Mid (z.2.den : Int) := sz2.mid (by decide)
    have g0 := Int.gcd_pos_of_ne_zero_left (z.2.den : Int) (show cbQ ((dnQ r.1).take i) ≠ 0 by omega)
    have gl : Int.gcd (cbQ ((dnQ r.1).take i)) (z.2.den : Int) ≤ (cbQ ((dnQ r.1).take i)).natAbs := Nat.le_of_dvd (by omega) (Int.gcd_dvd_natAbs_left _ _)
    have mg : Mid (Int.gcd (cbQ ((dnQ r.1).take i)) (z.2.den : Int) : Int) := Nat.lt_of_le_of_lt (by simpa using gl) mb
    have sn : (dnQ r.1).take (i + 1) = (dnQ r.1).take i ++ [(z.2.den : Int)] := take_snoc (by rw [ed, List.getElem?_map, hz]; rfl)
    rw [ez]
    refine ⟨_, rfl, _, rfl, .inr (.inl ⟨pz, _, 1, _, rfl, rfl, hpz, rfl, _, _, rfl, rfl, ⟨mb, md⟩, _, rfl, _, rfl, .inr (.inl ⟨pz, _, 1, _, rfl, rfl, hpz, rfl, _, _, rfl, _, _, rfl, rfl, ⟨by omega, mg⟩, ?_⟩)⟩)⟩
    exact ⟨⟨some (.ref pz), by rw [sn, cb_snoc]; rfl⟩, s2⟩
  · rintro σ H2 ⟨⟨x2, rfl⟩, s2⟩
    have hq := q _ (s1.trans s2)
    rw [List.take_of_length_le (by rw [ed, List.length_map, List.length_map]; exact Nat.le_refl _)]
    exact ⟨_, rfl, hq⟩

abbrev s_column_for : Stmt := top 11
theorem sc_column_for : FnScope ["row", "bottom", "numbers"] ["row", "bottom"] (defScope s_column_for) := ⟨rfl, rfl, rfl, by decide +kernel, rfl, by decide +kernel, by decide +kernel⟩
theorem ok_column_for {P : Program} {w : World} {K : PySem.W.Frag} {mg : Str → Option Value} {base : Heap} {f : Addr} {fd : FuncData} (F : Fun K "column_for" "column_for" s_column_for f fd) (gb : Gb mg) {c : Nat → Addr} (cl : Cl K mg c) : FnOk P w K mg base CX0 2 f fd ["row", "bottom"] (spCol K) := by
  refine F.ok sc_column_for (fun vs H Q E h => ?_) (fun cdv A outer s H vs Q E hr h => ?_)
  · obtain ⟨v, r, m, rfl, _⟩ := h
    rfl
  obtain ⟨v, r, m, rfl, hv, h4, hB, q⟩ := h
  have nd0 : (["part", "bottom"] : List Str).Nodup := by decide +kernel
  refine ⟨_, (@pss_cons _ _ _ _ _ (@ps_setComp _ ["part", "bottom"] [none, some 1] _ 2 _ _ _ _ _ _ _ _ _ _ _ _ (by exact (show CompOk ["row", "bottom", "numbers"] (defScope s_column_for) ["part", "bottom"] [none, some 1] _ from ⟨rfl, by decide +kernel, by decide +kernel, by decide +kernel, by decide +kernel, rfl, by decide +kernel⟩)) rfl (@kpi_tup _ K _ _ _ (@pe_op _ _ _ _ _ _ _ _ (@op_catA _ K (by rfl)) (@pe_ix _ _ _ _ _ _ _ (@kix_seq _ K (by rfl)) (@pv _ 0 _ _ (by rfl) (by first | exact Or.inl rfl | exact Or.inr (Or.inl rfl) | exact Or.inr (Or.inr rfl)) (by decide) (by decide)) (@pe_int _ _ _ _) (fun _ _ => rfl)) (@pe_tup _ _ _ _ _ (@pa_cons _ _ _ _ _ (@pe_ix _ _ _ _ _ _ _ (@kix_seq _ K (by rfl)) (@pv _ 0 _ _ (by rfl) (by first | exact Or.inl rfl | exact Or.inr (Or.inl rfl) | exact Or.inr (Or.inr rfl)) (by decide) (by decide)) (@pe_int _ _ _ _) (fun _ _ => rfl)) (@pa_nil _) (by rfl)))) (by rfl)) (fun _ _ _ _ => (@pg_name _ _ 0 _ nd0 rfl (Or.inl rfl) (by first | exact .inl rfl | exact .inr rfl | assumption))) (fun _ _ _ _ => (@pf_nil _)) (fun _ _ _ _ => (@pe_op _ _ _ _ _ _ _ _ (@op_mulM _) (@pe_ix _ _ _ _ _ _ _ (@kix_seq _ K (by rfl)) (@pv _ 0 _ _ (by rfl) (by first | exact Or.inl rfl | exact Or.inr (Or.inl rfl) | exact Or.inr (Or.inr rfl)) (by decide) (by decide)) (@pe_int _ _ _ _) (fun _ _ => rfl)) (@pe_op _ _ _ _ _ _ _ _ (@op_fdivM _) (@pv _ 1 _ _ (by rfl) (by first | exact Or.inl rfl | exact Or.inr (Or.inl rfl) | exact Or.inr (Or.inr rfl)) (by decide) (by decide)) (@pe_ix _ _ _ _ _ _ _ (@kix_seq _ K (by rfl)) (@pv _ 0 _ _ (by rfl) (by first | exact Or.inl rfl | exact Or.inr (Or.inl rfl) | exact Or.inr (Or.inr rfl)) (by decide) (by decide)) (@pe_int _ _ _ _) (fun _ _ => rfl))))) sc_column_for.nd rfl rfl rfl (by intro _; rfl)) (@pss_one _ _ _ (@ps_ret _ _ _ _ (@pe_op _ _ _ _ _ _ _ _ (@op_cat _) (@pv _ 2 _ _ (by rfl) (by first | exact Or.inl rfl | exact Or.inr (Or.inl rfl) | exact Or.inr (Or.inr rfl)) (by decide) (by decide)) (@pe_lst _ _ _ _ (@pa_cons _ _ _ _ _ (@pe_ifExp _ _ _ _ _ _ _ _ (@pt_val _ _ _ (@pe_ix _ _ _ _ _ _ _ (@kix_seq _ K (by rfl)) (@pv _ 0 _ _ (by rfl) (by first | exact Or.inl rfl | exact Or.inr (Or.inl rfl) | exact Or.inr (Or.inr rfl)) (by decide) (by decide)) (@pe_int _ _ _ _) (fun _ _ => rfl)) (by intro _; rfl)) (@pe_int _ _ _ _) (@pe_int _ _ _ _)) (@pa_nil _) (by rfl))))))), ?_⟩
  obtain ⟨p, pn, vc, rz, c0, rfl, hp, hn, ff, e, rfl⟩ := hv
  refine ⟨_, rfl, .inr (.inl ⟨p, _, 0, _, rfl, rfl, hp, rfl, _, rfl, .inr (.inl ⟨p, _, 1, _, rfl, rfl, hp, rfl, small9 (by show 1 ≤ 1000; decide), fun p1 hp1 => ?_⟩)⟩)⟩
  refine cat_row (c0 := c0) hn h4 hp1 fun pt H1 s1 hpt => ?_
  refine ⟨pt, rfl, ⟨_, hpt⟩, fun D hD => ?_⟩
  have zl : (rz ++ [(vc, c0)]).length ≤ 5 := by rw [List.length_append]; show rz.length + 1 ≤ 5; omega
  generalize rz ++ [(vc, c0)] = zs at *
  have ed : (dnQ r.1).take r.1.length = dnQ r.1 := List.take_of_length_le (by rw [List.length_map]; exact Nat.le_refl _)
  obtain ⟨b1, b2⟩ := hB.cb r.1.length
  rw [ed] at b1 b2
  obtain ⟨D9, D0, _, hD9⟩ := hB
  obtain ⟨_, _, c3, _⟩ := fold_lc (D := D9) (dnQ r.1) 1 (by decide) (Int.one_dvd D9) fun d hd => by
    obtain ⟨x, hx, e9⟩ := List.mem_map.mp hd
    rw [← e9]
    refine ⟨?_, (hD9 x hx).dvd (by omega)⟩
    have := x.den_nz
    omega
  have c3 : ∀ d ∈ dnQ r.1, d ∣ cbQ (dnQ r.1) := c3
  have el : r.1.length = zs.length := by rw [e, List.length_map]
  refine comp_tI (r.1.map (wnQ (cbQ (dnQ r.1)))) hpt (by rw [List.length_map, List.length_map]; exact el) hD (by rw [List.length_map]; omega) (fun i x z9 H2 Q2 hx hz9 s2 k2 => ?_) (fun H2 s2 hD2 => ?_)
  · rw [List.getElem?_map] at hx
    obtain ⟨z, hz, rfl⟩ := Option.map_eq_some_iff.mp hx
    obtain ⟨pz, ez, hpz, sz1, sz2⟩ := (ff z (List.mem_of_getElem? hz)).same (s1.trans s2)
    rw [ez]
    have hr2 : r.1[i]? = some z.2 := by rw [e, List.getElem?_map, hz]; rfl
    rw [List.getElem?_map, hr2] at hz9
    cases hz9
    have md : Mid (z.2.den : Int) := sz2.mid (by decide)
    have d0 : (z.2.den : Int) ≠ 0 := by
      have := z.2.den_nz
      omega
    obtain ⟨t, et⟩ := c3 (z.2.den : Int) (List.mem_map.mpr ⟨z.2, List.mem_of_getElem? hr2, rfl⟩)
    have e5 : (cbQ (dnQ r.1)).fdiv (z.2.den : Int) = t := by rw [et]; exact Int.mul_fdiv_cancel_left _ d0
    have mt : Mid ((cbQ (dnQ r.1)).fdiv (z.2.den : Int)) := by
      rw [e5]
      refine Nat.lt_of_le_of_lt ?_ ((sz_lt (Int.le_of_lt b1) b2).mid (by decide))
      have h9 : (cbQ (dnQ r.1)).natAbs = z.2.den * t.natAbs := by
        have := congrArg Int.natAbs et
        rw [Int.natAbs_mul] at this
        simpa using this
      rw [h9]
      exact Nat.le_mul_of_pos_left _ (by have := z.2.den_nz; omega)
    exact ⟨_, rfl, .inr (.inl ⟨pz, _, 0, _, rfl, rfl, hpz, rfl, _, rfl, _, rfl, .inr (.inl ⟨pz, _, 1, _, rfl, rfl, hpz, rfl, _, _, rfl, rfl, ⟨d0, md⟩, _, _, rfl, rfl, ⟨sz1.mid (by decide), mt⟩, k2⟩)⟩)⟩
  · refine ⟨_, rfl, _, rfl, .inr (.inl ⟨p, _, 2, _, rfl, rfl, hp.same (s1.trans s2), rfl, _, rfl, ?_⟩)⟩
    have fin : ∀ w : Int, w = (if r.2 = true then 1 else 0) → ∀ p2, H2 p2 = none → ∀ p3, upd H2 p2 (.lst [.int w]) p3 = none → Q (.ref p3) (upd (upd H2 p2 (.lst [.int w])) p3 (.lst ((r.1.map (wnQ (cbQ (dnQ r.1)))).map V.int ++ [.int w]))) := fun w hw p2 hp2 p3 hp3 => by
      have n2 := same_new hp2 (.lst [.int w])
      have f3 : H p3 = none := by
        cases e9 : H p3 with
        | none => rfl
        | some o =>
          have := n2 _ _ (s2 _ _ (s1 _ _ e9))
          rw [hp3] at this
          cases this
      refine q p3 _ (((s1.trans s2).trans n2).trans (same_new hp3 _)) f3 ?_
      rw [upd_same]
      unfold coQ
      rw [List.map_append, hw]
      rfl
    have sm : ((r.1.map (wnQ (cbQ (dnQ r.1)))).map V.int).length + 1 ≤ 1000 := by rw [List.length_map, List.length_map]; omega
    cases hs : r.2 with
    | true =>
      refine iteT ⟨small9 (by show 1 ≤ 1000; decide), fun p2 hp2 => ?_⟩
      exact ⟨D, p2, _, _, rfl, rfl, same_new hp2 _ _ _ hD2, upd_same, small9 sm, fun p3 hp3 => fin 1 (by rw [hs]; rfl) p2 hp2 p3 hp3⟩
    | false =>
      refine iteF ⟨small9 (by show 1 ≤ 1000; decide), fun p2 hp2 => ?_⟩
      exact ⟨D, p2, _, _, rfl, rfl, same_new hp2 _ _ _ hD2, upd_same, small9 sm, fun p3 hp3 => fin 0 (by rw [hs]; rfl) p2 hp2 p3 hp3⟩

abbrev s_shares_by : Stmt := top 12
theorem sc_shares_by : FnScope ["search", "bottoms", "wholes", "line", "column", "shared", "whole"] ["search", "bottoms"] (defScope s_shares_by) := ⟨rfl, rfl, rfl, by decide +kernel, rfl, by decide +kernel, by decide +kernel⟩
theorem ok_shares_by {P : Program} {w : World} {K : PySem.W.Frag} {mg : Str → Option Value} {base : Heap} {f : Addr} {fd : FuncData} (F : Fun K "shares_by" "shares_by" s_shares_by f fd) (gb : Gb mg) {c : Nat → Addr} (cl : Cl K mg c) (d_shared_part : Def P w K mg base 1 "shared_part" ["one", "other"] spShared) (d_fraction : Def1 P w K mg base 2 "fraction" ["top", "bottom"] (spFrac (c 1))) : FnOk P w K mg base CX0 3 f fd ["search", "bottoms"] (spShares K (c 2)) := by
  refine F.ok sc_shares_by (fun vs H Q E h => ?_) (fun cdv A outer s H vs Q E hr h => ?_)
  · obtain ⟨a, lb, tab, cs, bs, g, d, dx, lL, lC, lB, us, cbs, wd, rfl, _⟩ := h
    rfl
  obtain ⟨a, lb, tab, cs, bs, g, d, dx, lL, lC, lB, us, cbs, wd, rfl, h, hw, hwd, hlb, h40, hM, un, hN, hP, q⟩ := h
  have nd0 : (["bottom"] : List Str).Nodup := by decide +kernel
  have nd1 : (["whole", "shared"] : List Str).Nodup := by decide +kernel
  refine ⟨_, (@pss_cons _ _ _ _ _ (@ps_setComp _ ["bottom"] [none] _ 2 _ _ _ _ _ _ _ _ _ _ _ _ (by exact (show CompOk ["search", "bottoms", "wholes", "line", "column", "shared", "whole"] (defScope s_shares_by) ["bottom"] [none] _ from ⟨rfl, by decide +kernel, by decide +kernel, by decide +kernel, by decide +kernel, rfl, by decide +kernel⟩)) rfl (@kpi_list _ K _ _ _ (@pv _ 1 _ _ (by rfl) (by first | exact Or.inl rfl | exact Or.inr (Or.inl rfl) | exact Or.inr (Or.inr rfl)) (by decide) (by decide)) (by rfl)) (fun _ _ _ _ => (@pg_name _ _ 0 _ nd0 rfl (Or.inl rfl) (by first | exact .inl rfl | exact .inr rfl | assumption))) (fun _ _ _ _ => (@pf_nil _)) (fun _ _ _ _ => (@pe_int _ _ _ _)) sc_shares_by.nd rfl rfl rfl (by intro _; rfl)) (@pss_cons _ _ _ _ _ (@ps_for _ _ _ _ _ _ _ _ PassesOwn.never rfl (@kpi_zipK _ false K _ _ _ _ _ _ _ _ rfl gb.zip (@pa_cons _ _ _ _ _ (@pe_fld _ _ _ _ _ (@pv _ 0 _ _ (by rfl) (by first | exact Or.inl rfl | exact Or.inr (Or.inl rfl) | exact Or.inr (Or.inr rfl)) (by decide) (by decide)) rfl) (@pa_cons _ _ _ _ _ (@pe_fld _ _ _ _ _ (@pv _ 0 _ _ (by rfl) (by first | exact Or.inl rfl | exact Or.inr (Or.inl rfl) | exact Or.inr (Or.inr rfl)) (by decide) (by decide)) rfl) (@pa_nil _) (by rfl)) (by rfl)) (by rfl) (by rfl) (by rfl)) (@kpg_tup _ K _ _ _ _ 2 rfl (@pgs_cons _ _ _ _ _ (@pg_name _ _ 3 _ sc_shares_by.nd rfl (Or.inl rfl) (by first | exact .inl rfl | exact .inr rfl | assumption)) (@pgs_cons _ _ _ _ _ (@pg_name _ _ 4 _ sc_shares_by.nd rfl (Or.inl rfl) (by first | exact .inl rfl | exact .inr rfl | assumption)) (@pgs_nil _) (by rfl)) (by rfl)) (by rfl) (by rfl) (by rfl)) (@pss_one _ _ _ (@ps_if _ _ _ _ _ _ _ _ (@pt_cmpR _ _ _ _ _ _ _ _ (@op_lt _) (@pv _ 4 _ _ (by rfl) (by first | exact Or.inl rfl | exact Or.inr (Or.inl rfl) | exact Or.inr (Or.inr rfl)) (by decide) (by decide)) (@pe_callB _ _ _ _ _ _ _ _ _ (@kcall_len _ K (by rfl)) rfl gb.len bt_len (@pa_cons _ _ _ _ _ (@pv _ 1 _ _ (by rfl) (by first | exact Or.inl rfl | exact Or.inr (Or.inl rfl) | exact Or.inr (Or.inr rfl)) (by decide) (by decide)) (@pa_nil _) (by rfl)) (by decide) (by decide) (by rfl) (by rfl)) (@nomark _ _ (by decide) (by decide))) (@pss_one _ _ _ (@ps_asg _ _ _ _ _ _ (@pe_op _ _ _ _ _ _ _ _ (@op_mulM _) (@pe_ix _ _ _ _ _ _ _ (@kix_seq _ K (by rfl)) (@pv _ 3 _ _ (by rfl) (by first | exact Or.inl rfl | exact Or.inr (Or.inl rfl) | exact Or.inr (Or.inr rfl)) (by decide) (by decide)) (@pe_un _ _ _ _ _ _ (@un_neg _) (@pe_int _ _ _ _)) (fun _ _ => rfl)) (@pe_ix _ _ _ _ _ _ _ (@kix_seq _ K (by rfl)) (@pv _ 1 _ _ (by rfl) (by first | exact Or.inl rfl | exact Or.inr (Or.inl rfl) | exact Or.inr (Or.inr rfl)) (by decide) (by decide)) (@pv _ 4 _ _ (by rfl) (by first | exact Or.inl rfl | exact Or.inr (Or.inl rfl) | exact Or.inr (Or.inr rfl)) (by decide) (by decide)) (fun _ _ => rfl))) (@pg_sub _ _ _ _ _ _ _ (@pv _ 2 _ _ (by rfl) (by first | exact Or.inl rfl | exact Or.inr (Or.inl rfl) | exact Or.inr (Or.inr rfl)) (by decide) (by decide)) (@pv _ 4 _ _ (by rfl) (by first | exact Or.inl rfl | exact Or.inr (Or.inl rfl) | exact Or.inr (Or.inr rfl)) (by decide) (by decide)) (@set_list _) (by intro _; rfl)) (by rfl) (by rfl) (by rfl))) (@pss_nil _))) (by intro _; rfl)) (@pss_cons _ _ _ _ _ (@ps_set _ _ 5 _ _ _ _ sc_shares_by.nd rfl (Or.inr rfl) (@pe_int _ _ _ _) (by rfl) (by first | exact .inl rfl | exact .inr rfl | assumption)) (@pss_cons _ _ _ _ _ (@ps_for _ _ _ _ _ _ _ _ PassesOwn.never rfl (@kpi_list _ K _ _ _ (@pv _ 2 _ _ (by rfl) (by first | exact Or.inl rfl | exact Or.inr (Or.inl rfl) | exact Or.inr (Or.inr rfl)) (by decide) (by decide)) (by rfl)) (@pg_name _ _ 6 _ sc_shares_by.nd rfl (Or.inl rfl) (by first | exact .inl rfl | exact .inr rfl | assumption)) (@pss_one _ _ _ (@ps_if _ _ _ _ _ _ _ _ (@pt_cmpR _ _ _ _ _ _ _ _ (@op_gt _) (@pv _ 6 _ _ (by rfl) (by first | exact Or.inl rfl | exact Or.inr (Or.inl rfl) | exact Or.inr (Or.inr rfl)) (by decide) (by decide)) (@pe_int _ _ _ _) (@nomark _ _ (by decide) (by decide))) (@pss_one _ _ _ (@ps_set _ _ 5 _ _ _ _ sc_shares_by.nd rfl (Or.inr rfl) (@pe_def _ _ _ _ _ _ _ _ _ _ _ d_shared_part hr (by omega) rfl (@pa_cons _ _ _ _ _ (@pv _ 6 _ _ (by rfl) (by first | exact Or.inl rfl | exact Or.inr (Or.inl rfl) | exact Or.inr (Or.inr rfl)) (by decide) (by decide)) (@pa_cons _ _ _ _ _ (@pv _ 5 _ _ (by rfl) (by first | exact Or.inl rfl | exact Or.inr (Or.inl rfl) | exact Or.inr (Or.inr rfl)) (by decide) (by decide)) (@pa_nil _) (by rfl)) (by rfl)) (by decide) (by rfl) (by rfl)) (by rfl) (by first | exact .inl rfl | exact .inr rfl | assumption))) (@pss_nil _))) (by intro _; rfl)) (@pss_one _ _ _ (@ps_ret _ _ _ _ (@pe_callTy _ _ _ _ _ _ _ _ _ (@kcall_tuple_of _ K (by rfl)) rfl gb.tuple bt_tuple (@pa_cons _ _ _ _ _ (@pe_comp _ ["whole", "shared"] [none, some 5] _ _ _ _ _ _ _ _ _ _ (by exact (show CompOk ["search", "bottoms", "wholes", "line", "column", "shared", "whole"] (defScope s_shares_by) ["whole", "shared"] [none, some 5] _ from ⟨rfl, by decide +kernel, by decide +kernel, by decide +kernel, by decide +kernel, rfl, by decide +kernel⟩)) rfl (@kpi_list _ K _ _ _ (@pv _ 2 _ _ (by rfl) (by first | exact Or.inl rfl | exact Or.inr (Or.inl rfl) | exact Or.inr (Or.inr rfl)) (by decide) (by decide)) (by rfl)) (fun _ _ _ _ => (@pg_name _ _ 0 _ nd1 rfl (Or.inl rfl) (by first | exact .inl rfl | exact .inr rfl | assumption))) (fun _ _ _ _ => (@pf_nil _)) (fun _ _ _ _ => (@pe_def1 _ _ _ _ _ _ _ _ _ _ _ d_fraction hr (by omega) rfl (@pa_cons _ _ _ _ _ (@pv _ 0 _ _ (by rfl) (by first | exact Or.inl rfl | exact Or.inr (Or.inl rfl) | exact Or.inr (Or.inr rfl)) (by decide) (by decide)) (@pa_cons _ _ _ _ _ (@pv _ 1 _ _ (by rfl) (by first | exact Or.inl rfl | exact Or.inr (Or.inl rfl) | exact Or.inr (Or.inr rfl)) (by decide) (by decide)) (@pa_nil _) (by rfl)) (by rfl)) (by decide) (by rfl) (by rfl))) (by intro _; rfl)) (@pa_nil _) (by rfl)) (by decide) (by decide) (by rfl) (by rfl)))))))), ?_⟩
  have hul := Paired.length h.ro
  have few := hw.few
  have bl := hw.len
  refine ⟨_, rfl, lb, rfl, ⟨_, SqL.of hlb⟩, fun D hD => ?_⟩
  refine comp_lI (cbs.map fun _ => 0) hlb (by rw [List.length_map, List.length_map]) hD (by rw [List.length_map]; omega) (fun i x z H5 Q5 hx hz5 s5 k5 => ?_) (fun H1 s1 hD1 => ?_)
  · rw [List.getElem?_map] at hz5
    obtain ⟨_, _, e5⟩ := Option.map_eq_some_iff.mp hz5
    rw [← e5] at k5
    exact k5
  have ob1 := s1 _ _ h.ob
  refine ⟨_, rfl, a, _, dx, _, .ref lL, rfl, ob1, cl.c_Search, cl.no_lines, rfl, _, rfl, a, _, dx, _, .ref lB, rfl, ob1, cl.c_Search, cl.no_basis, rfl, lL, lB, _, _, rfl, SqL.of (s1 _ _ h.li), SqL.of (s1 _ _ h.ba), ?_⟩
  have w0 : (cbs.map fun _ => (0 : Int)) = whL tab bs wd cbs 0 := by
    refine List.ext_getElem? fun j => ?_
    unfold whL
    by_cases z : j < cbs.length
    · rw [List.getElem?_map, List.getElem?_eq_getElem z, List.getElem?_map, List.getElem?_range z]
      show some _ = some (0 * _)
      rw [Int.zero_mul]
    · rw [List.getElem?_eq_none (by simp; omega), List.getElem?_eq_none (by simp; omega)]
  rw [w0] at hD1
  refine for_zipL (xs := us) (ys := bs.map nV) (n := tab.length) (fun i σ H' => (∃ x3 x4 x5 x6, σ = [some (.ref a), some (.ref lb), some (.ref D), x3, x4, x5, x6]) ∧ Same H H' ∧ H' D = some (.lst ((whL tab bs wd cbs i).map V.int))) (by rw [List.length_map]; omega) ⟨⟨_, _, _, _, rfl⟩, s1, hD1⟩ (fun i σ H' _ h' => ⟨SqL.of (h'.2.1 _ _ h.li), SqL.of (h'.2.1 _ _ h.ba)⟩) ?_ ?_
  · rintro i x y σ H2 T hi hx hy hT ⟨⟨x3, x4, x5, x6, rfl⟩, s2, hD2⟩
    have hbi : bs[i]? = some (bs.getD i 0) := by rw [List.getD_eq_getElem?_getD, List.getElem?_eq_getElem (by omega)]; rfl
    rw [List.getElem?_map, hbi] at hy
    cases hy
    have hti : tab[i]? = some (tab.getD i []) := by rw [List.getD_eq_getElem?_getD, List.getElem?_eq_getElem hi]; rfl
    obtain ⟨p, rfl, hp⟩ := Paired.at h.ro _ _ _ hti hx
    have nT := same_new hT (.tup [.ref p, nV (bs.getD i 0)])
    have s3 := s2.trans nT
    have hlb3 := s3 _ _ hlb
    refine ⟨_, rfl, _, rfl, _, _, rfl, .inl ⟨_, SqL.of hlb3, rfl⟩, _, _, rfl, rfl, _, rfl, ite2 (fun c1 => ?_) (fun c1 => ?_)⟩
    · have lt : bs.getD i 0 < cbs.length := by
        have := of_decide_eq_true c1
        rw [List.length_map] at this
        omega
      obtain ⟨rl, Mr⟩ := hw.at hi
      have ec : atI (cbs.map V.int) ((bs.getD i 0 : Nat) : Int) = some (.int (cbs.getD (bs.getD i 0) 0)) := at_int lt
      have mc : Mid (cbs.getD (bs.getD i 0) 0) := hM _ (by rw [List.getD_eq_getElem?_getD, List.getElem?_eq_getElem lt]; exact List.getElem_mem _)
      have hD3 := nT _ _ hD2
      have ix : ixN ((whL tab bs wd cbs i).map V.int).length ((bs.getD i 0 : Nat) : Int) = some (bs.getD i 0) := by
        unfold ixN
        rw [if_pos (by omega), if_pos (by rw [List.length_map]; unfold whL; rw [List.length_map, List.length_range]; omega), Int.toNat_natCast]
      refine ⟨_, rfl, _, rfl, .inl ⟨p, _, _, _, rfl, rfl, SqL.of (s3 _ _ hp), at_end rl hwd, _, rfl, _, rfl, .inl ⟨lb, _, _, _, rfl, rfl, SqL.of hlb3, ec, _, _, rfl, rfl, ⟨Mr _ (by omega), mc⟩, ?_⟩⟩⟩
      refine ⟨_, rfl, _, rfl, D, _, _, _, rfl, rfl, hD3, ix, ⟨_, _, _, _, rfl⟩, s3.put hD, ?_⟩
      rw [upd_same, ← wh_set lt (fun k hk z => by have := un k i (by omega) hi z; omega), List.map_set]
      rfl
    · have ge : cbs.length ≤ bs.getD i 0 := Nat.le_of_not_lt fun z => c1 (decide_eq_true (by rw [List.length_map]; omega))
      refine ⟨⟨_, _, _, _, rfl⟩, s3, ?_⟩
      rw [wh_skip ge]
      exact nT _ _ hD2
  · rintro σ H2 ⟨⟨x3, x4, x5, x6, rfl⟩, s2, hD2⟩
    refine ⟨_, rfl, D, rfl, ⟨_, SqL.of hD2⟩, ?_⟩
    have wl : (whL tab bs wd cbs tab.length).length = cbs.length := by unfold whL; rw [List.length_map, List.length_range]
    refine for_list (xs := (whL tab bs wd cbs tab.length).map V.int) (fun i σ H' => (∃ x3 x4 x6 s, σ = [some (.ref a), some (.ref lb), some (.ref D), x3, x4, some (.int s), x6] ∧ ((s = 0 ∧ ∀ k w, k < i → (whL tab bs wd cbs tab.length)[k]? = some w → w ≤ 0) ∨ (0 < s ∧ Sz 2834 s ∧ ∀ k w, k < i → (whL tab bs wd cbs tab.length)[k]? = some w → s ∣ w))) ∧ H' = H2) ⟨⟨_, _, _, 0, rfl, .inl ⟨rfl, fun k w hk => absurd hk (Nat.not_lt_zero k)⟩⟩, rfl⟩ (fun i σ H' _ h' => by rw [h'.2]; exact SqL.of hD2) ?_ ?_
    · rintro i x σ H3 hx ⟨⟨x3, x4, x6, s, rfl, hs⟩, rfl⟩
      rw [List.getElem?_map] at hx
      obtain ⟨w, hw9, rfl⟩ := Option.map_eq_some_iff.mp hx
      obtain ⟨jw, hjw, ew⟩ := wh_at (List.mem_of_getElem? hw9)
      obtain ⟨w0', wS⟩ := hN jw hjw
      rw [← ew] at w0' wS
      refine ⟨_, rfl, _, _, rfl, rfl, _, rfl, ite2 (fun c1 => ?_) (fun c1 => ?_)⟩
      · have wp : 0 < w := of_decide_eq_true c1
        refine ⟨_, rfl, _, rfl, _, _, rfl, ⟨_, _, _, _, rfl, .inr ⟨?_, ?_, fun k u hk hu => ?_⟩⟩, rfl⟩
        · have := Int.gcd_pos_of_ne_zero_left s (show w ≠ 0 by omega)
          omega
        · refine wS.le ?_
          have := Nat.le_of_dvd (by omega) (Int.gcd_dvd_natAbs_left w s)
          simpa using this
        · have gw : ((Int.gcd w s : Nat) : Int) ∣ w := Int.gcd_dvd_left w s
          have gs : ((Int.gcd w s : Nat) : Int) ∣ s := Int.gcd_dvd_right w s
          by_cases z : k = i
          · rw [z, hw9] at hu
            cases hu
            exact gw
          · rcases hs with ⟨_, h0⟩ | ⟨_, _, h0⟩
            · obtain ⟨ju, hju, eu⟩ := wh_at (List.mem_of_getElem? hu)
              have h1 := (hN ju hju).1
              have h2 := h0 k u (by omega) hu
              rw [show u = 0 by omega]
              exact Int.dvd_zero _
            · exact Int.dvd_trans gs (h0 k u (by omega) hu)
      · have wn : w ≤ 0 := Int.not_lt.mp fun z => c1 (decide_eq_true z)
        refine ⟨⟨_, _, _, _, rfl, ?_⟩, rfl⟩
        rcases hs with ⟨e0, h0⟩ | ⟨e0, e1, h0⟩
        · refine .inl ⟨e0, fun k u hk hu => ?_⟩
          by_cases z : k = i
          · rw [z, hw9] at hu
            cases hu
            exact wn
          · exact h0 k u (by omega) hu
        · refine .inr ⟨e0, e1, fun k u hk hu => ?_⟩
          by_cases z : k = i
          · rw [z, hw9] at hu
            cases hu
            rw [show w = 0 by omega]
            exact Int.dvd_zero _
          · exact h0 k u (by omega) hu
    · rintro σ H3 ⟨⟨x3, x4, x6, s, rfl, hs⟩, rfl⟩
      rw [List.length_map, wl] at hs
      have at9 : ∀ j, j < cbs.length → (whL tab bs wd cbs tab.length)[j]? = some (whV tab bs wd cbs tab.length j) := fun j hj => by
        unfold whL
        rw [List.getElem?_map, List.getElem?_range hj]
        rfl
      have hs' : 0 < s ∧ Sz 2834 s ∧ ∀ j, j < cbs.length → s ∣ whV tab bs wd cbs tab.length j := by
        rcases hs with ⟨_, h0⟩ | ⟨h1, h2, h0⟩
        · obtain ⟨j, hj, hp⟩ := hP
          have := h0 j _ hj (at9 j hj)
          omega
        · exact ⟨h1, h2, fun j hj => h0 j _ hj (at9 j hj)⟩
      obtain ⟨sp, sS, sd⟩ := hs'
      refine ⟨_, rfl, D, rfl, ⟨_, SqL.of hD2⟩, fun D2 hD2' => ?_⟩
      refine comp_frlh (K := K) (b := 2834) (f := fun w => Rat.divInt w s) hD2 hD2' (by omega) (fun w H4 Q4 hw4 s4 k4 => ?_) (fun zs H4 s4 e4 f4 hE4 => ?_)
      · obtain ⟨j, hj, e5⟩ := wh_at hw4
        have wS := (hN j hj).2
        rw [← e5] at wS
        exact ⟨_, rfl, _, rfl, _, _, rfl, sS.mid (by decide), fun z => absurd z (by omega), fun _ => ansRh k4 rfl (by omega) wS sS⟩
      refine ⟨D2, _, rfl, .inl ⟨SqL.of hE4, fun t ht => ?_⟩⟩
      have n5 := same_new ht (.tup (zs.map Prod.fst))
      refine q t zs _ ((s2.trans s4).trans n5) upd_same (f4.same n5) ⟨s, fun j => whV tab bs wd cbs tab.length j / s, sp, ?_, fun j hj => ⟨Int.ediv_mul_cancel (sd j hj), (hN j hj).2.le ?_⟩⟩
      · rw [e4]
        unfold whL
        rw [List.map_map]
        refine List.map_congr_left fun j hj => ?_
        have hj := List.mem_range.mp hj
        show Rat.divInt _ s = _
        refine (eq_divQ (by omega) ?_).symm
        rw [← Rat.intCast_mul, Int.ediv_mul_cancel (sd j hj)]
      · have h0 := (hN j hj).1
        have h1 := Int.ediv_mul_cancel (sd j hj)
        have h2 : 0 ≤ whV tab bs wd cbs tab.length j / s := Int.ediv_nonneg h0 (Int.le_of_lt sp)
        have h3 : whV tab bs wd cbs tab.length j / s ≤ whV tab bs wd cbs tab.length j / s * s := by
          have := Int.mul_le_mul_of_nonneg_left (show 1 ≤ s by omega) h2
          rw [Int.mul_one] at this
          exact this
        show (whV tab bs wd cbs tab.length j / s).natAbs ≤ _
        omega

abbrev s_point_by : Stmt := top 13
theorem sc_point_by : FnScope ["search", "many", "first", "numbers"] ["search", "many"] (defScope s_point_by) := ⟨rfl, rfl, rfl, by decide +kernel, rfl, by decide +kernel, by decide +kernel⟩
theorem ok_point_by {P : Program} {w : World} {K : PySem.W.Frag} {mg : Str → Option Value} {base : Heap} {f : Addr} {fd : FuncData} (F : Fun K "point_by" "point_by" s_point_by f fd) (gb : Gb mg) {c : Nat → Addr} (cl : Cl K mg c) (d_fraction : Def1 P w K mg base 2 "fraction" ["top", "bottom"] (spFrac (c 1))) : FnOk P w K mg base CX0 3 f fd ["search", "many"] (spPoint K (c 2)) := by
  refine F.ok sc_point_by (fun vs H Q E h => ?_) (fun cdv A outer s H vs Q E hr h => ?_)
  · obtain ⟨a, tab, cs, bs, g, d, dx, lL, lC, lB, us, m, rfl, _⟩ := h
    rfl
  obtain ⟨a, tab, cs, bs, g, d, dx, lL, lC, lB, us, m, rfl, h, htl, hcl, h4, h40, yp, yS, q⟩ := h
  have nd0 : (["cost", "search"] : List Str).Nodup := by decide +kernel
  have nd1 : (["unknown", "numbers", "many"] : List Str).Nodup := by decide +kernel
  refine ⟨_, (@pss_cons _ _ _ _ _ (@ps_set _ _ 2 _ _ _ _ sc_point_by.nd rfl (Or.inl rfl) (@pe_op _ _ _ _ _ _ _ _ (@op_sub _) (@pe_op _ _ _ _ _ _ _ _ (@op_sub _) (@pe_callB _ _ _ _ _ _ _ _ _ (@kcall_len _ K (by rfl)) rfl gb.len bt_len (@pa_cons _ _ _ _ _ (@pe_fld _ _ _ _ _ (@pv _ 0 _ _ (by rfl) (by first | exact Or.inl rfl | exact Or.inr (Or.inl rfl) | exact Or.inr (Or.inr rfl)) (by decide) (by decide)) rfl) (@pa_nil _) (by rfl)) (by decide) (by decide) (by rfl) (by rfl)) (@pe_int _ _ _ _)) (@pe_callB _ _ _ _ _ _ _ _ _ (@kcall_len _ K (by rfl)) rfl gb.len bt_len (@pa_cons _ _ _ _ _ (@pe_fld _ _ _ _ _ (@pv _ 0 _ _ (by rfl) (by first | exact Or.inl rfl | exact Or.inr (Or.inl rfl) | exact Or.inr (Or.inr rfl)) (by decide) (by decide)) rfl) (@pa_nil _) (by rfl)) (by decide) (by decide) (by rfl) (by rfl))) (by rfl) (by first | exact .inl rfl | exact .inr rfl | assumption)) (@pss_cons _ _ _ _ _ (@ps_set _ _ 3 _ _ _ _ sc_point_by.nd rfl (Or.inr rfl) (@pe_comp _ ["cost", "search"] [none, some 0] _ _ _ _ _ _ _ _ _ _ (by exact (show CompOk ["search", "many", "first", "numbers"] (defScope s_point_by) ["cost", "search"] [none, some 0] _ from ⟨rfl, by decide +kernel, by decide +kernel, by decide +kernel, by decide +kernel, rfl, by decide +kernel⟩)) rfl (@kpi_list _ K _ _ _ (@pe_slice _ _ _ _ _ _ _ _ _ _ (@ksl_any _ K (by rfl)) (@pe_fld _ _ _ _ _ (@pv _ 0 _ _ (by rfl) (by first | exact Or.inl rfl | exact Or.inr (Or.inl rfl) | exact Or.inr (Or.inr rfl)) (by decide) (by decide)) rfl) (@po_some _ _ _ (@pv _ 2 _ _ (by rfl) (by first | exact Or.inl rfl | exact Or.inr (Or.inl rfl) | exact Or.inr (Or.inr rfl)) (by decide) (by decide))) (@po_some _ _ _ (@pe_un _ _ _ _ _ _ (@un_neg _) (@pe_int _ _ _ _)))) (by rfl)) (fun _ _ _ _ => (@pg_name _ _ 0 _ nd0 rfl (Or.inl rfl) (by first | exact .inl rfl | exact .inr rfl | assumption))) (fun _ _ _ _ => (@pf_nil _)) (fun _ _ _ _ => (@pe_op _ _ _ _ _ _ _ _ (@op_sub _) (@pv _ 0 _ _ (by rfl) (by first | exact Or.inl rfl | exact Or.inr (Or.inl rfl) | exact Or.inr (Or.inr rfl)) (by decide) (by decide)) (@kpe_fld _ K _ _ _ _ (@pv _ 1 _ _ (by rfl) (by first | exact Or.inl rfl | exact Or.inr (Or.inl rfl) | exact Or.inr (Or.inr rfl)) (by decide) (by decide)) rfl (by rfl)))) (by intro _; rfl)) (by rfl) (by first | exact .inl rfl | exact .inr rfl | assumption)) (@pss_one _ _ _ (@ps_ret _ _ _ _ (@pe_callTy _ _ _ _ _ _ _ _ _ (@kcall_tuple_of _ K (by rfl)) rfl gb.tuple bt_tuple (@pa_cons _ _ _ _ _ (@pe_comp _ ["unknown", "numbers", "many"] [none, some 3, some 1] _ _ _ _ _ _ _ _ _ _ (by exact (show CompOk ["search", "many", "first", "numbers"] (defScope s_point_by) ["unknown", "numbers", "many"] [none, some 3, some 1] _ from ⟨rfl, by decide +kernel, by decide +kernel, by decide +kernel, by decide +kernel, rfl, by decide +kernel⟩)) rfl (@pi_range1 _ _ _ _ _ _ rfl gb.range (@pa_cons _ _ _ _ _ (@pv _ 1 _ _ (by rfl) (by first | exact Or.inl rfl | exact Or.inr (Or.inl rfl) | exact Or.inr (Or.inr rfl)) (by decide) (by decide)) (@pa_nil _) (by rfl)) (by rfl)) (fun _ _ _ _ => (@pg_name _ _ 0 _ nd1 rfl (Or.inl rfl) (by first | exact .inl rfl | exact .inr rfl | assumption))) (fun _ _ _ _ => (@pf_nil _)) (fun _ _ _ _ => (@pe_def1 _ _ _ _ _ _ _ _ _ _ _ d_fraction hr (by omega) rfl (@pa_cons _ _ _ _ _ (@pe_ix _ _ _ _ _ _ _ (@kix_seq _ K (by rfl)) (@pv _ 1 _ _ (by rfl) (by first | exact Or.inl rfl | exact Or.inr (Or.inl rfl) | exact Or.inr (Or.inr rfl)) (by decide) (by decide)) (@pv _ 0 _ _ (by rfl) (by first | exact Or.inl rfl | exact Or.inr (Or.inl rfl) | exact Or.inr (Or.inr rfl)) (by decide) (by decide)) (fun _ _ => rfl)) (@pa_cons _ _ _ _ _ (@pe_ix _ _ _ _ _ _ _ (@kix_seq _ K (by rfl)) (@pv _ 1 _ _ (by rfl) (by first | exact Or.inl rfl | exact Or.inr (Or.inl rfl) | exact Or.inr (Or.inr rfl)) (by decide) (by decide)) (@pv _ 2 _ _ (by rfl) (by first | exact Or.inl rfl | exact Or.inr (Or.inl rfl) | exact Or.inr (Or.inr rfl)) (by decide) (by decide)) (fun _ _ => rfl)) (@pa_nil _) (by rfl)) (by rfl)) (by decide) (by rfl) (by rfl))) (by intro _; rfl)) (@pa_nil _) (by rfl)) (by decide) (by decide) (by rfl) (by rfl)))))), ?_⟩
  have hul := Paired.length h.ro
  refine ⟨_, rfl, a, _, dx, _, .ref lC, rfl, h.ob, cl.c_Search, cl.no_costs, rfl, _, _, rfl, .inl ⟨_, SqL.of h.co, rfl⟩, _, _, rfl, rfl, _, rfl, a, _, dx, _, .ref lL, rfl, h.ob, cl.c_Search, cl.no_lines, rfl, _, _, rfl, .inl ⟨_, SqL.of h.li, rfl⟩, _, _, rfl, rfl, ?_⟩
  have e1 : (((cs.map V.int).length : Nat) : Int) - 1 - ((us.length : Nat) : Int) = (g : Int) := by rw [List.length_map]; omega
  dsimp only
  rw [e1]
  refine ⟨_, rfl, a, _, dx, _, .ref lC, rfl, h.ob, cl.c_Search, cl.no_costs, rfl, _, rfl, _, rfl, _, rfl, _, rfl, .inl ⟨lC, _, rfl, SqL.of h.co, fun p0 hp0 => ?_⟩⟩
  have n0 := same_new hp0 (.lst (cutV (cs.map V.int) (some (g : Int)) (some (-1))))
  rw [cut_mid hcl] at n0 ⊢
  refine ⟨p0, rfl, ⟨_, SqL.of upd_same⟩, fun D hD => ?_⟩
  refine comp_lI ((List.range (m + 2)).map fun k => cs.getD (g + k) 0 - d) upd_same (by simp) hD (by simp; omega) (fun i x z H5 Q5 hx hz5 s5 k5 => ?_) (fun H1 s1 hD1 => ?_)
  · rw [List.getElem?_map, List.getElem?_map] at hx
    rw [List.getElem?_map] at hz5
    obtain ⟨i1, e5, rfl⟩ := Option.map_eq_some_iff.mp hz5
    rw [e5] at hx
    cases hx
    exact ⟨_, rfl, _, rfl, a, _, dx, _, .int d, rfl, s5 _ _ (n0 _ _ h.ob), cl.c_Search, cl.no_scale, rfl, _, _, rfl, rfl, k5⟩
  have at9 : ∀ k, k < m + 2 → atI (((List.range (m + 2)).map fun k => cs.getD (g + k) 0 - d).map V.int) (k : Int) = some (.int (cs.getD (g + k) 0 - d)) := fun k hk => atI_nat (by rw [List.getElem?_map, List.getElem?_map, List.getElem?_range hk]; rfl)
  refine ⟨_, rfl, (m : Int), rfl, by omega, by omega, fun D2 hD2 => ?_⟩
  rw [Int.toNat_natCast]
  refine comp_frn (b := 2485) (fun k => Rat.divInt (cs.getD (g + k) 0 - d) (cs.getD (g + m) 0 - d)) hD2 (by omega) (fun i H4 Q4 hi s4 k4 => ?_) (fun zs H4 s4 e4 f4 hE4 => ?_)
  · have yi := at9 i (by omega)
    rw [← Int.zero_add (i : Int)] at yi
    exact ⟨_, rfl, _, rfl, .inl ⟨D, _, _, _, rfl, rfl, SqL.of (s4 _ _ hD1), yi, _, rfl, _, rfl, .inl ⟨D, _, _, _, rfl, rfl, SqL.of (s4 _ _ hD1), at9 m (by omega), _, _, rfl, (yS m (by omega)).mid (by decide), fun z => absurd z (by omega), fun _ => ansRh k4 rfl (by omega) (yS i (by omega)) (yS m (by omega))⟩⟩⟩
  refine ⟨D2, _, rfl, .inl ⟨SqL.of hE4, fun t ht => ?_⟩⟩
  have n5 := same_new ht (.tup (zs.map Prod.fst))
  exact q t zs _ (((n0.trans s1).trans s4).trans n5) upd_same (f4.same n5) e4

abbrev s_meeting : Stmt := top 9
theorem sc_meeting : FnScope ["rows", "many", "bottoms", "columns", "rest", "search"] ["rows", "many"] (defScope s_meeting) := ⟨rfl, rfl, rfl, by decide +kernel, rfl, by decide +kernel, by decide +kernel⟩
theorem ok_meeting {P : Program} {w : World} {K : PySem.W.Frag} {mg : Str → Option Value} {base : Heap} {f : Addr} {fd : FuncData} (F : Fun K "meeting" "meeting" s_meeting f fd) (gb : Gb mg) {c : Nat → Addr} (cl : Cl K mg c) (d_common_bottom : Def P w K mg base 2 "common_bottom" ["row"] (spBot K)) (d_column_for : Def P w K mg base 2 "column_for" ["row", "bottom"] (spCol K)) (d_shares_by : Def P w K mg base 3 "shares_by" ["search", "bottoms"] (spShares K (c 2))) (d_point_by : Def P w K mg base 3 "point_by" ["search", "many"] (spPoint K (c 2))) (d_Search_init : DefN P w K mg base 1 (c 2) ["self", "columns"] (spInitS (c 2))) (d_Search_run : DefM P w K mg base 3 (c 2) "run" ["self"] (spRun (c 2))) (d_Search_is_found : DefM P w K mg base 1 (c 2) "is_found" ["self"] (spFound (c 2))) : FnOk P w K mg base CX0 4 f fd ["rows", "many"] (spMeet K) := by
  refine F.ok sc_meeting (fun vs H Q E h => ?_) (fun cdv A outer s H vs Q E hr h => ?_)
  · obtain ⟨lr, us, S, m, rfl, _⟩ := h
    rfl
  obtain ⟨lr, us, S, m, rfl, hlr, hp, h4, h36, qM, qU⟩ := h
  have nd0 : (["row"] : List Str).Nodup := by decide +kernel
  have nd1 : (["row", "bottom"] : List Str).Nodup := by decide +kernel
  have nd2 : (["unknown"] : List Str).Nodup := by decide +kernel
  refine ⟨_, (@pss_cons _ _ _ _ _ (@ps_setComp _ ["row"] [none] _ 2 _ _ _ _ _ _ _ _ _ _ _ _ (by exact (show CompOk ["rows", "many", "bottoms", "columns", "rest", "search"] (defScope s_meeting) ["row"] [none] _ from ⟨rfl, by decide +kernel, by decide +kernel, by decide +kernel, by decide +kernel, rfl, by decide +kernel⟩)) rfl (@kpi_list _ K _ _ _ (@pv _ 0 _ _ (by rfl) (by first | exact Or.inl rfl | exact Or.inr (Or.inl rfl) | exact Or.inr (Or.inr rfl)) (by decide) (by decide)) (by rfl)) (fun _ _ _ _ => (@pg_name _ _ 0 _ nd0 rfl (Or.inl rfl) (by first | exact .inl rfl | exact .inr rfl | assumption))) (fun _ _ _ _ => (@pf_nil _)) (fun _ _ _ _ => (@pe_def _ _ _ _ _ _ _ _ _ _ _ d_common_bottom hr (by omega) rfl (@pa_cons _ _ _ _ _ (@pv _ 0 _ _ (by rfl) (by first | exact Or.inl rfl | exact Or.inr (Or.inl rfl) | exact Or.inr (Or.inr rfl)) (by decide) (by decide)) (@pa_nil _) (by rfl)) (by decide) (by rfl) (by rfl))) sc_meeting.nd rfl rfl rfl (by intro _; rfl)) (@pss_cons _ _ _ _ _ (@ps_setComp _ ["row", "bottom"] [none, none] _ 3 _ _ _ _ _ _ _ _ _ _ _ _ (by exact (show CompOk ["rows", "many", "bottoms", "columns", "rest", "search"] (defScope s_meeting) ["row", "bottom"] [none, none] _ from ⟨rfl, by decide +kernel, by decide +kernel, by decide +kernel, by decide +kernel, rfl, by decide +kernel⟩)) rfl (@kpi_zipK _ false K _ _ _ _ _ _ _ _ rfl gb.zip (@pa_cons _ _ _ _ _ (@pv _ 0 _ _ (by rfl) (by first | exact Or.inl rfl | exact Or.inr (Or.inl rfl) | exact Or.inr (Or.inr rfl)) (by decide) (by decide)) (@pa_cons _ _ _ _ _ (@pv _ 2 _ _ (by rfl) (by first | exact Or.inl rfl | exact Or.inr (Or.inl rfl) | exact Or.inr (Or.inr rfl)) (by decide) (by decide)) (@pa_nil _) (by rfl)) (by rfl)) (by rfl) (by rfl) (by rfl)) (fun _ _ _ _ => (@kpg_tup _ K _ _ _ _ 2 rfl (@pgs_cons _ _ _ _ _ (@pg_name _ _ 0 _ nd1 rfl (Or.inl rfl) (by first | exact .inl rfl | exact .inr rfl | assumption)) (@pgs_cons _ _ _ _ _ (@pg_name _ _ 1 _ nd1 rfl (Or.inl rfl) (by first | exact .inl rfl | exact .inr rfl | assumption)) (@pgs_nil _) (by rfl)) (by rfl)) (by rfl) (by rfl) (by rfl))) (fun _ _ _ _ => (@pf_nil _)) (fun _ _ _ _ => (@pe_def _ _ _ _ _ _ _ _ _ _ _ d_column_for hr (by omega) rfl (@pa_cons _ _ _ _ _ (@pv _ 0 _ _ (by rfl) (by first | exact Or.inl rfl | exact Or.inr (Or.inl rfl) | exact Or.inr (Or.inr rfl)) (by decide) (by decide)) (@pa_cons _ _ _ _ _ (@pv _ 1 _ _ (by rfl) (by first | exact Or.inl rfl | exact Or.inr (Or.inl rfl) | exact Or.inr (Or.inr rfl)) (by decide) (by decide)) (@pa_nil _) (by rfl)) (by rfl)) (by decide) (by rfl) (by rfl))) sc_meeting.nd rfl rfl rfl (by intro _; rfl)) (@pss_cons _ _ _ _ _ (@ps_set _ _ 4 _ _ _ _ sc_meeting.nd rfl (Or.inl rfl) (@pe_op _ _ _ _ _ _ _ _ (@op_cat _) (@pe_comp _ ["unknown"] [none] _ _ _ _ _ _ _ _ _ _ (by exact (show CompOk ["rows", "many", "bottoms", "columns", "rest", "search"] (defScope s_meeting) ["unknown"] [none] _ from ⟨rfl, by decide +kernel, by decide +kernel, by decide +kernel, by decide +kernel, rfl, by decide +kernel⟩)) rfl (@pi_range1 _ _ _ _ _ _ rfl gb.range (@pa_cons _ _ _ _ _ (@pv _ 1 _ _ (by rfl) (by first | exact Or.inl rfl | exact Or.inr (Or.inl rfl) | exact Or.inr (Or.inr rfl)) (by decide) (by decide)) (@pa_nil _) (by rfl)) (by rfl)) (fun _ _ _ _ => (@pg_name _ _ 0 _ nd2 rfl (Or.inl rfl) (by first | exact .inl rfl | exact .inr rfl | assumption))) (fun _ _ _ _ => (@pf_nil _)) (fun _ _ _ _ => (@pe_int _ _ _ _)) (by intro _; rfl)) (@pe_lst _ _ _ _ (@pa_cons _ _ _ _ _ (@pe_int _ _ _ _) (@pa_cons _ _ _ _ _ (@pe_int _ _ _ _) (@pa_nil _) (by rfl)) (by rfl)))) (by rfl) (by first | exact .inl rfl | exact .inr rfl | assumption)) (@pss_cons _ _ _ _ _ (@ps_set _ _ 5 _ _ _ _ sc_meeting.nd rfl (Or.inl rfl) (pe_makeN d_Search_init hr (by omega) rfl cl.g_Search (@pa_cons _ _ _ _ _ (@pe_op _ _ _ _ _ _ _ _ (@op_cat _) (@pv _ 3 _ _ (by rfl) (by first | exact Or.inl rfl | exact Or.inr (Or.inl rfl) | exact Or.inr (Or.inr rfl)) (by decide) (by decide)) (@pe_lst _ _ _ _ (@pa_cons _ _ _ _ _ (@pv _ 4 _ _ (by rfl) (by first | exact Or.inl rfl | exact Or.inr (Or.inl rfl) | exact Or.inr (Or.inr rfl)) (by decide) (by decide)) (@pa_nil _) (by rfl)))) (@pa_nil _) (by rfl))) (by rfl) (by first | exact .inl rfl | exact .inr rfl | assumption)) (@pss_cons _ _ _ _ _ (@ps_expr _ _ _ _ (pe_methM0 d_Search_run cl.c_Search hr (by omega) (@pv _ 5 _ _ (by rfl) (by first | exact Or.inl rfl | exact Or.inr (Or.inl rfl) | exact Or.inr (Or.inr rfl)) (by decide) (by decide))) (by rfl)) (@pss_cons _ _ _ _ _ (@ps_if _ _ _ _ _ _ _ _ (@pt_val _ _ _ (pe_methM0 d_Search_is_found cl.c_Search hr (by omega) (@pv _ 5 _ _ (by rfl) (by first | exact Or.inl rfl | exact Or.inr (Or.inl rfl) | exact Or.inr (Or.inr rfl)) (by decide) (by decide))) (by intro _; rfl)) (@pss_one _ _ _ (@ps_ret _ _ _ _ (@pe_tup _ _ _ _ _ (@pa_cons _ _ _ _ _ (@pe_str _ _ _ _) (@pa_cons _ _ _ _ _ (@pe_def _ _ _ _ _ _ _ _ _ _ _ d_shares_by hr (by omega) rfl (@pa_cons _ _ _ _ _ (@pv _ 5 _ _ (by rfl) (by first | exact Or.inl rfl | exact Or.inr (Or.inl rfl) | exact Or.inr (Or.inr rfl)) (by decide) (by decide)) (@pa_cons _ _ _ _ _ (@pv _ 2 _ _ (by rfl) (by first | exact Or.inl rfl | exact Or.inr (Or.inl rfl) | exact Or.inr (Or.inr rfl)) (by decide) (by decide)) (@pa_nil _) (by rfl)) (by rfl)) (by decide) (by rfl) (by rfl)) (@pa_nil _) (by rfl)) (by rfl))))) (@pss_nil _)) (@pss_one _ _ _ (@ps_ret _ _ _ _ (@pe_tup _ _ _ _ _ (@pa_cons _ _ _ _ _ (@pe_str _ _ _ _) (@pa_cons _ _ _ _ _ (@pe_def _ _ _ _ _ _ _ _ _ _ _ d_point_by hr (by omega) rfl (@pa_cons _ _ _ _ _ (@pv _ 5 _ _ (by rfl) (by first | exact Or.inl rfl | exact Or.inr (Or.inl rfl) | exact Or.inr (Or.inr rfl)) (by decide) (by decide)) (@pa_cons _ _ _ _ _ (@pv _ 1 _ _ (by rfl) (by first | exact Or.inl rfl | exact Or.inr (Or.inl rfl) | exact Or.inr (Or.inr rfl)) (by decide) (by decide)) (@pa_nil _) (by rfl)) (by rfl)) (by decide) (by rfl) (by rfl)) (@pa_nil _) (by rfl)) (by rfl))))))))))), ?_⟩
  have hul := Paired.length hp
  have hS : ∀ r ∈ S, r.1.length = m + 1 ∧ RwB r.1 := fun r hr => by
    obtain ⟨u, h1, h2⟩ := pr_mem hp r hr
    exact ⟨h1.len, h2⟩
  obtain ⟨sy, sb, sc⟩ := sys_mk hS
  have G := gvn_mk hS h4 h36
  have al : (alV (coL S) m).length = S.length + 1 := by simp
  refine ⟨_, rfl, lr, rfl, ⟨_, SqL.of hlr⟩, fun D hD => ?_⟩
  refine comp_lIs (cbL S) hlr (by rw [List.length_map]; exact hul) hD (by rw [List.length_map]; omega) (fun i x z H5 Q5 hx hz5 s5 k5 => ?_) (fun H1 s1 hD1 => ?_)
  · rw [List.getElem?_map] at hz5
    obtain ⟨r, hr, rfl⟩ := Option.map_eq_some_iff.mp hz5
    obtain ⟨h1, h2⟩ := Paired.at hp _ _ _ hr hx
    exact ⟨_, rfl, x, r, m, rfl, h1.same s5, h4, h2, k5⟩
  refine ⟨_, rfl, _, rfl, lr, D, _, _, rfl, SqL.of (s1 _ _ hlr), SqL.of hD1, fun D2 hD2 => ?_⟩
  refine comp_zipL (xs := us) (ys := (cbL S).map V.int) (n := S.length) (more := []) (fun i zs H' => Same H1 H' ∧ Paired (fun row u => ∃ p, u = .ref p ∧ H' p = some (.lst (row.map V.int)) ∧ p ≠ D2) ((coL S).take i) zs) (by rw [List.length_map, List.length_map]; omega) ⟨same_new hD2 _, .nil⟩ (fun i zs H' h _ => ⟨SqL.of (h.1 _ _ (s1 _ _ hlr)), SqL.of (h.1 _ _ hD1)⟩) ?_ ?_
  · rintro i zs H2 T u v hu hv hi ⟨s2, hP⟩ hE2 hT
    rw [List.getElem?_map, List.getElem?_map, List.getElem?_eq_getElem hi] at hv
    cases hv
    have hr : S[i]? = some S[i] := List.getElem?_eq_getElem hi
    generalize S[i] = r at *
    obtain ⟨h1, h2⟩ := Paired.at hp _ _ _ hr hu
    have nT := same_new hT (.tup [u, V.int (cbQ (dnQ r.1))])
    refine yes ⟨_, rfl, _, rfl, u, r, m, rfl, ((h1.same s1).same s2).same nT, h4, h2, fun p H3 s3 fp hp3 => ?_⟩
    have hE3 := s3 _ _ (nT _ _ hE2)
    have np : p ≠ D2 := fun z => by
      have := nT _ _ hE2
      rw [← z, fp] at this
      cases this
    have hzl := Paired.length hP
    rw [List.length_take] at hzl
    refine cyes hi ⟨_, _, rfl⟩ hE3 (small1000 (by omega)) ⟨((s2.trans nT).trans s3).put hD2, ?_⟩
    rw [take_snoc (show (coL S)[i]? = some (coQ r.1 (cbQ (dnQ r.1)) r.2) by rw [List.getElem?_map, hr]; rfl)]
    exact pr_app (Paired.mapP hP fun _ _ ⟨p', e, hp', b1⟩ => ⟨p', e, by rw [upd_ne b1]; exact s3 _ _ (nT _ _ hp'), b1⟩) (.cons ⟨p, rfl, by rw [upd_ne np]; exact hp3, np⟩ .nil)
  rintro zs H2 ⟨s2, hP⟩ hE2
  rw [List.take_of_length_le (by rw [List.length_map]; exact Nat.le_refl _)] at hP
  refine ⟨_, rfl, (m : Int), rfl, by omega, by omega, fun D3 hD3 => ?_⟩
  rw [Int.toNat_natCast]
  refine comp_rI (fun _ => 0) hD3 (by omega) (fun o H5 Q5 ho s5 k5 => k5) (fun H3 s3 hD3' => ?_)
  refine ⟨small9 (by show 2 ≤ 1000; decide), fun p1 hp1 => ?_⟩
  have m1 := same_new hp1 (.lst [.int 1, .int 1])
  refine ⟨D3, p1, _, _, rfl, rfl, m1 _ _ hD3', upd_same, ?_, fun p2 hp2 => ?_⟩
  · rw [List.length_map, List.length_map, List.length_range]
    exact small9 (by show m + 2 ≤ 1000; omega)
  have er : ((List.range m).map fun _ => (0 : Int)).map V.int ++ [.int 1, .int 1] = (resV m).map V.int := by
    unfold resV
    rw [List.map_append]
    rfl
  have m2 := same_new hp2 (.lst ((resV m).map V.int))
  rw [er]
  have hp2' := @upd_same (upd H3 p1 (.lst [.int 1, .int 1])) p2 (.lst ((resV m).map V.int))
  have sA := s3.trans (m1.trans m2)
  generalize upd (upd H3 p1 (.lst [.int 1, .int 1])) p2 (.lst ((resV m).map V.int)) = H4 at *
  refine ⟨_, rfl, _, rfl, small9 (by show 1 ≤ 1000; decide), fun p3 hp3 => ?_⟩
  have m3 := same_new hp3 (.lst [.ref p2])
  have hzl := Paired.length hP
  rw [List.length_map] at hzl
  refine ⟨D2, p3, _, _, rfl, rfl, m3 _ _ (sA _ _ hE2), upd_same, small9 (by show zs.length + 1 ≤ 1000; omega), fun p4 hp4 => ?_⟩
  have m4 := same_new hp4 (.lst (zs ++ [.ref p2]))
  have sB := m3.trans m4
  have hp4' := @upd_same (upd H4 p3 (.lst [.ref p2])) p4 (.lst (zs ++ [.ref p2]))
  generalize upd (upd H4 p3 (.lst [.ref p2])) p4 (.lst (zs ++ [.ref p2])) = H5 at *
  intro x dx hx hdx ne
  have sC := (s1.trans s2).trans (sA.trans sB)
  have nw : ∀ {y : Addr} {o : HO}, H5 y = some o → upd (upd H5 dx (.own x)) x (.ins (c 2) dx []) y = some o := fun {y o} hy => by
    rw [upd_ne (fun z => by rw [z, hx] at hy; cases hy), upd_ne (fun z => by rw [z, hdx] at hy; cases hy)]
    exact hy
  refine ⟨x, p4, dx, alV (coL S) m, m + 2, _, rfl, upd_same, nw hp4', ?_, G, fun H7 lL lC lB us7 ex7 fB h7 => ⟨rfl, ?_⟩⟩
  · exact pr_app (Paired.mapP hP fun _ _ ⟨p', e, hp', _⟩ => ⟨p', e, nw (sB _ _ (sA _ _ hp'))⟩) (.cons ⟨p2, rfl, nw (sB _ _ hp2')⟩ .nil)
  refine ⟨_, rfl, x, dx, _, rfl, h7.ob, rfl, x, _, _, dx, lL, lC, lB, us7, rfl, G, h7, fun H8 tab cs bs d lL8 lC8 us8 ex8 h8 t8 o8 hb8 alt => ?_⟩
  have k8 : ∀ {y : Addr} {o : HO}, H5 y = some o → H8 y = some o := fun {y o} hy => by
    have yx : y ≠ x := fun z => by rw [z, hx] at hy; cases hy
    refine ex8 _ _ (ex7 _ _ (nw hy) yx) yx fun z => ?_
    have := nw hy
    rw [z, fB] at this
    cases this
  have s8 : Same H H8 := fun y o hy => k8 (sC _ _ hy)
  rw [al] at hb8 h8 alt
  have tl8 := t8.len
  have cl8 := t8.cl
  rw [al] at cl8
  obtain ⟨W8, _, _⟩ := tabg_wd G t8 o8.len
  rw [al] at W8
  obtain ⟨le1, le2, le3⟩ := tabg_le G t8 o8.len
  rw [al] at le1 le2
  have cw : colV (cdV (alV (coL S) m) (m + 2)) (duV (m + 2)) (S.length + 1 + (m + 2)) (S.length + 1 + (m + 2)) = duV (m + 2) := by
    unfold colV
    rw [if_neg (by omega)]
  have ez : cs.getD (S.length + 1 + (m + 2)) 0 = TblG (alV (coL S) m) (m + 2) bs (m + 2) (duV (m + 2)) := by
    have := t8.co (S.length + 1 + (m + 2)) (by rw [al]; exact Nat.le_refl _)
    rw [al, cw] at this
    exact this
  refine ⟨_, rfl, x, dx, _, rfl, h8.ob, rfl, x, tab, cs.dropLast, cs.getD (S.length + 1 + (m + 2)) 0, bs, _, d, dx, lL8, lC8, lB, us8, rfl, (by rw [← last_cut cl8]; exact h8), _, rfl, ?_⟩
  by_cases z : TblG (alV (coL S) m) (m + 2) bs (m + 2) (duV (m + 2)) = 0
  · rw [decide_eq_true (by rw [ez, z])]
    refine iteT ?_
    obtain ⟨nn, ⟨j0, hj0, hp0⟩, bar⟩ := sy.shares o8 hb8 z
    have un : ∀ i j, i < tab.length → j < tab.length → bs.getD i 0 = bs.getD j 0 → i = j := fun i j hi hj e => o8.unlike (by omega) (by omega) e
    have we : ∀ i, i < m + 2 → enV tab i (S.length + 1 + (m + 2) + 1 - 1) = TblG (alV (coL S) m) (m + 2) bs i (duV (m + 2)) := fun i hi => by
      have := t8.en i (S.length + 1 + (m + 2)) hi (by rw [al]; exact Nat.le_refl _)
      rw [al, cw] at this
      exact this
    have wv : ∀ j, whV tab bs (S.length + 1 + (m + 2) + 1) (cbL S) tab.length j = shV (coL S) m bs j * (cbL S).getD j 0 := fun j => by
      unfold whV
      congr 1
      unfold shV gvV
      rw [tl8]
      refine sm_congr fun i hi => ?_
      show (if bs.getD i 0 = j then enV tab i (S.length + 1 + (m + 2) + 1 - 1) else 0) = (if bs.getD i 0 = j then TblG (alV (coL S) m) (m + 2) bs i (duV (m + 2)) else 0)
      rw [we i hi]
    have cp : ∀ j, j < S.length → 0 < (cbL S).getD j 0 := fun j hj => (sy.row j hj).cp
    have sS : ∀ j, Sz 2484 (shV (coL S) m bs j) := gv_le (fun i j hi hj e => un i j (by omega) (by omega) e) fun i hi => by
      have := le1 i (S.length + 1 + (m + 2)) hi (Nat.le_refl _)
      have e := we i hi
      rw [show S.length + 1 + (m + 2) + 1 - 1 = S.length + 1 + (m + 2) by omega] at e
      rw [e] at this
      exact this
    have cS : ∀ j, j < S.length → Sz 350 ((cbL S).getD j 0) := fun j hj => sc _ (by rw [List.getD_eq_getElem?_getD, List.getElem?_eq_getElem (by rw [List.length_map]; exact hj)]; exact List.getElem_mem _)
    have cl9 : (cbL S).length = S.length := List.length_map ..
    refine ⟨_, rfl, _, rfl, x, D, tab, cs, bs, _, d, dx, lL8, lC8, lB, us8, cbL S, S.length + 1 + (m + 2) + 1, rfl, h8, W8, by omega, k8 (sB _ _ (sA _ _ (s2 _ _ hD1))), by omega, fun y hy => (sc y hy).mid (by decide), un, fun j hj => ?_, ⟨j0, by omega, ?_⟩, fun t9 zs9 H9 s9 ht9 f9 ⟨sh, l, sp, e9, hl9⟩ => ⟨small9 (by show 2 ≤ 1000; decide), fun t ht => ?_⟩⟩
    · rw [wv]
      exact ⟨Int.mul_nonneg (nn j) (Int.le_of_lt (cp j (by omega))), (sS j).mul (cS j (by omega))⟩
    · rw [wv]
      exact Int.mul_pos hp0 (cp j0 hj0)
    · have n9 := same_new ht (.tup [.str "unmet", .ref t9])
      have zl : zs9.length = S.length := by
        have := congrArg List.length e9
        rw [List.length_map, List.length_map, List.length_range, cl9] at this
        exact this
      have at9 : ∀ j, j < S.length → (zs9.map Prod.snd).getD j 0 = ((l j : Int) : Rat) := fun j hj => by rw [e9, cl9, gd_rng hj]
      refine qU t t9 zs9 _ ((s8.trans s9).trans n9) upd_same (n9 _ _ ht9) (f9.same n9) ⟨zl, fun j hj => ⟨l j, at9 j hj, (hl9 j (by omega)).2⟩⟩ (bar sh _ sp fun j hj => ?_)
      rw [at9 j hj, ← wv, ← (hl9 j (by omega)).1, Rat.intCast_mul]
  · rw [decide_eq_false (fun y => z (by have := V.int.inj y; rw [← ez]; exact this))]
    refine iteF ?_
    have alt := alt.resolve_left z
    obtain ⟨yp, met⟩ := sy.point o8 hb8 alt z
    have cg : ∀ k, k < m + 2 → cs.getD (S.length + 1 + k) 0 - d = yV (coL S) m bs k := fun k hk => by
      have e1 := t8.co (S.length + 1 + k) (by rw [al]; omega)
      have e2 : colV (cdV (alV (coL S) m) (m + 2)) (duV (m + 2)) ((alV (coL S) m).length + (m + 2)) (S.length + 1 + k) = unv k := by
        unfold colV cdV
        rw [al, if_pos (by omega), if_neg (by omega), show S.length + 1 + k - (S.length + 1) = k by omega]
      rw [e2] at e1
      rw [e1, t8.sc]
    have yS : ∀ k, k < m + 2 → Sz 2485 (cs.getD (S.length + 1 + k) 0 - d) := fun k hk => Sz.sub (le2 _ (by omega)) le3
    refine ⟨_, rfl, _, rfl, x, tab, cs, bs, _, d, dx, lL8, lC8, lB, us8, m, rfl, h8, tl8, cl8, h4, by omega, by rw [cg m (by omega)]; exact yp, yS, fun t9 zs9 H9 s9 ht9 f9 e9 => ⟨small9 (by show 2 ≤ 1000; decide), fun t ht => ?_⟩⟩
    have n9 := same_new ht (.tup [.str "met", .ref t9])
    have zl : zs9.length = m := by
      have := congrArg List.length e9
      rw [List.length_map, List.length_map, List.length_range] at this
      exact this
    have at9 : ∀ k, k < m → (zs9.map Prod.snd).getD k 0 = Rat.divInt (yV (coL S) m bs k) (yV (coL S) m bs m) := fun k hk => by rw [e9, gd_rng hk, cg k (by omega), cg m (by omega)]
    exact qM t t9 zs9 _ ((s8.trans s9).trans n9) upd_same (n9 _ _ ht9) (f9.same n9) ⟨zl, _, yp, fun k hk => by rw [← cg k (by omega)]; exact yS k (by omega), at9⟩ (met_congr met fun k hk => (at9 k hk).symm)

abbrev s_law_cell : Stmt := top 17
theorem sc_law_cell : FnScope ["_law_script", "_law_k"] ["_law_script", "_law_k"] (defScope s_law_cell) := ⟨rfl, rfl, rfl, by decide +kernel, rfl, by decide +kernel, by decide +kernel⟩
theorem ok_law_cell {P : Program} {w : World} {K : PySem.W.Frag} {mg : Str → Option Value} {base : Heap} {f : Addr} {fd : FuncData} (F : Fun K "_law_cell" "_law_cell" s_law_cell f fd) (gb : Gb mg) {c : Nat → Addr} (cl : Cl K mg c) : FnOk P w K mg base CX0 1 f fd ["_law_script", "_law_k"] (spCell K) := by
  refine F.ok sc_law_cell (fun vs H Q E h => ?_) (fun cdv A outer s H vs Q E hr h => ?_)
  · obtain ⟨a, ns, rfl, _⟩ := h
    rfl
  obtain ⟨a, ns, rfl, hS, q⟩ := h
  refine ⟨_, (@pss_cons _ _ _ _ _ (@ps_if _ _ _ _ _ _ _ _ (@pt_cmpR _ _ _ _ _ _ _ _ (@op_lt _) (@pv _ 1 _ _ (by rfl) (by first | exact Or.inl rfl | exact Or.inr (Or.inl rfl) | exact Or.inr (Or.inr rfl)) (by decide) (by decide)) (@pe_callB _ _ _ _ _ _ _ _ _ (@kcall_len _ K (by rfl)) rfl gb.len bt_len (@pa_cons _ _ _ _ _ (@pv _ 0 _ _ (by rfl) (by first | exact Or.inl rfl | exact Or.inr (Or.inl rfl) | exact Or.inr (Or.inr rfl)) (by decide) (by decide)) (@pa_nil _) (by rfl)) (by decide) (by decide) (by rfl) (by rfl)) (@nomark _ _ (by decide) (by decide))) (@pss_one _ _ _ (@ps_ret _ _ _ _ (@pe_ix _ _ _ _ _ _ _ (@kix_seq _ K (by rfl)) (@pv _ 0 _ _ (by rfl) (by first | exact Or.inl rfl | exact Or.inr (Or.inl rfl) | exact Or.inr (Or.inr rfl)) (by decide) (by decide)) (@pv _ 1 _ _ (by rfl) (by first | exact Or.inl rfl | exact Or.inr (Or.inl rfl) | exact Or.inr (Or.inr rfl)) (by decide) (by decide)) (fun _ _ => rfl)))) (@pss_nil _)) (@pss_one _ _ _ (@ps_ret _ _ _ _ (@pe_int _ _ _ _)))), ?_⟩
  refine ⟨_, rfl, _, rfl, _, _, rfl, .inl ⟨_, hS, rfl⟩, _, _, rfl, rfl, _, rfl, ?_⟩
  refine ite2 (fun c => ?_) (fun c => ?_)
  · have c1 : (0 : Int) < ((ns.map V.int).length : Nat) := of_decide_eq_true c
    have e : ∃ i, (ns.map V.int)[0]? = some (.int i) := by
      cases ns with
      | nil => simp at c1
      | cons m ms => exact ⟨m, rfl⟩
    obtain ⟨i, hi⟩ := e
    exact ⟨_, rfl, _, rfl, .inl ⟨a, _, 0, _, rfl, rfl, hS, atI_nat (j := 0) hi, q i⟩⟩
  · exact q 0

abbrev s_law_strewn : Stmt := top 18
theorem sc_law_strewn : FnScope ["_law_cell_here", "_law_many", "_law_left", "_law_right_here", "_law_found", "_law_k", "_law_number"] ["_law_cell_here", "_law_many"] (defScope s_law_strewn) := ⟨rfl, rfl, rfl, by decide +kernel, rfl, by decide +kernel, by decide +kernel⟩
theorem ok_law_strewn {P : Program} {w : World} {K : PySem.W.Frag} {mg : Str → Option Value} {base : Heap} {f : Addr} {fd : FuncData} (F : Fun K "_law_strewn" "_law_strewn" s_law_strewn f fd) (gb : Gb mg) {c : Nat → Addr} (cl : Cl K mg c) : FnOk P w K mg base CX0 1 f fd ["_law_cell_here", "_law_many"] (spStrewn 70) := by
  refine F.ok sc_law_strewn (fun vs H Q E h => ?_) (fun cdv A outer s H vs Q E hr h => ?_)
  · obtain ⟨c, rfl, _⟩ := h
    rfl
  obtain ⟨c, rfl, q⟩ := h
  refine ⟨_, (@pss_cons _ _ _ _ _ (@ps_set _ _ 2 _ _ _ _ sc_law_strewn.nd rfl (Or.inl rfl) (@pe_op _ _ _ _ _ _ _ _ (@op_add _) (@pe_op _ _ _ _ _ _ _ _ (@op_mod _) (@pv _ 0 _ _ (by rfl) (by first | exact Or.inl rfl | exact Or.inr (Or.inl rfl) | exact Or.inr (Or.inr rfl)) (by decide) (by decide)) (@pe_int _ _ _ _)) (@pe_int _ _ _ _)) (by rfl) (by first | exact .inl rfl | exact .inr rfl | assumption)) (@pss_cons _ _ _ _ _ (@ps_set _ _ 3 _ _ _ _ sc_law_strewn.nd rfl (Or.inl rfl) (@pe_op _ _ _ _ _ _ _ _ (@op_add _) (@pe_op _ _ _ _ _ _ _ _ (@op_mod _) (@pe_op _ _ _ _ _ _ _ _ (@op_fdiv _) (@pv _ 0 _ _ (by rfl) (by first | exact Or.inl rfl | exact Or.inr (Or.inl rfl) | exact Or.inr (Or.inr rfl)) (by decide) (by decide)) (@pe_int _ _ _ _)) (@pe_int _ _ _ _)) (@pe_int _ _ _ _)) (by rfl) (by first | exact .inl rfl | exact .inr rfl | assumption)) (@pss_cons _ _ _ _ _ (@ps_set _ _ 4 _ _ _ _ sc_law_strewn.nd rfl (Or.inl rfl) (@pe_lst _ _ _ _ (@pa_nil _)) (by rfl) (by first | exact .inl rfl | exact .inr rfl | assumption)) (@pss_cons _ _ _ _ _ (@ps_for _ _ _ _ _ _ _ _ PassesOwn.never rfl (@pi_range1 _ _ _ _ _ _ rfl gb.range (@pa_cons _ _ _ _ _ (@pv _ 1 _ _ (by rfl) (by first | exact Or.inl rfl | exact Or.inr (Or.inl rfl) | exact Or.inr (Or.inr rfl)) (by decide) (by decide)) (@pa_nil _) (by rfl)) (by rfl)) (@pg_name _ _ 5 _ sc_law_strewn.nd rfl (Or.inl rfl) (by first | exact .inl rfl | exact .inr rfl | assumption)) (@pss_cons _ _ _ _ _ (@ps_set _ _ 2 _ _ _ _ sc_law_strewn.nd rfl (Or.inl rfl) (@pe_op _ _ _ _ _ _ _ _ (@op_mod _) (@pe_op _ _ _ _ _ _ _ _ (@op_add _) (@pe_op _ _ _ _ _ _ _ _ (@op_add _) (@pe_op _ _ _ _ _ _ _ _ (@op_mul _) (@pv _ 2 _ _ (by rfl) (by first | exact Or.inl rfl | exact Or.inr (Or.inl rfl) | exact Or.inr (Or.inr rfl)) (by decide) (by decide)) (@pe_int _ _ _ _)) (@pv _ 3 _ _ (by rfl) (by first | exact Or.inl rfl | exact Or.inr (Or.inl rfl) | exact Or.inr (Or.inr rfl)) (by decide) (by decide))) (@pe_op _ _ _ _ _ _ _ _ (@op_mul _) (@pe_int _ _ _ _) (@pv _ 5 _ _ (by rfl) (by first | exact Or.inl rfl | exact Or.inr (Or.inl rfl) | exact Or.inr (Or.inr rfl)) (by decide) (by decide)))) (@pe_int _ _ _ _)) (by rfl) (by first | exact .inl rfl | exact .inr rfl | assumption)) (@pss_cons _ _ _ _ _ (@ps_set _ _ 3 _ _ _ _ sc_law_strewn.nd rfl (Or.inl rfl) (@pe_op _ _ _ _ _ _ _ _ (@op_mod _) (@pe_op _ _ _ _ _ _ _ _ (@op_add _) (@pe_op _ _ _ _ _ _ _ _ (@op_add _) (@pe_op _ _ _ _ _ _ _ _ (@op_mul _) (@pv _ 3 _ _ (by rfl) (by first | exact Or.inl rfl | exact Or.inr (Or.inl rfl) | exact Or.inr (Or.inr rfl)) (by decide) (by decide)) (@pe_int _ _ _ _)) (@pe_op _ _ _ _ _ _ _ _ (@op_mul _) (@pe_int _ _ _ _) (@pv _ 2 _ _ (by rfl) (by first | exact Or.inl rfl | exact Or.inr (Or.inl rfl) | exact Or.inr (Or.inr rfl)) (by decide) (by decide)))) (@pe_op _ _ _ _ _ _ _ _ (@op_mul _) (@pv _ 5 _ _ (by rfl) (by first | exact Or.inl rfl | exact Or.inr (Or.inl rfl) | exact Or.inr (Or.inr rfl)) (by decide) (by decide)) (@pv _ 5 _ _ (by rfl) (by first | exact Or.inl rfl | exact Or.inr (Or.inl rfl) | exact Or.inr (Or.inr rfl)) (by decide) (by decide)))) (@pe_int _ _ _ _)) (by rfl) (by first | exact .inl rfl | exact .inr rfl | assumption)) (@pss_cons _ _ _ _ _ (@ps_set _ _ 6 _ _ _ _ sc_law_strewn.nd rfl (Or.inl rfl) (@pe_op _ _ _ _ _ _ _ _ (@op_mod _) (@pe_op _ _ _ _ _ _ _ _ (@op_add _) (@pv _ 2 _ _ (by rfl) (by first | exact Or.inl rfl | exact Or.inr (Or.inl rfl) | exact Or.inr (Or.inr rfl)) (by decide) (by decide)) (@pe_op _ _ _ _ _ _ _ _ (@op_mul _) (@pe_int _ _ _ _) (@pv _ 3 _ _ (by rfl) (by first | exact Or.inl rfl | exact Or.inr (Or.inl rfl) | exact Or.inr (Or.inr rfl)) (by decide) (by decide)))) (@pe_int _ _ _ _)) (by rfl) (by first | exact .inl rfl | exact .inr rfl | assumption)) (@pss_cons _ _ _ _ _ (@ps_if _ _ _ _ _ _ _ _ (@pt_cmpR _ _ _ _ _ _ _ _ (@op_ge _) (@pv _ 0 _ _ (by rfl) (by first | exact Or.inl rfl | exact Or.inr (Or.inl rfl) | exact Or.inr (Or.inr rfl)) (by decide) (by decide)) (@pe_op _ _ _ _ _ _ _ _ (@op_pow _) (@pe_int _ _ _ _) (@pe_int _ _ _ _)) (@nomark _ _ (by decide) (by decide))) (@pss_cons _ _ _ _ _ (@ps_set _ _ 6 _ _ _ _ sc_law_strewn.nd rfl (Or.inl rfl) (@pe_op _ _ _ _ _ _ _ _ (@op_mod _) (@pv _ 0 _ _ (by rfl) (by first | exact Or.inl rfl | exact Or.inr (Or.inl rfl) | exact Or.inr (Or.inr rfl)) (by decide) (by decide)) (@pe_op _ _ _ _ _ _ _ _ (@op_pow _) (@pe_int _ _ _ _) (@pe_int _ _ _ _))) (by rfl) (by first | exact .inl rfl | exact .inr rfl | assumption)) (@pss_one _ _ _ (@ps_set _ _ 0 _ _ _ _ sc_law_strewn.nd rfl (Or.inl rfl) (@pe_op _ _ _ _ _ _ _ _ (@op_fdiv _) (@pv _ 0 _ _ (by rfl) (by first | exact Or.inl rfl | exact Or.inr (Or.inl rfl) | exact Or.inr (Or.inr rfl)) (by decide) (by decide)) (@pe_op _ _ _ _ _ _ _ _ (@op_pow _) (@pe_int _ _ _ _) (@pe_int _ _ _ _))) (by rfl) (by first | exact .inl rfl | exact .inr rfl | assumption)))) (@pss_nil _)) (@pss_one _ _ _ (@ps_expr _ _ _ _ (@kpe_bm _ K _ _ _ _ _ _ _ _ _ _ _ PySem.F.plainAttrs_list PySem.F.slot_list_append PySem.F.type_list_append (@mt_append _) (@pv _ 4 _ _ (by rfl) (by first | exact Or.inl rfl | exact Or.inr (Or.inl rfl) | exact Or.inr (Or.inr rfl)) (by decide) (by decide)) (@pa_cons _ _ _ _ _ (@pv _ 6 _ _ (by rfl) (by first | exact Or.inl rfl | exact Or.inr (Or.inl rfl) | exact Or.inr (Or.inr rfl)) (by decide) (by decide)) (@pa_nil _) (by rfl)) (by rfl) (by rfl) (by rfl) (by rfl) (by rfl) (by rfl)) (by rfl))))))) (by intro _; rfl)) (@pss_one _ _ _ (@ps_ret _ _ _ _ (@pv _ 4 _ _ (by rfl) (by first | exact Or.inl rfl | exact Or.inr (Or.inl rfl) | exact Or.inr (Or.inr rfl)) (by decide) (by decide)))))))), ?_⟩
  walk_at "rd"
  refine ⟨small9 (by show 0 ≤ 1000; decide), fun p hp => ?_⟩
  refine ⟨_, rfl, 70, rfl, by decide, by decide, ?_⟩
  refine for_range (fun i σ H' => ∃ (cc l r : Int) (xk xn : Option V) (ys : List Int), σ = [some (.int cc), some (nV 70), some (.int l), some (.int r), some (.ref p), xk, xn] ∧ 0 ≤ l ∧ l < 2147483648 ∧ 0 ≤ r ∧ r < 2147483648 ∧ (Same H H' ∧ H' p = some (.lst (ys.map V.int))) ∧ ys.length = i ∧ ∀ y ∈ ys, 0 ≤ y ∧ y < 1000000000) ⟨_, _, _, _, _, [], rfl, by omega, by omega, by omega, by omega, ⟨same_new hp _, upd_same⟩, rfl, fun y hy => by cases hy⟩ ?_ ?_
  · rintro i σ H' hi ⟨cc, l, r, xk, xn, ys, rfl, l0, l1, r0, r1, ⟨s1, h1⟩, hl, hy⟩
    have e9 : (10 : Int) ^ (9 : Int).toNat = 1000000000 := by decide
    have snoc : ∀ num : Int, 0 ≤ num → num < 1000000000 → ∀ y ∈ ys ++ [num], 0 ≤ y ∧ y < 1000000000 := fun num a b y h => by
      rcases List.mem_append.mp h with h | h
      · exact hy y h
      · rw [List.mem_singleton.mp h]
        exact ⟨a, b⟩
    have hi12 : i < 70 := hi
    walk_at "rd"
    refine ite2 (fun c1 => ?_) (fun c1 => ?_)
    · refine ⟨_, rfl, _, _, rfl, rfl, ⟨by decide, by decide, by decide⟩, _, _, rfl, rfl, (show (0 : Int) < 10 ^ (9 : Int).toNat by decide), ?_⟩
      refine ⟨_, rfl, _, _, rfl, rfl, ⟨by decide, by decide, by decide⟩, _, _, rfl, rfl, (show CDiv _ (10 ^ (9 : Int).toNat) from ⟨by decide, by decide⟩), ?_⟩
      refine ⟨_, rfl, .inl ⟨rfl, _, SqL.of h1⟩, _, rfl, p, _, _, rfl, rfl, h1, small1000 (by rw [List.length_map]; omega), ?_⟩
      refine ⟨_, _, _, _, _, ys ++ [cc % 10 ^ (9 : Int).toNat], rfl, by omega, by omega, by omega, by omega, ⟨s1.put hp, by rw [upd_same, List.map_append]; rfl⟩, by rw [List.length_append, hl]; rfl, snoc _ (by rw [e9]; omega) (by rw [e9]; omega)⟩
    · refine ⟨_, rfl, .inl ⟨rfl, _, SqL.of h1⟩, _, rfl, p, _, _, rfl, rfl, h1, small1000 (by rw [List.length_map]; omega), ?_⟩
      refine ⟨_, _, _, _, _, ys ++ [_], rfl, by omega, by omega, by omega, by omega, ⟨s1.put hp, by rw [upd_same, List.map_append]; rfl⟩, by rw [List.length_append, hl]; rfl, snoc _ (by omega) (by omega)⟩
  · rintro σ H' ⟨cc, l, r, xk, xn, ys, rfl, l0, l1, r0, r1, ⟨s1, h1⟩, hl, hy⟩
    exact ⟨_, rfl, q p ys _ s1 h1 hl hy⟩

abbrev s_law_share : Stmt := top 19
theorem sc_law_share : FnScope ["_law_one", "_law_other"] ["_law_one", "_law_other"] (defScope s_law_share) := ⟨rfl, rfl, rfl, by decide +kernel, rfl, by decide +kernel, by decide +kernel⟩
theorem ok_law_share {P : Program} {w : World} {K : PySem.W.Frag} {mg : Str → Option Value} {base : Heap} {f : Addr} {fd : FuncData} (F : Fun K "_law_share" "_law_share" s_law_share f fd) (gb : Gb mg) {c : Nat → Addr} (cl : Cl K mg c) : FnOk P w K mg base CX0 1 f fd ["_law_one", "_law_other"] spGcd := by
  refine F.ok sc_law_share (fun vs H Q E h => ?_) (fun cdv A outer s H vs Q E hr h => ?_)
  · obtain ⟨a, b, rfl, _⟩ := h
    rfl
  obtain ⟨a, b, rfl, b0, q⟩ := h
  refine ⟨_, (@pss_cons _ _ _ _ _ (@ps_while _ _ _ _ _ _ PassesOwn.never (@pt_cmpR _ _ _ _ _ _ _ _ (@op_ne _) (@pv _ 1 _ _ (by rfl) (by first | exact Or.inl rfl | exact Or.inr (Or.inl rfl) | exact Or.inr (Or.inr rfl)) (by decide) (by decide)) (@pe_int _ _ _ _) (@nomark _ _ (by decide) (by decide))) (@pss_one _ _ _ (@ps_par _ _ 0 1 _ _ _ _ _ _ _ _ _ _ _ rfl sc_law_share.nd rfl rfl (by decide) rfl rfl (@pa_cons _ _ _ _ _ (@pv _ 1 _ _ (by rfl) (by first | exact Or.inl rfl | exact Or.inr (Or.inl rfl) | exact Or.inr (Or.inr rfl)) (by decide) (by decide)) (@pa_cons _ _ _ _ _ (@pe_op _ _ _ _ _ _ _ _ (@op_mod _) (@pv _ 0 _ _ (by rfl) (by first | exact Or.inl rfl | exact Or.inr (Or.inl rfl) | exact Or.inr (Or.inr rfl)) (by decide) (by decide)) (@pv _ 1 _ _ (by rfl) (by first | exact Or.inl rfl | exact Or.inr (Or.inl rfl) | exact Or.inr (Or.inr rfl)) (by decide) (by decide))) (@pa_nil _) (by rfl)) (by rfl)) rfl (by rfl)))) (@pss_one _ _ _ (@ps_ret _ _ _ _ (@pe_callB _ _ _ _ _ _ _ _ _ (@call_abs _) rfl gb.abs bt_abs (@pa_cons _ _ _ _ _ (@pv _ 0 _ _ (by rfl) (by first | exact Or.inl rfl | exact Or.inr (Or.inl rfl) | exact Or.inr (Or.inr rfl)) (by decide) (by decide)) (@pa_nil _) (by rfl)) (by decide) (by decide) (by rfl) (by rfl))))), ?_⟩
  refine while_by (fun σ H' => H' = H ∧ ∃ l s : Int, σ = [some (.int l), some (.int s)] ∧ 0 ≤ s ∧ Int.gcd l s = Int.gcd a b)
    (fun σ _ => match σ with | [_, some (.int s)] => s.toNat | _ => 0) ⟨rfl, _, _, rfl, b0, rfl⟩ ?_ (fun _ _ _ _ k ⟨v, e, c, d, f, q⟩ => ⟨v, e, c, d, f, k _ _ q⟩)
  rintro σ H' ⟨rfl, l, s, rfl, s0, hg⟩
  refine ⟨_, rfl, rfl, _, rfl, ?_⟩
  refine ite2 (fun c => ?_) (fun c => ?_)
  · have sn : s ≠ 0 := fun z => by rw [z] at c; simp at c
    have sp : 0 < s := by omega
    refine ⟨_, rfl, _, rfl, _, rfl, _, _, rfl, rfl, sp, _, _, rfl, ⟨rfl, _, _, rfl, Int.emod_nonneg _ (by omega), ?_⟩, ?_⟩
    · rw [← hg]
      exact Fr.gcd_step' l s sp
    · show (l % s).toNat < s.toNat
      have h1 := Int.emod_lt_of_pos l sp
      have h2 := Int.emod_nonneg l (show s ≠ 0 by omega)
      omega
  · have sz : s = 0 := Classical.byContradiction fun z => c (by simp [z])
    refine ⟨_, rfl, l, rfl, ?_⟩
    have el : (if l < 0 then -l else l) = (Int.gcd a b : Int) := by
      rw [← hg, sz]
      simp
      split <;> omega
    rw [el]
    exact q

abbrev s_law_lowest : Stmt := top 20
theorem sc_law_lowest : FnScope ["_law_top", "_law_bottom", "_law_share_here"] ["_law_top", "_law_bottom"] (defScope s_law_lowest) := ⟨rfl, rfl, rfl, by decide +kernel, rfl, by decide +kernel, by decide +kernel⟩
theorem ok_law_lowest {P : Program} {w : World} {K : PySem.W.Frag} {mg : Str → Option Value} {base : Heap} {f : Addr} {fd : FuncData} (F : Fun K "_law_lowest" "_law_lowest" s_law_lowest f fd) (gb : Gb mg) {c : Nat → Addr} (cl : Cl K mg c) (d_law_share : Def P w K mg base 1 "_law_share" ["_law_one", "_law_other"] spGcd) : FnOk P w K mg base CX0 2 f fd ["_law_top", "_law_bottom"] (spLow K) := by
  refine F.ok sc_law_lowest (fun vs H Q E h => ?_) (fun cdv A outer s H vs Q E hr h => ?_)
  · obtain ⟨t, b, n, rfl, _⟩ := h
    rfl
  obtain ⟨t, b, n, rfl, b0, st, sb, hn, q⟩ := h
  refine ⟨_, (@pss_cons _ _ _ _ _ (@ps_set _ _ 2 _ _ _ _ sc_law_lowest.nd rfl (Or.inl rfl) (@pe_def _ _ _ _ _ _ _ _ _ _ _ d_law_share hr (by omega) rfl (@pa_cons _ _ _ _ _ (@pv _ 0 _ _ (by rfl) (by first | exact Or.inl rfl | exact Or.inr (Or.inl rfl) | exact Or.inr (Or.inr rfl)) (by decide) (by decide)) (@pa_cons _ _ _ _ _ (@pv _ 1 _ _ (by rfl) (by first | exact Or.inl rfl | exact Or.inr (Or.inl rfl) | exact Or.inr (Or.inr rfl)) (by decide) (by decide)) (@pa_nil _) (by rfl)) (by rfl)) (by decide) (by rfl) (by rfl)) (by rfl) (by first | exact .inl rfl | exact .inr rfl | assumption)) (@pss_one _ _ _ (@ps_ret _ _ _ _ (@pe_tup _ _ _ _ _ (@pa_cons _ _ _ _ _ (@pe_op _ _ _ _ _ _ _ _ (@op_fdivM _) (@pv _ 0 _ _ (by rfl) (by first | exact Or.inl rfl | exact Or.inr (Or.inl rfl) | exact Or.inr (Or.inr rfl)) (by decide) (by decide)) (@pv _ 2 _ _ (by rfl) (by first | exact Or.inl rfl | exact Or.inr (Or.inl rfl) | exact Or.inr (Or.inr rfl)) (by decide) (by decide))) (@pa_cons _ _ _ _ _ (@pe_op _ _ _ _ _ _ _ _ (@op_fdivM _) (@pv _ 1 _ _ (by rfl) (by first | exact Or.inl rfl | exact Or.inr (Or.inl rfl) | exact Or.inr (Or.inr rfl)) (by decide) (by decide)) (@pv _ 2 _ _ (by rfl) (by first | exact Or.inl rfl | exact Or.inr (Or.inl rfl) | exact Or.inr (Or.inr rfl)) (by decide) (by decide))) (@pa_nil _) (by rfl)) (by rfl)))))), ?_⟩
  obtain ⟨f1, f2, f3, f4, f5, f6, f7⟩ := Fr.frac (t := t) (show b ≠ 0 by omega)
  obtain ⟨e1, e2, g6, g7⟩ := Fr.fracR (t := t) (show b ≠ 0 by omega)
  have sg : Fr.sg t b = (Int.gcd t b : Int) := by
    unfold Fr.sg
    rw [if_pos b0]
  rw [sg] at f1 f2 f3 f4 f5 f6 f7 e1 e2
  refine ⟨_, rfl, _, rfl, t, b, rfl, Int.le_of_lt b0, ?_⟩
  have mg : Mid (Int.gcd t b : Int) := (sb.le f5).mid hn
  refine ⟨_, rfl, _, rfl, _, _, rfl, rfl, ⟨f1, mg⟩, _, rfl, _, rfl, _, _, rfl, rfl, ⟨f1, mg⟩, small9 (by show 2 ≤ 1000; decide), fun w hw => ?_⟩
  dsimp only
  rw [e1, e2]
  exact q _ _ (same_new hw _) (FR.new (st.le g6) (sb.le g7))

abbrev s_law_sum : Stmt := top 21
theorem sc_law_sum : FnScope ["_law_one", "_law_other"] ["_law_one", "_law_other"] (defScope s_law_sum) := ⟨rfl, rfl, rfl, by decide +kernel, rfl, by decide +kernel, by decide +kernel⟩
theorem ok_law_sum {P : Program} {w : World} {K : PySem.W.Frag} {mg : Str → Option Value} {base : Heap} {f : Addr} {fd : FuncData} (F : Fun K "_law_sum" "_law_sum" s_law_sum f fd) (gb : Gb mg) {c : Nat → Addr} (cl : Cl K mg c) (d_law_lowest : Def P w K mg base 2 "_law_lowest" ["_law_top", "_law_bottom"] (spLow K)) : FnOk P w K mg base CX0 3 f fd ["_law_one", "_law_other"] (spR K (fun r s => r + s)) := by
  refine F.ok sc_law_sum (fun vs H Q E h => ?_) (fun cdv A outer s H vs Q E hr h => ?_)
  · obtain ⟨a, b, r, s, n, m, rfl, _⟩ := h
    rfl
  obtain ⟨_, _, r, s, n, m, rfl, ⟨pa, rfl, ha, sx, sy⟩, ⟨pb, rfl, hb, su, sv⟩, hn, q⟩ := h
  refine ⟨_, (@pss_one _ _ _ (@ps_ret _ _ _ _ (@pe_def _ _ _ _ _ _ _ _ _ _ _ d_law_lowest hr (by omega) rfl (@pa_cons _ _ _ _ _ (@pe_op _ _ _ _ _ _ _ _ (@op_add _) (@pe_op _ _ _ _ _ _ _ _ (@op_mulM _) (@pe_ix _ _ _ _ _ _ _ (@kix_seq _ K (by rfl)) (@pv _ 0 _ _ (by rfl) (by first | exact Or.inl rfl | exact Or.inr (Or.inl rfl) | exact Or.inr (Or.inr rfl)) (by decide) (by decide)) (@pe_int _ _ _ _) (fun _ _ => rfl)) (@pe_ix _ _ _ _ _ _ _ (@kix_seq _ K (by rfl)) (@pv _ 1 _ _ (by rfl) (by first | exact Or.inl rfl | exact Or.inr (Or.inl rfl) | exact Or.inr (Or.inr rfl)) (by decide) (by decide)) (@pe_int _ _ _ _) (fun _ _ => rfl))) (@pe_op _ _ _ _ _ _ _ _ (@op_mulM _) (@pe_ix _ _ _ _ _ _ _ (@kix_seq _ K (by rfl)) (@pv _ 1 _ _ (by rfl) (by first | exact Or.inl rfl | exact Or.inr (Or.inl rfl) | exact Or.inr (Or.inr rfl)) (by decide) (by decide)) (@pe_int _ _ _ _) (fun _ _ => rfl)) (@pe_ix _ _ _ _ _ _ _ (@kix_seq _ K (by rfl)) (@pv _ 0 _ _ (by rfl) (by first | exact Or.inl rfl | exact Or.inr (Or.inl rfl) | exact Or.inr (Or.inr rfl)) (by decide) (by decide)) (@pe_int _ _ _ _) (fun _ _ => rfl)))) (@pa_cons _ _ _ _ _ (@pe_op _ _ _ _ _ _ _ _ (@op_mulM _) (@pe_ix _ _ _ _ _ _ _ (@kix_seq _ K (by rfl)) (@pv _ 0 _ _ (by rfl) (by first | exact Or.inl rfl | exact Or.inr (Or.inl rfl) | exact Or.inr (Or.inr rfl)) (by decide) (by decide)) (@pe_int _ _ _ _) (fun _ _ => rfl)) (@pe_ix _ _ _ _ _ _ _ (@kix_seq _ K (by rfl)) (@pv _ 1 _ _ (by rfl) (by first | exact Or.inl rfl | exact Or.inr (Or.inl rfl) | exact Or.inr (Or.inr rfl)) (by decide) (by decide)) (@pe_int _ _ _ _) (fun _ _ => rfl))) (@pa_nil _) (by rfl)) (by rfl)) (by decide) (by rfl) (by rfl)))), ?_⟩
  refine ⟨_, rfl, .inr (.inl ⟨pa, _, 0, _, rfl, rfl, ha, rfl, _, rfl, .inr (.inl ⟨pb, _, 1, _, rfl, rfl, hb, rfl, _, _, rfl, rfl, ⟨(sx.mid (by omega)), (sv.mid (by omega))⟩, _, rfl, .inr (.inl ⟨pb, _, 0, _, rfl, rfl, hb, rfl, _, rfl, .inr (.inl ⟨pa, _, 1, _, rfl, rfl, ha, rfl, _, _, rfl, rfl, ⟨(su.mid (by omega)), (sy.mid (by omega))⟩, _, _, rfl, rfl, _, rfl, .inr (.inl ⟨pa, _, 1, _, rfl, rfl, ha, rfl, _, rfl, .inr (.inl ⟨pb, _, 1, _, rfl, rfl, hb, rfl, _, _, rfl, rfl, ⟨(sy.mid (by omega)), (sv.mid (by omega))⟩, _, _, n + m + 1, rfl, Int.mul_pos (Fr.denp r) (Fr.denp s), (((sx.mul sv).mono (show n + m ≤ n + m by omega)).add ((su.mul sy).mono (show m + n ≤ n + m by omega))), ((sy.mul sv).mono (by omega)), by omega, fun v H1 s1 f1 => q v H1 s1 (by rw [Fr.ratadd r s] at f1; exact f1)⟩)⟩)⟩)⟩)⟩)⟩)⟩

abbrev s_law_product : Stmt := top 22
theorem sc_law_product : FnScope ["_law_one", "_law_other"] ["_law_one", "_law_other"] (defScope s_law_product) := ⟨rfl, rfl, rfl, by decide +kernel, rfl, by decide +kernel, by decide +kernel⟩
theorem ok_law_product {P : Program} {w : World} {K : PySem.W.Frag} {mg : Str → Option Value} {base : Heap} {f : Addr} {fd : FuncData} (F : Fun K "_law_product" "_law_product" s_law_product f fd) (gb : Gb mg) {c : Nat → Addr} (cl : Cl K mg c) (d_law_lowest : Def P w K mg base 2 "_law_lowest" ["_law_top", "_law_bottom"] (spLow K)) : FnOk P w K mg base CX0 3 f fd ["_law_one", "_law_other"] (spR K (fun r s => r * s)) := by
  refine F.ok sc_law_product (fun vs H Q E h => ?_) (fun cdv A outer s H vs Q E hr h => ?_)
  · obtain ⟨a, b, r, s, n, m, rfl, _⟩ := h
    rfl
  obtain ⟨_, _, r, s, n, m, rfl, ⟨pa, rfl, ha, sx, sy⟩, ⟨pb, rfl, hb, su, sv⟩, hn, q⟩ := h
  refine ⟨_, (@pss_one _ _ _ (@ps_ret _ _ _ _ (@pe_def _ _ _ _ _ _ _ _ _ _ _ d_law_lowest hr (by omega) rfl (@pa_cons _ _ _ _ _ (@pe_op _ _ _ _ _ _ _ _ (@op_mulM _) (@pe_ix _ _ _ _ _ _ _ (@kix_seq _ K (by rfl)) (@pv _ 0 _ _ (by rfl) (by first | exact Or.inl rfl | exact Or.inr (Or.inl rfl) | exact Or.inr (Or.inr rfl)) (by decide) (by decide)) (@pe_int _ _ _ _) (fun _ _ => rfl)) (@pe_ix _ _ _ _ _ _ _ (@kix_seq _ K (by rfl)) (@pv _ 1 _ _ (by rfl) (by first | exact Or.inl rfl | exact Or.inr (Or.inl rfl) | exact Or.inr (Or.inr rfl)) (by decide) (by decide)) (@pe_int _ _ _ _) (fun _ _ => rfl))) (@pa_cons _ _ _ _ _ (@pe_op _ _ _ _ _ _ _ _ (@op_mulM _) (@pe_ix _ _ _ _ _ _ _ (@kix_seq _ K (by rfl)) (@pv _ 0 _ _ (by rfl) (by first | exact Or.inl rfl | exact Or.inr (Or.inl rfl) | exact Or.inr (Or.inr rfl)) (by decide) (by decide)) (@pe_int _ _ _ _) (fun _ _ => rfl)) (@pe_ix _ _ _ _ _ _ _ (@kix_seq _ K (by rfl)) (@pv _ 1 _ _ (by rfl) (by first | exact Or.inl rfl | exact Or.inr (Or.inl rfl) | exact Or.inr (Or.inr rfl)) (by decide) (by decide)) (@pe_int _ _ _ _) (fun _ _ => rfl))) (@pa_nil _) (by rfl)) (by rfl)) (by decide) (by rfl) (by rfl)))), ?_⟩
  refine ⟨_, rfl, .inr (.inl ⟨pa, _, 0, _, rfl, rfl, ha, rfl, _, rfl, .inr (.inl ⟨pb, _, 0, _, rfl, rfl, hb, rfl, _, _, rfl, rfl, ⟨(sx.mid (by omega)), (su.mid (by omega))⟩, _, rfl, .inr (.inl ⟨pa, _, 1, _, rfl, rfl, ha, rfl, _, rfl, .inr (.inl ⟨pb, _, 1, _, rfl, rfl, hb, rfl, _, _, rfl, rfl, ⟨(sy.mid (by omega)), (sv.mid (by omega))⟩, _, _, n + m + 1, rfl, Int.mul_pos (Fr.denp r) (Fr.denp s), ((sx.mul su).mono (by omega)), ((sy.mul sv).mono (by omega)), by omega, fun v H1 s1 f1 => q v H1 s1 (by rw [Fr.ratmul r s] at f1; exact f1)⟩)⟩)⟩)⟩)⟩

abbrev s_law_is_number : Stmt := top 23
theorem sc_law_is_number : FnScope ["_law_found"] ["_law_found"] (defScope s_law_is_number) := ⟨rfl, rfl, rfl, by decide +kernel, rfl, by decide +kernel, by decide +kernel⟩
theorem ok_law_is_number {P : Program} {w : World} {K : PySem.W.Frag} {mg : Str → Option Value} {base : Heap} {f : Addr} {fd : FuncData} (F : Fun K "_law_is_number" "_law_is_number" s_law_is_number f fd) (gb : Gb mg) {c : Nat → Addr} (cl : Cl K mg c) : FnOk P w K mg base CX0 1 f fd ["_law_found"] spWhole := by
  refine F.ok sc_law_is_number (fun vs H Q E h => ?_) (fun cdv A outer s H vs Q E hr h => ?_)
  · obtain ⟨i, rfl, _⟩ := h
    rfl
  obtain ⟨i, rfl, q⟩ := h
  refine ⟨_, (@pss_one _ _ _ (@ps_ret _ _ _ _ (@pe_and _ _ _ _ _ _ _ (@pe_callB _ _ _ _ _ _ _ _ _ (@kcall_isiT _ K (by rfl)) rfl gb.isinstance bt_isinstance (@pa_cons _ _ _ _ _ (@pv _ 0 _ _ (by rfl) (by first | exact Or.inl rfl | exact Or.inr (Or.inl rfl) | exact Or.inr (Or.inr rfl)) (by decide) (by decide)) (@pa_cons _ _ _ _ _ (@pe_bltn _ _ (.ty "int") _ _ rfl gb.int bt_int rfl (by decide) (by decide)) (@pa_nil _) (by rfl)) (by rfl)) (by decide) (by decide) (by rfl) (by rfl)) (@pe_one _ _ _ _ _ (@pe_not _ _ _ _ (@pe_callB _ _ _ _ _ _ _ _ _ (@kcall_isiT _ K (by rfl)) rfl gb.isinstance bt_isinstance (@pa_cons _ _ _ _ _ (@pv _ 0 _ _ (by rfl) (by first | exact Or.inl rfl | exact Or.inr (Or.inl rfl) | exact Or.inr (Or.inr rfl)) (by decide) (by decide)) (@pa_cons _ _ _ _ _ (@pe_bltn _ _ (.ty "bool") _ _ rfl gb.bool bt_bool rfl (by decide) (by decide)) (@pa_nil _) (by rfl)) (by rfl)) (by decide) (by decide) (by rfl) (by rfl))))))), ?_⟩
  refine ⟨_, rfl, _, _, _, true, rfl, .int _, kit_same "int", true, rfl, iteT ?_⟩
  exact ⟨_, rfl, _, _, _, false, rfl, .int _, kit_int_bool, false, rfl, q⟩

abbrev s_law_is_fraction : Stmt := top 24
theorem sc_law_is_fraction : FnScope ["_law_found"] ["_law_found"] (defScope s_law_is_fraction) := ⟨rfl, rfl, rfl, by decide +kernel, rfl, by decide +kernel, by decide +kernel⟩
theorem ok_law_is_fraction {P : Program} {w : World} {K : PySem.W.Frag} {mg : Str → Option Value} {base : Heap} {f : Addr} {fd : FuncData} (F : Fun K "_law_is_fraction" "_law_is_fraction" s_law_is_fraction f fd) (gb : Gb mg) {c : Nat → Addr} (cl : Cl K mg c) (d_law_is_number : Def P w K mg base 1 "_law_is_number" ["_law_found"] spWhole) (d_law_share : Def P w K mg base 1 "_law_share" ["_law_one", "_law_other"] spGcd) : FnOk P w K mg base CX0 2 f fd ["_law_found"] spIsFr := by
  refine F.ok sc_law_is_fraction (fun vs H Q E h => ?_) (fun cdv A outer s H vs Q E hr h => ?_)
  · obtain ⟨v, r, b, rfl, _⟩ := h
    rfl
  obtain ⟨v, r, b, rfl, hv, q⟩ := h
  refine ⟨_, (@pss_cons _ _ _ _ _ (@ps_if _ _ _ _ _ _ _ _ (@PW.pt _ _ _ (@pw_or _ _ _ _ _ _ _ (@pt_not _ _ _ _ (@pt_val _ _ _ (@pe_callB _ _ _ _ _ _ _ _ _ (@kcall_isiT _ K (by rfl)) rfl gb.isinstance bt_isinstance (@pa_cons _ _ _ _ _ (@pv _ 0 _ _ (by rfl) (by first | exact Or.inl rfl | exact Or.inr (Or.inl rfl) | exact Or.inr (Or.inr rfl)) (by decide) (by decide)) (@pa_cons _ _ _ _ _ (@pe_bltn _ _ (.ty "tuple") _ _ rfl gb.tuple bt_tuple rfl (by decide) (by decide)) (@pa_nil _) (by rfl)) (by rfl)) (by decide) (by decide) (by rfl) (by rfl)) (by intro _; rfl))) (@pw_or1 _ _ _ _ (@pt_cmpR _ _ _ _ _ _ _ _ (@op_ne _) (@pe_callB _ _ _ _ _ _ _ _ _ (@kcall_len _ K (by rfl)) rfl gb.len bt_len (@pa_cons _ _ _ _ _ (@pv _ 0 _ _ (by rfl) (by first | exact Or.inl rfl | exact Or.inr (Or.inl rfl) | exact Or.inr (Or.inr rfl)) (by decide) (by decide)) (@pa_nil _) (by rfl)) (by decide) (by decide) (by rfl) (by rfl)) (@pe_int _ _ _ _) (@nomark _ _ (by decide) (by decide)))))) (@pss_one _ _ _ (@ps_ret _ _ _ _ (@pe_bl _ _ _ _))) (@pss_nil _)) (@pss_cons _ _ _ _ _ (@ps_if _ _ _ _ _ _ _ _ (@PW.pt _ _ _ (@pw_or _ _ _ _ _ _ _ (@pt_not _ _ _ _ (@pt_val _ _ _ (@pe_def _ _ _ _ _ _ _ _ _ _ _ d_law_is_number hr (by omega) rfl (@pa_cons _ _ _ _ _ (@pe_ix _ _ _ _ _ _ _ (@kix_seq _ K (by rfl)) (@pv _ 0 _ _ (by rfl) (by first | exact Or.inl rfl | exact Or.inr (Or.inl rfl) | exact Or.inr (Or.inr rfl)) (by decide) (by decide)) (@pe_int _ _ _ _) (fun _ _ => rfl)) (@pa_nil _) (by rfl)) (by decide) (by rfl) (by rfl)) (by intro _; rfl))) (@pw_or _ _ _ _ _ _ _ (@pt_not _ _ _ _ (@pt_val _ _ _ (@pe_def _ _ _ _ _ _ _ _ _ _ _ d_law_is_number hr (by omega) rfl (@pa_cons _ _ _ _ _ (@pe_ix _ _ _ _ _ _ _ (@kix_seq _ K (by rfl)) (@pv _ 0 _ _ (by rfl) (by first | exact Or.inl rfl | exact Or.inr (Or.inl rfl) | exact Or.inr (Or.inr rfl)) (by decide) (by decide)) (@pe_int _ _ _ _) (fun _ _ => rfl)) (@pa_nil _) (by rfl)) (by decide) (by rfl) (by rfl)) (by intro _; rfl))) (@pw_or1 _ _ _ _ (@pt_cmpR _ _ _ _ _ _ _ _ (@op_lt _) (@pe_ix _ _ _ _ _ _ _ (@kix_seq _ K (by rfl)) (@pv _ 0 _ _ (by rfl) (by first | exact Or.inl rfl | exact Or.inr (Or.inl rfl) | exact Or.inr (Or.inr rfl)) (by decide) (by decide)) (@pe_int _ _ _ _) (fun _ _ => rfl)) (@pe_int _ _ _ _) (@nomark _ _ (by decide) (by decide))))))) (@pss_one _ _ _ (@ps_ret _ _ _ _ (@pe_bl _ _ _ _))) (@pss_nil _)) (@pss_one _ _ _ (@ps_ret _ _ _ _ (@pe_cmpR _ _ _ _ _ _ _ _ (@op_eq _) (@pe_def _ _ _ _ _ _ _ _ _ _ _ d_law_share hr (by omega) rfl (@pa_cons _ _ _ _ _ (@pe_ix _ _ _ _ _ _ _ (@kix_seq _ K (by rfl)) (@pv _ 0 _ _ (by rfl) (by first | exact Or.inl rfl | exact Or.inr (Or.inl rfl) | exact Or.inr (Or.inr rfl)) (by decide) (by decide)) (@pe_int _ _ _ _) (fun _ _ => rfl)) (@pa_cons _ _ _ _ _ (@pe_ix _ _ _ _ _ _ _ (@kix_seq _ K (by rfl)) (@pv _ 0 _ _ (by rfl) (by first | exact Or.inl rfl | exact Or.inr (Or.inl rfl) | exact Or.inr (Or.inr rfl)) (by decide) (by decide)) (@pe_int _ _ _ _) (fun _ _ => rfl)) (@pa_nil _) (by rfl)) (by rfl)) (by decide) (by rfl) (by rfl)) (@pe_int _ _ _ _) (@nomark _ _ (by decide) (by decide))))))), ?_⟩
  obtain ⟨p, rfl, hp, _, _⟩ := hv
  refine ⟨_, rfl, _, _, _, true, rfl, .tup hp, kit_same "tuple", true, rfl, ?_⟩
  refine ⟨_, rfl, _, 2, rfl, .inr ⟨_, SqT.of hp, rfl⟩, rfl, _, rfl, ?_⟩
  refine iteNS (c := V.int 2 = V.int 2) rfl ?_
  refine ⟨_, rfl, .inr (.inl ⟨p, _, 0, _, rfl, rfl, SqT.of hp, rfl, _, rfl, true, rfl, ?_⟩)⟩
  refine ⟨_, rfl, .inr (.inl ⟨p, _, 1, _, rfl, rfl, SqT.of hp, rfl, _, rfl, true, rfl, ?_⟩)⟩
  refine ⟨_, rfl, .inr (.inl ⟨p, _, 1, _, rfl, rfl, SqT.of hp, rfl, _, _, rfl, rfl, _, rfl, ?_⟩)⟩
  have d0 := Fr.denp r
  refine iteDF (decide_eq_false (by omega)) ?_
  refine ⟨_, rfl, .inr (.inl ⟨p, _, 0, _, rfl, rfl, SqT.of hp, rfl, _, rfl, .inr (.inl ⟨p, _, 1, _, rfl, rfl, SqT.of hp, rfl, _, _, rfl, Int.le_of_lt d0, rfl, ?_⟩)⟩)⟩
  have e : Int.gcd r.num (r.den : Int) = 1 := r.reduced
  rw [e, decide_eq_true (show V.int ((1 : Nat) : Int) = V.int 1 from rfl)]
  exact q

abbrev s_law_fractions : Stmt := top 25
theorem sc_law_fractions : FnScope ["_law_found", "_law_many"] ["_law_found", "_law_many"] (defScope s_law_fractions) := ⟨rfl, rfl, rfl, by decide +kernel, rfl, by decide +kernel, by decide +kernel⟩
theorem ok_law_fractions {P : Program} {w : World} {K : PySem.W.Frag} {mg : Str → Option Value} {base : Heap} {f : Addr} {fd : FuncData} (F : Fun K "_law_fractions" "_law_fractions" s_law_fractions f fd) (gb : Gb mg) {c : Nat → Addr} (cl : Cl K mg c) (d_law_is_fraction : Def P w K mg base 2 "_law_is_fraction" ["_law_found"] spIsFr) : FnOk P w K mg base CX0 3 f fd ["_law_found", "_law_many"] spFrs := by
  refine F.ok sc_law_fractions (fun vs H Q E h => ?_) (fun cdv A outer s H vs Q E hr h => ?_)
  · obtain ⟨p, zs, b, rfl, _⟩ := h
    rfl
  obtain ⟨p, zs, b, rfl, hp, ff, z9, q⟩ := h
  have nd0 : (["_law_part"] : List Str).Nodup := by decide +kernel
  refine ⟨_, (@pss_one _ _ _ (@ps_ret _ _ _ _ (@pe_and _ _ _ _ _ _ _ (@pe_callB _ _ _ _ _ _ _ _ _ (@kcall_isiT _ K (by rfl)) rfl gb.isinstance bt_isinstance (@pa_cons _ _ _ _ _ (@pv _ 0 _ _ (by rfl) (by first | exact Or.inl rfl | exact Or.inr (Or.inl rfl) | exact Or.inr (Or.inr rfl)) (by decide) (by decide)) (@pa_cons _ _ _ _ _ (@pe_bltn _ _ (.ty "tuple") _ _ rfl gb.tuple bt_tuple rfl (by decide) (by decide)) (@pa_nil _) (by rfl)) (by rfl)) (by decide) (by decide) (by rfl) (by rfl)) (@pe_and _ _ _ _ _ _ _ (@pe_cmpR _ _ _ _ _ _ _ _ (@op_eq _) (@pe_callB _ _ _ _ _ _ _ _ _ (@kcall_len _ K (by rfl)) rfl gb.len bt_len (@pa_cons _ _ _ _ _ (@pv _ 0 _ _ (by rfl) (by first | exact Or.inl rfl | exact Or.inr (Or.inl rfl) | exact Or.inr (Or.inr rfl)) (by decide) (by decide)) (@pa_nil _) (by rfl)) (by decide) (by decide) (by rfl) (by rfl)) (@pv _ 1 _ _ (by rfl) (by first | exact Or.inl rfl | exact Or.inr (Or.inl rfl) | exact Or.inr (Or.inr rfl)) (by decide) (by decide)) (@nomark _ _ (by decide) (by decide))) (@pe_one _ _ _ _ _ (@pe_callB _ _ _ _ _ _ _ _ _ (@kcall_all _ K rfl (by rfl)) rfl gb.all bt_all (@pa_cons _ _ _ _ _ (@pe_comp _ ["_law_part"] [none] _ _ _ _ _ _ _ _ _ _ (by exact (show CompOk ["_law_found", "_law_many"] (defScope s_law_fractions) ["_law_part"] [none] _ from ⟨rfl, by decide +kernel, by decide +kernel, by decide +kernel, by decide +kernel, rfl, by decide +kernel⟩)) rfl (@kpi_tup _ K _ _ _ (@pv _ 0 _ _ (by rfl) (by first | exact Or.inl rfl | exact Or.inr (Or.inl rfl) | exact Or.inr (Or.inr rfl)) (by decide) (by decide)) (by rfl)) (fun _ _ _ _ => (@pg_name _ _ 0 _ nd0 rfl (Or.inl rfl) (by first | exact .inl rfl | exact .inr rfl | assumption))) (fun _ _ _ _ => (@pf_nil _)) (fun _ _ _ _ => (@pe_def _ _ _ _ _ _ _ _ _ _ _ d_law_is_fraction hr (by omega) rfl (@pa_cons _ _ _ _ _ (@pv _ 0 _ _ (by rfl) (by first | exact Or.inl rfl | exact Or.inr (Or.inl rfl) | exact Or.inr (Or.inr rfl)) (by decide) (by decide)) (@pa_nil _) (by rfl)) (by decide) (by rfl) (by rfl))) (by intro _; rfl)) (@pa_nil _) (by rfl)) (by decide) (by decide) (by rfl) (by rfl))))))), ?_⟩
  refine ⟨_, rfl, _, _, _, true, rfl, .tup hp, kit_same "tuple", true, rfl, iteT ?_⟩
  refine ⟨_, rfl, _, _, rfl, .inr ⟨_, SqT.of hp, rfl⟩, _, rfl, rfl, _, rfl, ?_⟩
  refine iteDT (decide_eq_true (by rw [List.length_map])) ?_
  refine ⟨_, rfl, p, rfl, ⟨_, SqT.of hp⟩, fun D hD => ?_⟩
  refine comp_tup (xs := zs.map Prod.fst) (fun i ys H' => Same H H' ∧ ys = (List.replicate i true).map V.bl) ⟨same_new hD _, rfl⟩ (fun i ys H' h _ => SqT.of (h.1 _ _ hp)) ?_ ?_
  · rintro i ys H' v hv ⟨s1, rfl⟩ hD'
    have hi := (List.getElem?_eq_some_iff.mp hv).1
    rw [List.length_map] at hi
    rw [List.getElem?_map] at hv
    obtain ⟨z, hz, rfl⟩ := Option.map_eq_some_iff.mp hv
    refine yes ⟨_, rfl, _, _, _, rfl, (ff z (List.mem_of_getElem? hz)).same s1, ?_⟩
    refine cyes (by rw [List.length_map]; exact hi) rset1 hD' (by rw [List.length_map, List.length_replicate]; exact small1000 (by omega)) ⟨s1.put hD, ?_⟩
    rw [List.replicate_succ', List.map_append]
    rfl
  · rintro ys H' ⟨s1, rfl⟩ hD'
    have hq := q _ s1
    refine ⟨D, List.replicate (zs.map Prod.fst).length true, rfl, SqL.of hD', ?_⟩
    rw [show (List.replicate (zs.map Prod.fst).length true).all id = true by simp]
    exact hq

abbrev s_law_comes_to : Stmt := top 26
theorem sc_law_comes_to : FnScope ["_law_row", "_law_point", "_law_found", "_law_k"] ["_law_row", "_law_point"] (defScope s_law_comes_to) := ⟨rfl, rfl, rfl, by decide +kernel, rfl, by decide +kernel, by decide +kernel⟩
theorem ok_law_comes_to {P : Program} {w : World} {K : PySem.W.Frag} {mg : Str → Option Value} {base : Heap} {f : Addr} {fd : FuncData} (F : Fun K "_law_comes_to" "_law_comes_to" s_law_comes_to f fd) (gb : Gb mg) {c : Nat → Addr} (cl : Cl K mg c) (d_law_sum : Def P w K mg base 3 "_law_sum" ["_law_one", "_law_other"] (spR K (fun r s => r + s))) (d_law_product : Def P w K mg base 3 "_law_product" ["_law_one", "_law_other"] (spR K (fun r s => r * s))) : FnOk P w K mg base CX0 4 f fd ["_law_row", "_law_point"] (spComes K) := by
  refine F.ok sc_law_comes_to (fun vs H Q E h => ?_) (fun cdv A outer s H vs Q E hr h => ?_)
  · obtain ⟨v, pq, r, m, zs, b, e, D, Z, rfl, _⟩ := h
    rfl
  obtain ⟨v, pq, r, m, zs, b, e, D, Z, rfl, hv, hb, fb, zl, h4, D0, hD, hZ, hE, hA, q⟩ := h
  refine ⟨_, (@pss_cons _ _ _ _ _ (@ps_set _ _ 2 _ _ _ _ sc_law_comes_to.nd rfl (Or.inl rfl) (@pe_ix _ _ _ _ _ _ _ (@kix_seq _ K (by rfl)) (@pv _ 0 _ _ (by rfl) (by first | exact Or.inl rfl | exact Or.inr (Or.inl rfl) | exact Or.inr (Or.inr rfl)) (by decide) (by decide)) (@pe_int _ _ _ _) (fun _ _ => rfl)) (by rfl) (by first | exact .inl rfl | exact .inr rfl | assumption)) (@pss_cons _ _ _ _ _ (@ps_for _ _ _ _ _ _ _ _ PassesOwn.never rfl (@pi_range1 _ _ _ _ _ _ rfl gb.range (@pa_cons _ _ _ _ _ (@pe_callB _ _ _ _ _ _ _ _ _ (@kcall_len _ K (by rfl)) rfl gb.len bt_len (@pa_cons _ _ _ _ _ (@pv _ 1 _ _ (by rfl) (by first | exact Or.inl rfl | exact Or.inr (Or.inl rfl) | exact Or.inr (Or.inr rfl)) (by decide) (by decide)) (@pa_nil _) (by rfl)) (by decide) (by decide) (by rfl) (by rfl)) (@pa_nil _) (by rfl)) (by rfl)) (@pg_name _ _ 3 _ sc_law_comes_to.nd rfl (Or.inl rfl) (by first | exact .inl rfl | exact .inr rfl | assumption)) (@pss_one _ _ _ (@ps_set _ _ 2 _ _ _ _ sc_law_comes_to.nd rfl (Or.inl rfl) (@pe_def _ _ _ _ _ _ _ _ _ _ _ d_law_sum hr (by omega) rfl (@pa_cons _ _ _ _ _ (@pv _ 2 _ _ (by rfl) (by first | exact Or.inl rfl | exact Or.inr (Or.inl rfl) | exact Or.inr (Or.inr rfl)) (by decide) (by decide)) (@pa_cons _ _ _ _ _ (@pe_def _ _ _ _ _ _ _ _ _ _ _ d_law_product hr (by omega) rfl (@pa_cons _ _ _ _ _ (@pe_ix _ _ _ _ _ _ _ (@kix_seq _ K (by rfl)) (@pe_ix _ _ _ _ _ _ _ (@kix_seq _ K (by rfl)) (@pv _ 0 _ _ (by rfl) (by first | exact Or.inl rfl | exact Or.inr (Or.inl rfl) | exact Or.inr (Or.inr rfl)) (by decide) (by decide)) (@pe_int _ _ _ _) (fun _ _ => rfl)) (@pv _ 3 _ _ (by rfl) (by first | exact Or.inl rfl | exact Or.inr (Or.inl rfl) | exact Or.inr (Or.inr rfl)) (by decide) (by decide)) (fun _ _ => rfl)) (@pa_cons _ _ _ _ _ (@pe_ix _ _ _ _ _ _ _ (@kix_seq _ K (by rfl)) (@pv _ 1 _ _ (by rfl) (by first | exact Or.inl rfl | exact Or.inr (Or.inl rfl) | exact Or.inr (Or.inr rfl)) (by decide) (by decide)) (@pv _ 3 _ _ (by rfl) (by first | exact Or.inl rfl | exact Or.inr (Or.inl rfl) | exact Or.inr (Or.inr rfl)) (by decide) (by decide)) (fun _ _ => rfl)) (@pa_nil _) (by rfl)) (by rfl)) (by decide) (by rfl) (by rfl)) (@pa_nil _) (by rfl)) (by rfl)) (by decide) (by rfl) (by rfl)) (by rfl) (by first | exact .inl rfl | exact .inr rfl | assumption))) (by intro _; rfl)) (@pss_one _ _ _ (@ps_ret _ _ _ _ (@pv _ 2 _ _ (by rfl) (by first | exact Or.inl rfl | exact Or.inr (Or.inl rfl) | exact Or.inr (Or.inr rfl)) (by decide) (by decide)))))), ?_⟩
  obtain ⟨pr, pn, vc, rz, c0, rfl, hr1, hn1, ff, er, rl⟩ := hv
  have fc := ff (vc, c0) (List.mem_append_right _ (List.mem_singleton.mpr rfl))
  have g0 : r.1.getD m 0 = c0 := by rw [er, List.map_append, gd_r (by rw [List.length_map]; omega), List.length_map, rl, Nat.sub_self]; rfl
  have gk : ∀ k z, rz[k]? = some z → r.1.getD k 0 = z.2 := fun k z hz => by
    rw [er, List.getD_eq_getElem?_getD, List.getElem?_map, List.getElem?_append_left (List.getElem?_eq_some_iff.mp hz).1, hz]
    rfl
  have gx : ∀ k z, zs[k]? = some z → (zs.map Prod.snd).getD k 0 = z.2 := fun k z hz => by
    rw [List.getD_eq_getElem?_getD, List.getElem?_map, hz]
    rfl
  refine ⟨_, rfl, .inr (.inl ⟨pr, _, 1, _, rfl, rfl, hr1, rfl, ?_⟩)⟩
  refine ⟨_, rfl, _, _, rfl, .inr ⟨_, hb, rfl⟩, _, rfl, by omega, by rw [List.length_map]; omega, ?_⟩
  have el : ((((zs.map Prod.fst).length : Nat) : Int)).toNat = m := by rw [List.length_map]; omega
  rw [el]
  refine for_range (fun i σ H' => (∃ vt xk, σ = [some (.ref pr), some (.ref pq), some vt, xk] ∧ FR K H' vt (coR r.1 (zs.map Prod.snd) m i) e) ∧ Same H H') ⟨⟨_, _, rfl, ?_⟩, Same.refl H⟩ ?_ ?_
  · refine fr_tight (n := 350) ?_ (hA 0 (Nat.zero_le _)) D0 hD hZ
    show FR K H vc (r.1.getD m 0 + 0) 350
    rw [Rat.add_zero, g0]
    exact fc
  · rintro i σ H1 hi ⟨⟨vt, xk, rfl, ft⟩, s1⟩
    have e1 : rz[i]? = some rz[i] := List.getElem?_eq_getElem (by omega)
    have e2 : zs[i]? = some zs[i] := List.getElem?_eq_getElem (by omega)
    generalize rz[i] = za at e1
    generalize zs[i] = zb at e2
    have m1 : atI (rz.map Prod.fst) (0 + (i : Nat)) = some za.1 := by rw [Int.zero_add]; exact atI_nat (by rw [List.getElem?_map, e1]; rfl)
    have m2 : atI (zs.map Prod.fst) (0 + (i : Nat)) = some zb.1 := by rw [Int.zero_add]; exact atI_nat (by rw [List.getElem?_map, e2]; rfl)
    have f1 := (ff za (List.mem_append_left _ (List.mem_of_getElem? e1))).same s1
    have f2 := (fb zb (List.mem_of_getElem? e2)).same s1
    refine ⟨_, rfl, _, rfl, .inr (.inl ⟨pr, _, 0, _, rfl, rfl, (hr1.same s1), rfl, _, rfl, .inr (.inl ⟨pn, _, _, _, rfl, rfl, hn1.same s1, m1, ?_⟩)⟩)⟩
    refine ⟨_, rfl, _, rfl, .inr (.inl ⟨pq, _, _, _, rfl, rfl, hb.same s1, m2, ?_⟩)⟩
    refine ⟨_, _, _, _, 350, b, rfl, f1, f2, by omega, fun v3 H3 s3 f3 => ?_⟩
    refine ⟨_, _, _, _, e, 350 + b + 1, rfl, ft.same s3, f3, by omega, fun v4 H4 s4 f4 => ⟨⟨_, _, rfl, ?_⟩, s1.trans (s3.trans s4)⟩⟩
    have en : coR r.1 (zs.map Prod.snd) m i + za.2 * zb.2 = coR r.1 (zs.map Prod.snd) m (i + 1) := by
      show r.1.getD m 0 + smQ i _ + _ = r.1.getD m 0 + (smQ i _ + r.1.getD i 0 * (zs.map Prod.snd).getD i 0)
      rw [gk i za e1, gx i zb e2, Rat.add_assoc]
    refine fr_tight (n := e + (350 + b + 1) + 1) ?_ (hA (i + 1) (by omega)) D0 hD hZ
    rw [← en]
    exact f4
  · rintro σ H1 ⟨⟨vt, xk, rfl, ft⟩, s1⟩
    exact ⟨_, rfl, q _ _ s1 ft⟩

abbrev s_law_met : Stmt := top 27
theorem sc_law_met : FnScope ["_law_row", "_law_point", "_law_found"] ["_law_row", "_law_point"] (defScope s_law_met) := ⟨rfl, rfl, rfl, by decide +kernel, rfl, by decide +kernel, by decide +kernel⟩
theorem ok_law_met {P : Program} {w : World} {K : PySem.W.Frag} {mg : Str → Option Value} {base : Heap} {f : Addr} {fd : FuncData} (F : Fun K "_law_met" "_law_met" s_law_met f fd) (gb : Gb mg) {c : Nat → Addr} (cl : Cl K mg c) (d_law_comes_to : Def P w K mg base 4 "_law_comes_to" ["_law_row", "_law_point"] (spComes K)) : FnOk P w K mg base CX0 5 f fd ["_law_row", "_law_point"] (spMet K) := by
  refine F.ok sc_law_met (fun vs H Q E h => ?_) (fun cdv A outer s H vs Q E hr h => ?_)
  · obtain ⟨v, pq, r, m, zs, rfl, _⟩ := h
    rfl
  obtain ⟨v, pq, r, m, zs, rfl, hv, hB, hb, fb, hP, h4, hm, q⟩ := h
  refine ⟨_, (@pss_cons _ _ _ _ _ (@ps_set _ _ 2 _ _ _ _ sc_law_met.nd rfl (Or.inl rfl) (@pe_ix _ _ _ _ _ _ _ (@kix_seq _ K (by rfl)) (@pe_def _ _ _ _ _ _ _ _ _ _ _ d_law_comes_to hr (by omega) rfl (@pa_cons _ _ _ _ _ (@pv _ 0 _ _ (by rfl) (by first | exact Or.inl rfl | exact Or.inr (Or.inl rfl) | exact Or.inr (Or.inr rfl)) (by decide) (by decide)) (@pa_cons _ _ _ _ _ (@pv _ 1 _ _ (by rfl) (by first | exact Or.inl rfl | exact Or.inr (Or.inl rfl) | exact Or.inr (Or.inr rfl)) (by decide) (by decide)) (@pa_nil _) (by rfl)) (by rfl)) (by decide) (by rfl) (by rfl)) (@pe_int _ _ _ _) (fun _ _ => rfl)) (by rfl) (by first | exact .inl rfl | exact .inr rfl | assumption)) (@pss_one _ _ _ (@ps_ret _ _ _ _ (@pe_or _ _ _ _ _ _ _ (@pe_cmpR _ _ _ _ _ _ _ _ (@op_gt _) (@pv _ 2 _ _ (by rfl) (by first | exact Or.inl rfl | exact Or.inr (Or.inl rfl) | exact Or.inr (Or.inr rfl)) (by decide) (by decide)) (@pe_int _ _ _ _) (@nomark _ _ (by decide) (by decide))) (@pe_one _ _ _ _ _ (@pe_and _ _ _ _ _ _ _ (@pe_cmpR _ _ _ _ _ _ _ _ (@op_eq _) (@pv _ 2 _ _ (by rfl) (by first | exact Or.inl rfl | exact Or.inr (Or.inl rfl) | exact Or.inr (Or.inr rfl)) (by decide) (by decide)) (@pe_int _ _ _ _) (@nomark _ _ (by decide) (by decide))) (@pe_one _ _ _ _ _ (@pe_not _ _ _ _ (@pe_ix _ _ _ _ _ _ _ (@kix_seq _ K (by rfl)) (@pv _ 0 _ _ (by rfl) (by first | exact Or.inl rfl | exact Or.inr (Or.inl rfl) | exact Or.inr (Or.inr rfl)) (by decide) (by decide)) (@pe_int _ _ _ _) (fun _ _ => rfl)))))))))), ?_⟩
  obtain ⟨zl, y, yp, yS, hy⟩ := hP
  have rl := hv.len
  obtain ⟨D9, D0, D1, hD9⟩ := hB
  obtain ⟨rc, cbl, cle⟩ := row_mk (m := m) (s := r.2) rl D0 hD9
  have cp := rc.cp
  have gc : ∀ k, k ≤ m → Sz 351 ((coQ r.1 (cbQ (dnQ r.1)) r.2).getD k 0) := fun k hk => by
    have hk2 : k < (coQ r.1 (cbQ (dnQ r.1)) r.2).length := by rw [rc.cl]; omega
    have := cle ((coQ r.1 (cbQ (dnQ r.1)) r.2).getD k 0) (by rw [List.getD_eq_getElem?_getD, List.getElem?_eq_getElem hk2]; exact List.getElem_mem _)
    rw [Nat.max_eq_left (Nat.one_le_two_pow)] at this
    unfold Sz
    rw [Nat.pow_succ]
    have := Nat.two_pow_pos 350
    omega
  have cs : Sz 350 (cbQ (dnQ r.1)) := sz_lt (Int.le_of_lt cp) (by have cbl : cbQ (dnQ r.1) ≤ D9 := cbl; omega)
  have hx : ∀ i, i ≤ m → coR r.1 (zs.map Prod.snd) m i = Rat.divInt ((coQ r.1 (cbQ (dnQ r.1)) r.2).getD m 0 * y m + smv i fun k => (coQ r.1 (cbQ (dnQ r.1)) r.2).getD k 0 * y k) (cbQ (dnQ r.1) * y m) := fun i hi => by
    rw [← part_div rc yp hi]
    show r.1.getD m 0 + _ = r.1.getD m 0 + _
    congr 1
    exact sq_congr fun k hk => by rw [hy k (by omega)]
  have zz : ∀ i, i ≤ m → ((coQ r.1 (cbQ (dnQ r.1)) r.2).getD m 0 * y m + smv i fun k => (coQ r.1 (cbQ (dnQ r.1)) r.2).getD k 0 * y k).natAbs ≤ (i + 1) * 2 ^ 2836 := fun i => by
    induction i with
    | zero =>
      intro _
      have := (gc m (Nat.le_refl m)).mul (yS m (Nat.le_refl m))
      show (_ + (0 : Int)).natAbs ≤ 1 * 2 ^ 2836
      rw [Int.add_zero, Nat.one_mul]
      exact Nat.le_of_lt this
    | succ i ih =>
      intro hi
      have h1 := ih (by omega)
      have h2 := (gc i (by omega)).mul (yS i (by omega))
      unfold Sz at h2
      show (_ + (smv i _ + (coQ r.1 (cbQ (dnQ r.1)) r.2).getD i 0 * y i)).natAbs ≤ _
      rw [Nat.add_mul (i + 1), Nat.one_mul]
      omega
  have pw : (4 + 1) * 2 ^ 2836 < 2 ^ 2839 := by decide +kernel
  refine ⟨_, rfl, _, rfl, v, pq, r, m, zs, 2485, 2839, cbQ (dnQ r.1) * y m, 5 * 2 ^ 2836, rfl, hv, hb, fb, zl, h4, mul_ne cp yp, (cs.mul (yS m (Nat.le_refl m))).mono (by decide), pw, by decide, fun i hi => ⟨_, hx i hi, Nat.le_trans (zz i hi) (Nat.mul_le_mul_right _ (by omega))⟩, fun v1 H1 s1 f1 => ?_⟩
  obtain ⟨p2, rfl, h2, _, _⟩ := f1
  have q2 := q _ s1
  refine .inr (.inl ⟨p2, _, 0, _, rfl, rfl, h2, rfl, ?_⟩)
  obtain ⟨pr, pn, vc, rz, c0, rfl, hr1, hn1, ff, er, rl2⟩ := hv.same s1
  refine ⟨_, rfl, _, _, rfl, rfl, _, rfl, ?_⟩
  rcases hm with hm | ⟨hm, hs⟩
  · exact iteDT (decide_eq_true ((numQ _).1.mp hm)) q2
  · refine iteDF (decide_eq_false (by rw [hm]; decide)) ?_
    refine ⟨_, rfl, rfl, _, rfl, iteDT (decide_eq_true (by rw [hm]; rfl)) ?_⟩
    rw [hs] at hr1
    exact ⟨_, rfl, .inr (.inl ⟨pr, _, 2, _, rfl, rfl, hr1, rfl, _, rfl, q2⟩)⟩

abbrev s_law_barred : Stmt := top 28
theorem sc_law_barred : FnScope ["_law_rows_here", "_law_many", "_law_told", "_law_sums", "_law_strict", "_law_k", "_law_numbers", "_law_j"] ["_law_rows_here", "_law_many", "_law_told"] (defScope s_law_barred) := ⟨rfl, rfl, rfl, by decide +kernel, rfl, by decide +kernel, by decide +kernel⟩
theorem ok_law_barred {P : Program} {w : World} {K : PySem.W.Frag} {mg : Str → Option Value} {base : Heap} {f : Addr} {fd : FuncData} (F : Fun K "_law_barred" "_law_barred" s_law_barred f fd) (gb : Gb mg) {c : Nat → Addr} (cl : Cl K mg c) (d_law_fractions : Def P w K mg base 3 "_law_fractions" ["_law_found", "_law_many"] spFrs) (d_law_sum : Def P w K mg base 3 "_law_sum" ["_law_one", "_law_other"] (spR K (fun r s => r + s))) (d_law_product : Def P w K mg base 3 "_law_product" ["_law_one", "_law_other"] (spR K (fun r s => r * s))) : FnOk P w K mg base CX0 4 f fd ["_law_rows_here", "_law_many", "_law_told"] (spBarred K) := by
  refine F.ok sc_law_barred (fun vs H Q E h => ?_) (fun cdv A outer s H vs Q E hr h => ?_)
  · obtain ⟨lr, p, us, S, m, zs, D, Z, rfl, _⟩ := h
    rfl
  obtain ⟨lr, p, us, S, m, zs, D, Z, rfl, hlr, hp, h4, h36, hpp, ff, hS, D0, hD, hZ, hA, hbar, q⟩ := h
  have nd0 : (["_law_part"] : List Str).Nodup := by decide +kernel
  have nd1 : (["_law_total"] : List Str).Nodup := by decide +kernel
  refine ⟨_, (@pss_cons _ _ _ _ _ (@ps_if _ _ _ _ _ _ _ _ (@PW.pt _ _ _ (@pw_or _ _ _ _ _ _ _ (@pt_not _ _ _ _ (@pt_val _ _ _ (@pe_def _ _ _ _ _ _ _ _ _ _ _ d_law_fractions hr (by omega) rfl (@pa_cons _ _ _ _ _ (@pv _ 2 _ _ (by rfl) (by first | exact Or.inl rfl | exact Or.inr (Or.inl rfl) | exact Or.inr (Or.inr rfl)) (by decide) (by decide)) (@pa_cons _ _ _ _ _ (@pe_callB _ _ _ _ _ _ _ _ _ (@kcall_len _ K (by rfl)) rfl gb.len bt_len (@pa_cons _ _ _ _ _ (@pv _ 0 _ _ (by rfl) (by first | exact Or.inl rfl | exact Or.inr (Or.inl rfl) | exact Or.inr (Or.inr rfl)) (by decide) (by decide)) (@pa_nil _) (by rfl)) (by decide) (by decide) (by rfl) (by rfl)) (@pa_nil _) (by rfl)) (by rfl)) (by decide) (by rfl) (by rfl)) (by intro _; rfl))) (@pw_or1 _ _ _ _ (@pt_val _ _ _ (@pe_callB _ _ _ _ _ _ _ _ _ (@kcall_any _ K rfl (by rfl)) rfl gb.any bt_any (@pa_cons _ _ _ _ _ (@pe_comp _ ["_law_part"] [none] _ _ _ _ _ _ _ _ _ _ (by exact (show CompOk ["_law_rows_here", "_law_many", "_law_told", "_law_sums", "_law_strict", "_law_k", "_law_numbers", "_law_j"] (defScope s_law_barred) ["_law_part"] [none] _ from ⟨rfl, by decide +kernel, by decide +kernel, by decide +kernel, by decide +kernel, rfl, by decide +kernel⟩)) rfl (@kpi_tup _ K _ _ _ (@pv _ 2 _ _ (by rfl) (by first | exact Or.inl rfl | exact Or.inr (Or.inl rfl) | exact Or.inr (Or.inr rfl)) (by decide) (by decide)) (by rfl)) (fun _ _ _ _ => (@pg_name _ _ 0 _ nd0 rfl (Or.inl rfl) (by first | exact .inl rfl | exact .inr rfl | assumption))) (fun _ _ _ _ => (@pf_nil _)) (fun _ _ _ _ => (@pe_cmpR _ _ _ _ _ _ _ _ (@op_lt _) (@pe_ix _ _ _ _ _ _ _ (@kix_seq _ K (by rfl)) (@pv _ 0 _ _ (by rfl) (by first | exact Or.inl rfl | exact Or.inr (Or.inl rfl) | exact Or.inr (Or.inr rfl)) (by decide) (by decide)) (@pe_int _ _ _ _) (fun _ _ => rfl)) (@pe_int _ _ _ _) (@nomark _ _ (by decide) (by decide)))) (by intro _; rfl)) (@pa_nil _) (by rfl)) (by decide) (by decide) (by rfl) (by rfl)) (by intro _; rfl))))) (@pss_one _ _ _ (@ps_ret _ _ _ _ (@pe_bl _ _ _ _))) (@pss_nil _)) (@pss_cons _ _ _ _ _ (@ps_set _ _ 3 _ _ _ _ sc_law_barred.nd rfl (Or.inl rfl) (@pe_op _ _ _ _ _ _ _ _ (@op_repL _ K) (@pe_lst _ _ _ _ (@pa_cons _ _ _ _ _ (@pe_tup _ _ _ _ _ (@pa_cons _ _ _ _ _ (@pe_int _ _ _ _) (@pa_cons _ _ _ _ _ (@pe_int _ _ _ _) (@pa_nil _) (by rfl)) (by rfl))) (@pa_nil _) (by rfl))) (@pe_op _ _ _ _ _ _ _ _ (@op_add _) (@pv _ 1 _ _ (by rfl) (by first | exact Or.inl rfl | exact Or.inr (Or.inl rfl) | exact Or.inr (Or.inr rfl)) (by decide) (by decide)) (@pe_int _ _ _ _))) (by rfl) (by first | exact .inl rfl | exact .inr rfl | assumption)) (@pss_cons _ _ _ _ _ (@ps_set _ _ 4 _ _ _ _ sc_law_barred.nd rfl (Or.inl rfl) (@pe_bl _ _ _ _) (by rfl) (by first | exact .inl rfl | exact .inr rfl | assumption)) (@pss_cons _ _ _ _ _ (@ps_for _ _ _ _ _ _ _ _ PassesOwn.never rfl (@pi_range1 _ _ _ _ _ _ rfl gb.range (@pa_cons _ _ _ _ _ (@pe_callB _ _ _ _ _ _ _ _ _ (@kcall_len _ K (by rfl)) rfl gb.len bt_len (@pa_cons _ _ _ _ _ (@pv _ 0 _ _ (by rfl) (by first | exact Or.inl rfl | exact Or.inr (Or.inl rfl) | exact Or.inr (Or.inr rfl)) (by decide) (by decide)) (@pa_nil _) (by rfl)) (by decide) (by decide) (by rfl) (by rfl)) (@pa_nil _) (by rfl)) (by rfl)) (@pg_name _ _ 5 _ sc_law_barred.nd rfl (Or.inl rfl) (by first | exact .inl rfl | exact .inr rfl | assumption)) (@pss_cons _ _ _ _ _ (@ps_set _ _ 6 _ _ _ _ sc_law_barred.nd rfl (Or.inl rfl) (@pe_op _ _ _ _ _ _ _ _ (@op_cat _) (@pe_callTy _ _ _ _ _ _ _ _ _ (@kcall_list_of _ K (by rfl)) rfl gb.list bt_list (@pa_cons _ _ _ _ _ (@pe_ix _ _ _ _ _ _ _ (@kix_seq _ K (by rfl)) (@pe_ix _ _ _ _ _ _ _ (@kix_seq _ K (by rfl)) (@pv _ 0 _ _ (by rfl) (by first | exact Or.inl rfl | exact Or.inr (Or.inl rfl) | exact Or.inr (Or.inr rfl)) (by decide) (by decide)) (@pv _ 5 _ _ (by rfl) (by first | exact Or.inl rfl | exact Or.inr (Or.inl rfl) | exact Or.inr (Or.inr rfl)) (by decide) (by decide)) (fun _ _ => rfl)) (@pe_int _ _ _ _) (fun _ _ => rfl)) (@pa_nil _) (by rfl)) (by decide) (by decide) (by rfl) (by rfl)) (@pe_lst _ _ _ _ (@pa_cons _ _ _ _ _ (@pe_ix _ _ _ _ _ _ _ (@kix_seq _ K (by rfl)) (@pe_ix _ _ _ _ _ _ _ (@kix_seq _ K (by rfl)) (@pv _ 0 _ _ (by rfl) (by first | exact Or.inl rfl | exact Or.inr (Or.inl rfl) | exact Or.inr (Or.inr rfl)) (by decide) (by decide)) (@pv _ 5 _ _ (by rfl) (by first | exact Or.inl rfl | exact Or.inr (Or.inl rfl) | exact Or.inr (Or.inr rfl)) (by decide) (by decide)) (fun _ _ => rfl)) (@pe_int _ _ _ _) (fun _ _ => rfl)) (@pa_nil _) (by rfl)))) (by rfl) (by first | exact .inl rfl | exact .inr rfl | assumption)) (@pss_cons _ _ _ _ _ (@ps_for _ _ _ _ _ _ _ _ PassesOwn.never rfl (@pi_range1 _ _ _ _ _ _ rfl gb.range (@pa_cons _ _ _ _ _ (@pe_op _ _ _ _ _ _ _ _ (@op_add _) (@pv _ 1 _ _ (by rfl) (by first | exact Or.inl rfl | exact Or.inr (Or.inl rfl) | exact Or.inr (Or.inr rfl)) (by decide) (by decide)) (@pe_int _ _ _ _)) (@pa_nil _) (by rfl)) (by rfl)) (@pg_name _ _ 7 _ sc_law_barred.nd rfl (Or.inl rfl) (by first | exact .inl rfl | exact .inr rfl | assumption)) (@pss_one _ _ _ (@ps_asg _ _ _ _ _ _ (@pe_def _ _ _ _ _ _ _ _ _ _ _ d_law_sum hr (by omega) rfl (@pa_cons _ _ _ _ _ (@pe_ix _ _ _ _ _ _ _ (@kix_seq _ K (by rfl)) (@pv _ 3 _ _ (by rfl) (by first | exact Or.inl rfl | exact Or.inr (Or.inl rfl) | exact Or.inr (Or.inr rfl)) (by decide) (by decide)) (@pv _ 7 _ _ (by rfl) (by first | exact Or.inl rfl | exact Or.inr (Or.inl rfl) | exact Or.inr (Or.inr rfl)) (by decide) (by decide)) (fun _ _ => rfl)) (@pa_cons _ _ _ _ _ (@pe_def _ _ _ _ _ _ _ _ _ _ _ d_law_product hr (by omega) rfl (@pa_cons _ _ _ _ _ (@pe_ix _ _ _ _ _ _ _ (@kix_seq _ K (by rfl)) (@pv _ 2 _ _ (by rfl) (by first | exact Or.inl rfl | exact Or.inr (Or.inl rfl) | exact Or.inr (Or.inr rfl)) (by decide) (by decide)) (@pv _ 5 _ _ (by rfl) (by first | exact Or.inl rfl | exact Or.inr (Or.inl rfl) | exact Or.inr (Or.inr rfl)) (by decide) (by decide)) (fun _ _ => rfl)) (@pa_cons _ _ _ _ _ (@pe_ix _ _ _ _ _ _ _ (@kix_seq _ K (by rfl)) (@pv _ 6 _ _ (by rfl) (by first | exact Or.inl rfl | exact Or.inr (Or.inl rfl) | exact Or.inr (Or.inr rfl)) (by decide) (by decide)) (@pv _ 7 _ _ (by rfl) (by first | exact Or.inl rfl | exact Or.inr (Or.inl rfl) | exact Or.inr (Or.inr rfl)) (by decide) (by decide)) (fun _ _ => rfl)) (@pa_nil _) (by rfl)) (by rfl)) (by decide) (by rfl) (by rfl)) (@pa_nil _) (by rfl)) (by rfl)) (by decide) (by rfl) (by rfl)) (@pg_sub _ _ _ _ _ _ _ (@pv _ 3 _ _ (by rfl) (by first | exact Or.inl rfl | exact Or.inr (Or.inl rfl) | exact Or.inr (Or.inr rfl)) (by decide) (by decide)) (@pv _ 7 _ _ (by rfl) (by first | exact Or.inl rfl | exact Or.inr (Or.inl rfl) | exact Or.inr (Or.inr rfl)) (by decide) (by decide)) (@set_list _) (by intro _; rfl)) (by rfl) (by rfl) (by rfl))) (by intro _; rfl)) (@pss_one _ _ _ (@ps_set _ _ 4 _ _ _ _ sc_law_barred.nd rfl (Or.inl rfl) (@pe_or _ _ _ _ _ _ _ (@pv _ 4 _ _ (by rfl) (by first | exact Or.inl rfl | exact Or.inr (Or.inl rfl) | exact Or.inr (Or.inr rfl)) (by decide) (by decide)) (@pe_one _ _ _ _ _ (@pe_and _ _ _ _ _ _ _ (@pe_ix _ _ _ _ _ _ _ (@kix_seq _ K (by rfl)) (@pe_ix _ _ _ _ _ _ _ (@kix_seq _ K (by rfl)) (@pv _ 0 _ _ (by rfl) (by first | exact Or.inl rfl | exact Or.inr (Or.inl rfl) | exact Or.inr (Or.inr rfl)) (by decide) (by decide)) (@pv _ 5 _ _ (by rfl) (by first | exact Or.inl rfl | exact Or.inr (Or.inl rfl) | exact Or.inr (Or.inr rfl)) (by decide) (by decide)) (fun _ _ => rfl)) (@pe_int _ _ _ _) (fun _ _ => rfl)) (@pe_one _ _ _ _ _ (@pe_cmpR _ _ _ _ _ _ _ _ (@op_gt _) (@pe_ix _ _ _ _ _ _ _ (@kix_seq _ K (by rfl)) (@pe_ix _ _ _ _ _ _ _ (@kix_seq _ K (by rfl)) (@pv _ 2 _ _ (by rfl) (by first | exact Or.inl rfl | exact Or.inr (Or.inl rfl) | exact Or.inr (Or.inr rfl)) (by decide) (by decide)) (@pv _ 5 _ _ (by rfl) (by first | exact Or.inl rfl | exact Or.inr (Or.inl rfl) | exact Or.inr (Or.inr rfl)) (by decide) (by decide)) (fun _ _ => rfl)) (@pe_int _ _ _ _) (fun _ _ => rfl)) (@pe_int _ _ _ _) (@nomark _ _ (by decide) (by decide))))))) (by rfl) (by first | exact .inl rfl | exact .inr rfl | assumption))))) (by intro _; rfl)) (@pss_cons _ _ _ _ _ (@ps_if _ _ _ _ _ _ _ _ (@pt_val _ _ _ (@pe_callB _ _ _ _ _ _ _ _ _ (@kcall_any _ K rfl (by rfl)) rfl gb.any bt_any (@pa_cons _ _ _ _ _ (@pe_comp _ ["_law_total"] [none] _ _ _ _ _ _ _ _ _ _ (by exact (show CompOk ["_law_rows_here", "_law_many", "_law_told", "_law_sums", "_law_strict", "_law_k", "_law_numbers", "_law_j"] (defScope s_law_barred) ["_law_total"] [none] _ from ⟨rfl, by decide +kernel, by decide +kernel, by decide +kernel, by decide +kernel, rfl, by decide +kernel⟩)) rfl (@kpi_list _ K _ _ _ (@pe_slice _ _ _ _ _ _ _ _ _ _ (@ksl_any _ K (by rfl)) (@pv _ 3 _ _ (by rfl) (by first | exact Or.inl rfl | exact Or.inr (Or.inl rfl) | exact Or.inr (Or.inr rfl)) (by decide) (by decide)) (@po_none _) (@po_some _ _ _ (@pv _ 1 _ _ (by rfl) (by first | exact Or.inl rfl | exact Or.inr (Or.inl rfl) | exact Or.inr (Or.inr rfl)) (by decide) (by decide)))) (by rfl)) (fun _ _ _ _ => (@pg_name _ _ 0 _ nd1 rfl (Or.inl rfl) (by first | exact .inl rfl | exact .inr rfl | assumption))) (fun _ _ _ _ => (@pf_nil _)) (fun _ _ _ _ => (@pe_cmpR _ _ _ _ _ _ _ _ (@op_ne _) (@pe_ix _ _ _ _ _ _ _ (@kix_seq _ K (by rfl)) (@pv _ 0 _ _ (by rfl) (by first | exact Or.inl rfl | exact Or.inr (Or.inl rfl) | exact Or.inr (Or.inr rfl)) (by decide) (by decide)) (@pe_int _ _ _ _) (fun _ _ => rfl)) (@pe_int _ _ _ _) (@nomark _ _ (by decide) (by decide)))) (by intro _; rfl)) (@pa_nil _) (by rfl)) (by decide) (by decide) (by rfl) (by rfl)) (by intro _; rfl)) (@pss_one _ _ _ (@ps_ret _ _ _ _ (@pe_bl _ _ _ _))) (@pss_nil _)) (@pss_one _ _ _ (@ps_ret _ _ _ _ (@pe_or _ _ _ _ _ _ _ (@pe_cmpR _ _ _ _ _ _ _ _ (@op_lt _) (@pe_ix _ _ _ _ _ _ _ (@kix_seq _ K (by rfl)) (@pe_ix _ _ _ _ _ _ _ (@kix_seq _ K (by rfl)) (@pv _ 3 _ _ (by rfl) (by first | exact Or.inl rfl | exact Or.inr (Or.inl rfl) | exact Or.inr (Or.inr rfl)) (by decide) (by decide)) (@pv _ 1 _ _ (by rfl) (by first | exact Or.inl rfl | exact Or.inr (Or.inl rfl) | exact Or.inr (Or.inr rfl)) (by decide) (by decide)) (fun _ _ => rfl)) (@pe_int _ _ _ _) (fun _ _ => rfl)) (@pe_int _ _ _ _) (@nomark _ _ (by decide) (by decide))) (@pe_one _ _ _ _ _ (@pe_and _ _ _ _ _ _ _ (@pe_cmpR _ _ _ _ _ _ _ _ (@op_eq _) (@pe_ix _ _ _ _ _ _ _ (@kix_seq _ K (by rfl)) (@pe_ix _ _ _ _ _ _ _ (@kix_seq _ K (by rfl)) (@pv _ 3 _ _ (by rfl) (by first | exact Or.inl rfl | exact Or.inr (Or.inl rfl) | exact Or.inr (Or.inr rfl)) (by decide) (by decide)) (@pv _ 1 _ _ (by rfl) (by first | exact Or.inl rfl | exact Or.inr (Or.inl rfl) | exact Or.inr (Or.inr rfl)) (by decide) (by decide)) (fun _ _ => rfl)) (@pe_int _ _ _ _) (fun _ _ => rfl)) (@pe_int _ _ _ _) (@nomark _ _ (by decide) (by decide))) (@pe_one _ _ _ _ _ (@pv _ 4 _ _ (by rfl) (by first | exact Or.inl rfl | exact Or.inr (Or.inl rfl) | exact Or.inr (Or.inr rfl)) (by decide) (by decide))))))))))))), ?_⟩
  have hul := Paired.length hp
  obtain ⟨zl, hl⟩ := hS
  have zf : ∀ j, j < S.length → ∃ z, zs[j]? = some z ∧ (zs.map Prod.snd).getD j 0 = z.2 := fun j hj => by
    refine ⟨zs[j], List.getElem?_eq_getElem (by omega), ?_⟩
    rw [List.getD_eq_getElem?_getD, List.getElem?_map, List.getElem?_eq_getElem (by omega)]
    rfl
  refine ⟨_, rfl, _, rfl, _, _, rfl, .inl ⟨_, SqL.of hlr, rfl⟩, p, zs, 2834, (by show [V.ref p, V.int ((us.length : Nat) : Int)] = [V.ref p, V.int ((zs.length : Nat) : Int)]; rw [← hul, zl]), hpp, ff, by omega, fun H1 s1 => ⟨true, rfl, ?_⟩⟩
  refine ⟨_, rfl, p, rfl, ⟨_, SqT.of (s1 _ _ hpp)⟩, fun D1 hD1 => ?_⟩
  refine comp_tup (xs := zs.map Prod.fst) (fun i ys H' => Same H1 H' ∧ ys = (List.replicate i false).map V.bl) ⟨same_new hD1 _, rfl⟩ (fun i ys H' h _ => SqT.of (h.1 _ _ (s1 _ _ hpp))) ?_ ?_
  · rintro i ys H' v hv ⟨s2, rfl⟩ hD'
    have hi := (List.getElem?_eq_some_iff.mp hv).1
    rw [List.length_map] at hi
    rw [List.getElem?_map] at hv
    obtain ⟨z, hz, rfl⟩ := Option.map_eq_some_iff.mp hv
    obtain ⟨pz, ez, hpz, _, _⟩ := ((ff z (List.mem_of_getElem? hz)).same s1).same s2
    obtain ⟨z', hz', e'⟩ := zf i (by omega)
    rw [hz] at hz'
    cases hz'
    have nn := hbar.nn i (by omega)
    rw [e'] at nn
    have n0 : ¬ z.2.num < 0 := fun y => by have := (numQ z.2).2.2.mpr y; grind
    rw [ez]
    refine yes ⟨_, rfl, .inr (.inl ⟨pz, _, 0, _, rfl, rfl, SqT.of hpz, rfl, _, _, rfl, rfl, ?_⟩)⟩
    refine cyes (by rw [List.length_map]; exact hi) rset1 hD' (by rw [List.length_map, List.length_replicate]; exact small1000 (by omega)) ⟨s2.put hD1, ?_⟩
    rw [List.replicate_succ', List.map_append]
    dsimp only
    rw [decide_eq_false n0]
    rfl
  rintro ys H2 ⟨s2, rfl⟩ hD2
  refine ⟨D1, List.replicate (zs.map Prod.fst).length false, rfl, SqL.of hD2, ?_⟩
  rw [show (List.replicate (zs.map Prod.fst).length false).any id = false by simp]
  refine ⟨_, rfl, iteF ?_⟩
  have sA := s1.trans s2
  refine ⟨small9 (by show 2 ≤ 1000; decide), fun w0 hw0 => ⟨small9 (by show 1 ≤ 1000; decide), fun l0 hl0 => ?_⟩⟩
  have m0 := same_new hw0 (.tup [.int 0, .int 1])
  have m1 := same_new hl0 (.lst [.ref w0])
  refine ⟨_, rfl, _, _, rfl, rfl, l0, _, _, rfl, rfl, upd_same, by omega, by omega, (by show 1 * _ ≤ 1000; omega), fun Ls hLs => ?_⟩
  have et : ((m : Int) + 1).toNat = m + 1 := by omega
  rw [et, rep_flat]
  have m2 := same_new hLs (.lst (List.replicate (m + 1) (.ref w0)))
  have sB := sA.trans (m0.trans m1)
  have f0 : FR K (upd (upd (upd H2 w0 (.tup [.int 0, .int 1])) l0 (.lst [.ref w0])) Ls (.lst (List.replicate (m + 1) (.ref w0)))) (.ref w0) 0 3190 := ⟨w0, rfl, SqT.of (m2 _ _ (m1 _ _ upd_same)), by show Sz 3190 0; exact Nat.two_pow_pos _, by show Sz 3190 1; exact Nat.one_lt_two_pow (by decide)⟩
  have fLs : H Ls = none := by
    cases e : H Ls with
    | none => rfl
    | some o =>
      have := sB _ _ e
      rw [hLs] at this
      cases this
  have hL3 := @upd_same (upd (upd H2 w0 (.tup [.int 0, .int 1])) l0 (.lst [.ref w0])) Ls (.lst (List.replicate (m + 1) (.ref w0)))
  have s3 := sB.trans m2
  generalize upd (upd (upd H2 w0 (.tup [.int 0, .int 1])) l0 (.lst [.ref w0])) Ls (.lst (List.replicate (m + 1) (.ref w0))) = H3 at *
  have AT : ∀ k j, k < S.length → j < m + 1 → AtQ D (2 ^ 2834 * Z) ((zs.map Prod.snd).getD k 0 * nuQ S k j) := fun k j hk hj => by
    obtain ⟨l, el, sl⟩ := hl k hk
    have a1 := atQ_int l
    have hr : S[k]? = some (S.getD k ([], false)) := by rw [List.getD_eq_getElem?_getD, List.getElem?_eq_getElem hk]; rfl
    obtain ⟨u, hu⟩ := pr_mem hp _ (List.mem_of_getElem? hr)
    have rl := hu.len
    have hm : nuQ S k j ∈ (S.getD k ([], false)).1 := by
      unfold nuQ
      generalize (S.getD k ([], false)).1 = rr at rl ⊢
      rw [List.getD_eq_getElem?_getD, List.getElem?_eq_getElem (by omega)]
      exact List.getElem_mem _
    have a2 : AtQ D Z (nuQ S k j) := hA _ (List.mem_of_getElem? hr) _ hm
    have a3 := a1.mul (by decide) D0 a2
    rw [Int.one_mul] at a3
    rw [el]
    exact a3.mono (Nat.mul_le_mul_right _ (Nat.le_of_lt sl))
  have pw : 36 * (2 ^ 2834 * 2 ^ 350) < 2 ^ 3190 := by decide +kernel
  have AS : ∀ i j, i ≤ S.length → j < m + 1 → AtQ D (36 * (2 ^ 2834 * 2 ^ 350)) (smQ i fun r => (zs.map Prod.snd).getD r 0 * nuQ S r j) := fun i j hi hj => by
    refine (at_sm D0 i fun k hk => AT k j (by omega) hj).mono ?_
    exact Nat.mul_le_mul (by omega) (Nat.mul_le_mul_left _ (Nat.le_of_lt hZ))
  have DS : Sz 3190 D := hD.mono (by decide)
  refine ⟨_, rfl, _, _, rfl, .inl ⟨_, SqL.of (s3 _ _ hlr), rfl⟩, _, rfl, by omega, by omega, ?_⟩
  rw [Int.toNat_natCast, ← hul]
  refine for_range (fun i σ H' => (∃ xk xn xj, σ = [some (.ref lr), some (nV m), some (.ref p), some (.ref Ls), some (.bl (stB S (fun j => (zs.map Prod.snd).getD j 0) i)), xk, xn, xj]) ∧ Same H H' ∧ ∃ ws : List (V × Rat), H' Ls = some (.lst (ws.map Prod.fst)) ∧ ws.map Prod.snd = suQ S (fun j => (zs.map Prod.snd).getD j 0) m i 0 ∧ FRs K H' ws 3190) ⟨⟨_, _, _, rfl⟩, s3, List.replicate (m + 1) (.ref w0, 0), ?_, ?_, ?_⟩ ?_ ?_
  · rw [List.map_replicate]
    exact hL3
  · rw [List.map_replicate]
    refine List.ext_getElem? fun k => ?_
    by_cases z : k < m + 1
    · rw [su_at z, if_neg (by omega), List.getElem?_replicate, if_pos z]
      rfl
    · rw [List.getElem?_eq_none (by simp; omega), List.getElem?_eq_none (by rw [su_len]; omega)]
  · intro z hz
    rw [(List.mem_replicate.mp hz).2]
    exact f0
  · rintro i σ H4 hi ⟨⟨xk, xn, xj, rfl⟩, s4, ws, hL4, ew, fw⟩
    have hr : S[i]? = some (S.getD i ([], false)) := by rw [List.getD_eq_getElem?_getD, List.getElem?_eq_getElem hi]; rfl
    have hu : us[i]? = some us[i] := List.getElem?_eq_getElem (by omega)
    generalize us[i] = u at hu
    have hrow := (Paired.at hp _ _ _ hr hu).same s4
    have rlen := hrow.len
    obtain ⟨pr, pn, vc, rz, c0, rfl, hr1, hn1, fr1, er, rl⟩ := hrow
    have au : atI us (0 + (i : Int)) = some (.ref pr) := by rw [Int.zero_add]; exact atI_nat hu
    have hlr4 := s4 _ _ hlr
    refine ⟨_, rfl, _, rfl, .inl ⟨lr, _, _, _, rfl, rfl, SqL.of hlr4, au, .inr (.inl ⟨pr, _, 0, _, rfl, rfl, hr1, rfl, pn, _, rfl, .inr hn1, fun ln hln => ?_⟩)⟩⟩
    have n1 := same_new hln (.lst (rz.map Prod.fst))
    refine ⟨_, rfl, _, rfl, .inl ⟨lr, _, _, _, rfl, rfl, SqL.of (n1 _ _ hlr4), au, .inr (.inl ⟨pr, _, 1, _, rfl, rfl, hr1.same n1, rfl, small9 (by show 1 ≤ 1000; decide), fun l1 hl1 => ?_⟩)⟩⟩
    have n2 := same_new hl1 (.lst [vc])
    refine ⟨ln, l1, _, _, rfl, rfl, n2 _ _ upd_same, upd_same, small9 (by rw [List.length_map]; show rz.length + 1 ≤ 1000; omega), fun l2 hl2 => ?_⟩
    have n3 := same_new hl2 (.lst (rz.map Prod.fst ++ [vc]))
    have en : rz.map Prod.fst ++ [vc] = (rz ++ [(vc, c0)]).map Prod.fst := by rw [List.map_append]; rfl
    have hl2' : upd (upd (upd H4 ln (.lst (rz.map Prod.fst))) l1 (.lst [vc])) l2 (.lst (rz.map Prod.fst ++ [vc])) l2 = some (.lst ((rz ++ [(vc, c0)]).map Prod.fst)) := by rw [upd_same, en]
    have s45 := n1.trans (n2.trans n3)
    generalize upd (upd (upd H4 ln (.lst (rz.map Prod.fst))) l1 (.lst [vc])) l2 (.lst (rz.map Prod.fst ++ [vc])) = H5 at *
    have fr5 := fr1.same s45
    have el5 : (rz ++ [(vc, c0)]).length = m + 1 := by rw [List.length_append, rl]; rfl
    generalize rz ++ [(vc, c0)] = ks at *
    obtain ⟨zi, hzi, ezi⟩ := zf i hi
    have hd2L : l2 ≠ Ls := fun z => by
      have := n2 _ _ (n1 _ _ hL4)
      rw [← z, hl2] at this
      cases this
    refine ⟨_, rfl, _, _, rfl, rfl, _, rfl, by omega, by omega, ?_⟩
    have et2 : ((m : Int) + 1).toNat = m + 1 := by omega
    rw [et2]
    refine for_range (fun j σ H' => (∃ xj, σ = [some (.ref lr), some (nV m), some (.ref p), some (.ref Ls), some (.bl (stB S (fun j => (zs.map Prod.snd).getD j 0) i)), some (.int (0 + (i : Int))), some (.ref l2), xj]) ∧ Same H H' ∧ H' l2 = some (.lst (ks.map Prod.fst)) ∧ FRs K H' ks 350 ∧ ∃ ws : List (V × Rat), H' Ls = some (.lst (ws.map Prod.fst)) ∧ ws.map Prod.snd = suQ S (fun j => (zs.map Prod.snd).getD j 0) m i j ∧ FRs K H' ws 3190) ⟨⟨_, rfl⟩, s4.trans s45, hl2', fr5, ws, s45 _ _ hL4, ew, fw.same s45⟩ ?_ ?_
    · rintro j σ H6 hj ⟨⟨xj, rfl⟩, s6, hl6, fk6, ws, hL6, ew6, fw6⟩
      have wl : ws.length = m + 1 := by
        have := congrArg List.length ew6
        rw [List.length_map, su_len] at this
        exact this
      have hw : ws[j]? = some ws[j] := List.getElem?_eq_getElem (by omega)
      have hk : ks[j]? = some ks[j] := List.getElem?_eq_getElem (by omega)
      generalize ws[j] = wj at hw
      generalize ks[j] = kj at hk
      have v1 : wj.2 = smQ i (fun r => (zs.map Prod.snd).getD r 0 * nuQ S r j) := by
        have := congrArg (fun l => l[j]?) ew6
        rw [List.getElem?_map, hw, su_at hj, if_neg (by omega)] at this
        exact Option.some.inj this
      have v2 : kj.2 = nuQ S i j := by
        unfold nuQ
        rw [er, List.getD_eq_getElem?_getD, List.getElem?_map, hk]
        rfl
      have a1 : atI (ws.map Prod.fst) (0 + (j : Int)) = some wj.1 := by rw [Int.zero_add]; exact atI_nat (by rw [List.getElem?_map, hw]; rfl)
      have a2 : atI (ks.map Prod.fst) (0 + (j : Int)) = some kj.1 := by rw [Int.zero_add]; exact atI_nat (by rw [List.getElem?_map, hk]; rfl)
      have a3 : atI (zs.map Prod.fst) (0 + (i : Int)) = some zi.1 := by rw [Int.zero_add]; exact atI_nat (by rw [List.getElem?_map, hzi]; rfl)
      refine ⟨_, rfl, _, rfl, .inl ⟨Ls, _, _, _, rfl, rfl, SqL.of hL6, a1, ?_⟩⟩
      refine ⟨_, rfl, _, rfl, .inr (.inl ⟨p, _, _, _, rfl, rfl, SqT.of (s6 _ _ hpp), a3, _, rfl, _, rfl, .inl ⟨l2, _, _, _, rfl, rfl, SqL.of hl6, a2, ?_⟩⟩)⟩
      refine ⟨_, _, _, _, 2834, 350, rfl, ((ff zi (List.mem_of_getElem? hzi)).same s6).fr, fk6 kj (List.mem_of_getElem? hk), by decide, fun v7 H7 s7 f7 => ?_⟩
      refine ⟨_, _, _, _, 3190, 3185, rfl, (fw6 wj (List.mem_of_getElem? hw)).same s7, f7, by decide, fun v8 H8 s8 f8 => ?_⟩
      have s78 := s7.trans s8
      have hL8 := s78 _ _ hL6
      have ix : ixN (ws.map Prod.fst).length (0 + (j : Int)) = some j := by
        unfold ixN
        rw [Int.zero_add, if_pos (by omega), if_pos (by rw [List.length_map]; omega), Int.toNat_natCast]
      have f9 : FR K H8 v8 (smQ (i + 1) fun r => (zs.map Prod.snd).getD r 0 * nuQ S r j) 3190 := by
        have e9 : wj.2 + zi.2 * kj.2 = smQ (i + 1) fun r => (zs.map Prod.snd).getD r 0 * nuQ S r j := by
          show _ = smQ i _ + (zs.map Prod.snd).getD i 0 * nuQ S i j
          rw [v1, v2, ezi]
        rw [← e9]
        refine fr_tight (n := 3190 + 3185 + 1) f8 ?_ D0 DS pw
        rw [e9]
        exact AS (i + 1) j (by omega) hj
      have ne9 : l2 ≠ Ls := hd2L
      refine ⟨_, rfl, _, rfl, Ls, _, _, j, rfl, rfl, hL8, ix, ⟨_, rfl⟩, (s6.trans s78).put fLs, ?_, (fk6.same s78).put hL8, ws.set j (v8, smQ (i + 1) fun r => (zs.map Prod.snd).getD r 0 * nuQ S r j), ?_, ?_, ?_⟩
      · rw [upd_ne ne9]
        exact s78 _ _ hl6
      · rw [upd_same, List.map_set]
      · rw [List.map_set, ew6]
        exact su_set hj
      · intro z hz
        rcases List.mem_or_eq_of_mem_set hz with y | y
        · exact ((fw6 z y).same s78).put hL8
        · rw [y]
          exact f9.put hL8
    · rintro σ H6 ⟨⟨xj0, rfl⟩, s6, hl6, fk6, ws, hL6, ew6, fw6⟩
      rw [su_next] at ew6
      obtain ⟨pr', pn', vc', rz', c0', e', hr6, _⟩ := (Paired.at hp _ _ _ hr hu).same s6
      cases e'
      have a3 : atI (zs.map Prod.fst) (0 + (i : Int)) = some zi.1 := by rw [Int.zero_add]; exact atI_nat (by rw [List.getElem?_map, hzi]; rfl)
      obtain ⟨pz, ez, hpz, _, _⟩ := (ff zi (List.mem_of_getElem? hzi)).same s6
      rw [ez] at a3
      have fin : ∀ b : Bool, b = stB S (fun j => (zs.map Prod.snd).getD j 0) (i + 1) → ((∃ xk xn xj, [some (.ref lr), some (nV m), some (.ref p), some (.ref Ls), some (.bl b), some (.int (0 + (i : Int))), some (.ref l2), xj0] = [some (.ref lr), some (nV m), some (.ref p), some (.ref Ls), some (.bl (stB S (fun j => (zs.map Prod.snd).getD j 0) (i + 1))), xk, xn, xj]) ∧ Same H H6 ∧ ∃ ws : List (V × Rat), H6 Ls = some (.lst (ws.map Prod.fst)) ∧ ws.map Prod.snd = suQ S (fun j => (zs.map Prod.snd).getD j 0) m (i + 1) 0 ∧ FRs K H6 ws 3190) := fun b hb => by subst hb; exact ⟨⟨_, _, _, rfl⟩, s6, ws, hL6, ew6, fw6⟩
      refine ⟨_, rfl, _, rfl, ?_⟩
      cases hsb : stB S (fun j => (zs.map Prod.snd).getD j 0) i with
      | true => exact iteT (fin true (by rw [st_succ, hsb]; rfl))
      | false =>
        refine iteF ⟨_, rfl, _, rfl, .inl ⟨lr, _, _, _, rfl, rfl, SqL.of (s6 _ _ hlr), au, .inr (.inl ⟨pr, _, 2, _, rfl, rfl, hr6, rfl, _, rfl, ?_⟩)⟩⟩
        have eq9 : stQ S i = (S.getD i ([], false)).2 := rfl
        cases hst : (S.getD i ([], false)).2 with
        | false => exact iteF (fin false (by rw [st_succ, hsb, eq9, hst]; rfl))
        | true =>
          refine iteT ⟨_, rfl, _, rfl, .inr (.inl ⟨p, _, _, _, rfl, rfl, SqT.of (s6 _ _ hpp), a3, .inr (.inl ⟨pz, _, 0, _, rfl, rfl, SqT.of hpz, rfl, _, _, rfl, rfl, ?_⟩)⟩)⟩
          refine fin _ ?_
          rw [st_succ, hsb, eq9, hst, ezi]
          rfl
  · rintro σ H4 ⟨⟨xk, xn, xj, rfl⟩, s4, ws, hL4, ew, fw⟩
    have wl : ws.length = m + 1 := by
      have := congrArg List.length ew
      rw [List.length_map, su_len] at this
      exact this
    have wa : ∀ j, j < m + 1 → ∃ w, ws[j]? = some w ∧ w.2 = smQ S.length fun r => (zs.map Prod.snd).getD r 0 * nuQ S r j := fun j hj => by
      have e1 : ws[j]? = some ws[j] := List.getElem?_eq_getElem (by omega)
      refine ⟨_, e1, ?_⟩
      have := congrArg (fun l => l[j]?) ew
      rw [List.getElem?_map, e1, su_at hj, if_neg (by omega)] at this
      exact Option.some.inj this
    have hcut : cutV (ws.map Prod.fst) none (some (m : Int)) = (ws.map Prod.fst).take m := by
      unfold cutV
      rw [List.length_map, HT.sIx_none, HT.sIx_nat, wl]
      rw [show min m (m + 1) - 0 = m by omega]
      rfl
    refine ⟨_, rfl, _, rfl, _, rfl, .inl ⟨Ls, _, rfl, SqL.of hL4, fun l5 hl5 => ?_⟩⟩
    have n5 := same_new hl5 (.lst (cutV (ws.map Prod.fst) none (some (m : Int))))
    rw [hcut] at n5 ⊢
    refine ⟨l5, rfl, ⟨_, SqL.of upd_same⟩, fun D5 hD5 => ?_⟩
    refine comp_list (xs := (ws.map Prod.fst).take m) (fun i ys H' => Same (upd H4 l5 (.lst ((ws.map Prod.fst).take m))) H' ∧ ys = (List.replicate i false).map V.bl) ⟨same_new hD5 _, rfl⟩ (fun i ys H' h _ => SqL.of (h.1 _ _ upd_same)) ?_ ?_
    · rintro i ys H' v hv ⟨s6, rfl⟩ hD'
      have hi0 := (List.getElem?_eq_some_iff.mp hv).1
      have hi : i < m := by
        rw [List.length_take] at hi0
        omega
      rw [List.getElem?_take, if_pos hi, List.getElem?_map] at hv
      obtain ⟨w, hw, ew2⟩ := wa i (by omega)
      rw [hw] at hv
      cases hv
      obtain ⟨pw9, epw, hpw, _, _⟩ := ((fw w (List.mem_of_getElem? hw)).same n5).same s6
      have z9 : w.2.num = 0 := by
        rw [ew2, hbar.zer i hi]
        rfl
      rw [epw]
      refine yes ⟨_, rfl, .inr (.inl ⟨pw9, _, 0, _, rfl, rfl, hpw, rfl, rfl, ?_⟩)⟩
      refine cyes hi0 rset1 hD' (by rw [List.length_map, List.length_replicate]; exact small1000 (by omega)) ⟨s6.put hD5, ?_⟩
      rw [List.replicate_succ', List.map_append, z9]
      rfl
    rintro ys H5 ⟨s5, rfl⟩ hD5'
    refine ⟨D5, List.replicate ((ws.map Prod.fst).take m).length false, rfl, SqL.of hD5', ?_⟩
    rw [show (List.replicate ((ws.map Prod.fst).take m).length false).any id = false by simp]
    refine ⟨_, rfl, iteF ?_⟩
    have s9 := n5.trans s5
    obtain ⟨w, hw, ew2⟩ := wa m (by omega)
    have am : atI (ws.map Prod.fst) (m : Int) = some w.1 := atI_nat (by rw [List.getElem?_map, hw]; rfl)
    obtain ⟨pw9, epw, hpw, _, _⟩ := (fw w (List.mem_of_getElem? hw)).same s9
    rw [epw] at am
    have hL5 := s9 _ _ hL4
    have q9 := q _ (s4.trans s9)
    refine ⟨_, rfl, _, rfl, .inl ⟨Ls, _, _, _, rfl, rfl, SqL.of hL5, am, .inr (.inl ⟨pw9, _, 0, _, rfl, rfl, hpw, rfl, _, _, rfl, rfl, _, rfl, ?_⟩)⟩⟩
    rcases hbar.las with y | ⟨y, j0, hj0, hs0, hp0⟩
    · rw [← ew2] at y
      exact iteDT (decide_eq_true ((numQ _).2.2.mp y)) q9
    · rw [← ew2] at y
      have y0 := (numQ _).2.1.mp y
      refine iteDF (decide_eq_false (by omega)) ?_
      refine ⟨_, rfl, _, rfl, .inl ⟨Ls, _, _, _, rfl, rfl, SqL.of hL5, am, .inr (.inl ⟨pw9, _, 0, _, rfl, rfl, hpw, rfl, rfl, _, rfl, iteDT (decide_eq_true (by rw [y0])) ?_⟩)⟩⟩
      refine ⟨_, rfl, ?_⟩
      rw [st_true hj0 hs0 hp0]
      exact q9

abbrev s_law_answer_right : Stmt := top 29
theorem sc_law_answer_right : FnScope ["_law_found", "_law_rows_here", "_law_many"] ["_law_found", "_law_rows_here", "_law_many"] (defScope s_law_answer_right) := ⟨rfl, rfl, rfl, by decide +kernel, rfl, by decide +kernel, by decide +kernel⟩
theorem ok_law_answer_right {P : Program} {w : World} {K : PySem.W.Frag} {mg : Str → Option Value} {base : Heap} {f : Addr} {fd : FuncData} (F : Fun K "_law_answer_right" "_law_answer_right" s_law_answer_right f fd) (gb : Gb mg) {c : Nat → Addr} (cl : Cl K mg c) (d_law_fractions : Def P w K mg base 3 "_law_fractions" ["_law_found", "_law_many"] spFrs) (d_law_met : Def P w K mg base 5 "_law_met" ["_law_row", "_law_point"] (spMet K)) (d_law_barred : Def P w K mg base 4 "_law_barred" ["_law_rows_here", "_law_many", "_law_told"] (spBarred K)) : FnOk P w K mg base CX0 6 f fd ["_law_found", "_law_rows_here", "_law_many"] (spRight K) := by
  refine F.ok sc_law_answer_right (fun vs H Q E h => ?_) (fun cdv A outer s H vs Q E hr h => ?_)
  · obtain ⟨t, lr, us, S, m, met, rfl, _⟩ := h
    rfl
  obtain ⟨t, lr, us, S, m, met, rfl, hlr, hp, h4, h36, ht, hF, q⟩ := h
  have nd0 : (["_law_row", "_law_found"] : List Str).Nodup := by decide +kernel
  refine ⟨_, (@pss_cons _ _ _ _ _ (@ps_if _ _ _ _ _ _ _ _ (@PW.pt _ _ _ (@pw_or _ _ _ _ _ _ _ (@pt_not _ _ _ _ (@pt_val _ _ _ (@pe_callB _ _ _ _ _ _ _ _ _ (@kcall_isiT _ K (by rfl)) rfl gb.isinstance bt_isinstance (@pa_cons _ _ _ _ _ (@pv _ 0 _ _ (by rfl) (by first | exact Or.inl rfl | exact Or.inr (Or.inl rfl) | exact Or.inr (Or.inr rfl)) (by decide) (by decide)) (@pa_cons _ _ _ _ _ (@pe_bltn _ _ (.ty "tuple") _ _ rfl gb.tuple bt_tuple rfl (by decide) (by decide)) (@pa_nil _) (by rfl)) (by rfl)) (by decide) (by decide) (by rfl) (by rfl)) (by intro _; rfl))) (@pw_or1 _ _ _ _ (@pt_cmpR _ _ _ _ _ _ _ _ (@op_ne _) (@pe_callB _ _ _ _ _ _ _ _ _ (@kcall_len _ K (by rfl)) rfl gb.len bt_len (@pa_cons _ _ _ _ _ (@pv _ 0 _ _ (by rfl) (by first | exact Or.inl rfl | exact Or.inr (Or.inl rfl) | exact Or.inr (Or.inr rfl)) (by decide) (by decide)) (@pa_nil _) (by rfl)) (by decide) (by decide) (by rfl) (by rfl)) (@pe_int _ _ _ _) (@nomark _ _ (by decide) (by decide)))))) (@pss_one _ _ _ (@ps_ret _ _ _ _ (@pe_bl _ _ _ _))) (@pss_nil _)) (@pss_cons _ _ _ _ _ (@ps_if _ _ _ _ _ _ _ _ (@pt_cmpR _ _ _ _ _ _ _ _ (@op_eq _) (@pe_ix _ _ _ _ _ _ _ (@kix_seq _ K (by rfl)) (@pv _ 0 _ _ (by rfl) (by first | exact Or.inl rfl | exact Or.inr (Or.inl rfl) | exact Or.inr (Or.inr rfl)) (by decide) (by decide)) (@pe_int _ _ _ _) (fun _ _ => rfl)) (@pe_str _ _ _ _) (@nomark _ _ (by decide) (by decide))) (@pss_one _ _ _ (@ps_ret _ _ _ _ (@pe_and _ _ _ _ _ _ _ (@pe_def _ _ _ _ _ _ _ _ _ _ _ d_law_fractions hr (by omega) rfl (@pa_cons _ _ _ _ _ (@pe_ix _ _ _ _ _ _ _ (@kix_seq _ K (by rfl)) (@pv _ 0 _ _ (by rfl) (by first | exact Or.inl rfl | exact Or.inr (Or.inl rfl) | exact Or.inr (Or.inr rfl)) (by decide) (by decide)) (@pe_int _ _ _ _) (fun _ _ => rfl)) (@pa_cons _ _ _ _ _ (@pv _ 2 _ _ (by rfl) (by first | exact Or.inl rfl | exact Or.inr (Or.inl rfl) | exact Or.inr (Or.inr rfl)) (by decide) (by decide)) (@pa_nil _) (by rfl)) (by rfl)) (by decide) (by rfl) (by rfl)) (@pe_one _ _ _ _ _ (@pe_callB _ _ _ _ _ _ _ _ _ (@kcall_all _ K rfl (by rfl)) rfl gb.all bt_all (@pa_cons _ _ _ _ _ (@pe_comp _ ["_law_row", "_law_found"] [none, some 0] _ _ _ _ _ _ _ _ _ _ (by exact (show CompOk ["_law_found", "_law_rows_here", "_law_many"] (defScope s_law_answer_right) ["_law_row", "_law_found"] [none, some 0] _ from ⟨rfl, by decide +kernel, by decide +kernel, by decide +kernel, by decide +kernel, rfl, by decide +kernel⟩)) rfl (@kpi_list _ K _ _ _ (@pv _ 1 _ _ (by rfl) (by first | exact Or.inl rfl | exact Or.inr (Or.inl rfl) | exact Or.inr (Or.inr rfl)) (by decide) (by decide)) (by rfl)) (fun _ _ _ _ => (@pg_name _ _ 0 _ nd0 rfl (Or.inl rfl) (by first | exact .inl rfl | exact .inr rfl | assumption))) (fun _ _ _ _ => (@pf_nil _)) (fun _ _ _ _ => (@pe_def _ _ _ _ _ _ _ _ _ _ _ d_law_met hr (by omega) rfl (@pa_cons _ _ _ _ _ (@pv _ 0 _ _ (by rfl) (by first | exact Or.inl rfl | exact Or.inr (Or.inl rfl) | exact Or.inr (Or.inr rfl)) (by decide) (by decide)) (@pa_cons _ _ _ _ _ (@pe_ix _ _ _ _ _ _ _ (@kix_seq _ K (by rfl)) (@pv _ 1 _ _ (by rfl) (by first | exact Or.inl rfl | exact Or.inr (Or.inl rfl) | exact Or.inr (Or.inr rfl)) (by decide) (by decide)) (@pe_int _ _ _ _) (fun _ _ => rfl)) (@pa_nil _) (by rfl)) (by rfl)) (by decide) (by rfl) (by rfl))) (by intro _; rfl)) (@pa_nil _) (by rfl)) (by decide) (by decide) (by rfl) (by rfl)))))) (@pss_nil _)) (@pss_one _ _ _ (@ps_ret _ _ _ _ (@pe_and _ _ _ _ _ _ _ (@pe_cmpR _ _ _ _ _ _ _ _ (@op_eq _) (@pe_ix _ _ _ _ _ _ _ (@kix_seq _ K (by rfl)) (@pv _ 0 _ _ (by rfl) (by first | exact Or.inl rfl | exact Or.inr (Or.inl rfl) | exact Or.inr (Or.inr rfl)) (by decide) (by decide)) (@pe_int _ _ _ _) (fun _ _ => rfl)) (@pe_str _ _ _ _) (@nomark _ _ (by decide) (by decide))) (@pe_one _ _ _ _ _ (@pe_def _ _ _ _ _ _ _ _ _ _ _ d_law_barred hr (by omega) rfl (@pa_cons _ _ _ _ _ (@pv _ 1 _ _ (by rfl) (by first | exact Or.inl rfl | exact Or.inr (Or.inl rfl) | exact Or.inr (Or.inr rfl)) (by decide) (by decide)) (@pa_cons _ _ _ _ _ (@pv _ 2 _ _ (by rfl) (by first | exact Or.inl rfl | exact Or.inr (Or.inl rfl) | exact Or.inr (Or.inr rfl)) (by decide) (by decide)) (@pa_cons _ _ _ _ _ (@pe_ix _ _ _ _ _ _ _ (@kix_seq _ K (by rfl)) (@pv _ 0 _ _ (by rfl) (by first | exact Or.inl rfl | exact Or.inr (Or.inl rfl) | exact Or.inr (Or.inr rfl)) (by decide) (by decide)) (@pe_int _ _ _ _) (fun _ _ => rfl)) (@pa_nil _) (by rfl)) (by rfl)) (by rfl)) (by decide) (by rfl) (by rfl)))))))), ?_⟩
  have hul := Paired.length hp
  obtain ⟨p, zs, hpz, ht⟩ := ht
  cases met with
  | true =>
    rw [if_pos rfl] at ht
    obtain ⟨ht, ff, hP, hm⟩ := ht
    have zl := hP.1
    refine ⟨_, rfl, _, _, _, true, rfl, .tup ht, kit_same "tuple", true, rfl, ?_⟩
    refine ⟨_, rfl, _, 2, rfl, .inr ⟨_, SqT.of ht, rfl⟩, rfl, _, rfl, ?_⟩
    refine iteNS (c := V.int 2 = V.int 2) rfl ?_
    refine ⟨_, rfl, .inr (.inl ⟨t, _, 0, _, rfl, rfl, SqT.of ht, rfl, rfl, _, rfl, iteDT (decide_eq_true rfl) ?_⟩)⟩
    refine ⟨_, rfl, .inr (.inl ⟨t, _, 1, _, rfl, rfl, SqT.of ht, rfl, _, rfl, p, zs, 2485, (by rw [zl]; rfl), hpz, ff, by omega, fun H1 s1 => ⟨_, rfl, iteT ?_⟩⟩)⟩
    refine ⟨_, rfl, lr, rfl, ⟨_, SqL.of (s1 _ _ hlr)⟩, fun D hD => ?_⟩
    refine comp_list (xs := us) (fun i ys H' => Same H1 H' ∧ ys = (List.replicate i true).map V.bl) ⟨same_new hD _, rfl⟩ (fun i ys H' h _ => SqL.of (h.1 _ _ (s1 _ _ hlr))) ?_ ?_
    · rintro i ys H' v hv ⟨s2, rfl⟩ hD'
      have hi := (List.getElem?_eq_some_iff.mp hv).1
      have hr : S[i]? = some (S.getD i ([], false)) := by rw [List.getD_eq_getElem?_getD, List.getElem?_eq_getElem (by omega)]; rfl
      obtain ⟨h1, h2⟩ := Paired.at hp _ _ _ hr hv
      have sA := s1.trans s2
      refine yes ⟨_, rfl, _, rfl, .inr (.inl ⟨t, _, 1, _, rfl, rfl, SqT.of (sA _ _ ht), rfl, v, p, _, m, zs, rfl, h1.same sA, h2, SqT.of (sA _ _ hpz), (ff.same sA).fr, hP, h4, hm i (by omega), fun H3 s3 => ?_⟩)⟩
      refine cyes hi rset1 (s3 _ _ hD') (by rw [List.length_map, List.length_replicate]; exact small1000 (by omega)) ⟨(s2.trans s3).put hD, ?_⟩
      rw [List.replicate_succ', List.map_append]
      rfl
    · rintro ys H' ⟨s2, rfl⟩ hD'
      have hq := q _ (s1.trans s2)
      refine ⟨D, List.replicate us.length true, rfl, SqL.of hD', ?_⟩
      rw [show (List.replicate us.length true).all id = true by simp]
      exact hq
  | false =>
    rw [if_neg (by decide)] at ht
    obtain ⟨ht, ff, hP, hm⟩ := ht
    obtain ⟨D, Z, D0, hD, hZ, hA⟩ := hF rfl
    refine ⟨_, rfl, _, _, _, true, rfl, .tup ht, kit_same "tuple", true, rfl, ?_⟩
    refine ⟨_, rfl, _, 2, rfl, .inr ⟨_, SqT.of ht, rfl⟩, rfl, _, rfl, ?_⟩
    refine iteNS (c := V.int 2 = V.int 2) rfl ?_
    refine ⟨_, rfl, .inr (.inl ⟨t, _, 0, _, rfl, rfl, SqT.of ht, rfl, rfl, _, rfl, iteDF (decide_eq_false (by decide)) ?_⟩)⟩
    refine ⟨_, rfl, .inr (.inl ⟨t, _, 0, _, rfl, rfl, SqT.of ht, rfl, rfl, _, rfl, iteDT (decide_eq_true rfl) ?_⟩)⟩
    exact ⟨_, rfl, _, rfl, _, rfl, .inr (.inl ⟨t, _, 1, _, rfl, rfl, SqT.of ht, rfl, lr, p, us, S, m, zs, D, Z, rfl, hlr, Paired.mapP hp fun _ _ h => h.1, h4, h36, hpz, ff, hP, D0, hD, hZ, hA, hm, q⟩)⟩

abbrev s_law_small : Stmt := top 30
theorem sc_law_small : FnScope ["_law_x"] ["_law_x"] (defScope s_law_small) := ⟨rfl, rfl, rfl, by decide +kernel, rfl, by decide +kernel, by decide +kernel⟩
theorem ok_law_small {P : Program} {w : World} {K : PySem.W.Frag} {mg : Str → Option Value} {base : Heap} {f : Addr} {fd : FuncData} (F : Fun K "_law_small" "_law_small" s_law_small f fd) (gb : Gb mg) {c : Nat → Addr} (cl : Cl K mg c) (d_law_lowest : Def P w K mg base 2 "_law_lowest" ["_law_top", "_law_bottom"] (spLow K)) : FnOk P w K mg base CX0 3 f fd ["_law_x"] (spSmall K) := by
  refine F.ok sc_law_small (fun vs H Q E h => ?_) (fun cdv A outer s H vs Q E hr h => ?_)
  · obtain ⟨x, rfl, _⟩ := h
    rfl
  obtain ⟨x, rfl, q⟩ := h
  refine ⟨_, (@pss_cons _ _ _ _ _ (@ps_if _ _ _ _ _ _ _ _ (@pt_cmpR _ _ _ _ _ _ _ _ (@op_eq _) (@pe_op _ _ _ _ _ _ _ _ (@op_mod _) (@pv _ 0 _ _ (by rfl) (by first | exact Or.inl rfl | exact Or.inr (Or.inl rfl) | exact Or.inr (Or.inr rfl)) (by decide) (by decide)) (@pe_int _ _ _ _)) (@pe_int _ _ _ _) (@nomark _ _ (by decide) (by decide))) (@pss_one _ _ _ (@ps_ret _ _ _ _ (@pe_def _ _ _ _ _ _ _ _ _ _ _ d_law_lowest hr (by omega) rfl (@pa_cons _ _ _ _ _ (@pe_op _ _ _ _ _ _ _ _ (@op_sub _) (@pe_op _ _ _ _ _ _ _ _ (@op_mod _) (@pe_op _ _ _ _ _ _ _ _ (@op_fdiv _) (@pv _ 0 _ _ (by rfl) (by first | exact Or.inl rfl | exact Or.inr (Or.inl rfl) | exact Or.inr (Or.inr rfl)) (by decide) (by decide)) (@pe_int _ _ _ _)) (@pe_int _ _ _ _)) (@pe_int _ _ _ _)) (@pa_cons _ _ _ _ _ (@pe_op _ _ _ _ _ _ _ _ (@op_add _) (@pe_int _ _ _ _) (@pe_op _ _ _ _ _ _ _ _ (@op_mod _) (@pe_op _ _ _ _ _ _ _ _ (@op_fdiv _) (@pv _ 0 _ _ (by rfl) (by first | exact Or.inl rfl | exact Or.inr (Or.inl rfl) | exact Or.inr (Or.inr rfl)) (by decide) (by decide)) (@pe_int _ _ _ _)) (@pe_int _ _ _ _))) (@pa_nil _) (by rfl)) (by rfl)) (by decide) (by rfl) (by rfl)))) (@pss_nil _)) (@pss_one _ _ _ (@ps_ret _ _ _ _ (@pe_tup _ _ _ _ _ (@pa_cons _ _ _ _ _ (@pe_op _ _ _ _ _ _ _ _ (@op_sub _) (@pe_op _ _ _ _ _ _ _ _ (@op_mod _) (@pe_op _ _ _ _ _ _ _ _ (@op_fdiv _) (@pv _ 0 _ _ (by rfl) (by first | exact Or.inl rfl | exact Or.inr (Or.inl rfl) | exact Or.inr (Or.inr rfl)) (by decide) (by decide)) (@pe_int _ _ _ _)) (@pe_int _ _ _ _)) (@pe_int _ _ _ _)) (@pa_cons _ _ _ _ _ (@pe_int _ _ _ _) (@pa_nil _) (by rfl)) (by rfl)))))), ?_⟩
  walk_at "rd"
  refine ⟨rfl, _, rfl, ite2 (fun c => ?_) (fun c => ?_)⟩
  · walk_at "rd"
    exact ⟨_, _, 20, rfl, by omega, sz20 (by omega), sz20 (by omega), by decide, fun v H1 s1 f1 => q v _ H1 s1 f1 (at_small (by omega) (by omega) (by omega))⟩
  · walk_at "rd"
    refine ⟨small9 (by show 2 ≤ 1000; decide), fun w hw => ?_⟩
    refine q _ (Rat.ofInt (x / 5 % 7 - 3)) _ (same_new hw _) (FR.new (r := Rat.ofInt (x / 5 % 7 - 3)) (sz20 (show Int.natAbs (x / 5 % 7 - 3) ≤ 20 by omega)) (sz20 (show Int.natAbs 1 ≤ 20 by decide))) ?_
    have e : Rat.ofInt (x / 5 % 7 - 3) = Rat.divInt (x / 5 % 7 - 3) 1 := (Rat.num_divInt_den (Rat.ofInt (x / 5 % 7 - 3))).symm
    rw [e]
    exact at_small (by omega) (by decide) (by decide)

abbrev s_law_rows : Stmt := top 31
theorem sc_law_rows : FnScope ["_law_xs", "_law_many", "_law_rows_here", "_law_k", "_law_numbers"] ["_law_xs"] (defScope s_law_rows) := ⟨rfl, rfl, rfl, by decide +kernel, rfl, by decide +kernel, by decide +kernel⟩
theorem ok_law_rows {P : Program} {w : World} {K : PySem.W.Frag} {mg : Str → Option Value} {base : Heap} {f : Addr} {fd : FuncData} (F : Fun K "_law_rows" "_law_rows" s_law_rows f fd) (gb : Gb mg) {c : Nat → Addr} (cl : Cl K mg c) (d_law_small : Def P w K mg base 3 "_law_small" ["_law_x"] (spSmall K)) : FnOk P w K mg base CX0 5 f fd ["_law_xs"] (spRows K) := by
  refine F.ok sc_law_rows (fun vs H Q E h => ?_) (fun cdv A outer s H vs Q E hr h => ?_)
  · obtain ⟨p, ys, rfl, _⟩ := h
    rfl
  obtain ⟨p, ys, rfl, hp1, hyl, hyb, q⟩ := h
  have nd0 : (["_law_j", "_law_xs", "_law_k"] : List Str).Nodup := by decide +kernel
  refine ⟨_, (@pss_cons _ _ _ _ _ (@ps_set _ _ 1 _ _ _ _ sc_law_rows.nd rfl (Or.inl rfl) (@pe_op _ _ _ _ _ _ _ _ (@op_add _) (@pe_int _ _ _ _) (@pe_op _ _ _ _ _ _ _ _ (@op_mod _) (@pe_ix _ _ _ _ _ _ _ (@kix_seq _ K (by rfl)) (@pv _ 0 _ _ (by rfl) (by first | exact Or.inl rfl | exact Or.inr (Or.inl rfl) | exact Or.inr (Or.inr rfl)) (by decide) (by decide)) (@pe_int _ _ _ _) (fun _ _ => rfl)) (@pe_int _ _ _ _))) (by rfl) (by first | exact .inl rfl | exact .inr rfl | assumption)) (@pss_cons _ _ _ _ _ (@ps_set _ _ 2 _ _ _ _ sc_law_rows.nd rfl (Or.inl rfl) (@pe_lst _ _ _ _ (@pa_nil _)) (by rfl) (by first | exact .inl rfl | exact .inr rfl | assumption)) (@pss_cons _ _ _ _ _ (@ps_for _ _ _ _ _ _ _ _ PassesOwn.never rfl (@pi_range1 _ _ _ _ _ _ rfl gb.range (@pa_cons _ _ _ _ _ (@pe_op _ _ _ _ _ _ _ _ (@op_mod _) (@pe_ix _ _ _ _ _ _ _ (@kix_seq _ K (by rfl)) (@pv _ 0 _ _ (by rfl) (by first | exact Or.inl rfl | exact Or.inr (Or.inl rfl) | exact Or.inr (Or.inr rfl)) (by decide) (by decide)) (@pe_int _ _ _ _) (fun _ _ => rfl)) (@pe_int _ _ _ _)) (@pa_nil _) (by rfl)) (by rfl)) (@pg_name _ _ 3 _ sc_law_rows.nd rfl (Or.inr rfl) (by first | exact .inl rfl | exact .inr rfl | assumption)) (@pss_cons _ _ _ _ _ (@ps_set _ _ 4 _ _ _ _ sc_law_rows.nd rfl (Or.inl rfl) (@pe_callTy _ _ _ _ _ _ _ _ _ (@kcall_tuple_of _ K (by rfl)) rfl gb.tuple bt_tuple (@pa_cons _ _ _ _ _ (@pe_comp _ ["_law_j", "_law_xs", "_law_k"] [none, some 0, some 3] _ _ _ _ _ _ _ _ _ _ (by exact (show CompOk ["_law_xs", "_law_many", "_law_rows_here", "_law_k", "_law_numbers"] (defScope s_law_rows) ["_law_j", "_law_xs", "_law_k"] [none, some 0, some 3] _ from ⟨rfl, by decide +kernel, by decide +kernel, by decide +kernel, by decide +kernel, rfl, by decide +kernel⟩)) rfl (@pi_range1 _ _ _ _ _ _ rfl gb.range (@pa_cons _ _ _ _ _ (@pv _ 1 _ _ (by rfl) (by first | exact Or.inl rfl | exact Or.inr (Or.inl rfl) | exact Or.inr (Or.inr rfl)) (by decide) (by decide)) (@pa_nil _) (by rfl)) (by rfl)) (fun _ _ _ _ => (@pg_name _ _ 0 _ nd0 rfl (Or.inl rfl) (by first | exact .inl rfl | exact .inr rfl | assumption))) (fun _ _ _ _ => (@pf_nil _)) (fun _ _ _ _ => (@pe_def _ _ _ _ _ _ _ _ _ _ _ d_law_small hr (by omega) rfl (@pa_cons _ _ _ _ _ (@pe_ix _ _ _ _ _ _ _ (@kix_seq _ K (by rfl)) (@pv _ 1 _ _ (by rfl) (by first | exact Or.inl rfl | exact Or.inr (Or.inl rfl) | exact Or.inr (Or.inr rfl)) (by decide) (by decide)) (@pe_op _ _ _ _ _ _ _ _ (@op_add _) (@pe_op _ _ _ _ _ _ _ _ (@op_add _) (@pe_int _ _ _ _) (@pe_op _ _ _ _ _ _ _ _ (@op_mul _) (@pe_int _ _ _ _) (@pv _ 2 _ _ (by rfl) (by first | exact Or.inl rfl | exact Or.inr (Or.inl rfl) | exact Or.inr (Or.inr rfl)) (by decide) (by decide)))) (@pv _ 0 _ _ (by rfl) (by first | exact Or.inl rfl | exact Or.inr (Or.inl rfl) | exact Or.inr (Or.inr rfl)) (by decide) (by decide))) (fun _ _ => rfl)) (@pa_nil _) (by rfl)) (by decide) (by rfl) (by rfl))) (by intro _; rfl)) (@pa_nil _) (by rfl)) (by decide) (by decide) (by rfl) (by rfl)) (by rfl) (by first | exact .inl rfl | exact .inr rfl | assumption)) (@pss_one _ _ _ (@ps_expr _ _ _ _ (@kpe_bm _ K _ _ _ _ _ _ _ _ _ _ _ PySem.F.plainAttrs_list PySem.F.slot_list_append PySem.F.type_list_append (@mt_append _) (@pv _ 2 _ _ (by rfl) (by first | exact Or.inl rfl | exact Or.inr (Or.inl rfl) | exact Or.inr (Or.inr rfl)) (by decide) (by decide)) (@pa_cons _ _ _ _ _ (@pe_tup _ _ _ _ _ (@pa_cons _ _ _ _ _ (@pv _ 4 _ _ (by rfl) (by first | exact Or.inl rfl | exact Or.inr (Or.inl rfl) | exact Or.inr (Or.inr rfl)) (by decide) (by decide)) (@pa_cons _ _ _ _ _ (@pe_def _ _ _ _ _ _ _ _ _ _ _ d_law_small hr (by omega) rfl (@pa_cons _ _ _ _ _ (@pe_ix _ _ _ _ _ _ _ (@kix_seq _ K (by rfl)) (@pv _ 0 _ _ (by rfl) (by first | exact Or.inl rfl | exact Or.inr (Or.inl rfl) | exact Or.inr (Or.inr rfl)) (by decide) (by decide)) (@pe_op _ _ _ _ _ _ _ _ (@op_add _) (@pe_int _ _ _ _) (@pe_op _ _ _ _ _ _ _ _ (@op_mul _) (@pe_int _ _ _ _) (@pv _ 3 _ _ (by rfl) (by first | exact Or.inl rfl | exact Or.inr (Or.inl rfl) | exact Or.inr (Or.inr rfl)) (by decide) (by decide)))) (fun _ _ => rfl)) (@pa_nil _) (by rfl)) (by decide) (by rfl) (by rfl)) (@pa_cons _ _ _ _ _ (@pe_cmpR _ _ _ _ _ _ _ _ (@op_eq _) (@pe_op _ _ _ _ _ _ _ _ (@op_mod _) (@pe_ix _ _ _ _ _ _ _ (@kix_seq _ K (by rfl)) (@pv _ 0 _ _ (by rfl) (by first | exact Or.inl rfl | exact Or.inr (Or.inl rfl) | exact Or.inr (Or.inr rfl)) (by decide) (by decide)) (@pe_op _ _ _ _ _ _ _ _ (@op_add _) (@pe_int _ _ _ _) (@pe_op _ _ _ _ _ _ _ _ (@op_mul _) (@pe_int _ _ _ _) (@pv _ 3 _ _ (by rfl) (by first | exact Or.inl rfl | exact Or.inr (Or.inl rfl) | exact Or.inr (Or.inr rfl)) (by decide) (by decide)))) (fun _ _ => rfl)) (@pe_int _ _ _ _)) (@pe_int _ _ _ _) (@nomark _ _ (by decide) (by decide))) (@pa_nil _) (by rfl)) (by rfl)) (by rfl))) (@pa_nil _) (by rfl)) (by rfl) (by rfl) (by rfl) (by rfl) (by rfl) (by rfl)) (by rfl)))) (by intro _; rfl)) (@pss_one _ _ _ (@ps_ret _ _ _ _ (@pe_tup _ _ _ _ _ (@pa_cons _ _ _ _ _ (@pv _ 1 _ _ (by rfl) (by first | exact Or.inl rfl | exact Or.inr (Or.inl rfl) | exact Or.inr (Or.inr rfl)) (by decide) (by decide)) (@pa_cons _ _ _ _ _ (@pv _ 2 _ _ (by rfl) (by first | exact Or.inl rfl | exact Or.inr (Or.inl rfl) | exact Or.inr (Or.inr rfl)) (by decide) (by decide)) (@pa_nil _) (by rfl)) (by rfl)))))))), ?_⟩
  have at_ys : ∀ j : Nat, j < 70 → ∃ y, 0 ≤ y ∧ y < 1000000000 ∧ atI (ys.map V.int) ((j : Nat) : Int) = some (.int y) := fun j hj => by
    have e : ys[j]? = some ys[j] := List.getElem?_eq_getElem (by omega)
    obtain ⟨h1, h2⟩ := hyb _ (List.mem_of_getElem? e)
    exact ⟨_, h1, h2, atI_nat (by rw [List.getElem?_map, e]; rfl)⟩
  obtain ⟨y0, _, _, e0⟩ := at_ys 0 (by decide)
  obtain ⟨y1, _, _, e1⟩ := at_ys 1 (by decide)
  refine ⟨_, rfl, .inl ⟨p, _, 0, _, rfl, rfl, SqL.of hp1, e0, _, _, rfl, rfl, (show (0 : Int) < 4 by decide), _, _, rfl, rfl, ?_⟩⟩
  dsimp only
  obtain ⟨m, em5, m1, m4⟩ : ∃ m : Nat, 1 + y0 % 4 = (m : Int) ∧ 1 ≤ m ∧ m ≤ 4 := ⟨(1 + y0 % 4).toNat, by omega, by omega, by omega⟩
  rw [em5]
  refine ⟨small9 (by show 0 ≤ 1000; decide), fun l0 hl0 => ?_⟩
  have n3 := same_new hl0 (.lst [])
  refine ⟨_, rfl, .inl ⟨p, _, 1, _, rfl, rfl, SqL.of (n3 _ _ hp1), e1, _, _, rfl, rfl, (show (0 : Int) < 8 by decide), _, rfl, by omega, by omega, ?_⟩⟩
  refine for_range (fun i σ H' => (∃ x3 x4, σ = [some (.ref p), some (nV m), some (.ref l0), x3, x4]) ∧ Same H H' ∧ ∃ us S, H' l0 = some (.lst us) ∧ S.length = i ∧ RwD K H' m 2520 50400 S us) ⟨⟨_, _, rfl⟩, n3, [], [], upd_same, rfl, .nil⟩ ?_ ?_
  · rintro i σ HL hi ⟨⟨x3, x4, rfl⟩, s3, ws, S, hws, hSl, hP⟩
    have hi30 : i ≤ 6 := by omega
    have cm : CMul 6 (0 + (i : Int)) := .inl ⟨by decide, by decide⟩
    have hpL := s3 _ _ hp1
    refine ⟨_, rfl, (m : Int), rfl, by omega, by omega, fun D2 hD2 => ?_⟩
    rw [Int.toNat_natCast]
    refine comp_frP (K := K) (b := 20) (AtQ 2520 50400) hD2 (by omega) (fun j H4 Q4 hj s4 k4 => ?_) (fun rz H5 s5 hrl frz arz hD4 => ?_)
    · obtain ⟨yy, ya, yb, e⟩ := at_ys (4 + 6 * i + j) (by omega)
      exact ⟨_, rfl, _, rfl, _, _, rfl, rfl, cm, _, _, rfl, rfl, _, rfl, _, _, rfl, rfl, .inl ⟨p, _, _, _, rfl, rfl, SqL.of (s4 _ _ hpL), by rw [show (4 : Int) + 6 * (0 + (i : Int)) + (0 + (j : Int)) = ((4 + 6 * i + j : Nat) : Int) by omega]; exact e, yy, rfl, k4⟩⟩
    obtain ⟨y8, _, _, e8⟩ := at_ys (8 + 6 * i) (by omega)
    obtain ⟨y9, _, _, e9⟩ := at_ys (9 + 6 * i) (by omega)
    rw [show ((8 + 6 * i : Nat) : Int) = 8 + 6 * (0 + (i : Int)) by omega] at e8
    rw [show ((9 + 6 * i : Nat) : Int) = 9 + 6 * (0 + (i : Int)) by omega] at e9
    refine ⟨D2, _, rfl, .inl ⟨SqL.of hD4, fun t2 ht2 => ?_⟩⟩
    have m1' := same_new ht2 (.tup (rz.map Prod.fst))
    have hp5 := m1' _ _ (s5 _ _ hpL)
    refine ⟨_, rfl, .inl ⟨rfl, _, SqL.of (m1' _ _ (s5 _ _ hws))⟩, ?_⟩
    refine ⟨_, rfl, _, rfl, _, rfl, _, _, rfl, rfl, cm, _, _, rfl, rfl, .inl ⟨p, _, _, _, rfl, rfl, SqL.of hp5, e8, y8, rfl, fun v8 r8 H8 s8 f8 a8 => ?_⟩⟩
    refine ⟨_, rfl, _, rfl, _, _, rfl, rfl, cm, _, _, rfl, rfl, .inl ⟨p, _, _, _, rfl, rfl, SqL.of (s8 _ _ hp5), e9, _, _, rfl, rfl, (show (0 : Int) < 2 by decide), rfl, small9 (by show 3 ≤ 1000; decide), fun w4 hw4 => ?_⟩⟩
    dsimp only
    generalize decide (V.int (y9 % 2) = V.int 1) = st
    have m4' := same_new hw4 (.tup [.ref t2, v8, .bl st])
    have s58 := m1'.trans (s8.trans m4')
    have sF := s5.trans s58
    have hwl := Paired.length hP
    refine ⟨l0, _, _, rfl, rfl, sF _ _ hws, small1000 (by omega), ⟨_, _, rfl⟩, (s3.trans sF).put hl0, _, S ++ [((rz ++ [(v8, r8)]).map Prod.snd, st)], upd_same, by rw [List.length_append, hSl]; rfl, ?_⟩
    refine pr_app (Paired.mapP hP fun r u ⟨a1, a2⟩ => ⟨(a1.same sF).put (sF _ _ hws), a2⟩) (.cons ⟨?_, rws_app arz a8⟩ .nil)
    exact IsRw.put ⟨w4, t2, v8, rz, r8, rfl, SqT.of upd_same, SqT.of (m4' _ _ (s8 _ _ upd_same)), frs_app (frs_mono (frz.same s58) (by decide)) ((f8.same m4').mono (by decide)), rfl, hrl⟩ (sF _ _ hws)
  · rintro σ HL ⟨⟨x3, x4, rfl⟩, s3, ws, S, hws, hSl, hP⟩
    refine ⟨_, rfl, _, rfl, small9 (by show 2 ≤ 1000; decide), fun t ht => ?_⟩
    have n9 := same_new ht (.tup [nV m, .ref l0])
    exact q t l0 ws S m _ (s3.trans n9) upd_same (n9 _ _ hws) (Paired.mapP hP fun r u ⟨a1, a2⟩ => ⟨a1.same n9, a2⟩) m1 m4 (by omega)

abbrev s_law_times : Stmt := top 32
theorem sc_law_times : FnScope ["_law_row", "_law_by"] ["_law_row", "_law_by"] (defScope s_law_times) := ⟨rfl, rfl, rfl, by decide +kernel, rfl, by decide +kernel, by decide +kernel⟩
theorem ok_law_times {P : Program} {w : World} {K : PySem.W.Frag} {mg : Str → Option Value} {base : Heap} {f : Addr} {fd : FuncData} (F : Fun K "_law_times" "_law_times" s_law_times f fd) (gb : Gb mg) {c : Nat → Addr} (cl : Cl K mg c) (d_law_product : Def P w K mg base 3 "_law_product" ["_law_one", "_law_other"] (spR K (fun r s => r * s))) : FnOk P w K mg base CX0 4 f fd ["_law_row", "_law_by"] (spTimes K) := by
  refine F.ok sc_law_times (fun vs H Q E h => ?_) (fun cdv A outer s H vs Q E hr h => ?_)
  · obtain ⟨v, vb, r, m, t, B, rfl, _⟩ := h
    rfl
  obtain ⟨v, vb, r, m, t, B, rfl, hv, m4, hS, fb, hA, B0, B1, q⟩ := h
  have nd0 : (["_law_part", "_law_by"] : List Str).Nodup := by decide +kernel
  refine ⟨_, (@pss_one _ _ _ (@ps_ret _ _ _ _ (@pe_tup _ _ _ _ _ (@pa_cons _ _ _ _ _ (@pe_callTy _ _ _ _ _ _ _ _ _ (@kcall_tuple_of _ K (by rfl)) rfl gb.tuple bt_tuple (@pa_cons _ _ _ _ _ (@pe_comp _ ["_law_part", "_law_by"] [none, some 1] _ _ _ _ _ _ _ _ _ _ (by exact (show CompOk ["_law_row", "_law_by"] (defScope s_law_times) ["_law_part", "_law_by"] [none, some 1] _ from ⟨rfl, by decide +kernel, by decide +kernel, by decide +kernel, by decide +kernel, rfl, by decide +kernel⟩)) rfl (@kpi_tup _ K _ _ _ (@pe_ix _ _ _ _ _ _ _ (@kix_seq _ K (by rfl)) (@pv _ 0 _ _ (by rfl) (by first | exact Or.inl rfl | exact Or.inr (Or.inl rfl) | exact Or.inr (Or.inr rfl)) (by decide) (by decide)) (@pe_int _ _ _ _) (fun _ _ => rfl)) (by rfl)) (fun _ _ _ _ => (@pg_name _ _ 0 _ nd0 rfl (Or.inl rfl) (by first | exact .inl rfl | exact .inr rfl | assumption))) (fun _ _ _ _ => (@pf_nil _)) (fun _ _ _ _ => (@pe_def _ _ _ _ _ _ _ _ _ _ _ d_law_product hr (by omega) rfl (@pa_cons _ _ _ _ _ (@pv _ 0 _ _ (by rfl) (by first | exact Or.inl rfl | exact Or.inr (Or.inl rfl) | exact Or.inr (Or.inr rfl)) (by decide) (by decide)) (@pa_cons _ _ _ _ _ (@pv _ 1 _ _ (by rfl) (by first | exact Or.inl rfl | exact Or.inr (Or.inl rfl) | exact Or.inr (Or.inr rfl)) (by decide) (by decide)) (@pa_nil _) (by rfl)) (by rfl)) (by decide) (by rfl) (by rfl))) (by intro _; rfl)) (@pa_nil _) (by rfl)) (by decide) (by decide) (by rfl) (by rfl)) (@pa_cons _ _ _ _ _ (@pe_def _ _ _ _ _ _ _ _ _ _ _ d_law_product hr (by omega) rfl (@pa_cons _ _ _ _ _ (@pe_ix _ _ _ _ _ _ _ (@kix_seq _ K (by rfl)) (@pv _ 0 _ _ (by rfl) (by first | exact Or.inl rfl | exact Or.inr (Or.inl rfl) | exact Or.inr (Or.inr rfl)) (by decide) (by decide)) (@pe_int _ _ _ _) (fun _ _ => rfl)) (@pa_cons _ _ _ _ _ (@pv _ 1 _ _ (by rfl) (by first | exact Or.inl rfl | exact Or.inr (Or.inl rfl) | exact Or.inr (Or.inr rfl)) (by decide) (by decide)) (@pa_nil _) (by rfl)) (by rfl)) (by decide) (by rfl) (by rfl)) (@pa_cons _ _ _ _ _ (@pe_ix _ _ _ _ _ _ _ (@kix_seq _ K (by rfl)) (@pv _ 0 _ _ (by rfl) (by first | exact Or.inl rfl | exact Or.inr (Or.inl rfl) | exact Or.inr (Or.inr rfl)) (by decide) (by decide)) (@pe_int _ _ _ _) (fun _ _ => rfl)) (@pa_nil _) (by rfl)) (by rfl)) (by rfl))))), ?_⟩
  obtain ⟨pr, pn, vc, rz, c0, rfl, hr1, hn1, ff, er, rl⟩ := hv
  have D0 : (2520 * B : Int) ≠ 0 := by omega
  have pw : 50400 * 20 < 2 ^ 350 := by decide +kernel
  have DS : Sz 350 (2520 * B) := by
    unfold Sz
    have : 50400 < 2 ^ 350 := by decide +kernel
    omega
  have az : ∀ z ∈ rz ++ [(vc, c0)], AtQ (2520 * B) (50400 * 20) (z.2 * t) := fun z hz => (hS _ (by rw [er]; exact List.mem_map.mpr ⟨z, hz, rfl⟩)).mul (by decide) (by omega) hA
  refine ⟨_, rfl, .inr (.inl ⟨pr, _, 0, _, rfl, rfl, hr1, rfl, pn, rfl, ⟨_, hn1⟩, fun D hD => ?_⟩)⟩
  refine comp_tF (K := K) (b := 350) (fun x => x * t) hn1 hD (by omega) (fun z H2 Q2 hz s2 k2 => ?_) (fun ys H2 s2 ey fy hD2 => ?_)
  · exact ⟨_, rfl, _, rfl, _, _, _, _, 350, 10, rfl, (ff z (List.mem_append_left _ hz)).same s2, fb.same s2, by decide, fun v H3 s3 f3 => k2 v H3 s3 (fr_tight f3 (az z (List.mem_append_left _ hz)) D0 DS pw)⟩
  refine ⟨D, _, rfl, .inl ⟨SqL.of hD2, fun t2 ht2 => ?_⟩⟩
  have m1 := same_new ht2 (.tup (ys.map Prod.fst))
  have s3 := s2.trans m1
  have mc : (vc, c0) ∈ rz ++ [(vc, c0)] := List.mem_append_right _ (List.mem_singleton.mpr rfl)
  refine ⟨_, rfl, .inr (.inl ⟨pr, _, 1, _, rfl, rfl, hr1.same s3, rfl, _, rfl, _, _, _, _, 350, 10, rfl, (ff _ mc).same s3, fb.same s3, by decide, fun v4 H4 s4 f4 => ?_⟩)⟩
  refine ⟨_, rfl, .inr (.inl ⟨pr, _, 2, _, rfl, rfl, (hr1.same s3).same s4, rfl, small9 (by show 3 ≤ 1000; decide), fun w5 hw5 => ?_⟩)⟩
  have m5 := same_new hw5 (.tup [.ref t2, v4, .bl r.2])
  have yl : ys.length = m := by
    have := congrArg List.length ey
    rw [List.length_map, List.length_map] at this
    omega
  refine q _ _ (s3.trans (s4.trans m5)) ⟨w5, t2, v4, ys, c0 * t, rfl, SqT.of upd_same, SqT.of (m5 _ _ (s4 _ _ upd_same)), frs_app ((fy.same m1).same (s4.trans m5)) ((fr_tight f4 (az _ mc) D0 DS pw).same m5), ?_, yl⟩
  show r.1.map _ = _
  rw [er, List.map_append, List.map_append, List.map_append, ey, List.map_map]
  rfl

abbrev s_law_moved : Stmt := top 33
theorem sc_law_moved : FnScope ["_law_row", "_law_by"] ["_law_row", "_law_by"] (defScope s_law_moved) := ⟨rfl, rfl, rfl, by decide +kernel, rfl, by decide +kernel, by decide +kernel⟩
theorem ok_law_moved {P : Program} {w : World} {K : PySem.W.Frag} {mg : Str → Option Value} {base : Heap} {f : Addr} {fd : FuncData} (F : Fun K "_law_moved" "_law_moved" s_law_moved f fd) (gb : Gb mg) {c : Nat → Addr} (cl : Cl K mg c) (d_law_comes_to : Def P w K mg base 4 "_law_comes_to" ["_law_row", "_law_point"] (spComes K)) : FnOk P w K mg base CX0 5 f fd ["_law_row", "_law_by"] (spMoved K) := by
  refine F.ok sc_law_moved (fun vs H Q E h => ?_) (fun cdv A outer s H vs Q E hr h => ?_)
  · obtain ⟨v, vb, r, m, t, rfl, _⟩ := h
    rfl
  obtain ⟨v, vb, r, m, t, rfl, hv, m4, hS, fb, hA, q⟩ := h
  refine ⟨_, (@pss_one _ _ _ (@ps_ret _ _ _ _ (@pe_tup _ _ _ _ _ (@pa_cons _ _ _ _ _ (@pe_ix _ _ _ _ _ _ _ (@kix_seq _ K (by rfl)) (@pv _ 0 _ _ (by rfl) (by first | exact Or.inl rfl | exact Or.inr (Or.inl rfl) | exact Or.inr (Or.inr rfl)) (by decide) (by decide)) (@pe_int _ _ _ _) (fun _ _ => rfl)) (@pa_cons _ _ _ _ _ (@pe_def _ _ _ _ _ _ _ _ _ _ _ d_law_comes_to hr (by omega) rfl (@pa_cons _ _ _ _ _ (@pv _ 0 _ _ (by rfl) (by first | exact Or.inl rfl | exact Or.inr (Or.inl rfl) | exact Or.inr (Or.inr rfl)) (by decide) (by decide)) (@pa_cons _ _ _ _ _ (@pe_callTy _ _ _ _ _ _ _ _ _ (@kcall_tuple_of _ K (by rfl)) rfl gb.tuple bt_tuple (@pa_cons _ _ _ _ _ (@pe_op _ _ _ _ _ _ _ _ (@op_repL _ K) (@pe_lst _ _ _ _ (@pa_cons _ _ _ _ _ (@pv _ 1 _ _ (by rfl) (by first | exact Or.inl rfl | exact Or.inr (Or.inl rfl) | exact Or.inr (Or.inr rfl)) (by decide) (by decide)) (@pa_nil _) (by rfl))) (@pe_callB _ _ _ _ _ _ _ _ _ (@kcall_len _ K (by rfl)) rfl gb.len bt_len (@pa_cons _ _ _ _ _ (@pe_ix _ _ _ _ _ _ _ (@kix_seq _ K (by rfl)) (@pv _ 0 _ _ (by rfl) (by first | exact Or.inl rfl | exact Or.inr (Or.inl rfl) | exact Or.inr (Or.inr rfl)) (by decide) (by decide)) (@pe_int _ _ _ _) (fun _ _ => rfl)) (@pa_nil _) (by rfl)) (by decide) (by decide) (by rfl) (by rfl))) (@pa_nil _) (by rfl)) (by decide) (by decide) (by rfl) (by rfl)) (@pa_nil _) (by rfl)) (by rfl)) (by decide) (by rfl) (by rfl)) (@pa_cons _ _ _ _ _ (@pe_ix _ _ _ _ _ _ _ (@kix_seq _ K (by rfl)) (@pv _ 0 _ _ (by rfl) (by first | exact Or.inl rfl | exact Or.inr (Or.inl rfl) | exact Or.inr (Or.inr rfl)) (by decide) (by decide)) (@pe_int _ _ _ _) (fun _ _ => rfl)) (@pa_nil _) (by rfl)) (by rfl)) (by rfl))))), ?_⟩
  have rlen := hv.len
  have hv0 := hv
  obtain ⟨pr, pn, vc, rz, c0, rfl, hr1, hn1, ff, er, rl⟩ := hv
  have aR : ∀ k, k ≤ m → AtQ 2520 50400 (r.1.getD k 0) := fun k hk => hS _ (by rw [List.getD_eq_getElem?_getD, List.getElem?_eq_getElem (by omega)]; exact List.getElem_mem _)
  have gx : ∀ k, k < m → ((List.replicate m (vb, t)).map Prod.snd).getD k 0 = t := fun k hk => by
    rw [List.map_replicate, List.getD_eq_getElem?_getD, List.getElem?_replicate, if_pos hk]
    rfl
  have aS : ∀ i, i ≤ m → AtQ 2520 (50400 + 4 * (50400 * 9)) (coR r.1 ((List.replicate m (vb, t)).map Prod.snd) m i) := fun i hi => by
    have h1 := at_sm (D := 2520) (Y := 50400 * 9) (by decide) i (f := fun k => r.1.getD k 0 * ((List.replicate m (vb, t)).map Prod.snd).getD k 0) fun k hk => by
      rw [gx k (by omega)]
      have := (aR k (by omega)).mul (by decide) (by decide) hA
      rw [Int.mul_one] at this
      exact this
    exact ((aR m (Nat.le_refl m)).add (by decide) h1).mono (Nat.add_le_add_left (Nat.mul_le_mul_right _ (by omega)) _)
  refine ⟨_, rfl, .inr (.inl ⟨pr, _, 0, _, rfl, rfl, hr1, rfl, ?_⟩)⟩
  refine ⟨_, rfl, _, rfl, small9 (by show 1 ≤ 1000; decide), fun l1 hl1 => ?_⟩
  have m1 := same_new hl1 (.lst [vb])
  refine ⟨_, rfl, .inr (.inl ⟨pr, _, 0, _, rfl, rfl, hr1.same m1, rfl, _, _, rfl, .inr ⟨_, hn1.same m1, rfl⟩, l1, _, _, rfl, rfl, upd_same, by omega, by rw [List.length_map]; omega, (by rw [List.length_map]; show 1 * _ ≤ 1000; omega), fun l2 hl2 => ?_⟩)⟩
  rw [Int.toNat_natCast, rep_flat, List.length_map, rl]
  have m2 := same_new hl2 (.lst (List.replicate m vb))
  refine ⟨l2, _, rfl, .inl ⟨SqL.of upd_same, fun t3 ht3 => ?_⟩⟩
  have m3 := same_new ht3 (.tup (List.replicate m vb))
  have s3 := m1.trans (m2.trans m3)
  refine ⟨.ref pr, t3, r, m, List.replicate m (vb, t), 10, 350, 2520, 50400 + 4 * (50400 * 9), rfl, hv0.same s3, SqT.of (by rw [List.map_replicate]; exact upd_same), (fun z hz => by rw [(List.mem_replicate.mp hz).2]; exact fb.same s3), List.length_replicate, m4, by decide, (by unfold Sz; decide +kernel), (by decide +kernel), by decide, aS, fun u H4 s4 f4 => ?_⟩
  have s04 := s3.trans s4
  refine ⟨_, rfl, .inr (.inl ⟨pr, _, 2, _, rfl, rfl, hr1.same s04, rfl, small9 (by show 3 ≤ 1000; decide), fun w5 hw5 => ?_⟩)⟩
  have m5 := same_new hw5 (.tup [.ref pn, u, .bl r.2])
  have s05 := s04.trans m5
  refine q _ _ s05 ⟨w5, pn, u, rz, coR r.1 ((List.replicate m (vb, t)).map Prod.snd) m m, rfl, SqT.of upd_same, hn1.same s05, frs_app (fun z hz => (ff z (List.mem_append_left _ hz)).same s05) (f4.same m5), ?_, rl⟩
  show r.1.take m ++ [_] = _
  rw [List.map_append, er, List.map_append, List.take_append_of_le_length (by rw [List.length_map]; omega), List.take_of_length_le (by rw [List.length_map]; omega), ← List.map_append, ← er]
  congr 1
  show [r.1.getD m 0 + _] = [r.1.getD m 0 + _]
  rw [sq_congr fun k hk => by rw [← gx k hk]]

abbrev s_law_word : Stmt := top 34
theorem sc_law_word : FnScope ["_law_rows_here", "_law_many", "_law_found"] ["_law_rows_here", "_law_many"] (defScope s_law_word) := ⟨rfl, rfl, rfl, by decide +kernel, rfl, by decide +kernel, by decide +kernel⟩
theorem ok_law_word {P : Program} {w : World} {K : PySem.W.Frag} {mg : Str → Option Value} {base : Heap} {f : Addr} {fd : FuncData} (F : Fun K "_law_word" "_law_word" s_law_word f fd) (gb : Gb mg) {c : Nat → Addr} (cl : Cl K mg c) (d_meeting : Def P w K mg base 4 "meeting" ["rows", "many"] (spMeet K)) (d_law_answer_right : Def P w K mg base 6 "_law_answer_right" ["_law_found", "_law_rows_here", "_law_many"] (spRight K)) : FnOk P w K mg base CX0 7 f fd ["_law_rows_here", "_law_many"] (spWord K) := by
  refine F.ok sc_law_word (fun vs H Q E h => ?_) (fun cdv A outer s H vs Q E hr h => ?_)
  · obtain ⟨lr, S, m, rfl, _⟩ := h
    rfl
  obtain ⟨lr, S, m, rfl, hs, m4, q⟩ := h
  refine ⟨_, (@pss_cons _ _ _ _ _ (@ps_set _ _ 2 _ _ _ _ sc_law_word.nd rfl (Or.inl rfl) (@pe_def _ _ _ _ _ _ _ _ _ _ _ d_meeting hr (by omega) rfl (@pa_cons _ _ _ _ _ (@pe_callTy _ _ _ _ _ _ _ _ _ (@kcall_list_of _ K (by rfl)) rfl gb.list bt_list (@pa_cons _ _ _ _ _ (@pv _ 0 _ _ (by rfl) (by first | exact Or.inl rfl | exact Or.inr (Or.inl rfl) | exact Or.inr (Or.inr rfl)) (by decide) (by decide)) (@pa_nil _) (by rfl)) (by decide) (by decide) (by rfl) (by rfl)) (@pa_cons _ _ _ _ _ (@pv _ 1 _ _ (by rfl) (by first | exact Or.inl rfl | exact Or.inr (Or.inl rfl) | exact Or.inr (Or.inr rfl)) (by decide) (by decide)) (@pa_nil _) (by rfl)) (by rfl)) (by decide) (by rfl) (by rfl)) (by rfl) (by first | exact .inl rfl | exact .inr rfl | assumption)) (@pss_cons _ _ _ _ _ (@ps_if _ _ _ _ _ _ _ _ (@pt_not _ _ _ _ (@pt_val _ _ _ (@pe_def _ _ _ _ _ _ _ _ _ _ _ d_law_answer_right hr (by omega) rfl (@pa_cons _ _ _ _ _ (@pv _ 2 _ _ (by rfl) (by first | exact Or.inl rfl | exact Or.inr (Or.inl rfl) | exact Or.inr (Or.inr rfl)) (by decide) (by decide)) (@pa_cons _ _ _ _ _ (@pv _ 0 _ _ (by rfl) (by first | exact Or.inl rfl | exact Or.inr (Or.inl rfl) | exact Or.inr (Or.inr rfl)) (by decide) (by decide)) (@pa_cons _ _ _ _ _ (@pv _ 1 _ _ (by rfl) (by first | exact Or.inl rfl | exact Or.inr (Or.inl rfl) | exact Or.inr (Or.inr rfl)) (by decide) (by decide)) (@pa_nil _) (by rfl)) (by rfl)) (by rfl)) (by decide) (by rfl) (by rfl)) (by intro _; rfl))) (@pss_one _ _ _ (@ps_ret _ _ _ _ (@pe_str _ _ _ _))) (@pss_nil _)) (@pss_one _ _ _ (@ps_ret _ _ _ _ (@pe_ix _ _ _ _ _ _ _ (@kix_seq _ K (by rfl)) (@pv _ 2 _ _ (by rfl) (by first | exact Or.inl rfl | exact Or.inr (Or.inl rfl) | exact Or.inr (Or.inr rfl)) (by decide) (by decide)) (@pe_int _ _ _ _) (fun _ _ => rfl)))))), ?_⟩
  obtain ⟨us, D, Z, hlr, hP, D0, D1, hZ, h36⟩ := hs
  have pb : (60000 : Int) < 2 ^ 350 := by decide +kernel
  have zb : 2000000 < 2 ^ 350 := by decide +kernel
  have db : ∀ {r : List Rat × Bool}, RwS D Z r → RwB r.1 := fun {r} h => h.b D0 (by omega) (by omega)
  refine ⟨_, rfl, lr, _, rfl, .inl (SqL.of hlr), fun l2 hl2 => ?_⟩
  have n2 := same_new hl2 (.lst us)
  refine ⟨_, rfl, l2, us, S, m, rfl, upd_same, Paired.mapP hP fun r u h => ⟨h.1.same n2, db h.2⟩, m4, h36, fun t3 p zs H3 s3 ht3 hp3 ff hPt hm => ?_, fun t3 p zs H3 s3 ht3 hp3 ff hPt hm => ?_⟩
  · have s13 := n2.trans s3
    refine ⟨_, rfl, _, rfl, _, rfl, t3, lr, us, S, m, true, rfl, s13 _ _ hlr, Paired.mapP hP fun r u h => ⟨h.1.same s13, db h.2⟩, m4, h36, ⟨p, zs, hp3, by rw [if_pos rfl]; exact ⟨ht3, ff, hPt, hm⟩⟩, (fun z => by cases z), fun H9 s9 => ⟨true, rfl, iteF ?_⟩⟩
    exact ⟨_, rfl, .inr (.inl ⟨t3, _, 0, _, rfl, rfl, SqT.of (s9 _ _ ht3), rfl, q true _ (s13.trans s9) ⟨fun _ => ⟨_, hm⟩, fun _ => rfl⟩⟩)⟩
  · have s13 := n2.trans s3
    refine ⟨_, rfl, _, rfl, _, rfl, t3, lr, us, S, m, false, rfl, s13 _ _ hlr, Paired.mapP hP fun r u h => ⟨h.1.same s13, db h.2⟩, m4, h36, ⟨p, zs, hp3, by rw [if_neg (by decide)]; exact ⟨ht3, ff, hPt, hm⟩⟩, (fun _ => ⟨D, Z, by omega, sz_lt (Int.le_of_lt D0) (by omega), by omega, fun r hr => (pr_mem hP r hr).elim fun _ h => h.2⟩), fun H9 s9 => ⟨true, rfl, iteF ?_⟩⟩
    exact ⟨_, rfl, .inr (.inl ⟨t3, _, 0, _, rfl, rfl, SqT.of (s9 _ _ ht3), rfl, q false _ (s13.trans s9) ⟨fun z => (by cases z), fun ⟨x, hx⟩ => (not_bothQ hx hm).elim⟩⟩)⟩

abbrev s_law_right : Stmt := top 35
theorem sc_law_right : FnScope ["_law_cell_here", "_law_xs", "_law_many", "_law_rows_here", "_law_word_here", "_law_by", "_law_others", "_law_wide", "_law_more", "_law_told"] ["_law_cell_here"] (defScope s_law_right) := ⟨rfl, rfl, rfl, by decide +kernel, rfl, by decide +kernel, by decide +kernel⟩
theorem ok_law_right {P : Program} {w : World} {K : PySem.W.Frag} {mg : Str → Option Value} {base : Heap} {f : Addr} {fd : FuncData} (F : Fun K "_law_right" "_law_right" s_law_right f fd) (gb : Gb mg) {c : Nat → Addr} (cl : Cl K mg c) (d_law_strewn : Def P w K mg base 1 "_law_strewn" ["_law_cell_here", "_law_many"] (spStrewn 70)) (d_law_rows : Def P w K mg base 5 "_law_rows" ["_law_xs"] (spRows K)) (d_law_word : Def P w K mg base 7 "_law_word" ["_law_rows_here", "_law_many"] (spWord K)) (d_law_lowest : Def P w K mg base 2 "_law_lowest" ["_law_top", "_law_bottom"] (spLow K)) (d_law_times : Def P w K mg base 4 "_law_times" ["_law_row", "_law_by"] (spTimes K)) (d_law_moved : Def P w K mg base 5 "_law_moved" ["_law_row", "_law_by"] (spMoved K)) (d_law_small : Def P w K mg base 3 "_law_small" ["_law_x"] (spSmall K)) : FnOk P w K mg base CX0 8 f fd ["_law_cell_here"] spRightC := by
  refine F.ok sc_law_right (fun vs H Q E h => ?_) (fun cdv A outer s H vs Q E hr h => ?_)
  · obtain ⟨c0, rfl, _⟩ := h
    rfl
  obtain ⟨c0, rfl, q⟩ := h
  have nd0 : (["_law_row", "_law_xs"] : List Str).Nodup := by decide +kernel
  have nd1 : (["_law_row"] : List Str).Nodup := by decide +kernel
  have nd2 : (["_law_row", "_law_by"] : List Str).Nodup := by decide +kernel
  have nd3 : (["_law_some", "_law_many", "_law_word_here"] : List Str).Nodup := by decide +kernel
  have nd4 : (["_law_row"] : List Str).Nodup := by decide +kernel
  have nd5 : (["_law_k", "_law_xs"] : List Str).Nodup := by decide +kernel
  refine ⟨_, (@pss_cons _ _ _ _ _ (@ps_set _ _ 1 _ _ _ _ sc_law_right.nd rfl (Or.inr rfl) (@pe_def _ _ _ _ _ _ _ _ _ _ _ d_law_strewn hr (by omega) rfl (@pa_cons _ _ _ _ _ (@pv _ 0 _ _ (by rfl) (by first | exact Or.inl rfl | exact Or.inr (Or.inl rfl) | exact Or.inr (Or.inr rfl)) (by decide) (by decide)) (@pa_cons _ _ _ _ _ (@pe_int _ _ _ _) (@pa_nil _) (by rfl)) (by rfl)) (by decide) (by rfl) (by rfl)) (by rfl) (by first | exact .inl rfl | exact .inr rfl | assumption)) (@pss_cons _ _ _ _ _ (@ps_asg _ _ _ _ _ _ (@pe_def _ _ _ _ _ _ _ _ _ _ _ d_law_rows hr (by omega) rfl (@pa_cons _ _ _ _ _ (@pv _ 1 _ _ (by rfl) (by first | exact Or.inl rfl | exact Or.inr (Or.inl rfl) | exact Or.inr (Or.inr rfl)) (by decide) (by decide)) (@pa_nil _) (by rfl)) (by decide) (by rfl) (by rfl)) (@kpg_tup _ K _ _ _ _ 2 rfl (@pgs_cons _ _ _ _ _ (@pg_name _ _ 2 _ sc_law_right.nd rfl (Or.inr rfl) (by first | exact .inl rfl | exact .inr rfl | assumption)) (@pgs_cons _ _ _ _ _ (@pg_name _ _ 3 _ sc_law_right.nd rfl (Or.inl rfl) (by first | exact .inl rfl | exact .inr rfl | assumption)) (@pgs_nil _) (by rfl)) (by rfl)) (by rfl) (by rfl) (by rfl)) (by rfl) (by rfl) (by rfl)) (@pss_cons _ _ _ _ _ (@ps_set _ _ 4 _ _ _ _ sc_law_right.nd rfl (Or.inr rfl) (@pe_def _ _ _ _ _ _ _ _ _ _ _ d_law_word hr (by omega) rfl (@pa_cons _ _ _ _ _ (@pv _ 3 _ _ (by rfl) (by first | exact Or.inl rfl | exact Or.inr (Or.inl rfl) | exact Or.inr (Or.inr rfl)) (by decide) (by decide)) (@pa_cons _ _ _ _ _ (@pv _ 2 _ _ (by rfl) (by first | exact Or.inl rfl | exact Or.inr (Or.inl rfl) | exact Or.inr (Or.inr rfl)) (by decide) (by decide)) (@pa_nil _) (by rfl)) (by rfl)) (by decide) (by rfl) (by rfl)) (by rfl) (by first | exact .inl rfl | exact .inr rfl | assumption)) (@pss_cons _ _ _ _ _ (@ps_set _ _ 5 _ _ _ _ sc_law_right.nd rfl (Or.inr rfl) (@pe_tup _ _ _ _ _ (@pa_cons _ _ _ _ _ (@pe_op _ _ _ _ _ _ _ _ (@op_add _) (@pe_int _ _ _ _) (@pe_op _ _ _ _ _ _ _ _ (@op_mod _) (@pe_ix _ _ _ _ _ _ _ (@kix_seq _ K (by rfl)) (@pv _ 1 _ _ (by rfl) (by first | exact Or.inl rfl | exact Or.inr (Or.inl rfl) | exact Or.inr (Or.inr rfl)) (by decide) (by decide)) (@pe_int _ _ _ _) (fun _ _ => rfl)) (@pe_int _ _ _ _))) (@pa_cons _ _ _ _ _ (@pe_int _ _ _ _) (@pa_nil _) (by rfl)) (by rfl))) (by rfl) (by first | exact .inl rfl | exact .inr rfl | assumption)) (@pss_cons _ _ _ _ _ (@ps_set _ _ 6 _ _ _ _ sc_law_right.nd rfl (Or.inl rfl) (@pe_lst _ _ _ _ (@pa_cons _ _ _ _ _ (@pe_revL _ K _ _ _ _ _ _ (@pv _ 3 _ _ (by rfl) (by first | exact Or.inl rfl | exact Or.inr (Or.inl rfl) | exact Or.inr (Or.inr rfl)) (by decide) (by decide)) (@po_some _ _ _ (@pe_un _ _ _ _ _ _ (@un_neg _) (@pe_int _ _ _ _))) (by rfl)) (@pa_cons _ _ _ _ _ (@pe_op _ _ _ _ _ _ _ _ (@op_cat _) (@pv _ 3 _ _ (by rfl) (by first | exact Or.inl rfl | exact Or.inr (Or.inl rfl) | exact Or.inr (Or.inr rfl)) (by decide) (by decide)) (@pe_slice _ _ _ _ _ _ _ _ _ _ (@ksl_any _ K (by rfl)) (@pv _ 3 _ _ (by rfl) (by first | exact Or.inl rfl | exact Or.inr (Or.inl rfl) | exact Or.inr (Or.inr rfl)) (by decide) (by decide)) (@po_none _) (@po_some _ _ _ (@pe_int _ _ _ _)))) (@pa_nil _) (by rfl)) (by rfl))) (by rfl) (by first | exact .inl rfl | exact .inr rfl | assumption)) (@pss_cons _ _ _ _ _ (@ps_expr _ _ _ _ (@kpe_bm _ K _ _ _ _ _ _ _ _ _ _ _ PySem.F.plainAttrs_list PySem.F.slot_list_append PySem.F.type_list_append (@mt_append _) (@pv _ 6 _ _ (by rfl) (by first | exact Or.inl rfl | exact Or.inr (Or.inl rfl) | exact Or.inr (Or.inr rfl)) (by decide) (by decide)) (@pa_cons _ _ _ _ _ (@pe_comp _ ["_law_row", "_law_xs"] [none, some 1] _ _ _ _ _ _ _ _ _ _ (by exact (show CompOk ["_law_cell_here", "_law_xs", "_law_many", "_law_rows_here", "_law_word_here", "_law_by", "_law_others", "_law_wide", "_law_more", "_law_told"] (defScope s_law_right) ["_law_row", "_law_xs"] [none, some 1] _ from ⟨rfl, by decide +kernel, by decide +kernel, by decide +kernel, by decide +kernel, rfl, by decide +kernel⟩)) rfl (@kpi_list _ K _ _ _ (@pv _ 3 _ _ (by rfl) (by first | exact Or.inl rfl | exact Or.inr (Or.inl rfl) | exact Or.inr (Or.inr rfl)) (by decide) (by decide)) (by rfl)) (fun _ _ _ _ => (@pg_name _ _ 0 _ nd0 rfl (Or.inl rfl) (by first | exact .inl rfl | exact .inr rfl | assumption))) (fun _ _ _ _ => (@pf_nil _)) (fun _ _ _ _ => (@pe_def _ _ _ _ _ _ _ _ _ _ _ d_law_times hr (by omega) rfl (@pa_cons _ _ _ _ _ (@pv _ 0 _ _ (by rfl) (by first | exact Or.inl rfl | exact Or.inr (Or.inl rfl) | exact Or.inr (Or.inr rfl)) (by decide) (by decide)) (@pa_cons _ _ _ _ _ (@pe_def _ _ _ _ _ _ _ _ _ _ _ d_law_lowest hr (by omega) rfl (@pa_cons _ _ _ _ _ (@pe_op _ _ _ _ _ _ _ _ (@op_add _) (@pe_int _ _ _ _) (@pe_op _ _ _ _ _ _ _ _ (@op_mod _) (@pe_ix _ _ _ _ _ _ _ (@kix_seq _ K (by rfl)) (@pv _ 1 _ _ (by rfl) (by first | exact Or.inl rfl | exact Or.inr (Or.inl rfl) | exact Or.inr (Or.inr rfl)) (by decide) (by decide)) (@pe_int _ _ _ _) (fun _ _ => rfl)) (@pe_int _ _ _ _))) (@pa_cons _ _ _ _ _ (@pe_op _ _ _ _ _ _ _ _ (@op_add _) (@pe_int _ _ _ _) (@pe_op _ _ _ _ _ _ _ _ (@op_mod _) (@pe_op _ _ _ _ _ _ _ _ (@op_fdiv _) (@pe_ix _ _ _ _ _ _ _ (@kix_seq _ K (by rfl)) (@pv _ 1 _ _ (by rfl) (by first | exact Or.inl rfl | exact Or.inr (Or.inl rfl) | exact Or.inr (Or.inr rfl)) (by decide) (by decide)) (@pe_int _ _ _ _) (fun _ _ => rfl)) (@pe_int _ _ _ _)) (@pe_int _ _ _ _))) (@pa_nil _) (by rfl)) (by rfl)) (by decide) (by rfl) (by rfl)) (@pa_nil _) (by rfl)) (by rfl)) (by decide) (by rfl) (by rfl))) (by intro _; rfl)) (@pa_nil _) (by rfl)) (by rfl) (by rfl) (by rfl) (by rfl) (by rfl) (by rfl)) (by rfl)) (@pss_cons _ _ _ _ _ (@ps_expr _ _ _ _ (@kpe_bm _ K _ _ _ _ _ _ _ _ _ _ _ PySem.F.plainAttrs_list PySem.F.slot_list_append PySem.F.type_list_append (@mt_append _) (@pv _ 6 _ _ (by rfl) (by first | exact Or.inl rfl | exact Or.inr (Or.inl rfl) | exact Or.inr (Or.inr rfl)) (by decide) (by decide)) (@pa_cons _ _ _ _ _ (@pe_comp _ ["_law_row"] [none] _ _ _ _ _ _ _ _ _ _ (by exact (show CompOk ["_law_cell_here", "_law_xs", "_law_many", "_law_rows_here", "_law_word_here", "_law_by", "_law_others", "_law_wide", "_law_more", "_law_told"] (defScope s_law_right) ["_law_row"] [none] _ from ⟨rfl, by decide +kernel, by decide +kernel, by decide +kernel, by decide +kernel, rfl, by decide +kernel⟩)) rfl (@kpi_list _ K _ _ _ (@pv _ 3 _ _ (by rfl) (by first | exact Or.inl rfl | exact Or.inr (Or.inl rfl) | exact Or.inr (Or.inr rfl)) (by decide) (by decide)) (by rfl)) (fun _ _ _ _ => (@pg_name _ _ 0 _ nd1 rfl (Or.inl rfl) (by first | exact .inl rfl | exact .inr rfl | assumption))) (fun _ _ _ _ => (@pf_nil _)) (fun _ _ _ _ => (@pe_tup _ _ _ _ _ (@pa_cons _ _ _ _ _ (@pe_revT _ K _ _ _ _ _ _ (@pe_ix _ _ _ _ _ _ _ (@kix_seq _ K (by rfl)) (@pv _ 0 _ _ (by rfl) (by first | exact Or.inl rfl | exact Or.inr (Or.inl rfl) | exact Or.inr (Or.inr rfl)) (by decide) (by decide)) (@pe_int _ _ _ _) (fun _ _ => rfl)) (@po_some _ _ _ (@pe_un _ _ _ _ _ _ (@un_neg _) (@pe_int _ _ _ _))) (by rfl)) (@pa_cons _ _ _ _ _ (@pe_ix _ _ _ _ _ _ _ (@kix_seq _ K (by rfl)) (@pv _ 0 _ _ (by rfl) (by first | exact Or.inl rfl | exact Or.inr (Or.inl rfl) | exact Or.inr (Or.inr rfl)) (by decide) (by decide)) (@pe_int _ _ _ _) (fun _ _ => rfl)) (@pa_cons _ _ _ _ _ (@pe_ix _ _ _ _ _ _ _ (@kix_seq _ K (by rfl)) (@pv _ 0 _ _ (by rfl) (by first | exact Or.inl rfl | exact Or.inr (Or.inl rfl) | exact Or.inr (Or.inr rfl)) (by decide) (by decide)) (@pe_int _ _ _ _) (fun _ _ => rfl)) (@pa_nil _) (by rfl)) (by rfl)) (by rfl)))) (by intro _; rfl)) (@pa_nil _) (by rfl)) (by rfl) (by rfl) (by rfl) (by rfl) (by rfl) (by rfl)) (by rfl)) (@pss_cons _ _ _ _ _ (@ps_expr _ _ _ _ (@kpe_bm _ K _ _ _ _ _ _ _ _ _ _ _ PySem.F.plainAttrs_list PySem.F.slot_list_append PySem.F.type_list_append (@mt_append _) (@pv _ 6 _ _ (by rfl) (by first | exact Or.inl rfl | exact Or.inr (Or.inl rfl) | exact Or.inr (Or.inr rfl)) (by decide) (by decide)) (@pa_cons _ _ _ _ _ (@pe_comp _ ["_law_row", "_law_by"] [none, some 5] _ _ _ _ _ _ _ _ _ _ (by exact (show CompOk ["_law_cell_here", "_law_xs", "_law_many", "_law_rows_here", "_law_word_here", "_law_by", "_law_others", "_law_wide", "_law_more", "_law_told"] (defScope s_law_right) ["_law_row", "_law_by"] [none, some 5] _ from ⟨rfl, by decide +kernel, by decide +kernel, by decide +kernel, by decide +kernel, rfl, by decide +kernel⟩)) rfl (@kpi_list _ K _ _ _ (@pv _ 3 _ _ (by rfl) (by first | exact Or.inl rfl | exact Or.inr (Or.inl rfl) | exact Or.inr (Or.inr rfl)) (by decide) (by decide)) (by rfl)) (fun _ _ _ _ => (@pg_name _ _ 0 _ nd2 rfl (Or.inl rfl) (by first | exact .inl rfl | exact .inr rfl | assumption))) (fun _ _ _ _ => (@pf_nil _)) (fun _ _ _ _ => (@pe_def _ _ _ _ _ _ _ _ _ _ _ d_law_moved hr (by omega) rfl (@pa_cons _ _ _ _ _ (@pv _ 0 _ _ (by rfl) (by first | exact Or.inl rfl | exact Or.inr (Or.inl rfl) | exact Or.inr (Or.inr rfl)) (by decide) (by decide)) (@pa_cons _ _ _ _ _ (@pv _ 1 _ _ (by rfl) (by first | exact Or.inl rfl | exact Or.inr (Or.inl rfl) | exact Or.inr (Or.inr rfl)) (by decide) (by decide)) (@pa_nil _) (by rfl)) (by rfl)) (by decide) (by rfl) (by rfl))) (by intro _; rfl)) (@pa_nil _) (by rfl)) (by rfl) (by rfl) (by rfl) (by rfl) (by rfl) (by rfl)) (by rfl)) (@pss_cons _ _ _ _ _ (@ps_if _ _ _ _ _ _ _ _ (@PW.pt _ _ _ (@pw_or _ _ _ _ _ _ _ (@pt_cmpR _ _ _ _ _ _ _ _ (@op_eq _) (@pv _ 4 _ _ (by rfl) (by first | exact Or.inl rfl | exact Or.inr (Or.inl rfl) | exact Or.inr (Or.inr rfl)) (by decide) (by decide)) (@pe_str _ _ _ _) (@nomark _ _ (by decide) (by decide))) (@pw_or1 _ _ _ _ (@pt_val _ _ _ (@pe_callB _ _ _ _ _ _ _ _ _ (@kcall_any _ K rfl (by rfl)) rfl gb.any bt_any (@pa_cons _ _ _ _ _ (@pe_comp _ ["_law_some", "_law_many", "_law_word_here"] [none, some 2, some 4] _ _ _ _ _ _ _ _ _ _ (by exact (show CompOk ["_law_cell_here", "_law_xs", "_law_many", "_law_rows_here", "_law_word_here", "_law_by", "_law_others", "_law_wide", "_law_more", "_law_told"] (defScope s_law_right) ["_law_some", "_law_many", "_law_word_here"] [none, some 2, some 4] _ from ⟨rfl, by decide +kernel, by decide +kernel, by decide +kernel, by decide +kernel, rfl, by decide +kernel⟩)) rfl (@kpi_list _ K _ _ _ (@pv _ 6 _ _ (by rfl) (by first | exact Or.inl rfl | exact Or.inr (Or.inl rfl) | exact Or.inr (Or.inr rfl)) (by decide) (by decide)) (by rfl)) (fun _ _ _ _ => (@pg_name _ _ 0 _ nd3 rfl (Or.inl rfl) (by first | exact .inl rfl | exact .inr rfl | assumption))) (fun _ _ _ _ => (@pf_nil _)) (fun _ _ _ _ => (@pe_cmpR _ _ _ _ _ _ _ _ (@op_ne _) (@pe_def _ _ _ _ _ _ _ _ _ _ _ d_law_word hr (by omega) rfl (@pa_cons _ _ _ _ _ (@pv _ 0 _ _ (by rfl) (by first | exact Or.inl rfl | exact Or.inr (Or.inl rfl) | exact Or.inr (Or.inr rfl)) (by decide) (by decide)) (@pa_cons _ _ _ _ _ (@pv _ 1 _ _ (by rfl) (by first | exact Or.inl rfl | exact Or.inr (Or.inl rfl) | exact Or.inr (Or.inr rfl)) (by decide) (by decide)) (@pa_nil _) (by rfl)) (by rfl)) (by decide) (by rfl) (by rfl)) (@pv _ 2 _ _ (by rfl) (by first | exact Or.inl rfl | exact Or.inr (Or.inl rfl) | exact Or.inr (Or.inr rfl)) (by decide) (by decide)) (@nomark _ _ (by decide) (by decide)))) (by intro _; rfl)) (@pa_nil _) (by rfl)) (by decide) (by decide) (by rfl) (by rfl)) (by intro _; rfl))))) (@pss_one _ _ _ (@ps_ret _ _ _ _ (@pe_bl _ _ _ _))) (@pss_nil _)) (@pss_cons _ _ _ _ _ (@ps_setComp _ ["_law_row"] [none] _ 7 _ _ _ _ _ _ _ _ _ _ _ _ (by exact (show CompOk ["_law_cell_here", "_law_xs", "_law_many", "_law_rows_here", "_law_word_here", "_law_by", "_law_others", "_law_wide", "_law_more", "_law_told"] (defScope s_law_right) ["_law_row"] [none] _ from ⟨rfl, by decide +kernel, by decide +kernel, by decide +kernel, by decide +kernel, rfl, by decide +kernel⟩)) rfl (@kpi_list _ K _ _ _ (@pv _ 3 _ _ (by rfl) (by first | exact Or.inl rfl | exact Or.inr (Or.inl rfl) | exact Or.inr (Or.inr rfl)) (by decide) (by decide)) (by rfl)) (fun _ _ _ _ => (@pg_name _ _ 0 _ nd4 rfl (Or.inl rfl) (by first | exact .inl rfl | exact .inr rfl | assumption))) (fun _ _ _ _ => (@pf_nil _)) (fun _ _ _ _ => (@pe_tup _ _ _ _ _ (@pa_cons _ _ _ _ _ (@pe_op _ _ _ _ _ _ _ _ (@kop_catT _ K (by rfl)) (@pe_ix _ _ _ _ _ _ _ (@kix_seq _ K (by rfl)) (@pv _ 0 _ _ (by rfl) (by first | exact Or.inl rfl | exact Or.inr (Or.inl rfl) | exact Or.inr (Or.inr rfl)) (by decide) (by decide)) (@pe_int _ _ _ _) (fun _ _ => rfl)) (@pe_tup _ _ _ _ _ (@pa_cons _ _ _ _ _ (@pe_tup _ _ _ _ _ (@pa_cons _ _ _ _ _ (@pe_int _ _ _ _) (@pa_cons _ _ _ _ _ (@pe_int _ _ _ _) (@pa_nil _) (by rfl)) (by rfl))) (@pa_nil _) (by rfl)))) (@pa_cons _ _ _ _ _ (@pe_ix _ _ _ _ _ _ _ (@kix_seq _ K (by rfl)) (@pv _ 0 _ _ (by rfl) (by first | exact Or.inl rfl | exact Or.inr (Or.inl rfl) | exact Or.inr (Or.inr rfl)) (by decide) (by decide)) (@pe_int _ _ _ _) (fun _ _ => rfl)) (@pa_cons _ _ _ _ _ (@pe_ix _ _ _ _ _ _ _ (@kix_seq _ K (by rfl)) (@pv _ 0 _ _ (by rfl) (by first | exact Or.inl rfl | exact Or.inr (Or.inl rfl) | exact Or.inr (Or.inr rfl)) (by decide) (by decide)) (@pe_int _ _ _ _) (fun _ _ => rfl)) (@pa_nil _) (by rfl)) (by rfl)) (by rfl)))) sc_law_right.nd rfl rfl rfl (by intro _; rfl)) (@pss_cons _ _ _ _ _ (@ps_if _ _ _ _ _ _ _ _ (@PW.pt _ _ _ (@pw_and _ _ _ _ _ _ _ (@pt_cmpR _ _ _ _ _ _ _ _ (@op_lt _) (@pv _ 2 _ _ (by rfl) (by first | exact Or.inl rfl | exact Or.inr (Or.inl rfl) | exact Or.inr (Or.inr rfl)) (by decide) (by decide)) (@pe_int _ _ _ _) (@nomark _ _ (by decide) (by decide))) (@pw_and1 _ _ _ _ (@pt_cmpR _ _ _ _ _ _ _ _ (@op_ne _) (@pe_def _ _ _ _ _ _ _ _ _ _ _ d_law_word hr (by omega) rfl (@pa_cons _ _ _ _ _ (@pv _ 7 _ _ (by rfl) (by first | exact Or.inl rfl | exact Or.inr (Or.inl rfl) | exact Or.inr (Or.inr rfl)) (by decide) (by decide)) (@pa_cons _ _ _ _ _ (@pe_op _ _ _ _ _ _ _ _ (@op_add _) (@pv _ 2 _ _ (by rfl) (by first | exact Or.inl rfl | exact Or.inr (Or.inl rfl) | exact Or.inr (Or.inr rfl)) (by decide) (by decide)) (@pe_int _ _ _ _)) (@pa_nil _) (by rfl)) (by rfl)) (by decide) (by rfl) (by rfl)) (@pv _ 4 _ _ (by rfl) (by first | exact Or.inl rfl | exact Or.inr (Or.inl rfl) | exact Or.inr (Or.inr rfl)) (by decide) (by decide)) (@nomark _ _ (by decide) (by decide)))))) (@pss_one _ _ _ (@ps_ret _ _ _ _ (@pe_bl _ _ _ _))) (@pss_nil _)) (@pss_cons _ _ _ _ _ (@ps_set _ _ 8 _ _ _ _ sc_law_right.nd rfl (Or.inl rfl) (@pe_op _ _ _ _ _ _ _ _ (@op_cat _) (@pv _ 3 _ _ (by rfl) (by first | exact Or.inl rfl | exact Or.inr (Or.inl rfl) | exact Or.inr (Or.inr rfl)) (by decide) (by decide)) (@pe_lst _ _ _ _ (@pa_cons _ _ _ _ _ (@pe_tup _ _ _ _ _ (@pa_cons _ _ _ _ _ (@pe_callTy _ _ _ _ _ _ _ _ _ (@kcall_tuple_of _ K (by rfl)) rfl gb.tuple bt_tuple (@pa_cons _ _ _ _ _ (@pe_comp _ ["_law_k", "_law_xs"] [none, some 1] _ _ _ _ _ _ _ _ _ _ (by exact (show CompOk ["_law_cell_here", "_law_xs", "_law_many", "_law_rows_here", "_law_word_here", "_law_by", "_law_others", "_law_wide", "_law_more", "_law_told"] (defScope s_law_right) ["_law_k", "_law_xs"] [none, some 1] _ from ⟨rfl, by decide +kernel, by decide +kernel, by decide +kernel, by decide +kernel, rfl, by decide +kernel⟩)) rfl (@pi_range1 _ _ _ _ _ _ rfl gb.range (@pa_cons _ _ _ _ _ (@pv _ 2 _ _ (by rfl) (by first | exact Or.inl rfl | exact Or.inr (Or.inl rfl) | exact Or.inr (Or.inr rfl)) (by decide) (by decide)) (@pa_nil _) (by rfl)) (by rfl)) (fun _ _ _ _ => (@pg_name _ _ 0 _ nd5 rfl (Or.inl rfl) (by first | exact .inl rfl | exact .inr rfl | assumption))) (fun _ _ _ _ => (@pf_nil _)) (fun _ _ _ _ => (@pe_def _ _ _ _ _ _ _ _ _ _ _ d_law_small hr (by omega) rfl (@pa_cons _ _ _ _ _ (@pe_ix _ _ _ _ _ _ _ (@kix_seq _ K (by rfl)) (@pv _ 1 _ _ (by rfl) (by first | exact Or.inl rfl | exact Or.inr (Or.inl rfl) | exact Or.inr (Or.inr rfl)) (by decide) (by decide)) (@pe_op _ _ _ _ _ _ _ _ (@op_add _) (@pe_int _ _ _ _) (@pv _ 0 _ _ (by rfl) (by first | exact Or.inl rfl | exact Or.inr (Or.inl rfl) | exact Or.inr (Or.inr rfl)) (by decide) (by decide))) (fun _ _ => rfl)) (@pa_nil _) (by rfl)) (by decide) (by rfl) (by rfl))) (by intro _; rfl)) (@pa_nil _) (by rfl)) (by decide) (by decide) (by rfl) (by rfl)) (@pa_cons _ _ _ _ _ (@pe_def _ _ _ _ _ _ _ _ _ _ _ d_law_small hr (by omega) rfl (@pa_cons _ _ _ _ _ (@pe_ix _ _ _ _ _ _ _ (@kix_seq _ K (by rfl)) (@pv _ 1 _ _ (by rfl) (by first | exact Or.inl rfl | exact Or.inr (Or.inl rfl) | exact Or.inr (Or.inr rfl)) (by decide) (by decide)) (@pe_int _ _ _ _) (fun _ _ => rfl)) (@pa_nil _) (by rfl)) (by decide) (by rfl) (by rfl)) (@pa_cons _ _ _ _ _ (@pe_bl _ _ _ _) (@pa_nil _) (by rfl)) (by rfl)) (by rfl))) (@pa_nil _) (by rfl)))) (by rfl) (by first | exact .inl rfl | exact .inr rfl | assumption)) (@pss_cons _ _ _ _ _ (@ps_set _ _ 9 _ _ _ _ sc_law_right.nd rfl (Or.inl rfl) (@pe_def _ _ _ _ _ _ _ _ _ _ _ d_law_word hr (by omega) rfl (@pa_cons _ _ _ _ _ (@pv _ 8 _ _ (by rfl) (by first | exact Or.inl rfl | exact Or.inr (Or.inl rfl) | exact Or.inr (Or.inr rfl)) (by decide) (by decide)) (@pa_cons _ _ _ _ _ (@pv _ 2 _ _ (by rfl) (by first | exact Or.inl rfl | exact Or.inr (Or.inl rfl) | exact Or.inr (Or.inr rfl)) (by decide) (by decide)) (@pa_nil _) (by rfl)) (by rfl)) (by decide) (by rfl) (by rfl)) (by rfl) (by first | exact .inl rfl | exact .inr rfl | assumption)) (@pss_one _ _ _ (@ps_ret _ _ _ _ (@pe_and _ _ _ _ _ _ _ (@pe_cmpR _ _ _ _ _ _ _ _ (@op_ne _) (@pv _ 9 _ _ (by rfl) (by first | exact Or.inl rfl | exact Or.inr (Or.inl rfl) | exact Or.inr (Or.inr rfl)) (by decide) (by decide)) (@pe_str _ _ _ _) (@nomark _ _ (by decide) (by decide))) (@pe_one _ _ _ _ _ (@pe_or _ _ _ _ _ _ _ (@pe_cmpR _ _ _ _ _ _ _ _ (@op_eq _) (@pv _ 4 _ _ (by rfl) (by first | exact Or.inl rfl | exact Or.inr (Or.inl rfl) | exact Or.inr (Or.inr rfl)) (by decide) (by decide)) (@pe_str _ _ _ _) (@nomark _ _ (by decide) (by decide))) (@pe_one _ _ _ _ _ (@pe_cmpR _ _ _ _ _ _ _ _ (@op_eq _) (@pv _ 9 _ _ (by rfl) (by first | exact Or.inl rfl | exact Or.inr (Or.inl rfl) | exact Or.inr (Or.inr rfl)) (by decide) (by decide)) (@pe_str _ _ _ _) (@nomark _ _ (by decide) (by decide)))))))))))))))))))))), ?_⟩
  refine ⟨_, rfl, c0, rfl, fun p ys H1 SN hp1 hyl hyb => ?_⟩
  have at_ys : ∀ j : Nat, j < 70 → ∃ y, 0 ≤ y ∧ y < 1000000000 ∧ atI (ys.map V.int) ((j : Nat) : Int) = some (.int y) := fun j hj => by
    have e : ys[j]? = some ys[j] := List.getElem?_eq_getElem (by omega)
    obtain ⟨h1, h2⟩ := hyb _ (List.mem_of_getElem? e)
    exact ⟨_, h1, h2, atI_nat (by rw [List.getElem?_map, e]; rfl)⟩
  obtain ⟨y2, _, _, e2⟩ := at_ys 2 (by decide)
  obtain ⟨y3, _, _, e3⟩ := at_ys 3 (by decide)
  refine ⟨_, rfl, p, ys, rfl, hp1, hyl, hyb, fun t lr us S m H2 s2 ht hlr hP m1 m4 h7 => ?_⟩
  have hul := Paired.length hP
  have hlen : ∀ r ∈ S, r.1.length = m + 1 := fun r hr => (pr_mem hP r hr).elim fun _ h => h.1.len
  have hRS : ∀ r ∈ S, RwS 2520 50400 r := fun r hr => (pr_mem hP r hr).elim fun _ h => h.2
  refine ⟨t, _, rfl, SqT.of ht, rfl, _, _, rfl, _, _, rfl, rfl, ?_⟩
  have sy0 : SyH K H2 m S lr := ⟨us, 2520, 50400, hlr, hP, by decide, by decide, by decide, by omega⟩
  refine ⟨_, rfl, _, rfl, lr, S, m, rfl, sy0, m4, fun b0 H3 s3 hb0 => ?_⟩
  have hp3 := s3 _ _ (s2 _ _ hp1)
  refine ⟨_, rfl, .inl ⟨p, _, 2, _, rfl, rfl, SqL.of hp3, e2, _, _, rfl, rfl, (show (0 : Int) < 9 by decide), _, _, rfl, rfl, small9 (by show 2 ≤ 1000; decide), fun wb hwb => ?_⟩⟩
  dsimp only
  have fb : FR K (upd H3 wb (.tup [.int (1 + y2 % 9), .int 1])) (.ref wb) ((1 + y2 % 9 : Int) : Rat) 10 := fr_new (K := K) hwb (r := ((1 + y2 % 9 : Int) : Rat)) (n := 10) (by show Sz 10 (1 + y2 % 9); unfold Sz; have : (2 : Nat) ^ 10 = 1024 := rfl; omega) (by show Sz 10 1; unfold Sz; decide)
  have ab : AtQ 1 9 ((1 + y2 % 9 : Int) : Rat) := (atQ_int _).mono (by omega)
  generalize ((1 + y2 % 9 : Int) : Rat) = bq at *
  have nb := same_new hwb (.tup [.int (1 + y2 % 9), .int 1])
  generalize upd H3 wb (.tup [.int (1 + y2 % 9), .int 1]) = H4 at *
  have s24 := s3.trans nb
  have hlr4 := s24 _ _ hlr
  refine ⟨_, rfl, _, rfl, _, rfl, lr, us, rfl, rfl, SqL.of hlr4, fun l1 hl1 => ?_⟩
  have n1 := same_new hl1 (.lst us.reverse)
  refine ⟨_, rfl, _, rfl, _, rfl, .inl ⟨lr, _, rfl, SqL.of (n1 _ _ hlr4), fun l2 hl2 => ?_⟩⟩
  have cut1 : cutV us none (some (1 : Int)) = us.take 1 := by
    unfold cutV
    rw [HT.sIx_none, show ((1 : Int)) = ((1 : Nat) : Int) from rfl, HT.sIx_nat]
    show us.take (min 1 us.length - 0) = us.take 1
    cases us with
    | nil => rfl
    | cons u us => rw [show min 1 (u :: us).length - 0 = 1 by simp]
  have n2 := same_new hl2 (.lst (cutV us none (some (1 : Int))))
  refine ⟨lr, l2, _, _, rfl, rfl, n2 _ _ (n1 _ _ hlr4), upd_same, small9 (by rw [cut1, List.length_take]; omega), fun l3 hl3 => ?_⟩
  have n3 := same_new hl3 (.lst (us ++ cutV us none (some (1 : Int))))
  refine ⟨small9 (by show 2 ≤ 1000; decide), fun lo hlo => ?_⟩
  have n4 := same_new hlo (.lst [.ref l1, .ref l3])
  have s45 := n1.trans (n2.trans (n3.trans n4))
  have hl1' := n4 _ _ (n3 _ _ (n2 _ _ (@upd_same H4 l1 (.lst us.reverse))))
  have hl3' := n4 _ _ (@upd_same (upd (upd H4 l1 (.lst us.reverse)) l2 (.lst (cutV us none (some (1 : Int))))) l3 (.lst (us ++ cutV us none (some (1 : Int)))))
  have hlo' := @upd_same (upd (upd (upd H4 l1 (.lst us.reverse)) l2 (.lst (cutV us none (some (1 : Int))))) l3 (.lst (us ++ cutV us none (some (1 : Int))))) lo (.lst [.ref l1, .ref l3])
  have ne1 : l1 ≠ lo := ne_of_none (n3 _ _ (n2 _ _ (@upd_same H4 l1 (.lst us.reverse)))) hlo
  have ne3 : l3 ≠ lo := ne_of_none (@upd_same (upd (upd H4 l1 (.lst us.reverse)) l2 (.lst (cutV us none (some (1 : Int))))) l3 (.lst (us ++ cutV us none (some (1 : Int))))) hlo
  have f0 : H4 lo = none := by
    cases e : H4 lo with
    | none => rfl
    | some o =>
      have := n3 _ _ (n2 _ _ (n1 _ _ e))
      rw [hlo] at this
      cases this
  generalize upd (upd (upd (upd H4 l1 (.lst us.reverse)) l2 (.lst (cutV us none (some (1 : Int))))) l3 (.lst (us ++ cutV us none (some (1 : Int))))) lo (.lst [.ref l1, .ref l3]) = H5 at *
  rw [cut1] at hl3'
  have s25 := s24.trans s45
  have hP5 : RwD K H5 m 2520 50400 S us := Paired.mapP hP fun r u ⟨a1, a2⟩ => ⟨a1.same s25, a2⟩
  have A1 : SyH K H5 m S.reverse l1 := ⟨us.reverse, 2520, 50400, hl1', pr_rev hP5, by decide, by decide, by decide, by rw [List.length_reverse]; omega⟩
  have A3 : SyH K H5 m (S ++ S.take 1) l3 := ⟨us ++ us.take 1, 2520, 50400, hl3', pr_app hP5 (pr_take hP5 1), by decide, by decide, by decide, by rw [List.length_append, List.length_take]; omega⟩
  have q1 : Sol m S ↔ Sol m S.reverse := sol_mem fun r => List.mem_reverse.symm
  have q3 : Sol m S ↔ Sol m (S ++ S.take 1) := sol_mem fun r => ⟨fun h => List.mem_append_left _ h, fun h => (List.mem_append.mp h).elim id List.mem_of_mem_take⟩
  refine ⟨_, rfl, .inl ⟨rfl, _, SqL.of hlo'⟩, ?_⟩
  have hlr5 := s25 _ _ hlr
  have hp5 := s25 _ _ (s2 _ _ hp1)
  obtain ⟨tt, ett, t0⟩ : ∃ tt : Rat, tt = Rat.divInt (1 + y3 % 20) (1 + y3 / 20 % 20) ∧ 0 < tt := ⟨_, rfl, (divQ_pos (by omega)).1.mpr (by omega)⟩
  obtain ⟨B, eB, B0, B1⟩ : ∃ B : Int, B = 1 + y3 / 20 % 20 ∧ 0 < B ∧ B ≤ 20 := ⟨_, rfl, by omega, by omega⟩
  have at0 : AtQ B 20 tt := ⟨1 + y3 % 20, by rw [ett, eB], by omega⟩
  refine ⟨_, rfl, lr, rfl, ⟨_, SqL.of hlr5⟩, fun D1 hD1 => ?_⟩
  refine comp_rows (m' := m) (timR tt) hlr5 hP5 hD1 (by omega) (fun r u H' Q' hr isr rs s' k => ?_) (fun ws1 H6 s6 hD6 hP6 => ?_)
  · refine ⟨_, rfl, _, rfl, .inl ⟨p, _, 3, _, rfl, rfl, SqL.of (s' _ _ hp5), e3, _, _, rfl, rfl, (show (0 : Int) < 20 by decide), _, _, rfl, rfl, ?_⟩⟩
    refine ⟨_, rfl, .inl ⟨p, _, 3, _, rfl, rfl, SqL.of (s' _ _ hp5), e3, _, _, rfl, rfl, (show CDiv _ 20 from ⟨by decide, by decide⟩), _, _, rfl, rfl, (show (0 : Int) < 20 by decide), _, _, rfl, rfl, _, _, 10, rfl, by omega, (by unfold Sz; have : (2 : Nat) ^ 10 = 1024 := rfl; omega), (by unfold Sz; have : (2 : Nat) ^ 10 = 1024 := rfl; omega), by decide, fun vt Ht st ft => ?_⟩⟩
    rw [← ett] at ft
    exact ⟨u, vt, r, m, tt, B, rfl, isr.same st, m4, rs, ft, at0, B0, B1, fun v' H'' s'' isr' => k v' H'' (st.trans s'') isr'⟩
  have hlo6 := s6 _ _ hlo'
  refine ⟨lo, _, _, rfl, rfl, hlo6, small1000 (by show 2 ≤ 1000; decide), ?_⟩
  have neD1 : D1 ≠ lo := fun z => by rw [z, hlo'] at hD1; cases hD1
  have A4 : SyH K H6 m (S.map (timR tt)) D1 := by
    refine ⟨ws1, 2520 * B, 50400 * 20, hD6, pr_and (pr_map hP6) fun r hr => ?_, by omega, by omega, by decide, by rw [List.length_map]; omega⟩
    obtain ⟨r', hr', e⟩ := List.mem_map.mp hr
    rw [← e]
    intro x hx
    obtain ⟨y, hy, ey⟩ := List.mem_map.mp (show x ∈ r'.1.map fun x => x * tt from hx)
    rw [← ey]
    exact (hRS r' hr' y hy).mul (by decide) (by omega) at0
  have q4 : Sol m S ↔ Sol m (S.map (timR tt)) := sol_tim t0
  have A1 := (A1.same s6).put (o := .lst ([.ref l1, .ref l3] ++ [.ref D1])) hlo6 ne1
  have A3 := (A3.same s6).put (o := .lst ([.ref l1, .ref l3] ++ [.ref D1])) hlo6 ne3
  have A4 := A4.put (o := .lst ([.ref l1, .ref l3] ++ [.ref D1])) hlo6 neD1
  have s46 := (s45.trans s6).put (o := .lst ([.ref l1, .ref l3] ++ [.ref D1])) f0
  have hlo7 := @upd_same H6 lo (.lst ([.ref l1, .ref l3] ++ [.ref D1]))
  generalize upd H6 lo (.lst ([.ref l1, .ref l3] ++ [.ref D1])) = H7 at *
  have s27 := s24.trans s46
  have hlr7 := s27 _ _ hlr
  have hP7 : RwD K H7 m 2520 50400 S us := Paired.mapP hP fun r u ⟨a1, a2⟩ => ⟨a1.same s27, a2⟩
  refine ⟨_, rfl, .inl ⟨rfl, _, SqL.of hlo7⟩, ?_⟩
  refine ⟨_, rfl, lr, rfl, ⟨_, SqL.of hlr7⟩, fun D2 hD2 => ?_⟩
  refine comp_rows (m' := m) (revR m) hlr7 hP7 hD2 (by omega) (fun r u H' Q' hr isr rs s' k => ?_) (fun ws2 H8 s8 hD8 hP8 => ?_)
  · have rlen := isr.len
    obtain ⟨pr, pn, vc, rz, c1, rfl, hr1, hn1, ff, er, rl⟩ := isr
    refine ⟨_, rfl, .inr (.inl ⟨pr, _, 0, _, rfl, rfl, hr1, rfl, _, rfl, _, rfl, pn, _, rfl, rfl, hn1, fun t2 ht2 => ?_⟩)⟩
    have k1 := same_new ht2 (.tup (rz.map Prod.fst).reverse)
    refine ⟨_, rfl, .inr (.inl ⟨pr, _, 1, _, rfl, rfl, hr1.same k1, rfl, _, rfl, .inr (.inl ⟨pr, _, 2, _, rfl, rfl, hr1.same k1, rfl, small9 (by show 3 ≤ 1000; decide), fun w hw => ?_⟩)⟩)⟩
    have k2 := same_new hw (.tup [.ref t2, vc, .bl r.2])
    have k12 := k1.trans k2
    refine k _ _ k12 ⟨w, t2, vc, rz.reverse, c1, rfl, SqT.of upd_same, SqT.of (k2 _ _ (by rw [List.map_reverse]; exact upd_same)), fun z hz => ?_, ?_, by rw [List.length_reverse]; exact rl⟩
    · rcases List.mem_append.mp hz with y | y
      · exact (ff z (List.mem_append_left _ (List.mem_reverse.mp y))).same k12
      · exact (ff z (List.mem_append_right _ y)).same k12
    · show (r.1.take m).reverse ++ [r.1.getD m 0] = _
      rw [row_take er rl, row_last er rl, List.map_append, List.map_reverse]
      rfl
  have hlo8 := s8 _ _ hlo7
  refine ⟨lo, _, _, rfl, rfl, hlo8, small1000 (by show 3 ≤ 1000; decide), ?_⟩
  have neD2 : D2 ≠ lo := fun z => by rw [z, hlo7] at hD2; cases hD2
  have A5 : SyH K H8 m (S.map (revR m)) D2 := by
    refine ⟨ws2, 2520, 50400, hD8, pr_and (pr_map hP8) fun r hr => ?_, by decide, by decide, by decide, by rw [List.length_map]; omega⟩
    obtain ⟨r', hr', e⟩ := List.mem_map.mp hr
    rw [← e]
    intro x hx
    rcases List.mem_append.mp (show x ∈ (r'.1.take m).reverse ++ [r'.1.getD m 0] from hx) with z | z
    · exact hRS r' hr' x (List.mem_of_mem_take (List.mem_reverse.mp z))
    · rw [List.mem_singleton.mp z]
      have := hlen r' hr'
      refine hRS r' hr' _ ?_
      rw [List.getD_eq_getElem?_getD, List.getElem?_eq_getElem (by omega)]
      exact List.getElem_mem _
  have q5 : Sol m S ↔ Sol m (S.map (revR m)) := sol_rev hlen
  have A1 := (A1.same s8).put (o := .lst ([.ref l1, .ref l3] ++ [.ref D1] ++ [.ref D2])) hlo8 ne1
  have A3 := (A3.same s8).put (o := .lst ([.ref l1, .ref l3] ++ [.ref D1] ++ [.ref D2])) hlo8 ne3
  have A4 := (A4.same s8).put (o := .lst ([.ref l1, .ref l3] ++ [.ref D1] ++ [.ref D2])) hlo8 neD1
  have A5 := A5.put (o := .lst ([.ref l1, .ref l3] ++ [.ref D1] ++ [.ref D2])) hlo8 neD2
  have s48 := (s46.trans s8).put (o := .lst ([.ref l1, .ref l3] ++ [.ref D1] ++ [.ref D2])) f0
  have hlo9 := @upd_same H8 lo (.lst ([.ref l1, .ref l3] ++ [.ref D1] ++ [.ref D2]))
  generalize upd H8 lo (.lst ([.ref l1, .ref l3] ++ [.ref D1] ++ [.ref D2])) = H9 at *
  have s29 := s24.trans s48
  have hlr9 := s29 _ _ hlr
  have hP9 : RwD K H9 m 2520 50400 S us := Paired.mapP hP fun r u ⟨a1, a2⟩ => ⟨a1.same s29, a2⟩
  refine ⟨_, rfl, .inl ⟨rfl, _, SqL.of hlo9⟩, ?_⟩
  refine ⟨_, rfl, lr, rfl, ⟨_, SqL.of hlr9⟩, fun D3 hD3 => ?_⟩
  refine comp_rows (m' := m) (movR m bq) hlr9 hP9 hD3 (by omega) (fun r u H' Q' hr isr rs s' k => ?_) (fun ws3 HA sA hDA hPA => ?_)
  · exact ⟨_, rfl, _, rfl, u, .ref wb, r, m, bq, rfl, isr, m4, rs, (fb.same s48).same s', ab, fun v' H'' s'' isr' => k v' H'' s'' isr'⟩
  have hloA := sA _ _ hlo9
  refine ⟨lo, _, _, rfl, rfl, hloA, small1000 (by show 4 ≤ 1000; decide), ?_⟩
  have neD3 : D3 ≠ lo := fun z => by rw [z, hlo9] at hD3; cases hD3
  have A6 : SyH K HA m (S.map (movR m bq)) D3 := by
    refine ⟨ws3, 2520, 50400 + 4 * (50400 * 9), hDA, pr_and (pr_map hPA) fun r hr => ?_, by decide, by decide, by decide, by rw [List.length_map]; omega⟩
    obtain ⟨r', hr', e⟩ := List.mem_map.mp hr
    have rlen := hlen r' hr'
    have aR : ∀ k, k ≤ m → AtQ 2520 50400 (r'.1.getD k 0) := fun k hk => hRS r' hr' _ (by rw [List.getD_eq_getElem?_getD, List.getElem?_eq_getElem (by omega)]; exact List.getElem_mem _)
    rw [← e]
    intro x hx
    rcases List.mem_append.mp (show x ∈ r'.1.take m ++ [r'.1.getD m 0 + smQ m fun k => r'.1.getD k 0 * bq] from hx) with z | z
    · exact (hRS r' hr' x (List.mem_of_mem_take z)).mono (by decide)
    · rw [List.mem_singleton.mp z]
      have h1 := at_sm (D := 2520) (Y := 50400 * 9) (by decide) m (f := fun k => r'.1.getD k 0 * bq) fun k hk => by
        have := (aR k (by omega)).mul (by decide) (by decide) ab
        rw [Int.mul_one] at this
        exact this
      exact ((aR m (Nat.le_refl m)).add (by decide) h1).mono (Nat.add_le_add_left (Nat.mul_le_mul_right _ (by omega)) _)
  have q6 : Sol m S ↔ Sol m (S.map (movR m bq)) := sol_mov hlen
  have A1 := (A1.same sA).put (o := .lst ([.ref l1, .ref l3] ++ [.ref D1] ++ [.ref D2] ++ [.ref D3])) hloA ne1
  have A3 := (A3.same sA).put (o := .lst ([.ref l1, .ref l3] ++ [.ref D1] ++ [.ref D2] ++ [.ref D3])) hloA ne3
  have A4 := (A4.same sA).put (o := .lst ([.ref l1, .ref l3] ++ [.ref D1] ++ [.ref D2] ++ [.ref D3])) hloA neD1
  have A5 := (A5.same sA).put (o := .lst ([.ref l1, .ref l3] ++ [.ref D1] ++ [.ref D2] ++ [.ref D3])) hloA neD2
  have A6 := A6.put (o := .lst ([.ref l1, .ref l3] ++ [.ref D1] ++ [.ref D2] ++ [.ref D3])) hloA neD3
  have s4B := (s48.trans sA).put (o := .lst ([.ref l1, .ref l3] ++ [.ref D1] ++ [.ref D2] ++ [.ref D3])) f0
  have hloB := @upd_same HA lo (.lst ([.ref l1, .ref l3] ++ [.ref D1] ++ [.ref D2] ++ [.ref D3]))
  generalize upd HA lo (.lst ([.ref l1, .ref l3] ++ [.ref D1] ++ [.ref D2] ++ [.ref D3])) = HB at *
  have s2B := s24.trans s4B
  have oth : ∀ u ∈ ([.ref l1, .ref l3] ++ [.ref D1] ++ [.ref D2] ++ [.ref D3] : List V), ∃ l S', u = .ref l ∧ SyH K HB m S' l ∧ (Sol m S ↔ Sol m S') := fun u hu => by
    simp only [List.mem_append, List.mem_cons, List.not_mem_nil, or_false] at hu
    rcases hu with (((h | h) | h) | h) | h
    · exact ⟨l1, _, h, A1, q1⟩
    · exact ⟨l3, _, h, A3, q3⟩
    · exact ⟨D1, _, h, A4, q4⟩
    · exact ⟨D2, _, h, A5, q5⟩
    · exact ⟨D3, _, h, A6, q6⟩
  have ol : ([.ref l1, .ref l3] ++ [.ref D1] ++ [.ref D2] ++ [.ref D3] : List V).length = 5 := rfl
  generalize ([.ref l1, .ref l3] ++ [.ref D1] ++ [.ref D2] ++ [.ref D3] : List V) = os at *
  have same_w : ∀ {S' : List (List Rat × Bool)} {m' : Nat} {b : Bool}, (Sol m S ↔ Sol m' S') → (b = true ↔ Sol m' S') → b = b0 := fun {S' m' b} h1 h2 => by
    have h3 : b = true ↔ b0 = true := h2.trans (h1.symm.trans hb0.symm)
    cases b <;> cases b0 <;> simp at h3 <;> rfl
  refine ⟨_, rfl, rfl, _, rfl, ?_⟩
  refine iteDF (decide_eq_false (by cases b0 <;> decide)) ?_
  refine ⟨_, rfl, lo, rfl, ⟨_, SqL.of hloB⟩, fun D4 hD4 => ?_⟩
  refine comp_list (xs := os) (fun i zs H' => Same HB H' ∧ zs = (List.replicate i false).map V.bl) ⟨same_new hD4 _, rfl⟩ (fun i zs H' h _ => SqL.of (h.1 _ _ hloB)) ?_ ?_
  · rintro i zs H' v hv ⟨sC, rfl⟩ hD'
    have hi := (List.getElem?_eq_some_iff.mp hv).1
    obtain ⟨l, S', rfl, hS', hq⟩ := oth v (List.mem_of_getElem? hv)
    refine yes ⟨_, rfl, _, rfl, l, S', m, rfl, hS'.same sC, m4, fun b HC sD hb => ?_⟩
    have eb := same_w hq hb
    refine ⟨_, rfl, rfl, ?_⟩
    refine cyes hi rset1 (sD _ _ hD') (by rw [List.length_map, List.length_replicate]; exact small1000 (by omega)) ⟨(sC.trans sD).put hD4, ?_⟩
    rw [List.replicate_succ', List.map_append, eb]
    congr 1
    show [V.bl (!decide (V.str (wdV b0) = V.str (wdV b0)))] = _
    rw [decide_eq_true rfl]
    rfl
  rintro zs HC ⟨sC, rfl⟩ hD4'
  refine ⟨D4, List.replicate os.length false, rfl, SqL.of hD4', ?_⟩
  rw [show (List.replicate os.length false).any id = false by simp]
  refine ⟨_, rfl, iteF ?_⟩
  have s2C := s2B.trans sC
  have hlrC := s2C _ _ hlr
  have hPC : RwD K HC m 2520 50400 S us := Paired.mapP hP fun r u ⟨a1, a2⟩ => ⟨a1.same s2C, a2⟩
  refine ⟨_, rfl, lr, rfl, ⟨_, SqL.of hlrC⟩, fun D5 hD5 => ?_⟩
  refine comp_rows (m' := m + 1) (widR m) hlrC hPC hD5 (by omega) (fun r u H' Q' hr isr rs s' k => ?_) (fun ws5 HD sD hDD hPD => ?_)
  · obtain ⟨pr, pn, vc, rz, c1, rfl, hr1, hn1, ff, er, rl⟩ := isr
    refine ⟨_, rfl, .inr (.inl ⟨pr, _, 0, _, rfl, rfl, hr1, rfl, small9 (by show 2 ≤ 1000; decide), fun z0 hz0 => ⟨small9 (by show 1 ≤ 1000; decide), fun z1 hz1 => ?_⟩⟩)⟩
    have k1 := same_new hz0 (.tup [.int 0, .int 1])
    have k2 := same_new hz1 (.tup [.ref z0])
    have fz : FR K _ (.ref z0) 0 350 := (fr_new (K := K) hz0 (r := 0) (n := 1) (by unfold Sz; decide) (by unfold Sz; decide)).mono (by decide)
    have k12 := k1.trans k2
    refine ⟨pn, z1, _, _, rfl, rfl, hn1.same k12, SqT.of upd_same, (fun e => by have h0 := congrArg List.length e; rw [List.length_map] at h0; have h0 : rz.length = 0 := h0; omega), small9 (by rw [List.length_map]; show rz.length + 1 ≤ 1000; omega), (fun e => by cases e), fun _ pt hpt => ?_⟩
    have k3 := same_new hpt (.tup (rz.map Prod.fst ++ [.ref z0]))
    have k13 := k12.trans k3
    refine ⟨_, rfl, .inr (.inl ⟨pr, _, 1, _, rfl, rfl, hr1.same k13, rfl, _, rfl, .inr (.inl ⟨pr, _, 2, _, rfl, rfl, hr1.same k13, rfl, small9 (by show 3 ≤ 1000; decide), fun w hw => ?_⟩)⟩)⟩
    have k4 := same_new hw (.tup [.ref pt, vc, .bl r.2])
    have k14 := k13.trans k4
    refine k _ _ k14 ⟨w, pt, vc, rz ++ [(.ref z0, 0)], c1, rfl, SqT.of upd_same, SqT.of (k4 _ _ (by rw [List.map_append]; exact upd_same)), fun z hz => ?_, ?_, by rw [List.length_append, rl]; rfl⟩
    · rcases List.mem_append.mp hz with y | y
      · rcases List.mem_append.mp y with x | x
        · exact (ff z (List.mem_append_left _ x)).same k14
        · rw [List.mem_singleton.mp x]
          exact ((fz.same k2).same k3).same k4
      · exact (ff z (List.mem_append_right _ y)).same k14
    · show r.1.take m ++ [0] ++ [r.1.getD m 0] = _
      rw [row_take er rl, row_last er rl, List.map_append, List.map_append]
      rfl
  have AW : SyH K HD (m + 1) (S.map (widR m)) D5 := by
    refine ⟨ws5, 2520, 50400, hDD, pr_and (pr_map hPD) fun r hr => ?_, by decide, by decide, by decide, by rw [List.length_map]; omega⟩
    obtain ⟨r', hr', e⟩ := List.mem_map.mp hr
    rw [← e]
    intro x hx
    rcases List.mem_append.mp (show x ∈ r'.1.take m ++ [0] ++ [r'.1.getD m 0] from hx) with z | z
    · rcases List.mem_append.mp z with y | y
      · exact hRS r' hr' x (List.mem_of_mem_take y)
      · rw [List.mem_singleton.mp y]
        exact atQ_zero (by decide) _
    · rw [List.mem_singleton.mp z]
      have := hlen r' hr'
      refine hRS r' hr' _ ?_
      rw [List.getD_eq_getElem?_getD, List.getElem?_eq_getElem (by omega)]
      exact List.getElem_mem _
  have qw : Sol m S ↔ Sol (m + 1) (S.map (widR m)) := sol_wid hlen
  refine hide (R := ?R1) (D := ?D1) (P := fun R D => ∀ HX : Hp, Same HD HX → R D [some (.int c0), some (.ref p), some (nV m), some (.ref lr), some (.str (wdV b0)), some (.ref wb), some (.ref lo), some (.ref D5), none, none] HX) (fun rest1 => ?main) ?r1
  case main =>
    refine ⟨_, rfl, _, _, rfl, rfl, _, rfl, ite2 (fun c1 => ?t1) (fun c1 => iteF ?f1)⟩
    case f1 => exact rest1 HD (Same.refl _)
    case t1 =>
      have lt4 : (m : Int) < 4 := of_decide_eq_true c1
      refine ⟨_, rfl, _, rfl, _, _, rfl, rfl, D5, S.map (widR m), m + 1, rfl, AW, by omega, fun b HE sE hb => ?_⟩
      have eb := same_w qw hb
      subst eb
      refine ⟨_, rfl, rfl, _, rfl, iteNS (c := V.str (wdV b) = V.str (wdV b)) rfl ?_⟩
      exact rest1 HE sE
  case r1 =>
    intro HX sX
    have s2X := (s2C.trans sD).trans sX
    have hpX := s2X _ _ (s2 _ _ hp1)
    have hlrX := s2X _ _ hlr
    refine ⟨_, rfl, _, rfl, (m : Int), rfl, by omega, by omega, fun D6 hD6 => ?_⟩
    rw [Int.toNat_natCast]
    refine comp_frP (K := K) (b := 20) (AtQ 2520 50400) hD6 (by omega) (fun j H4 Q4 hj s4 k4 => ?_) (fun rz HE sE hrl frz arz hDE => ?_)
    · obtain ⟨yy, ya, yb, e⟩ := at_ys (66 + j) (by omega)
      exact ⟨_, rfl, _, rfl, _, _, rfl, rfl, .inl ⟨p, _, _, _, rfl, rfl, SqL.of (s4 _ _ hpX), by rw [show (66 : Int) + (0 + (j : Int)) = ((66 + j : Nat) : Int) by omega]; exact e, yy, rfl, k4⟩⟩
    obtain ⟨y65, _, _, e65⟩ := at_ys 65 (by decide)
    refine ⟨D6, _, rfl, .inl ⟨SqL.of hDE, fun t6 ht6 => ?_⟩⟩
    have k1 := same_new ht6 (.tup (rz.map Prod.fst))
    refine ⟨_, rfl, .inl ⟨p, _, 65, _, rfl, rfl, SqL.of (k1 _ _ (sE _ _ hpX)), e65, y65, rfl, fun v8 r8 HF sF f8 a8 => ?_⟩⟩
    refine ⟨small9 (by show 3 ≤ 1000; decide), fun w8 hw8 => ⟨small9 (by show 1 ≤ 1000; decide), fun l8 hl8 => ?_⟩⟩
    have k2 := same_new hw8 (.tup [.ref t6, v8, .bl true])
    have k3 := same_new hl8 (.lst [.ref w8])
    have sG := sE.trans (k1.trans (sF.trans (k2.trans k3)))
    refine ⟨lr, l8, _, _, rfl, rfl, sG _ _ hlrX, upd_same, small9 (by show us.length + 1 ≤ 1000; omega), fun l9 hl9 => ?_⟩
    have k4 := same_new hl9 (.lst (us ++ [.ref w8]))
    have s2H := s2X.trans (sG.trans k4)
    have isr : IsRw K _ (.ref w8) ((rz ++ [(v8, r8)]).map Prod.snd, true) m := ⟨w8, t6, v8, rz, r8, rfl, SqT.of (@upd_same _ w8 (.tup [.ref t6, v8, .bl true])), SqT.of (k2 _ _ (sF _ _ upd_same)), frs_app (frs_mono (frz.same (k1.trans (sF.trans k2))) (by decide)) ((f8.same k2).mono (by decide)), rfl, hrl⟩
    have hPX : RwD K _ m 2520 50400 (S ++ [((rz ++ [(v8, r8)]).map Prod.snd, true)]) (us ++ [.ref w8]) := pr_app (Paired.mapP hP fun r u ⟨a1, a2⟩ => ⟨a1.same s2H, a2⟩) (.cons ⟨(isr.same k3).same k4, rws_app arz a8⟩ .nil)
    refine ⟨_, rfl, _, rfl, l9, _, m, rfl, ⟨_, 2520, 50400, upd_same, hPX, by decide, by decide, by decide, by rw [List.length_append]; show S.length + 1 ≤ 36; omega⟩, m4, fun b9 H9 s9 hb9 => ?_⟩
    have hq := q _ (SN.trans (s2.trans (s2H.trans s9)))
    refine ⟨_, rfl, rfl, _, rfl, ?_⟩
    have imp : b9 = true → b0 = true := fun z => hb0.mpr ((hb9.mp z).elim fun x hx => ⟨x, met_all fun r hr => met_mem hx r (List.mem_append_left _ hr)⟩)
    cases b0 with
    | true =>
      have e1 : (!decide (V.str (wdV b9) = V.str "")) = true := by cases b9 <;> decide
      rw [e1]
      refine iteT ⟨_, rfl, rfl, _, rfl, ?_⟩
      rw [show decide (V.str (wdV true) = V.str "met") = true by decide]
      exact iteT hq
    | false =>
      have e9 : b9 = false := by
        cases b9 with
        | false => rfl
        | true => exact absurd (imp rfl) (by decide)
      subst e9
      rw [show (!decide (V.str (wdV false) = V.str "")) = true by decide]
      refine iteT ⟨_, rfl, rfl, _, rfl, ?_⟩
      rw [show decide (V.str (wdV false) = V.str "met") = false by decide]
      refine iteF ⟨_, rfl, rfl, ?_⟩
      rw [show decide (V.str (wdV false) = V.str "unmet") = true by decide]
      exact hq

abbrev s_law : Stmt := top 36
theorem sc_law : FnScope ["_law_script", "_law_cell_here"] ["_law_script"] (defScope s_law) := ⟨rfl, rfl, rfl, by decide +kernel, rfl, by decide +kernel, by decide +kernel⟩
theorem ok_law {P : Program} {w : World} {K : PySem.W.Frag} {mg : Str → Option Value} {base : Heap} {f : Addr} {fd : FuncData} (F : Fun K "law" "law" s_law f fd) (gb : Gb mg) {c : Nat → Addr} (cl : Cl K mg c) (d_law_cell : Def P w K mg base 1 "_law_cell" ["_law_script", "_law_k"] (spCell K)) (d_law_right : Def P w K mg base 8 "_law_right" ["_law_cell_here"] spRightC) : FnOk P w K mg base CX0 9 f fd ["_law_script"] (spLaw K) := by
  refine F.ok sc_law (fun vs H Q E h => ?_) (fun cdv A outer s H vs Q E hr h => ?_)
  · obtain ⟨a, ns, rfl, _⟩ := h
    rfl
  obtain ⟨a, ns, rfl, hS, hn, q⟩ := h
  refine ⟨_, (@pss_cons _ _ _ _ _ (@ps_for _ _ _ _ _ _ _ _ PassesOwn.never rfl (@kpi_list _ K _ _ _ (@pe_op _ _ _ _ _ _ _ _ (@op_cat _) (@pe_lst _ _ _ _ (@pa_cons _ _ _ _ _ (@pe_def _ _ _ _ _ _ _ _ _ _ _ d_law_cell hr (by omega) rfl (@pa_cons _ _ _ _ _ (@pv _ 0 _ _ (by rfl) (by first | exact Or.inl rfl | exact Or.inr (Or.inl rfl) | exact Or.inr (Or.inr rfl)) (by decide) (by decide)) (@pa_cons _ _ _ _ _ (@pe_int _ _ _ _) (@pa_nil _) (by rfl)) (by rfl)) (by decide) (by rfl) (by rfl)) (@pa_nil _) (by rfl))) (@pe_slice _ _ _ _ _ _ _ _ _ _ (@ksl_any _ K (by rfl)) (@pv _ 0 _ _ (by rfl) (by first | exact Or.inl rfl | exact Or.inr (Or.inl rfl) | exact Or.inr (Or.inr rfl)) (by decide) (by decide)) (@po_some _ _ _ (@pe_int _ _ _ _)) (@po_some _ _ _ (@pe_int _ _ _ _)))) (by rfl)) (@pg_name _ _ 1 _ sc_law.nd rfl (Or.inl rfl) (by first | exact .inl rfl | exact .inr rfl | assumption)) (@pss_one _ _ _ (@ps_if _ _ _ _ _ _ _ _ (@pt_not _ _ _ _ (@pt_val _ _ _ (@pe_def _ _ _ _ _ _ _ _ _ _ _ d_law_right hr (by omega) rfl (@pa_cons _ _ _ _ _ (@pv _ 1 _ _ (by rfl) (by first | exact Or.inl rfl | exact Or.inr (Or.inl rfl) | exact Or.inr (Or.inr rfl)) (by decide) (by decide)) (@pa_nil _) (by rfl)) (by decide) (by rfl) (by rfl)) (by intro _; rfl))) (@pss_one _ _ _ (@ps_ret _ _ _ _ (@pe_bl _ _ _ _))) (@pss_nil _))) (by intro _; rfl)) (@pss_one _ _ _ (@ps_ret _ _ _ _ (@pe_bl _ _ _ _)))), ?_⟩
  refine ⟨_, rfl, a, ns, rfl, hS, fun i0 => ?_⟩
  refine ⟨small9 (by show 1 ≤ 1000; decide), fun z hz => ?_⟩
  have hS1 := (same_new hz (.lst [.int i0])).seq hS
  refine ⟨_, rfl, _, rfl, _, rfl, .inl ⟨a, _, rfl, hS1, fun y hy => ?_⟩⟩
  obtain ⟨ms, em⟩ := cut_ints ns (some 1) (some 3)
  have hml : ms.length ≤ 63 := by
    have h1 := cutV_length (ns.map V.int) (some 1) (some 3)
    rw [em, List.length_map, List.length_map] at h1
    omega
  rw [em] at *
  have zy : z ≠ y := fun e => by
    rw [← e, upd_same] at hy
    cases hy
  refine ⟨z, y, _, _, rfl, rfl, by rw [upd_ne zy]; exact upd_same, upd_same, ?_, fun l hl => ?_⟩
  · rw [List.length_map]
    exact small9 (by show 1 + ms.length ≤ 1000; omega)
  rw [cat_ints]
  refine ⟨l, rfl, ⟨_, SqL.of upd_same⟩, ?_⟩
  refine for_list (xs := (i0 :: ms).map V.int) (fun _ σ H' => (∃ x1, σ = [some (.ref a), x1]) ∧ H' l = some (.lst ((i0 :: ms).map V.int))) ⟨⟨_, rfl⟩, upd_same⟩ (fun i σ H' _ h => SqL.of h.2) ?_ (fun σ H' ⟨⟨_, e⟩, _⟩ => by rw [e]; exact q H')
  rintro i x σ H' hx ⟨⟨x1, rfl⟩, hl'⟩
  rw [List.getElem?_map] at hx
  obtain ⟨cv, _, rfl⟩ := Option.map_eq_some_iff.mp hx
  exact ⟨_, rfl, cv, rfl, fun H1 s1 => ⟨true, rfl, iteF ⟨⟨_, rfl⟩, s1 _ _ hl'⟩⟩⟩

theorem lenK1 {α : Type} : ∀ {us : List α}, us.length = 1 → ∃ x0, us = [x0]
  | [x0], _ => ⟨x0, rfl⟩
theorem lenK2 {α : Type} : ∀ {us : List α}, us.length = 2 → ∃ x0 x1, us = [x0, x1]
  | [x0, x1], _ => ⟨x0, x1, rfl⟩
theorem lenK3 {α : Type} : ∀ {us : List α}, us.length = 3 → ∃ x0 x1 x2, us = [x0, x1, x2]
  | [x0, x1, x2], _ => ⟨x0, x1, x2, rfl⟩
theorem lenK4 {α : Type} : ∀ {us : List α}, us.length = 4 → ∃ x0 x1 x2 x3, us = [x0, x1, x2, x3]
  | [x0, x1, x2, x3], _ => ⟨x0, x1, x2, x3, rfl⟩
def FD (K : PySem.W.Frag) (x : Str) (st : Stmt) : Prop := ∃ (f : Addr) (fd : FuncData), PySem.W.nsIn K mainGlobals x = some (some (.ref f)) ∧ PySem.W.keepIn K (.ref f) = true ∧ Fun K x x st f fd
theorem fd_mk {K : PySem.W.Frag} {x : Str} {st : Stmt} {f : Addr} {oc kV dc pm cd ct : Value} {od an : Option Addr} {sl : Array (Option Value)} (a : PySem.W.nsIn K mainGlobals x = some (some (.ref f))) (l : K.lookup f = some ⟨oc, od, .func (PySem.W.fnOf x x (defArgs st) (defBody st) (defScope st) .none kV dc pm an cd ct), sl⟩) (c : PySem.W.codeIn K cd x = true) (k : PySem.W.keepIn K (.ref f) = true) : FD K x st := ⟨f, _, a, k, fun_mk l c k⟩
def FDM (K : PySem.W.Frag) (C : Addr) (m q : Str) (st : Stmt) : Prop := ∃ (f : Addr) (fd : FuncData), Meth K C m f ∧ Fun K m q st f fd
theorem fdm_mk {K : PySem.W.Frag} {C : Addr} {m q : Str} {st : Stmt} {f : Addr} {oc kV dc pm cd ct : Value} {od an : Option Addr} {sl : Array (Option Value)} (a : PySem.W.findIn K (.ref C) m = some (some (.ref f))) (l : K.lookup f = some ⟨oc, od, .func (PySem.W.fnOf m q (defArgs st) (defBody st) (defScope st) .none kV dc pm an cd ct), sl⟩) (c : PySem.W.codeIn K cd q = true) (k : PySem.W.keepIn K (.ref f) = true) (t : PySem.W.isFn K (.ref f) = true) : FDM K C m q st := ⟨f, _, ⟨a, t, k⟩, fun_mk l c k⟩
theorem fd_def {P : Program} {w : World} {K : PySem.W.Frag} {mg : Str → Option Value} {h base : Heap} {x : Str} {st : Stmt} {k : Nat} {ps : List Str} {sp : Sp} (X : K.In h) (G : h.Ns mainGlobals mg) (d : FD K x st) (ok : ∀ f fd, Fun K x x st f fd → FnOk P w K mg base CX0 k f fd ps sp) (hb : ∀ (kV dc pm : Value) (an : Option Addr) (cd ct : Value) (us : List Value), us.length = ps.length → bindArgs (PySem.W.fnOf x x (defArgs st) (defBody st) (defScope st) .none kV dc pm an cd ct) ⟨us, []⟩ = pure (ps.zip us)) : Def P w K mg base k x ps sp := by
  obtain ⟨f, fd, a, k, F⟩ := d
  exact ⟨f, fd, ok f fd F, PySem.W.mg_of X G a, k, F.binds hb⟩
theorem fd_def1 {P : Program} {w : World} {K : PySem.W.Frag} {mg : Str → Option Value} {h base : Heap} {x : Str} {st : Stmt} {k : Nat} {ps : List Str} {sp : Sp} (X : K.In h) (G : h.Ns mainGlobals mg) (d : FD K x st) (ok : ∀ f fd, Fun K x x st f fd → FnOk P w K mg base (CX1 P w) k f fd ps sp) (hb : ∀ (kV dc pm : Value) (an : Option Addr) (cd ct : Value) (us : List Value), us.length = ps.length → bindArgs (PySem.W.fnOf x x (defArgs st) (defBody st) (defScope st) .none kV dc pm an cd ct) ⟨us, []⟩ = pure (ps.zip us)) : Def1 P w K mg base k x ps sp := by
  obtain ⟨f, fd, a, k, F⟩ := d
  exact ⟨f, fd, ok f fd F, PySem.W.mg_of X G a, k, F.binds hb⟩
theorem all_mk {l : PySem.W.OpenLaw} {w : World} {K : PySem.W.Frag} {h : Heap} {mg : Str → Option Value} {fa fL cc0 cc1 cc2 : Addr} (X : K.In h) (G : h.Ns mainGlobals mg) (hfa : mg "law" = some (.ref fa)) {od an : Option Addr} {sl : Array (Option Value)} {oc kV dc pm cd ct : Value}
    (h0 : FD K "is_whole" s_is_whole)
    (h1 : FD K "shared_part" s_shared_part)
    (h2 : FD K "fraction" s_fraction)
    (h3 : FD K "without_column" s_without_column)
    (h4 : FDM K cc2 "entering" "Search.entering" s_Search_entering)
    (h5 : FDM K cc2 "is_narrower" "Search.is_narrower" s_Search_is_narrower)
    (h6 : FDM K cc2 "leaving" "Search.leaving" s_Search_leaving)
    (h7 : FDM K cc2 "take" "Search.take" s_Search_take)
    (h8 : FDM K cc2 "is_found" "Search.is_found" s_Search_is_found)
    (h9 : FDM K cc2 "__init__" "Search.__init__" s_Search_init)
    (h10 : FDM K cc2 "run" "Search.run" s_Search_run)
    (h11 : FD K "common_bottom" s_common_bottom)
    (h12 : FD K "column_for" s_column_for)
    (h13 : FD K "shares_by" s_shares_by)
    (h14 : FD K "point_by" s_point_by)
    (h15 : FD K "meeting" s_meeting)
    (h16 : FD K "_law_cell" s_law_cell)
    (h17 : FD K "_law_strewn" s_law_strewn)
    (h18 : FD K "_law_share" s_law_share)
    (h19 : FD K "_law_lowest" s_law_lowest)
    (h20 : FD K "_law_sum" s_law_sum)
    (h21 : FD K "_law_product" s_law_product)
    (h22 : FD K "_law_is_number" s_law_is_number)
    (h23 : FD K "_law_is_fraction" s_law_is_fraction)
    (h24 : FD K "_law_fractions" s_law_fractions)
    (h25 : FD K "_law_comes_to" s_law_comes_to)
    (h26 : FD K "_law_met" s_law_met)
    (h27 : FD K "_law_barred" s_law_barred)
    (h28 : FD K "_law_answer_right" s_law_answer_right)
    (h29 : FD K "_law_small" s_law_small)
    (h30 : FD K "_law_rows" s_law_rows)
    (h31 : FD K "_law_times" s_law_times)
    (h32 : FD K "_law_moved" s_law_moved)
    (h33 : FD K "_law_word" s_law_word)
    (h34 : FD K "_law_right" s_law_right)
    (aL : PySem.W.nsIn K mainGlobals "law" = some (some (.ref fL))) (lL : K.lookup fL = some ⟨oc, od, .func (PySem.W.fnOf "law" "law" (defArgs s_law) (defBody s_law) (defScope s_law) .none kV dc pm an cd ct), sl⟩) (cL : PySem.W.codeIn K cd "law" = true) (kL : PySem.W.keepIn K (.ref fL) = true)
    (z0 : PySem.W.nsIn K mainGlobals "abs" = some none)
    (z1 : PySem.W.nsIn K mainGlobals "range" = some none)
    (z2 : PySem.W.nsIn K mainGlobals "tuple" = some none)
    (z3 : PySem.W.nsIn K mainGlobals "list" = some none)
    (z4 : PySem.W.nsIn K mainGlobals "isinstance" = some none)
    (z5 : PySem.W.nsIn K mainGlobals "int" = some none)
    (z6 : PySem.W.nsIn K mainGlobals "bool" = some none)
    (z7 : PySem.W.nsIn K mainGlobals "len" = some none)
    (z8 : PySem.W.nsIn K mainGlobals "all" = some none)
    (z9 : PySem.W.nsIn K mainGlobals "any" = some none)
    (z10 : PySem.W.nsIn K mainGlobals "sum" = some none)
    (z11 : PySem.W.nsIn K mainGlobals "zip" = some none)
    (z12 : PySem.W.nsIn K mainGlobals "enumerate" = some none)
    (g0 : PySem.W.nsIn K mainGlobals "GradeError" = some (some (.ref cc0)))
    (g1 : PySem.W.nsIn K mainGlobals "NoFraction" = some (some (.ref cc1)))
    (g2 : PySem.W.nsIn K mainGlobals "Search" = some (some (.ref cc2)))
    (w0 : PySem.W.excIn K cc1 [.type "ValueError", .type "Exception", .type "BaseException", .type "object"] "ValueError.__new__" = true)
    (w1 : PySem.W.plainGet K cc2 Str.empty = true)
    (w2 : PySem.W.hasDictIn K cc2 = true)
    (w3 : PySem.W.plainOver K cc2 = true)
    (w4 : PySem.W.findIn K (.ref cc2) "__setattr__" = some (some (.builtin "object.__setattr__")))
    (w5 : PySem.W.makesIn K cc2 = true)
    (w6 : PySem.W.keepIn K (.ref cc2) = true)
    (w7 : PySem.W.findIn K (.ref cc2) "given" = some none)
    (w8 : PySem.W.findIn K (.ref cc2) "lines" = some none)
    (w9 : PySem.W.findIn K (.ref cc2) "costs" = some none)
    (w10 : PySem.W.findIn K (.ref cc2) "basis" = some none)
    (w11 : PySem.W.findIn K (.ref cc2) "scale" = some none)
    : ∃ fd : FuncData, (∀ (s : Shared) (v : Value), BindsTo s fd ⟨[v], []⟩ [("_law_script", v)]) ∧ ∀ base : Heap, K.In base → base.Ns mainGlobals mg → FnOk l.prog w K mg base CX0 9 fa fd ["_law_script"] (spLaw K) := by
  have e := hfa.symm.trans (PySem.W.mg_of X G aL)
  cases e
  have gb : Gb mg := ⟨PySem.W.mg_none_of X G z0, PySem.W.mg_none_of X G z1, PySem.W.mg_none_of X G z2, PySem.W.mg_none_of X G z3, PySem.W.mg_none_of X G z4, PySem.W.mg_none_of X G z5, PySem.W.mg_none_of X G z6, PySem.W.mg_none_of X G z7, PySem.W.mg_none_of X G z8, PySem.W.mg_none_of X G z9, PySem.W.mg_none_of X G z10, PySem.W.mg_none_of X G z11, PySem.W.mg_none_of X G z12⟩
  have cl : Cl K mg fun i => [cc0, cc1, cc2].getD i 0 := ⟨PySem.W.mg_of X G g0, PySem.W.mg_of X G g1, PySem.W.mg_of X G g2, w0, w1, w2, w3, w4, w5, w6, w7, w8, w9, w10, w11⟩
  generalize hcf : (fun i => [cc0, cc1, cc2].getD i 0) = c at cl
  have h4 : FDM K (c 2) "entering" "Search.entering" s_Search_entering := by rw [← hcf]; exact h4
  have h5 : FDM K (c 2) "is_narrower" "Search.is_narrower" s_Search_is_narrower := by rw [← hcf]; exact h5
  have h6 : FDM K (c 2) "leaving" "Search.leaving" s_Search_leaving := by rw [← hcf]; exact h6
  have h7 : FDM K (c 2) "take" "Search.take" s_Search_take := by rw [← hcf]; exact h7
  have h8 : FDM K (c 2) "is_found" "Search.is_found" s_Search_is_found := by rw [← hcf]; exact h8
  have h9 : FDM K (c 2) "__init__" "Search.__init__" s_Search_init := by rw [← hcf]; exact h9
  have h10 : FDM K (c 2) "run" "Search.run" s_Search_run := by rw [← hcf]; exact h10
  refine ⟨PySem.W.fnOf "law" "law" (defArgs s_law) (defBody s_law) (defScope s_law) .none kV dc pm an cd ct, fun s v => .of_eq rfl, fun base _ _ => ?_⟩
  have d_is_whole : Def l.prog w K mg base 1 "is_whole" ["thing"] spWhole := fd_def X G h0 (fun _ _ F => ok_is_whole F gb cl) fun _ _ _ _ _ _ us hl => by obtain ⟨z0_, rfl⟩ := lenK1 hl; rfl
  have d_shared_part : Def l.prog w K mg base 1 "shared_part" ["one", "other"] spShared := fd_def X G h1 (fun _ _ F => ok_shared_part F gb cl) fun _ _ _ _ _ _ us hl => by obtain ⟨z0_, z1_, rfl⟩ := lenK2 hl; rfl
  have d_fraction : Def1 l.prog w K mg base 2 "fraction" ["top", "bottom"] (spFrac (c 1)) := fd_def1 X G h2 (fun _ _ F => ok_fraction F gb cl d_is_whole d_shared_part) fun _ _ _ _ _ _ us hl => by obtain ⟨z0_, z1_, rfl⟩ := lenK2 hl; rfl
  have d_without_column : Def l.prog w K mg base 1 "without_column" ["line", "chosen", "column", "scale"] spWout := fd_def X G h3 (fun _ _ F => ok_without_column F gb cl) fun _ _ _ _ _ _ us hl => by obtain ⟨z0_, z1_, z2_, z3_, rfl⟩ := lenK4 hl; rfl
  have d_Search_entering : DefM l.prog w K mg base 1 (c 2) "entering" ["self"] (spEnter (c 2)) := by
    obtain ⟨f, fd, hm, F⟩ := h4
    exact ⟨f, fd, hm, ok_Search_entering F gb cl, F.binds fun _ _ _ _ _ _ us hl => by obtain ⟨z0_, rfl⟩ := lenK1 hl; rfl⟩
  have d_Search_is_narrower : DefM l.prog w K mg base 1 (c 2) "is_narrower" ["self", "number", "other", "column"] (spNarrow (c 2)) := by
    obtain ⟨f, fd, hm, F⟩ := h5
    exact ⟨f, fd, hm, ok_Search_is_narrower F gb cl, F.binds fun _ _ _ _ _ _ us hl => by obtain ⟨z0_, z1_, z2_, z3_, rfl⟩ := lenK4 hl; rfl⟩
  have d_Search_leaving : DefM l.prog w K mg base 2 (c 2) "leaving" ["self", "column"] (spLeave (c 2)) := by
    obtain ⟨f, fd, hm, F⟩ := h6
    exact ⟨f, fd, hm, ok_Search_leaving F gb cl d_Search_is_narrower, F.binds fun _ _ _ _ _ _ us hl => by obtain ⟨z0_, z1_, rfl⟩ := lenK2 hl; rfl⟩
  have d_Search_take : DefM l.prog w K mg base 2 (c 2) "take" ["self", "number", "column"] (spTake (c 2)) := by
    obtain ⟨f, fd, hm, F⟩ := h7
    exact ⟨f, fd, hm, ok_Search_take F gb cl d_without_column, F.binds fun _ _ _ _ _ _ us hl => by obtain ⟨z0_, z1_, z2_, rfl⟩ := lenK3 hl; rfl⟩
  have d_Search_is_found : DefM l.prog w K mg base 1 (c 2) "is_found" ["self"] (spFound (c 2)) := by
    obtain ⟨f, fd, hm, F⟩ := h8
    exact ⟨f, fd, hm, ok_Search_is_found F gb cl, F.binds fun _ _ _ _ _ _ us hl => by obtain ⟨z0_, rfl⟩ := lenK1 hl; rfl⟩
  have d_Search_init : DefN l.prog w K mg base 1 (c 2) ["self", "columns"] (spInitS (c 2)) := by
    obtain ⟨f, fd, hm, F⟩ := h9
    exact ⟨f, fd, ⟨cl.mk_Search, hm.at_, hm.fn, cl.kp_Search⟩, ok_Search_init F gb cl, F.binds fun _ _ _ _ _ _ us hl => by obtain ⟨z0_, z1_, rfl⟩ := lenK2 hl; rfl⟩
  have d_Search_run : DefM l.prog w K mg base 3 (c 2) "run" ["self"] (spRun (c 2)) := by
    obtain ⟨f, fd, hm, F⟩ := h10
    exact ⟨f, fd, hm, ok_Search_run F gb cl d_Search_entering d_Search_leaving d_Search_take d_Search_is_found, F.binds fun _ _ _ _ _ _ us hl => by obtain ⟨z0_, rfl⟩ := lenK1 hl; rfl⟩
  have d_common_bottom : Def l.prog w K mg base 2 "common_bottom" ["row"] (spBot K) := fd_def X G h11 (fun _ _ F => ok_common_bottom F gb cl d_shared_part) fun _ _ _ _ _ _ us hl => by obtain ⟨z0_, rfl⟩ := lenK1 hl; rfl
  have d_column_for : Def l.prog w K mg base 2 "column_for" ["row", "bottom"] (spCol K) := fd_def X G h12 (fun _ _ F => ok_column_for F gb cl) fun _ _ _ _ _ _ us hl => by obtain ⟨z0_, z1_, rfl⟩ := lenK2 hl; rfl
  have d_shares_by : Def l.prog w K mg base 3 "shares_by" ["search", "bottoms"] (spShares K (c 2)) := fd_def X G h13 (fun _ _ F => ok_shares_by F gb cl d_shared_part d_fraction) fun _ _ _ _ _ _ us hl => by obtain ⟨z0_, z1_, rfl⟩ := lenK2 hl; rfl
  have d_point_by : Def l.prog w K mg base 3 "point_by" ["search", "many"] (spPoint K (c 2)) := fd_def X G h14 (fun _ _ F => ok_point_by F gb cl d_fraction) fun _ _ _ _ _ _ us hl => by obtain ⟨z0_, z1_, rfl⟩ := lenK2 hl; rfl
  have d_meeting : Def l.prog w K mg base 4 "meeting" ["rows", "many"] (spMeet K) := fd_def X G h15 (fun _ _ F => ok_meeting F gb cl d_common_bottom d_column_for d_shares_by d_point_by d_Search_init d_Search_run d_Search_is_found) fun _ _ _ _ _ _ us hl => by obtain ⟨z0_, z1_, rfl⟩ := lenK2 hl; rfl
  have d_law_cell : Def l.prog w K mg base 1 "_law_cell" ["_law_script", "_law_k"] (spCell K) := fd_def X G h16 (fun _ _ F => ok_law_cell F gb cl) fun _ _ _ _ _ _ us hl => by obtain ⟨z0_, z1_, rfl⟩ := lenK2 hl; rfl
  have d_law_strewn : Def l.prog w K mg base 1 "_law_strewn" ["_law_cell_here", "_law_many"] (spStrewn 70) := fd_def X G h17 (fun _ _ F => ok_law_strewn F gb cl) fun _ _ _ _ _ _ us hl => by obtain ⟨z0_, z1_, rfl⟩ := lenK2 hl; rfl
  have d_law_share : Def l.prog w K mg base 1 "_law_share" ["_law_one", "_law_other"] spGcd := fd_def X G h18 (fun _ _ F => ok_law_share F gb cl) fun _ _ _ _ _ _ us hl => by obtain ⟨z0_, z1_, rfl⟩ := lenK2 hl; rfl
  have d_law_lowest : Def l.prog w K mg base 2 "_law_lowest" ["_law_top", "_law_bottom"] (spLow K) := fd_def X G h19 (fun _ _ F => ok_law_lowest F gb cl d_law_share) fun _ _ _ _ _ _ us hl => by obtain ⟨z0_, z1_, rfl⟩ := lenK2 hl; rfl
  have d_law_sum : Def l.prog w K mg base 3 "_law_sum" ["_law_one", "_law_other"] (spR K (fun r s => r + s)) := fd_def X G h20 (fun _ _ F => ok_law_sum F gb cl d_law_lowest) fun _ _ _ _ _ _ us hl => by obtain ⟨z0_, z1_, rfl⟩ := lenK2 hl; rfl
  have d_law_product : Def l.prog w K mg base 3 "_law_product" ["_law_one", "_law_other"] (spR K (fun r s => r * s)) := fd_def X G h21 (fun _ _ F => ok_law_product F gb cl d_law_lowest) fun _ _ _ _ _ _ us hl => by obtain ⟨z0_, z1_, rfl⟩ := lenK2 hl; rfl
  have d_law_is_number : Def l.prog w K mg base 1 "_law_is_number" ["_law_found"] spWhole := fd_def X G h22 (fun _ _ F => ok_law_is_number F gb cl) fun _ _ _ _ _ _ us hl => by obtain ⟨z0_, rfl⟩ := lenK1 hl; rfl
  have d_law_is_fraction : Def l.prog w K mg base 2 "_law_is_fraction" ["_law_found"] spIsFr := fd_def X G h23 (fun _ _ F => ok_law_is_fraction F gb cl d_law_is_number d_law_share) fun _ _ _ _ _ _ us hl => by obtain ⟨z0_, rfl⟩ := lenK1 hl; rfl
  have d_law_fractions : Def l.prog w K mg base 3 "_law_fractions" ["_law_found", "_law_many"] spFrs := fd_def X G h24 (fun _ _ F => ok_law_fractions F gb cl d_law_is_fraction) fun _ _ _ _ _ _ us hl => by obtain ⟨z0_, z1_, rfl⟩ := lenK2 hl; rfl
  have d_law_comes_to : Def l.prog w K mg base 4 "_law_comes_to" ["_law_row", "_law_point"] (spComes K) := fd_def X G h25 (fun _ _ F => ok_law_comes_to F gb cl d_law_sum d_law_product) fun _ _ _ _ _ _ us hl => by obtain ⟨z0_, z1_, rfl⟩ := lenK2 hl; rfl
  have d_law_met : Def l.prog w K mg base 5 "_law_met" ["_law_row", "_law_point"] (spMet K) := fd_def X G h26 (fun _ _ F => ok_law_met F gb cl d_law_comes_to) fun _ _ _ _ _ _ us hl => by obtain ⟨z0_, z1_, rfl⟩ := lenK2 hl; rfl
  have d_law_barred : Def l.prog w K mg base 4 "_law_barred" ["_law_rows_here", "_law_many", "_law_told"] (spBarred K) := fd_def X G h27 (fun _ _ F => ok_law_barred F gb cl d_law_fractions d_law_sum d_law_product) fun _ _ _ _ _ _ us hl => by obtain ⟨z0_, z1_, z2_, rfl⟩ := lenK3 hl; rfl
  have d_law_answer_right : Def l.prog w K mg base 6 "_law_answer_right" ["_law_found", "_law_rows_here", "_law_many"] (spRight K) := fd_def X G h28 (fun _ _ F => ok_law_answer_right F gb cl d_law_fractions d_law_met d_law_barred) fun _ _ _ _ _ _ us hl => by obtain ⟨z0_, z1_, z2_, rfl⟩ := lenK3 hl; rfl
  have d_law_small : Def l.prog w K mg base 3 "_law_small" ["_law_x"] (spSmall K) := fd_def X G h29 (fun _ _ F => ok_law_small F gb cl d_law_lowest) fun _ _ _ _ _ _ us hl => by obtain ⟨z0_, rfl⟩ := lenK1 hl; rfl
  have d_law_rows : Def l.prog w K mg base 5 "_law_rows" ["_law_xs"] (spRows K) := fd_def X G h30 (fun _ _ F => ok_law_rows F gb cl d_law_small) fun _ _ _ _ _ _ us hl => by obtain ⟨z0_, rfl⟩ := lenK1 hl; rfl
  have d_law_times : Def l.prog w K mg base 4 "_law_times" ["_law_row", "_law_by"] (spTimes K) := fd_def X G h31 (fun _ _ F => ok_law_times F gb cl d_law_product) fun _ _ _ _ _ _ us hl => by obtain ⟨z0_, z1_, rfl⟩ := lenK2 hl; rfl
  have d_law_moved : Def l.prog w K mg base 5 "_law_moved" ["_law_row", "_law_by"] (spMoved K) := fd_def X G h32 (fun _ _ F => ok_law_moved F gb cl d_law_comes_to) fun _ _ _ _ _ _ us hl => by obtain ⟨z0_, z1_, rfl⟩ := lenK2 hl; rfl
  have d_law_word : Def l.prog w K mg base 7 "_law_word" ["_law_rows_here", "_law_many"] (spWord K) := fd_def X G h33 (fun _ _ F => ok_law_word F gb cl d_meeting d_law_answer_right) fun _ _ _ _ _ _ us hl => by obtain ⟨z0_, z1_, rfl⟩ := lenK2 hl; rfl
  have d_law_right : Def l.prog w K mg base 8 "_law_right" ["_law_cell_here"] spRightC := fd_def X G h34 (fun _ _ F => ok_law_right F gb cl d_law_strewn d_law_rows d_law_word d_law_lowest d_law_times d_law_moved d_law_small) fun _ _ _ _ _ _ us hl => by obtain ⟨z0_, rfl⟩ := lenK1 hl; rfl
  exact ok_law (fun_mk (st := s_law) lL cL kL) gb cl d_law_cell d_law_right
theorem walk {l : PySem.W.OpenLaw} {q : Program} {loose : List Str} {XP : (Str → Option Value) → Heap → Prop} {YP : World → Heap → Prop} {d : DefRec} {K : Params → PySem.W.Frag} (hn : l.most = some 63) (hdf : d.params.defaults = [])
    (hY : ∀ (w : World) (h : Heap), YP w h → (K w.params).In h)
    (F : ∀ (w : World) (mg : Str → Option Value) (fa : Addr) (h : Heap), (K w.params).In h → h.Ns mainGlobals mg → mg d.name = some (.ref fa) →
      ∃ fd : FuncData, (∀ (s : Shared) (u : Value), BindsTo s fd ⟨[u], []⟩ [("_law_script", u)]) ∧ ∀ base : Heap, (K w.params).In base → base.Ns mainGlobals mg → FnOk l.prog w (K w.params) mg base CX0 9 fa fd ["_law_script"] (spLaw (K w.params))) :
    PySem.W.WalkO q loose XP YP l.row.toRowW d [] (fun f vs => PySem.call f vs) :=
  L2.walk_of (n := 63) (k := 9) (x := "_law_script") (CX := fun _ => CX0) (sp := fun w => spLaw (K w.params)) hn (by decide) hdf ⟨rfl, by decide, by decide⟩ hY F (fun _ _ a ns hl _ hS => ⟨a, ns, rfl, hS, hl, fun _ => rfl⟩) fun _ _ _ _ _ z => z
end K51
open PySem PySem.W PyProof.Rows
set_option maxRecDepth 100000 in
set_option maxHeartbeats 0 in
theorem PySem.Challenge.cw_truthgrades_k51_whole_rows_turned_holds : PySem.Challenge.rw_truthgrades_k51_whole_rows_turned.Holds := by
  w_on; o_law; k_head; (case hw => w_witness2)
  k_fill
  refine K51.walk (l := PySem.Challenge.rw_truthgrades_k51_whole_rows_turned) rfl rfl (fun w h Y => PySem.W.kIn_of Y) ?F
  case F =>
    intro w mg fa h KX G hmg
    refine' K51.all_mk KX G hmg (K51.fd_mk ?a0 ?l0 ?c0 ?k0) (K51.fd_mk ?a1 ?l1 ?c1 ?k1) (K51.fd_mk ?a2 ?l2 ?c2 ?k2) (K51.fd_mk ?a3 ?l3 ?c3 ?k3) (K51.fdm_mk ?a4 ?l4 ?c4 ?k4 ?t4) (K51.fdm_mk ?a5 ?l5 ?c5 ?k5 ?t5) (K51.fdm_mk ?a6 ?l6 ?c6 ?k6 ?t6) (K51.fdm_mk ?a7 ?l7 ?c7 ?k7 ?t7) (K51.fdm_mk ?a8 ?l8 ?c8 ?k8 ?t8) (K51.fdm_mk ?a9 ?l9 ?c9 ?k9 ?t9) (K51.fdm_mk ?a10 ?l10 ?c10 ?k10 ?t10) (K51.fd_mk ?a11 ?l11 ?c11 ?k11) (K51.fd_mk ?a12 ?l12 ?c12 ?k12) (K51.fd_mk ?a13 ?l13 ?c13 ?k13) (K51.fd_mk ?a14 ?l14 ?c14 ?k14) (K51.fd_mk ?a15 ?l15 ?c15 ?k15) (K51.fd_mk ?a16 ?l16 ?c16 ?k16) (K51.fd_mk ?a17 ?l17 ?c17 ?k17) (K51.fd_mk ?a18 ?l18 ?c18 ?k18) (K51.fd_mk ?a19 ?l19 ?c19 ?k19) (K51.fd_mk ?a20 ?l20 ?c20 ?k20) (K51.fd_mk ?a21 ?l21 ?c21 ?k21) (K51.fd_mk ?a22 ?l22 ?c22 ?k22) (K51.fd_mk ?a23 ?l23 ?c23 ?k23) (K51.fd_mk ?a24 ?l24 ?c24 ?k24) (K51.fd_mk ?a25 ?l25 ?c25 ?k25) (K51.fd_mk ?a26 ?l26 ?c26 ?k26) (K51.fd_mk ?a27 ?l27 ?c27 ?k27) (K51.fd_mk ?a28 ?l28 ?c28 ?k28) (K51.fd_mk ?a29 ?l29 ?c29 ?k29) (K51.fd_mk ?a30 ?l30 ?c30 ?k30) (K51.fd_mk ?a31 ?l31 ?c31 ?k31) (K51.fd_mk ?a32 ?l32 ?c32 ?k32) (K51.fd_mk ?a33 ?l33 ?c33 ?k33) (K51.fd_mk ?a34 ?l34 ?c34 ?k34) ?a35 ?l35 ?c35 ?k35 ?z0 ?z1 ?z2 ?z3 ?z4 ?z5 ?z6 ?z7 ?z8 ?z9 ?z10 ?z11 ?z12 ?gg0 ?gg1 ?gg2 ?ww0 ?ww1 ?ww2 ?ww3 ?ww4 ?ww5 ?ww6 ?ww7 ?ww8 ?ww9 ?ww10 ?ww11
    (case a0 => k_is); (case l0 => k_is); (case c0 => k_is); (case k0 => k_is)
    (case a1 => k_is); (case l1 => k_is); (case c1 => k_is); (case k1 => k_is)
    (case a2 => k_is); (case l2 => k_is); (case c2 => k_is); (case k2 => k_is)
    (case a3 => k_is); (case l3 => k_is); (case c3 => k_is); (case k3 => k_is)
    (case a11 => k_is); (case l11 => k_is); (case c11 => k_is); (case k11 => k_is)
    (case a12 => k_is); (case l12 => k_is); (case c12 => k_is); (case k12 => k_is)
    (case a13 => k_is); (case l13 => k_is); (case c13 => k_is); (case k13 => k_is)
    (case a14 => k_is); (case l14 => k_is); (case c14 => k_is); (case k14 => k_is)
    (case a15 => k_is); (case l15 => k_is); (case c15 => k_is); (case k15 => k_is)
    (case a16 => k_is); (case l16 => k_is); (case c16 => k_is); (case k16 => k_is)
    (case a17 => k_is); (case l17 => k_is); (case c17 => k_is); (case k17 => k_is)
    (case a18 => k_is); (case l18 => k_is); (case c18 => k_is); (case k18 => k_is)
    (case a19 => k_is); (case l19 => k_is); (case c19 => k_is); (case k19 => k_is)
    (case a20 => k_is); (case l20 => k_is); (case c20 => k_is); (case k20 => k_is)
    (case a21 => k_is); (case l21 => k_is); (case c21 => k_is); (case k21 => k_is)
    (case a22 => k_is); (case l22 => k_is); (case c22 => k_is); (case k22 => k_is)
    (case a23 => k_is); (case l23 => k_is); (case c23 => k_is); (case k23 => k_is)
    (case a24 => k_is); (case l24 => k_is); (case c24 => k_is); (case k24 => k_is)
    (case a25 => k_is); (case l25 => k_is); (case c25 => k_is); (case k25 => k_is)
    (case a26 => k_is); (case l26 => k_is); (case c26 => k_is); (case k26 => k_is)
    (case a27 => k_is); (case l27 => k_is); (case c27 => k_is); (case k27 => k_is)
    (case a28 => k_is); (case l28 => k_is); (case c28 => k_is); (case k28 => k_is)
    (case a29 => k_is); (case l29 => k_is); (case c29 => k_is); (case k29 => k_is)
    (case a30 => k_is); (case l30 => k_is); (case c30 => k_is); (case k30 => k_is)
    (case a31 => k_is); (case l31 => k_is); (case c31 => k_is); (case k31 => k_is)
    (case a32 => k_is); (case l32 => k_is); (case c32 => k_is); (case k32 => k_is)
    (case a33 => k_is); (case l33 => k_is); (case c33 => k_is); (case k33 => k_is)
    (case a34 => k_is); (case l34 => k_is); (case c34 => k_is); (case k34 => k_is)
    (case a35 => k_is); (case l35 => k_is); (case c35 => k_is); (case k35 => k_is)
    (case z0 => k_is)
    (case z1 => k_is)
    (case z2 => k_is)
    (case z3 => k_is)
    (case z4 => k_is)
    (case z5 => k_is)
    (case z6 => k_is)
    (case z7 => k_is)
    (case z8 => k_is)
    (case z9 => k_is)
    (case z10 => k_is)
    (case z11 => k_is)
    (case z12 => k_is)
    (case gg0 => k_is)
    (case gg1 => k_is)
    (case gg2 => k_is)
    (case a4 => k_is); (case l4 => k_is); (case c4 => k_is); (case k4 => k_is); (case t4 => first | k_is | kernel_rfl)
    (case a5 => k_is); (case l5 => k_is); (case c5 => k_is); (case k5 => k_is); (case t5 => first | k_is | kernel_rfl)
    (case a6 => k_is); (case l6 => k_is); (case c6 => k_is); (case k6 => k_is); (case t6 => first | k_is | kernel_rfl)
    (case a7 => k_is); (case l7 => k_is); (case c7 => k_is); (case k7 => k_is); (case t7 => first | k_is | kernel_rfl)
    (case a8 => k_is); (case l8 => k_is); (case c8 => k_is); (case k8 => k_is); (case t8 => first | k_is | kernel_rfl)
    (case a9 => k_is); (case l9 => k_is); (case c9 => k_is); (case k9 => k_is); (case t9 => first | k_is | kernel_rfl)
    (case a10 => k_is); (case l10 => k_is); (case c10 => k_is); (case k10 => k_is); (case t10 => first | k_is | kernel_rfl)
    (case ww0 => first | k_is | kit_is | kernel_rfl)
    (case ww1 => first | k_is | kit_is | kernel_rfl)
    (case ww2 => first | k_is | kit_is | kernel_rfl)
    (case ww3 => first | k_is | kit_is | kernel_rfl)
    (case ww4 => first | k_is | kit_is | kernel_rfl)
    (case ww5 => first | k_is | kit_is | kernel_rfl)
    (case ww6 => first | k_is | kit_is | kernel_rfl)
    (case ww7 => first | k_is | kit_is | kernel_rfl)
    (case ww8 => first | k_is | kit_is | kernel_rfl)
    (case ww9 => first | k_is | kit_is | kernel_rfl)
    (case ww10 => first | k_is | kit_is | kernel_rfl)
    (case ww11 => first | k_is | kit_is | kernel_rfl)
