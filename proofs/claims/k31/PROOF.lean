import PyProof.Rows.All
import Wide.All
import OpenK.AllK
import Wide.FinOn
import Lean
import PyProof.EqAt
import PyProof.EqKinds
import PyProof.TupleCall
import PySem.Challenge.RW_truthgrades_k31_steps_that_part
set_option Elab.async false
set_option linter.all false
set_option maxRecDepth 100000
/-! THE HAND LAYER, for ints, bools, texts, own classes, LISTS and tuples (index, slices, in, append, pop ..), calls, loops. Paste it whole ahead of your own text; what your proof does not reach may be deleted. -/
namespace L2
open PySem PySem.Spec PyProof.Rows

/-- a key: an int or a str -/
abbrev Key := Sum Int Str
def keyIs : Key → Value → Bool
  | .inl k, v => Value.isInt k v
  | .inr x, v => Value.isStrOf x v
def keyH (w : World) : Key → Int
  | .inl k => hashInt k
  | .inr x => hashStr w x
theorem keyIs_shape : ∀ {k : Key} {v : Value}, keyIs k v = true → (∃ i t, k = Sum.inl i ∧ v = Value.int i t) ∨ (∃ x t, k = Sum.inr x ∧ v = Value.str x t)
  | .inl i, v, h => by
    obtain ⟨t, e⟩ := Value.isInt_shape (k := i) (v := v) h
    exact .inl ⟨i, t, rfl, e⟩
  | .inr x, v, h => by
    obtain ⟨t, e⟩ := Value.isStrOf_shape (x := x) (v := v) h
    exact .inr ⟨x, t, rfl, e⟩
theorem keyIs_int (i : Int) (t : Tok) : keyIs (.inl i) (.int i t) = true := by simp [keyIs, Value.isInt]
theorem keyIs_str (x : Str) (t : Tok) : keyIs (.inr x) (.str x t) = true := by simp [keyIs, Value.isStrOf]
theorem key_ll (a b : Int) : decide ((Sum.inl a : Key) = Sum.inl b) = (a == b) := by
  by_cases e : a = b
  · subst e; simp
  · have h : ¬ (Sum.inl a : Key) = Sum.inl b := fun q => e (Sum.inl.inj q)
    rw [decide_eq_false h]
    exact (beq_eq_false_iff_ne.mpr e).symm
theorem key_rr (a b : Str) : decide ((Sum.inr a : Key) = Sum.inr b) = decide (a = b) := by
  by_cases e : a = b
  · subst e; simp
  · have h : ¬ (Sum.inr a : Key) = Sum.inr b := fun q => e (Sum.inr.inj q)
    rw [decide_eq_false h, decide_eq_false e]
theorem key_lr (a : Int) (b : Str) : decide ((Sum.inl a : Key) = Sum.inr b) = false := decide_eq_false (fun q => nomatch q)
theorem key_rl (a : Str) (b : Int) : decide ((Sum.inr a : Key) = Sum.inl b) = false := decide_eq_false (fun q => nomatch q)

def mixKind (prog : Program) (w : World) : PySem.KeyKind prog w Key where
  is := keyIs
  hash := keyH w
  inj := fun v a b ha hb => by
    rcases keyIs_shape ha with ⟨i, t, rfl, rfl⟩ | ⟨x, t, rfl, rfl⟩
    · rcases keyIs_shape hb with ⟨j, u, rfl, e⟩ | ⟨y, u, rfl, e⟩
      · injection e with e1 _; rw [e1]
      · exact nomatch e
    · rcases keyIs_shape hb with ⟨j, u, rfl, e⟩ | ⟨y, u, rfl, e⟩
      · exact nomatch e
      · injection e with e1 _; rw [e1]
  byValue := fun k v h => by
    rcases keyIs_shape h with ⟨i, t, rfl, rfl⟩ | ⟨x, t, rfl, rfl⟩ <;> rfl
  pyHash := fun hv h => by
    rcases keyIs_shape hv with ⟨i, t, rfl, rfl⟩ | ⟨x, t, rfl, rfl⟩
    · exact wpAny_pyHash_int h
    · exact wpAny_pyHash_str h
  eqBool := fun hu hv h => by
    rcases keyIs_shape hu with ⟨i, t, rfl, rfl⟩ | ⟨x, t, rfl, rfl⟩
    · rcases keyIs_shape hv with ⟨j, u, rfl, rfl⟩ | ⟨y, u, rfl, rfl⟩
      · rw [key_ll] at h; exact wpAny_eqBool_int h
      · rw [key_lr] at h; exact SeqAt.EqAt.int_str i t y u _ _ _ _ h
    · rcases keyIs_shape hv with ⟨j, u, rfl, rfl⟩ | ⟨y, u, rfl, rfl⟩
      · rw [key_rl] at h; exact SeqAt.EqAt.str_int x t j u _ _ _ _ h
      · rw [key_rr] at h; exact wpAny_eqBool_str h
  «strs» := fun k x t v h => by
    rcases keyIs_shape h with ⟨i, u, rfl, e⟩ | ⟨y, u, rfl, e⟩
    · exact nomatch e
    · injection e with e1 _
      subst e1
      cases v <;> rfl

theorem mixKind_int (prog : Program) (w : World) (i : Int) (t : Tok) : (mixKind prog w).is (.inl i) (.int i t) = true := keyIs_int i t
theorem mixKind_str (prog : Program) (w : World) (x : Str) (t : Tok) : (mixKind prog w).is (.inr x) (.str x t) = true := keyIs_str x t
end L2

namespace L2
open PySem PySem.Spec PyProof.Rows

/-- a value, without the heap -/
inductive V where
  | non | bl (b : Bool) | int (i : Int) | str (x : Str) | byt (b : Array UInt8) | flt (b : UInt64) | ref (a : Addr) | ty (n : String)
  deriving DecidableEq

def RelV : V → Value → Prop
  | .non, u => u = Value.none
  | .bl b, u => u = Value.bool b
  | .int i, u => ∃ t, u = Value.int i t
  | .str x, u => ∃ t, u = Value.str x t
  | .byt b, u => ∃ t, u = Value.bytes b t
  | .flt b, u => ∃ t, u = Value.float b t
  | .ref a, u => u = Value.ref a
  | .ty n, u => u = Value.type n

abbrev Vals : List V → List Value → Prop := Paired RelV
theorem Vals.length {xs : List V} {us : List Value} (r : Vals xs us) : xs.length = us.length := Paired.length r
theorem Vals.get : ∀ {xs : List V} {us : List Value} {i : Nat} {x : V}, Vals xs us → xs[i]? = some x → ∃ u, us[i]? = some u ∧ RelV x u
  | _, _, _, _, .nil, e => by simp at e
  | _, _, 0, _, .cons r _, e => by simp at e; subst e; exact ⟨_, rfl, r⟩
  | _, _, i + 1, x, .cons _ t, e => by
    obtain ⟨u, h1, h2⟩ := Vals.get (i := i) (x := x) t (by simpa using e)
    exact ⟨u, by simpa using h1, h2⟩
theorem Vals.set {x : V} {u : Value} (r : RelV x u) : ∀ {xs : List V} {us : List Value} (i : Nat), Vals xs us → Vals (xs.set i x) (us.set i u)
  | _, _, _, .nil => .nil
  | _, _, 0, .cons _ t => .cons r t
  | _, _, i + 1, .cons q t => .cons q (Vals.set r i t)
theorem Vals.append : ∀ {xs ys : List V} {us ws : List Value}, Vals xs us → Vals ys ws → Vals (xs ++ ys) (us ++ ws)
  | _, _, _, _, .nil, s => s
  | _, _, _, _, .cons r t, s => .cons r (Vals.append t s)
theorem Vals.take : ∀ {xs : List V} {us : List Value} (n : Nat), Vals xs us → Vals (xs.take n) (us.take n)
  | _, _, 0, _ => .nil
  | _, _, _ + 1, .nil => .nil
  | _, _, n + 1, .cons r t => .cons r (Vals.take n t)
theorem Vals.drop : ∀ {xs : List V} {us : List Value} (n : Nat), Vals xs us → Vals (xs.drop n) (us.drop n)
  | _, _, 0, r => r
  | _, _, _ + 1, .nil => .nil
  | _, _, n + 1, .cons _ t => Vals.drop n t
def RelO : Option V → Option Value → Prop
  | some v, some u => RelV v u
  | none, none => True
  | _, _ => False
def KV {κ : Type} : List (κ × V) → List (κ × Value) → Prop := Paired fun (p : κ × V) (q : κ × Value) => p.1 = q.1 ∧ RelV p.2 q.2

/-- a key of a dict (00_mix): an int or a text -/
def kV : Key → V
  | .inl i => .int i
  | .inr x => .str x

/-- a plain tuple: no dict of its own -/
def PTup (h : Heap) (a : Addr) (items : Array Value) : Prop := ∃ o, h.get? a = some o ∧ o.cls = .type "tuple" ∧ (∃ n, o.data = .seq items n) ∧ o.dict = none
theorem PTup.lt {h : Heap} {a : Addr} {items : Array Value} (x : PTup h a items) : a < h.objs.size := let ⟨_, e, _⟩ := x; Heap.lt_size e
theorem PTup.isTup {h : Heap} {a : Addr} {items : Array Value} (x : PTup h a items) : IsTup h a items := let ⟨o, e, c, n, _⟩ := x; ⟨o, e, c, n⟩
theorem PTup.new (h : Heap) (items : Array Value) : PTup (h.push { cls := .type "tuple", data := .seq items }) h.objs.size items := ⟨_, Heap.get?_push_size _ rfl, rfl, ⟨_, rfl⟩, rfl⟩
/-- what stands at a tracked address -/
inductive HO where
  /-- a list -/
  | lst (xs : List V)
  /-- a tuple (never changes) -/
  | tup (xs : List V)
  /-- a dict whose keys are ints and texts; one whose keys are tuples of ints and texts (the empty one is both) -/
  | dK (kvs : List (Key × V)) | dT (kvs : List (List Key × V))
  /-- a set of ints: its members, its size -/
  | set (S : Int → Bool) (n : Nat)
  /-- an instance of the class at C, its dict at dx, its attributes -/
  | ins (C dx : Addr) (fs : List (Str × V))
  /-- the dict of the instance at x -/
  | own (x : Addr)
  /-- the dict of an exception -/
  | xd (fs : List (Str × V))
  /-- a bound method, f of x -/
  | met (f x : Addr)
  /-- a range object lo, lo + 1, .. below hi -/
  | rng (lo hi : Int)
  /-- a thing that is known to the object (the script; a dict while a loop walks it): read, never written while it is so -/
  | frz (o : Obj) (u : HO)
  /-- a code object's table -/
  | tbl (ps : Array Value)
  /-- any other thing, by what is true of its one object (a def of one's own: SetO a S n := HO.ext fun h => ..) -/
  | ext (φ : Heap → Prop)

abbrev Hp := Addr → Option HO
def upd (H : Hp) (a : Addr) (o : HO) : Hp := fun b => if b = a then some o else H b
theorem upd_same {H : Hp} {a : Addr} {o : HO} : upd H a o a = some o := by unfold upd; rw [if_pos rfl]
theorem upd_ne {H : Hp} {a b : Addr} {o : HO} (h : b ≠ a) : upd H a o b = H b := by unfold upd; rw [if_neg h]
/-- two objects of different content stand apart -/
theorem ne_of {H : Hp} {a b : Addr} {o u : HO} (h : H a = some o) (h' : H b = some u) (d : o ≠ u) : a ≠ b := by
  intro e; subst e; rw [h] at h'; exact d (Option.some.inj h')
theorem ne_of_none {H : Hp} {a b : Addr} {o : HO} (h : H a = some o) (h' : H b = none) : a ≠ b := by
  intro e; subst e; rw [h] at h'; cases h'

section
variable (P : Program) (w : World)
def ObjOk (H : Hp) (h : Heap) (a : Addr) : HO → Prop
  | .lst xs => xs.length ≤ sizeLine ∧ ∃ (its : List Value) (n : Nat), Vals xs its ∧ h.get? a = some { cls := .type "list", data := .seq its.toArray n }
  | .tup xs => xs.length ≤ sizeLine ∧ ∃ its : List Value, Vals xs its ∧ PTup h a its.toArray
  | .dK kvs => kvs.length ≤ sizeLine ∧ (a == sysModules) = false ∧ ∃ vs, KV kvs vs ∧ h.DictOf (mixKind P w) a vs
  | .dT kvs => kvs.length ≤ sizeLine ∧ (a == sysModules) = false ∧ ∃ xs : List (List Key × Addr × Value),
      Paired (fun (p : List Key × V) (q : List Key × Addr × Value) => p.1 = q.1 ∧ H q.2.1 = some (.tup (p.1.map kV)) ∧ RelV p.2 q.2.2) kvs xs ∧
      ∃ o es ep, h.get? a = some o ∧ o.ExactDict ∧ o.data = .dict es ep ∧ es.toList = xs.map (entryOfKey (tupleKind (mixKind P w))) ∧ (xs.map (·.1)).Nodup
  | .set S n => h.SetOf (intKind P w) a S n
  | .ins C dx fs => H dx = some (.own a) ∧ fs.length ≤ 1000 ∧ dx ≠ a ∧ h.get? a = some (PySem.W.instObj C dx) ∧
      ∃ mA, h.Ns1 dx mA ∧ (∀ f, RelO (fs.lookup f) (mA f)) ∧ PySem.Within mA (fs.map (·.1))
  | .own _ => ∃ o, h.get? a = some o
  | .xd fs => ∃ mA, h.Ns1 a mA ∧ ∀ f, RelO (fs.lookup f) (mA f)
  | .rng lo hi => ∃ t u v, h.get? a = some { cls := .type "range", data := .fields #[.int lo t, .int hi u, .int 1 v] }
  | .frz o u => h.get? a = some o ∧ ObjOk H h a u
  | .tbl ps => h.get? a = some { cls := .none, data := .fields ps }
  | .met f x => h.get? a = some (PySem.W.methodObj (.ref f) (.ref x))
  | .ext φ => φ h ∧ (∃ o, h.get? a = some o) ∧ ∀ h1 h2 : Heap, φ h1 → (∀ o, h1.get? a = some o → h2.get? a = some o) → φ h2
/-- the abstract heap is held -/
def HOk (H : Hp) (h : Heap) : Prop := ∀ a o, H a = some o → ObjOk P w H h a o
end

section
variable {P : Program} {w : World} {H H' : Hp} {h h' : Heap} {a : Addr} {o : HO}
theorem ObjOk.lt (x : ObjOk P w H h a o) : a < h.objs.size := by
  cases o with
  | lst xs => obtain ⟨_, _, _, _, e⟩ := x; exact Heap.lt_size e
  | tup xs => obtain ⟨_, _, _, p⟩ := x; exact p.lt
  | dK kvs => obtain ⟨_, _, _, _, o, _, _, e, _⟩ := x; exact Heap.lt_size e
  | dT kvs => obtain ⟨_, _, _, _, o, _, _, e, _⟩ := x; exact Heap.lt_size e
  | set S n => obtain ⟨o, _, _, _, e, _⟩ := x; exact Heap.lt_size e
  | ins C dx fs => obtain ⟨_, _, _, e, _⟩ := x; exact Heap.lt_size e
  | own y => obtain ⟨_, e⟩ := x; exact Heap.lt_size e
  | xd fs => obtain ⟨_, ⟨_, _, _, e, _⟩, _⟩ := x; exact Heap.lt_size e
  | rng lo hi => obtain ⟨_, _, _, e⟩ := x; exact Heap.lt_size e
  | frz ob u => obtain ⟨e, _⟩ := x; exact Heap.lt_size e
  | tbl ps => exact Heap.lt_size (show h.get? a = some _ from x)
  | met f y => exact Heap.lt_size (show h.get? a = some _ from x)
  | ext φ => obtain ⟨_, ⟨_, e⟩, _⟩ := x; exact Heap.lt_size e
theorem Paired.mapP {α β : Type} {F G : α → β → Prop} : ∀ {l₁ : List α} {l₂ : List β}, Paired F l₁ l₂ → (∀ a b, F a b → G a b) → Paired G l₁ l₂
  | _, _, .nil, _ => .nil
  | _, _, .cons r t, f => .cons (f _ _ r) (Paired.mapP t f)
theorem Paired.imp' {α β : Type} {F G : α → β → Prop} (f : ∀ a b, F a b → G a b) {l₁ : List α} {l₂ : List β} (r : Paired F l₁ l₂) : Paired G l₁ l₂ := Paired.mapP r f
/-- what an object's description leans on: its own object, its own dict, the tuples -/
theorem ObjOk.stay (x : ObjOk P w H h a o) (k : ∀ b u, (b = a ∨ H b = some (.own a)) → h.get? b = some u → h'.get? b = some u)
    (ho : ∀ b, H b = some (.own a) → H' b = some (.own a)) (ht : ∀ b xs, H b = some (.tup xs) → H' b = some (.tup xs)) : ObjOk P w H' h' a o := by
  induction o with
  | lst xs => obtain ⟨z, its, n, r, e⟩ := x; exact ⟨z, its, n, r, k _ _ (.inl rfl) e⟩
  | tup xs => obtain ⟨z, its, r, ob, e, c⟩ := x; exact ⟨z, its, r, ob, k _ _ (.inl rfl) e, c⟩
  | dK kvs => obtain ⟨z, y, vs, r, ob, es, ep, e, c⟩ := x; exact ⟨z, y, vs, r, ob, es, ep, k _ _ (.inl rfl) e, c⟩
  | dT kvs =>
    obtain ⟨z, y, xs, r, ob, es, ep, e, c⟩ := x
    exact ⟨z, y, xs, Paired.mapP r fun p q z => ⟨z.1, ht _ _ z.2.1, z.2.2⟩, ob, es, ep, k _ _ (.inl rfl) e, c⟩
  | set S n => obtain ⟨ob, es, ep, t, e, c⟩ := x; exact ⟨ob, es, ep, t, k _ _ (.inl rfl) e, c⟩
  | ins C dx fs =>
    obtain ⟨d, z, ne, e, mA, ⟨od, es, ep, e2, c⟩, r⟩ := x
    exact ⟨ho _ d, z, ne, k _ _ (.inl rfl) e, mA, ⟨od, es, ep, k _ _ (.inr d) e2, c⟩, r⟩
  | own y => obtain ⟨ob, e⟩ := x; exact ⟨ob, k _ _ (.inl rfl) e⟩
  | xd fs => obtain ⟨mA, ⟨od, es, ep, e, c⟩, r⟩ := x; exact ⟨mA, ⟨od, es, ep, k _ _ (.inl rfl) e, c⟩, r⟩
  | rng lo hi => obtain ⟨t, u, v, e⟩ := x; exact ⟨t, u, v, k _ _ (.inl rfl) e⟩
  | frz ob u ih => obtain ⟨e, q⟩ := x; exact ⟨k _ _ (.inl rfl) e, ih q⟩
  | tbl ps =>
    have e : h.get? a = some { cls := .none, data := .fields ps } := x
    show h'.get? a = some { cls := .none, data := .fields ps }
    exact k a _ (.inl rfl) e
  | met f y =>
    have e : h.get? a = some (PySem.W.methodObj (.ref f) (.ref y)) := x
    show h'.get? a = some (PySem.W.methodObj (.ref f) (.ref y))
    exact k a _ (.inl rfl) e
  | ext φ => obtain ⟨p, ⟨o, e⟩, st⟩ := x; exact ⟨st _ _ p fun o q => k _ _ (.inl rfl) q, ⟨o, k _ _ (.inl rfl) e⟩, st⟩
theorem HOk.lt (x : HOk P w H h) (e : H a = some o) : a < h.objs.size := (x a o e).lt
theorem HOk.fresh (x : HOk P w H h) (e : h.objs.size ≤ a) : H a = none := by
  cases q : H a with
  | none => rfl
  | some u => exact absurd (Nat.lt_of_lt_of_le (x.lt q) e) (Nat.lt_irrefl _)
/-- every object of the heap is kept -/
theorem HOk.kept (x : HOk P w H h) (k : ∀ b u, h.get? b = some u → h'.get? b = some u) : HOk P w H h' := fun a o e =>
  (x a o e).stay (fun b u _ q => k b u q) (fun _ q => q) fun _ _ q => q
/-- a new object is laid and tracked -/
theorem HOk.laid (x : HOk P w H h) (k : ∀ b u, h.get? b = some u → h'.get? b = some u) (hp : h.objs.size ≤ a) (new : ObjOk P w (upd H a o) h' a o) : HOk P w (upd H a o) h' := fun b u e => by
  have hn := x.fresh hp
  by_cases hb : b = a
  · subst hb; rw [upd_same] at e; cases e; exact new
  · rw [upd_ne hb] at e
    exact (x b u e).stay (fun c v _ q => k c v q) (fun c q => by rw [upd_ne (ne_of_none q hn)]; exact q) fun c xs q => by rw [upd_ne (ne_of_none q hn)]; exact q
end

/-- what may be read as u: it is u, or a known u -/
def Rd (H : Hp) (a : Addr) (u : HO) : Prop := H a = some u ∨ ∃ o, H a = some (.frz o u)
theorem Rd.ok {P : Program} {w : World} {H : Hp} {h : Heap} {a : Addr} {u : HO} (r : Rd H a u) (x : HOk P w H h) : ObjOk P w H h a u := by
  rcases r with r | ⟨o, r⟩
  · exact x a u r
  · obtain ⟨_, q⟩ := x a _ r
    exact q
/-- what may be written -/
def Mut : Option HO → Prop
  | some (.lst _) => True
  | some (.dK _) => True
  | some (.dT _) => True
  | some (.set _ _) => True
  | some (.ins _ _ _) => True
  | some (.ext _) => True
  | _ => False
section
variable {P : Program} {w : World} {H : Hp} {h h' : Heap} {x e : Addr} {o' : HO}
/-- the object at e is changed: x itself, or the dict of the instance x -/
theorem HOk.write (ok : HOk P w H h) (mu : Mut (H x)) (he : e = x ∨ H e = some (.own x)) (k : ∀ b u, b ≠ e → h.get? b = some u → h'.get? b = some u) (heo : ∃ u, h'.get? e = some u)
    (new : ObjOk P w (upd H x o') h' x o') : HOk P w (upd H x o') h' := fun b u q => by
  have nown : ∀ c y, H c = some (.own y) → c ≠ x := fun c y r z => by subst z; rw [r] at mu; exact mu
  have ntup : ∀ c xs, H c = some (.tup xs) → c ≠ x := fun c xs r z => by subst z; rw [r] at mu; exact mu
  by_cases hb : b = x
  · subst hb; rw [upd_same] at q; cases q; exact new
  · rw [upd_ne hb] at q
    by_cases hbe : b = e
    · have q' : H b = some (.own x) := by
        rcases he with z | z
        · exact absurd (hbe.trans z) hb
        · rw [hbe]; exact z
      rw [q] at q'; cases q'
      obtain ⟨v, hv⟩ := heo
      exact ⟨v, by rw [hbe]; exact hv⟩
    · refine (ok b u q).stay (fun c v hc r => k c v ?_ r) (fun c r => by rw [upd_ne (nown c b r)]; exact r) fun c xs r => by rw [upd_ne (ntup c xs r)]; exact r
      rcases hc with rfl | hc
      · exact hbe
      · rintro rfl
        rcases he with z | z
        · exact nown c b hc z
        · rw [hc] at z; cases z; exact hb rfl
end

/-! ### kept unless tracked; of the frames at fs (the callers') the slots may change (an exception that passes writes there); of the records at ex (iterators) nothing is said -/
structure Un (fs ex : List Addr) (H H' : Hp) (h h' : Heap) : Prop where
  keep : ∀ b o, h.get? b = some o → H b = none → b ∉ fs → b ∉ ex → h'.get? b = some o
  slot : ∀ b o, h.get? b = some o → H b = none → b ∈ fs → b ∉ ex → ∃ sl, h'.get? b = some { o with slots := sl }
  free : ∀ b o, h.get? b = some o → H b = none → b ∉ ex → H' b = none
  there : ∀ b o, h.get? b = some o → b ∉ ex → ∃ o', h'.get? b = some o'
  tups : ∀ b xs, H b = some (.tup xs) → H' b = some (.tup xs)
  frzs : ∀ b o u, H b = some (.frz o u) → H' b = some (.frz o u)
  tbls : ∀ b ps, H b = some (.tbl ps) → ∃ more, H' b = some (.tbl (ps ++ more))
section
variable {fs fs' ex ex' : List Addr} {H H1 H2 : Hp} {h h1 h2 h' : Heap} {a x e : Addr} {o : HO}
theorem Un.any (u : Un fs ex H H1 h h1) {b : Addr} {ob : Obj} (q : h.get? b = some ob) (n : H b = none) (hx : b ∉ ex) : ∃ sl, h1.get? b = some { ob with slots := sl } := by
  by_cases hb : b ∈ fs
  · exact u.slot b ob q n hb hx
  · exact ⟨ob.slots, u.keep b ob q n hb hx⟩
theorem Un.kept (k : ∀ b u, h.get? b = some u → h'.get? b = some u) : Un fs ex H H h h' :=
  ⟨fun b ob q _ _ _ => k b ob q, fun b ob q _ _ _ => ⟨ob.slots, k b ob q⟩, fun _ _ _ n _ => n, fun b ob q _ => ⟨ob, k b ob q⟩, fun _ _ q => q, fun _ _ _ q => q, fun _ ps q => ⟨#[], by rw [q]; simp⟩⟩
theorem Un.refl : Un fs ex H H h h := Un.kept fun _ _ q => q
theorem Un.laid (k : ∀ b u, h.get? b = some u → h'.get? b = some u) (hp : h.objs.size ≤ a) (hn : H a = none) : Un fs ex H (upd H a o) h h' where
  keep := fun b u q _ _ _ => k b u q
  slot := fun b u q _ _ _ => ⟨u.slots, k b u q⟩
  free := fun b u q n _ => by rw [upd_ne (Nat.ne_of_lt (Nat.lt_of_lt_of_le (Heap.lt_size q) hp))]; exact n
  there := fun b u q _ => ⟨u, k b u q⟩
  tups := fun b xs q => by rw [upd_ne (ne_of_none q hn)]; exact q
  frzs := fun b u xs q => by rw [upd_ne (ne_of_none q hn)]; exact q
  tbls := fun b ps q => ⟨#[], by rw [upd_ne (ne_of_none q hn), q]; simp⟩
theorem Un.write (mu : Mut (H x)) (he : e = x ∨ H e = some (.own x)) (k : ∀ b u, b ≠ e → h.get? b = some u → h'.get? b = some u) (heo : ∃ u, h'.get? e = some u) : Un fs ex H (upd H x o) h h' := by
  have hx : ∀ b, H b = none → b ≠ x := fun b n z => by subst z; rw [n] at mu; exact mu
  have hb : ∀ b, H b = none → b ≠ e := fun b n z => by
    subst z
    rcases he with r | r
    · exact hx b n r
    · rw [n] at r; cases r
  have hm : ∀ b u, H b = some u → ¬ Mut (some u) → b ≠ x := fun b u q nm z => by subst z; rw [q] at mu; exact nm mu
  refine ⟨fun b u q n _ _ => k b u (hb b n) q, fun b u q n _ _ => ⟨u.slots, k b u (hb b n) q⟩, fun b u q n _ => by rw [upd_ne (hx b n)]; exact n, fun b u q _ => ?_,
    fun b xs q => by rw [upd_ne (hm b _ q fun z => z)]; exact q, fun b u xs q => by rw [upd_ne (hm b _ q fun z => z)]; exact q, fun b ps q => ⟨#[], by rw [upd_ne (hm b _ q fun z => z), q]; simp⟩⟩
  by_cases hbe : b = e
  · subst hbe; exact heo
  · exact ⟨u, k b u hbe q⟩
end

/-! ### the heap without what is tracked -/
def trk (h : Heap) (H : Hp) : List Addr := (List.range h.objs.size).filter fun a => (H a).isSome
def hidT (h : Heap) (H : Hp) : Heap := PySem.W.hideAll h (trk h H)
theorem hidT_size (h : Heap) (H : Hp) : (hidT h H).objs.size = h.objs.size := PySem.W.hideAll_size _ _
theorem hidT_get {h : Heap} {H : Hp} {b : Addr} {o : Obj} (e : h.get? b = some o) (n : H b = none) : (hidT h H).get? b = some o :=
  PySem.W.hideAll_get _ e fun hm => by
    have q : (H b).isSome = true := (List.mem_filter.mp hm).2
    rw [n] at q; simp at q
theorem of_hidT {h : Heap} {H : Hp} {b : Addr} {o : Obj} (e : (hidT h H).get? b = some o) : h.get? b = some o ∧ H b = none := by
  have e' : h.get? b = some o := PySem.W.of_hideAll (trk h H) e
  refine ⟨e', ?_⟩
  cases q : H b with
  | none => rfl
  | some x =>
    have hm : b ∈ trk h H := List.mem_filter.mpr ⟨List.mem_range.mpr (Heap.lt_size e'), by simp [q]⟩
    have z : (hidT h H).get? b = none := PySem.W.hideAll_none (trk h H) hm
    rw [z] at e; cases e

/-! ### OpenK's ledger, filled with every new object but one -/
end L2

namespace L2
open PySem PySem.Spec PyProof.Rows

/-- the module's facts, over the base: the heap at the law's entry without what is tracked there -/
structure Mod (K : PySem.W.Frag) (mg : Str → Option Value) (base : Heap) : Prop where
  kin : K.In base
  glob : base.Ns mainGlobals mg
  blt : ∃ mb, base.Ns builtinsNs mb ∧ ∀ x : Str, x ≠ "__name__" → mb x = bootBuiltins x
  nolimit : base.NoLimit

/-- the context: a def's body (or a comprehension's block) running. base: fixed through the whole law; s₀, H₀: the entry; outer: the frames whose slots others may change (a def's callers); stack: all frames that run;
   ex: iterators that were made ahead of the entry and are walked here (a comprehension's); fn: the names whose cells were made at the entry (a def: all; a comprehension's block: its own); calm: not within an except suite; pn: pins that every state bears; xe: what is wanted of an exception that leaves the code -/
structure Cx where
  prog : Program
  w : World
  K : PySem.W.Frag
  mg : Str → Option Value
  base : Heap
  A : Around
  N : List Str
  s₀ : Shared
  H₀ : Hp
  env : Env
  outer : List Env
  stack : List Env
  ex : List Addr
  fn : Str → Bool
  calm : Bool
  pn : List (Addr × Obj)
  xe : Value → Shared → Prop
/-- the callers' frames -/
def frs (l : List Env) : List Addr := l.filterMap (·.frame)
abbrev Cx.fs (X : Cx) : List Addr := frs X.outer

def Vis (sc : Scope) (x : Str) : Prop := sc.names.lookup x = some .local ∨ sc.names.lookup x = some .cell ∨ sc.names.lookup x = some .free
def Loc (sc : Scope) (x : Str) : Prop := sc.names.lookup x = some .local ∨ sc.names.lookup x = some .cell
def Look (env : Env) (h : Heap) (m : Str → Option Value) (x : Str) (u : Value) : Prop :=
  (env.kindOf x = some .local ∧ m x = some u) ∨ ((env.kindOf x = some .cell ∨ env.kindOf x = some .free) ∧ ∃ c, env.cells.lookup x = some c ∧ h.IsCell c (some u))

structure Cx.Ok (X : Cx) : Prop where
  mod : Mod X.K X.mg X.base
  kind : X.env.scope.kind = .function
  glob : X.env.globals = mainGlobals
  blt : X.env.builtins = builtinsNs
  above : X.s₀.heap.objs.size ≤ X.env.locals
  inj : ∀ x y c, X.env.cells.lookup x = some c → X.env.cells.lookup y = some c → x = y
  has : ∀ x, (X.env.kindOf x = some .cell ∨ X.env.kindOf x = some .free) → ∃ c, X.env.cells.lookup x = some c
  cab : ∀ x c, X.fn x = true → X.env.cells.lookup x = some c → X.s₀.heap.objs.size ≤ c
  hd : X.calm = true → X.A.handled = none
  frames : X.A.frames = some X.stack
  stk : X.stack = X.outer ∨ (X.stack = X.env :: X.outer ∧ X.env.frame = some X.env.locals)
  exf : ∀ b ∈ X.ex, b ≠ X.env.locals ∧ ∀ x c, X.env.cells.lookup x = some c → c ≠ b
  bs : ∀ b o, X.base.get? b = some o → X.s₀.heap.get? b = some o ∧ X.H₀ b = none
  bsz : X.base.objs.size ≤ X.s₀.heap.objs.size
  noex : ∀ b o, X.base.get? b = some o → b ∉ X.ex
  exfs : ∀ b ∈ X.ex, b ∉ X.fs
  funs : X.s₀.heap.FunFrames X.base X.outer
  frf : ∀ b ∈ X.fs, X.H₀ b = none

structure Inv (X : Cx) (pins : List (Addr × Obj)) (σ : List (Option V)) (H : Hp) (s : Shared) : Prop where
  ok : X.Ok
  os : s.os = X.s₀.os
  bare : AllBare s.gens
  base : Un X.fs X.ex X.H₀ H X.s₀.heap s.heap
  loc : ∃ m, s.heap.Ns X.env.locals m ∧ ∀ (i : Nat) (x : Str) (v : V), X.N[i]? = some x → σ[i]? = some (some v) → Vis X.env.scope x → ∃ u, RelV v u ∧ Look X.env s.heap m x u
  cell : ∀ x c, X.env.cells.lookup x = some c → ∃ v, s.heap.IsCell c v
  free : H X.env.locals = none
  freeC : ∀ x c, X.env.cells.lookup x = some c → H c = none
  pin : ∀ p ∈ X.pn ++ pins, s.heap.get? p.1 = some p.2 ∧ H p.1 = none ∧ p.1 ≠ X.env.locals ∧ p.1 ∉ X.fs ∧ ∀ v, p.2.data ≠ .cell v
  hok : HOk X.prog X.w H s.heap
  len : σ.length = X.N.length

section
variable {X : Cx} {pins : List (Addr × Obj)} {σ : List (Option V)} {H H' : Hp} {s : Shared} {h' : Heap}

theorem Cx.Ok.nofr (ok : X.Ok) {b : Addr} {o : Obj} (e : X.base.get? b = some o) : b ∉ X.fs := fun hb => by
  have := (ok.funs.mem hb).1
  rw [e] at this; cases this
theorem Inv.bs (I : Inv X pins σ H s) : ∀ b o, X.base.get? b = some o → s.heap.get? b = some o ∧ H b = none := fun b o e =>
  ⟨I.base.keep b o (I.ok.bs b o e).1 (I.ok.bs b o e).2 (I.ok.nofr e) (I.ok.noex b o e), I.base.free b o (I.ok.bs b o e).1 (I.ok.bs b o e).2 (I.ok.noex b o e)⟩
theorem Inv.bk (I : Inv X pins σ H s) : ∀ b o, X.base.get? b = some o → s.heap.get? b = some o := fun b o e => (I.bs b o e).1
theorem Inv.mod (I : Inv X pins σ H s) : Mod X.K X.mg X.base := I.ok.mod
theorem Inv.kIn (I : Inv X pins σ H s) : X.K.In s.heap := I.ok.mod.kin.keeps I.bk
theorem Inv.lt (I : Inv X pins σ H s) : X.env.locals < s.heap.objs.size := let ⟨_, hn, _⟩ := I.loc; hn.lt
theorem Inv.sz (I : Inv X pins σ H s) : X.s₀.heap.objs.size ≤ s.heap.objs.size := Nat.le_trans I.ok.above (Nat.le_of_lt I.lt)
theorem Inv.nofs (I : Inv X pins σ H s) {a : Addr} (h : s.heap.objs.size ≤ a) : a ∉ X.fs := fun hb => by
  obtain ⟨_, o, ho, _⟩ := I.ok.funs.mem hb
  exact absurd (Nat.lt_of_lt_of_le (Heap.lt_size ho) (Nat.le_trans I.sz h)) (Nat.lt_irrefl _)
theorem Inv.cne (I : Inv X pins σ H s) : ∀ x c, X.env.cells.lookup x = some c → c ≠ X.env.locals := fun x c e z => by
  obtain ⟨v, o, ho, hd⟩ := I.cell x c e
  obtain ⟨m, ⟨o', es, ep, ho', hd', _⟩, _⟩ := I.loc
  rw [z, ho'] at ho; cases ho; rw [hd'] at hd; cases hd
theorem Inv.funs (I : Inv X pins σ H s) : s.heap.FunFrames X.base X.outer := by
  have all : ∀ (l : List Env), (∀ b ∈ frs l, b ∈ X.fs) → X.s₀.heap.FunFrames X.base l → s.heap.FunFrames X.base l := by
    intro l
    induction l with
    | nil => intro _ _; trivial
    | cons env r ih =>
      intro hs hl
      obtain ⟨hk, ⟨L, o, hf, hn, ho, hd⟩, hr⟩ := hl
      have hL : L ∈ X.fs := hs L (by unfold frs; rw [List.filterMap_cons, hf]; exact List.mem_cons_self)
      obtain ⟨sl, e⟩ := I.base.slot L o ho (I.ok.frf L hL) hL fun z => I.ok.exfs L z hL
      exact ⟨hk, ⟨L, _, hf, hn, e, hd⟩, ih (fun b hb => hs b (by unfold frs; rw [List.filterMap_cons, hf]; exact List.mem_cons_of_mem _ hb)) hr⟩
  exact all X.outer (fun _ hb => hb) I.ok.funs

/-- the frames that run, for a call -/
theorem Inv.stack (I : Inv X pins σ H s) : s.heap.FunFrames X.base X.stack := by
  rcases I.ok.stk with e | ⟨e, hf⟩
  · rw [e]; exact I.funs
  · rw [e]
    obtain ⟨m, hn, _⟩ := I.loc
    refine .cons (by rw [I.ok.kind]; decide) hf hn ?_ I.funs
    exact Heap.get?_none_of_le (Nat.le_trans I.ok.bsz I.ok.above)
theorem Inv.stkSub (I : Inv X pins σ H s) : ∀ b ∈ frs X.stack, b ∈ X.env.locals :: X.fs := fun b hb => by
  rcases I.ok.stk with e | ⟨e, hf⟩
  · rw [e] at hb; exact List.mem_cons_of_mem _ hb
  · rw [e] at hb
    unfold frs at hb
    rw [List.filterMap_cons, hf] at hb
    exact hb
theorem Inv.stkFree (I : Inv X pins σ H s) : ∀ b ∈ frs X.stack, H b = none := fun b hb => by
  rcases List.mem_cons.mp (I.stkSub b hb) with e | hb
  · rw [e]; exact I.free
  · obtain ⟨_, o, ho, _⟩ := I.ok.funs.mem hb
    exact I.base.free b o ho (I.ok.frf b hb) fun z => I.ok.exfs b z hb

/-- THE STEP: the untracked objects but the frame and the records at ch are kept (the callers' frames up to slots), the frame's map is kept, the new abstract heap is held -/
theorem Inv.step {g' : Array GenState} {t' : Nat} {d' : Drawn} {ch : List Addr} (I : Inv X pins σ H s)
    (hch : ∀ b ∈ ch, (b ∈ X.ex ∨ X.s₀.heap.objs.size ≤ b) ∧ b ≠ X.env.locals ∧ (∀ x c, X.env.cells.lookup x = some c → c ≠ b) ∧ ∀ p ∈ X.pn ++ pins, p.1 ≠ b)
    (keep : ∀ b o, b ≠ X.env.locals → b ∉ X.fs → b ∉ ch → s.heap.get? b = some o → H b = none → h'.get? b = some o)
    (slot : ∀ b o, b ≠ X.env.locals → b ∈ X.fs → b ∉ ch → s.heap.get? b = some o → H b = none → ∃ sl, h'.get? b = some { o with slots := sl }) (free : ∀ b o, b ∉ ch → s.heap.get? b = some o → H b = none → H' b = none)
    (there : ∀ b o, b ∉ ch → s.heap.get? b = some o → ∃ o', h'.get? b = some o')
    (tups : ∀ b xs, H b = some (.tup xs) → H' b = some (.tup xs)) (frzs : ∀ b o u, H b = some (.frz o u) → H' b = some (.frz o u)) (tbls : ∀ b ps, H b = some (.tbl ps) → ∃ more, H' b = some (.tbl (ps ++ more)))
    (ns : ∀ m, s.heap.Ns X.env.locals m → h'.Ns X.env.locals m) (hok : HOk X.prog X.w H' h') (hg : AllBare g') :
    Inv X pins σ H' { s with heap := h', gens := g', drawn := d', toks := t' } := by
  have neL : ∀ b o, X.s₀.heap.get? b = some o → b ≠ X.env.locals := fun b o e => Nat.ne_of_lt (Nat.lt_of_lt_of_le (Heap.lt_size e) I.ok.above)
  have neC : ∀ b o, X.s₀.heap.get? b = some o → b ∉ X.ex → b ∉ ch := fun b o e hx hb => by
    rcases (hch b hb).1 with z | z
    · exact hx z
    · exact absurd (Nat.lt_of_lt_of_le (Heap.lt_size e) z) (Nat.lt_irrefl _)
  have cellK : ∀ x c, X.env.cells.lookup x = some c → ∀ v, s.heap.IsCell c v → h'.IsCell c v := fun x c e v ⟨o, ho, hd⟩ => by
    have nch : c ∉ ch := fun z => (hch c z).2.2.1 x c e rfl
    by_cases hc : c ∈ X.fs
    · obtain ⟨sl, q⟩ := slot c o (I.cne x c e) hc nch ho (I.freeC x c e)
      exact ⟨_, q, hd⟩
    · exact ⟨o, keep c o (I.cne x c e) hc nch ho (I.freeC x c e), hd⟩
  refine ⟨I.ok, I.os, hg, ⟨fun b o e n hb hx => ?_, fun b o e n hb hx => ?_, fun b o e n hx => ?_, fun b o e hx => ?_, fun b xs e => tups b xs (I.base.tups b xs e), fun b o xs e => frzs b o xs (I.base.frzs b o xs e), fun b ps e => ?_⟩, ?_, fun x c e => ?_, ?_, fun x c e => ?_, fun p hp => ?_, hok, I.len⟩
  · exact keep b o (neL b o e) hb (neC b o e hx) (I.base.keep b o e n hb hx) (I.base.free b o e n hx)
  · obtain ⟨sl, e1⟩ := I.base.slot b o e n hb hx
    obtain ⟨sl', e2⟩ := slot b _ (neL b o e) hb (neC b o e hx) e1 (I.base.free b o e n hx)
    exact ⟨sl', e2⟩
  · obtain ⟨o', e1⟩ := I.base.there b o e hx
    exact free b o' (neC b o e hx) e1 (I.base.free b o e n hx)
  · obtain ⟨o', e1⟩ := I.base.there b o e hx
    exact there b o' (neC b o e hx) e1
  · obtain ⟨m1, e1⟩ := I.base.tbls b ps e
    obtain ⟨m2, e2⟩ := tbls b _ e1
    exact ⟨m1 ++ m2, by rw [e2, Array.append_assoc]⟩
  · obtain ⟨m, hn, hl⟩ := I.loc
    refine ⟨m, ns m hn, fun i x v e1 e2 e3 => ?_⟩
    obtain ⟨u, r, l⟩ := hl i x v e1 e2 e3
    refine ⟨u, r, ?_⟩
    rcases l with l | ⟨k, c, e, z⟩
    · exact .inl l
    · exact .inr ⟨k, c, e, cellK x c e _ z⟩
  · obtain ⟨v, z⟩ := I.cell x c e
    exact ⟨v, cellK x c e v z⟩
  · obtain ⟨m, ⟨o, _, _, ho, _⟩, _⟩ := I.loc
    exact free _ o (fun z => (hch _ z).2.1 rfl) ho I.free
  · obtain ⟨v, o, ho, hd⟩ := I.cell x c e
    exact free c o (fun z => (hch c z).2.2.1 x c e rfl) ho (I.freeC x c e)
  · obtain ⟨e, n, ne, nf, d⟩ := I.pin p hp
    have nch : p.1 ∉ ch := fun z => (hch p.1 z).2.2.2 p hp rfl
    exact ⟨keep p.1 p.2 ne nf nch e n, free p.1 p.2 nch e n, ne, nf, d⟩
/-- .. where the frame's own object is kept too -/
theorem Inv.un {t' : Nat} (I : Inv X pins σ H s) (u : Un X.fs [] H H' s.heap h') (hok : HOk X.prog X.w H' h') : Inv X pins σ H' { s with heap := h', toks := t' } := by
  obtain ⟨m, ⟨o, es, ep, ho, r⟩, _⟩ := id I.loc
  obtain ⟨sl, hL⟩ := u.any ho I.free (by simp)
  exact I.step (g' := s.gens) (d' := s.drawn) (ch := []) (fun _ z => nomatch z) (fun b o _ hb _ e n => u.keep b o e n hb (by simp)) (fun b o _ hb _ e n => u.slot b o e n hb (by simp)) (fun b o _ e n => u.free b o e n (by simp)) (fun b o _ e => u.there b o e (by simp)) u.tups u.frzs u.tbls (fun m' hm => by
    obtain ⟨o', es', ep', ho', r'⟩ := hm
    rw [ho] at ho'; cases ho'
    exact ⟨_, es', ep', hL, r'⟩) hok I.bare
/-- behind a call (or a comprehension's block): the slots of this frame may have changed too, the records at ch may have turned -/
theorem Inv.call {g' : Array GenState} {t' : Nat} {d' : Drawn} {ch : List Addr} (I : Inv X pins σ H s) (u : Un (frs X.stack) ch H H' s.heap h') (hok : HOk X.prog X.w H' h') (hg : AllBare g')
    (hch : ∀ b ∈ ch, (b ∈ X.ex ∨ X.s₀.heap.objs.size ≤ b) ∧ b ≠ X.env.locals ∧ (∀ x c, X.env.cells.lookup x = some c → c ≠ b) ∧ ∀ p ∈ X.pn ++ pins, p.1 ≠ b) :
    Inv X pins σ H' { s with heap := h', gens := g', drawn := d', toks := t' } := by
  obtain ⟨m, ⟨o, es, ep, ho, r⟩, _⟩ := id I.loc
  obtain ⟨sl, hL⟩ := u.any ho I.free fun z => (hch _ z).2.1 rfl
  exact I.step (ch := ch) hch (fun b o hL hb hc e n => u.keep b o e n (fun z => (List.mem_cons.mp (I.stkSub b z)).elim hL hb) hc) (fun b o _ _ hc e n => u.any e n hc) (fun b o hc e n => u.free b o e n hc) (fun b o hc e => u.there b o e hc) u.tups u.frzs u.tbls (fun m' hm => by
    obtain ⟨o', es', ep', ho', r'⟩ := hm
    rw [ho] at ho'; cases ho'
    exact ⟨_, es', ep', hL, r'⟩) hok hg
/-- an untracked record of ours (an iterator) has turned -/
theorem Inv.turned {t' : Nat} {it : Addr} (I : Inv X pins σ H s) (k : ∀ b o, b ≠ it → s.heap.get? b = some o → h'.get? b = some o) (hn : H it = none) (hL : it ≠ X.env.locals)
    (h1 : it ∈ X.ex ∨ X.s₀.heap.objs.size ≤ it) (h2 : ∀ x c, X.env.cells.lookup x = some c → c ≠ it) (h3 : ∀ p ∈ X.pn ++ pins, p.1 ≠ it) : Inv X pins σ H { s with heap := h', toks := t' } := by
  have nit : ∀ b u, H b = some u → b ≠ it := fun b u e z => by rw [z, hn] at e; cases e
  refine I.step (g' := s.gens) (d' := s.drawn) (ch := [it]) (fun b hb => ?_) (fun b o _ _ hc e _ => k b o (fun z => hc (by simp [z])) e) (fun b o _ _ hc e _ => ⟨o.slots, k b o (fun z => hc (by simp [z])) e⟩) (fun _ _ _ _ n => n)
    (fun b o hc e => ⟨o, k b o (fun z => hc (by simp [z])) e⟩) (fun _ _ e => e) (fun _ _ _ e => e) (fun b ps e => ⟨#[], by rw [e]; simp⟩) (fun m hm => ?_) (fun b u e => ?_) I.bare
  · have e : b = it := by simpa using hb
    subst e
    exact ⟨h1, hL, h2, h3⟩
  · obtain ⟨o, es, ep, ho, r⟩ := hm
    exact ⟨o, es, ep, k _ o (Ne.symm hL) ho, r⟩
  · refine (I.hok b u e).stay (fun c v hc q => k c v ?_ q) (fun _ q => q) fun _ _ q => q
    rcases hc with z | z
    · rw [z]; exact nit b u e
    · exact nit c _ z
theorem Inv.tok (I : Inv X pins σ H s) (t : Nat) : Inv X pins σ H { s with toks := t } := I.un (h' := s.heap) (t' := t) Un.refl I.hok
/-- all objects kept -/
theorem Inv.kept {t' : Nat} (I : Inv X pins σ H s) (k : ∀ b u, s.heap.get? b = some u → h'.get? b = some u) : Inv X pins σ H { s with heap := h', toks := t' } := I.un (Un.kept k) (I.hok.kept k)
/-- a new object laid and tracked -/
theorem Inv.laid {a : Addr} {o : HO} {t' : Nat} (I : Inv X pins σ H s) (k : ∀ b u, s.heap.get? b = some u → h'.get? b = some u) (hp : s.heap.objs.size ≤ a) (new : ObjOk X.prog X.w (upd H a o) h' a o) :
    Inv X pins σ (upd H a o) { s with heap := h', toks := t' } := I.un (Un.laid k hp (I.hok.fresh hp)) (I.hok.laid k hp new)
/-- an object written -/
theorem Inv.write {x e : Addr} {o : HO} {t' : Nat} (I : Inv X pins σ H s) (mu : Mut (H x)) (he : e = x ∨ H e = some (.own x)) (k : ∀ b u, b ≠ e → s.heap.get? b = some u → h'.get? b = some u) (heo : ∃ u, h'.get? e = some u)
    (new : ObjOk X.prog X.w (upd H x o) h' x o) : Inv X pins σ (upd H x o) { s with heap := h', toks := t' } := I.un (Un.write mu he k heo) (I.hok.write mu he k heo new)
theorem Inv.pins_of {pins' : List (Addr × Obj)} (I : Inv X pins σ H s) (h : ∀ p ∈ pins', s.heap.get? p.1 = some p.2 ∧ H p.1 = none ∧ p.1 ≠ X.env.locals ∧ p.1 ∉ X.fs ∧ ∀ v, p.2.data ≠ .cell v) : Inv X pins' σ H s :=
  ⟨I.ok, I.os, I.bare, I.base, I.loc, I.cell, I.free, I.freeC, fun p hp => (List.mem_append.mp hp).elim (fun z => I.pin p (List.mem_append_left _ z)) (h p), I.hok, I.len⟩

theorem nodup_ix {N : List Str} (hN : N.Nodup) {i j : Nat} {x : Str} (a : N[i]? = some x) (b : N[j]? = some x) : i = j := by
  obtain ⟨h1, e1⟩ := List.getElem?_eq_some_iff.mp a
  obtain ⟨h2, e2⟩ := List.getElem?_eq_some_iff.mp b
  exact (List.getElem_inj hN).mp (e1.trans e2.symm)

/-- a name is stored; what changed -/
theorem store_ok2 {M : Model} {A : Around} {E : Value → Shared → Prop} {i : Nat} {x : Str} {v : V} {u : Value} {Q : Unit → Shared → Prop} (I : Inv X pins σ H s) (hN : X.N.Nodup) (hi : X.N[i]? = some x) (hx : Loc X.env.scope x) (r : RelV v u)
    (h : ∀ s', Inv X pins (σ.set i (some v)) H s' → (∃ a, Heap.SameBut a s.heap s'.heap ∧ (a = X.env.locals ∨ X.env.cells.lookup x = some a)) → Q () s') (hf : X.fn x = true ∨ X.env.scope.names.lookup x = some .local := by first | exact .inl rfl | exact .inr rfl | assumption) : wpAny M A (storeName X.env x u) Q E s := by
  obtain ⟨m, hn, hl⟩ := id I.loc
  have hcls : (X.env.scope.kind == .class || (X.env.scope.kind == .module && X.env.locals != X.env.globals)) = false := by rw [I.ok.kind]; rfl
  have hiσ : i < σ.length := by rw [I.len]; exact (List.getElem?_eq_some_iff.mp hi).1
  have cne := I.cne
  have tracked : ∀ {a : Addr} {h' : Heap}, (∃ o, s.heap.get? a = some o ∧ H a = none) → Heap.SameBut a s.heap h' → HOk X.prog X.w H h' := fun {a h'} ha hs b ob e => by
    obtain ⟨_, _, hfree⟩ := ha
    refine (I.hok b ob e).stay (fun c w' hc q => (hs.2 c ?_).trans q) (fun _ q => q) fun _ _ q => q
    rintro rfl
    rcases hc with rfl | hc
    · rw [hfree] at e; cases e
    · rw [hfree] at hc; cases hc
  rcases hx with hk | hk
  · refine wpAny_storeName_local hk hn (fun h' hn' hs => ?_) hcls
    obtain ⟨oL, _, _, hoL, _⟩ := id hn
    refine h _ ⟨I.ok, I.os, I.bare, ⟨fun b o e n hb hx => ?_, fun b o e n hb hx => ?_, I.base.free, fun b o e hx => ?_, I.base.tups, I.base.frzs, I.base.tbls⟩, ⟨_, hn', fun j y v' e1 e2 e3 => ?_⟩, fun y c e => ?_, I.free, I.freeC, fun p hp => ?_, tracked ⟨oL, hoL, I.free⟩ hs, by simpa using I.len⟩ ⟨_, hs, .inl rfl⟩
    · exact (hs.2 b (Nat.ne_of_lt (Nat.lt_of_lt_of_le (Heap.lt_size e) I.ok.above))).trans (I.base.keep b o e n hb hx)
    · obtain ⟨sl, e1⟩ := I.base.slot b o e n hb hx
      exact ⟨sl, (hs.2 b (Nat.ne_of_lt (Nat.lt_of_lt_of_le (Heap.lt_size e) I.ok.above))).trans e1⟩
    · obtain ⟨o', e1⟩ := I.base.there b o e hx
      exact ⟨o', (hs.2 b (Nat.ne_of_lt (Nat.lt_of_lt_of_le (Heap.lt_size e) I.ok.above))).trans e1⟩
    · by_cases hj : j = i
      · subst hj
        rw [hi] at e1; cases e1
        rw [List.getElem?_set_self hiσ] at e2
        cases e2
        exact ⟨u, r, .inl ⟨hk, by simp⟩⟩
      · rw [List.getElem?_set_ne (Ne.symm hj)] at e2
        obtain ⟨u', r', q⟩ := hl j y v' e1 e2 e3
        refine ⟨u', r', ?_⟩
        rcases q with ⟨k, e⟩ | ⟨k, c, e, z⟩
        · refine .inl ⟨k, ?_⟩
          have : y ≠ x := fun e => hj (nodup_ix hN e1 (e ▸ hi))
          simp [this, e]
        · exact .inr ⟨k, c, e, z.sameBut hs (cne y c e)⟩
    · obtain ⟨w', z⟩ := I.cell y c e
      exact ⟨w', z.sameBut hs (cne y c e)⟩
    · obtain ⟨e, n, ne, nf, d⟩ := I.pin p hp
      exact ⟨(hs.2 p.1 ne).trans e, n, ne, nf, d⟩
  · have hfn : X.fn x = true := by
      rcases hf with z | z
      · exact z
      · rw [z] at hk; cases hk
    obtain ⟨c, hc⟩ := I.ok.has x (.inl hk)
    obtain ⟨w', z⟩ := I.cell x c hc
    refine wpAny_storeName_cell I.ok.kind hk hc z (fun h' hc' hs => ?_)
    obtain ⟨oc, hoc, hocd⟩ := id z
    refine h { s with heap := h' } ⟨I.ok, I.os, I.bare, ⟨fun b o e n hb hx => ?_, fun b o e n hb hx => ?_, I.base.free, fun b o e hx => ?_, I.base.tups, I.base.frzs, I.base.tbls⟩, ⟨m, hn.sameBut hs (Ne.symm (cne x c hc)), fun j y v' e1 e2 e3 => ?_⟩, fun y c' e => ?_, I.free, I.freeC, fun p hp => ?_, tracked ⟨oc, hoc, I.freeC x c hc⟩ hs, by simpa using I.len⟩ ⟨c, hs, .inr hc⟩
    · exact (hs.2 b (Nat.ne_of_lt (Nat.lt_of_lt_of_le (Heap.lt_size e) (I.ok.cab x c hfn hc)))).trans (I.base.keep b o e n hb hx)
    · obtain ⟨sl, e1⟩ := I.base.slot b o e n hb hx
      exact ⟨sl, (hs.2 b (Nat.ne_of_lt (Nat.lt_of_lt_of_le (Heap.lt_size e) (I.ok.cab x c hfn hc)))).trans e1⟩
    · obtain ⟨o', e1⟩ := I.base.there b o e hx
      exact ⟨o', (hs.2 b (Nat.ne_of_lt (Nat.lt_of_lt_of_le (Heap.lt_size e) (I.ok.cab x c hfn hc)))).trans e1⟩
    · by_cases hj : j = i
      · subst hj
        rw [hi] at e1; cases e1
        rw [List.getElem?_set_self hiσ] at e2
        cases e2
        exact ⟨u, r, .inr ⟨.inl hk, c, hc, hc'⟩⟩
      · rw [List.getElem?_set_ne (Ne.symm hj)] at e2
        obtain ⟨u', r', q⟩ := hl j y v' e1 e2 e3
        refine ⟨u', r', ?_⟩
        rcases q with q | ⟨k, c', e, z'⟩
        · exact .inl q
        · refine .inr ⟨k, c', e, z'.sameBut hs ?_⟩
          rintro rfl
          exact hj (nodup_ix hN e1 (I.ok.inj _ _ _ e hc ▸ hi))
    · by_cases hcc : c' = c
      · subst hcc; exact ⟨_, hc'⟩
      · obtain ⟨w2, z2⟩ := I.cell y c' e
        exact ⟨w2, z2.sameBut hs hcc⟩
    · obtain ⟨e, n, ne, nf, d⟩ := I.pin p hp
      refine ⟨(hs.2 p.1 ?_).trans e, n, ne, nf, d⟩
      intro q
      rw [q, hoc] at e
      have q' : oc = p.2 := Option.some.inj e
      exact d w' (by rw [← q']; exact hocd)
theorem store_ok {M : Model} {A : Around} {E : Value → Shared → Prop} {i : Nat} {x : Str} {v : V} {u : Value} {Q : Unit → Shared → Prop} (I : Inv X pins σ H s) (hN : X.N.Nodup) (hi : X.N[i]? = some x) (hx : Loc X.env.scope x) (r : RelV v u)
    (h : ∀ s', Inv X pins (σ.set i (some v)) H s' → Q () s') (hf : X.fn x = true ∨ X.env.scope.names.lookup x = some .local := by first | exact .inl rfl | exact .inr rfl | assumption) : wpAny M A (storeName X.env x u) Q E s :=
  store_ok2 I hN hi hx r (fun s' I' _ => h s' I') hf
/-- behind a call or a block, the state as it is -/
theorem Inv.call' {s' : Shared} {ch : List Addr} (I : Inv X pins σ H s) (ho : s'.os = s.os) (u : Un (frs X.stack) ch H H' s.heap s'.heap) (hok : HOk X.prog X.w H' s'.heap) (hg : AllBare s'.gens)
    (hch : ∀ b ∈ ch, (b ∈ X.ex ∨ X.s₀.heap.objs.size ≤ b) ∧ b ≠ X.env.locals ∧ (∀ x c, X.env.cells.lookup x = some c → c ≠ b) ∧ ∀ p ∈ X.pn ++ pins, p.1 ≠ b) : Inv X pins σ H' s' := by
  obtain ⟨h', g', d', t', o'⟩ := s'
  have e : o' = s.os := ho
  subst e
  exact I.call (g' := g') (t' := t') (d' := d') u hok hg hch
end

/-! ### the judgements -/
/-- an exception: its class, its own dict's address (where it has one), the abstract heap behind it -/
abbrev XK := Value → Option Addr → Hp → Prop
abbrev St := List (Option V)
abbrev VK := V → Hp → Prop
/-- an expression's reading; a test's; an argument list's -/
abbrev TE := St → Hp → VK → Prop
abbrev TT := St → Hp → (Bool → Hp → Prop) → Prop
abbrev TA := St → Hp → (List V → Hp → Prop) → Prop
/-- what is wanted behind a statement -/
structure Ends where
  nx : St → Hp → Prop
  rt : VK
  bk : St → Hp → Prop := fun _ _ => False
  ct : St → Hp → Prop := fun _ _ => False
abbrev TS := Ends → St → Hp → Prop

def EP (X : Cx) (pins : List (Addr × Obj)) (σ : St) (Q : VK) (u : Value) (s' : Shared) : Prop := ∃ v H', Inv X pins σ H' s' ∧ RelV v u ∧ Q v H'
def TP (X : Cx) (pins : List (Addr × Obj)) (σ : St) (Q : Bool → Hp → Prop) (b : Bool) (s' : Shared) : Prop := ∃ H', Inv X pins σ H' s' ∧ Q b H'
def AP (X : Cx) (pins : List (Addr × Obj)) (σ : St) (Q : List V → Hp → Prop) (us : List Value) (s' : Shared) : Prop := ∃ vs H', Inv X pins σ H' s' ∧ Vals vs us ∧ Q vs H'
def SP (X : Cx) (pins : List (Addr × Obj)) (D : Ends) (f : Flow) (s' : Shared) : Prop :=
  match f with
  | .next => ∃ σ' H', Inv X pins σ' H' s' ∧ D.nx σ' H'
  | .brk => ∃ σ' H', Inv X pins σ' H' s' ∧ D.bk σ' H'
  | .cont => ∃ σ' H', Inv X pins σ' H' s' ∧ D.ct σ' H'
  | .ret u => ∃ v σ' H', Inv X pins σ' H' s' ∧ RelV v u ∧ D.rt v H'

def PE (X : Cx) (e : Expr) (t : TE) : Prop :=
  ∀ (pins : List (Addr × Obj)) (s : Shared) (σ : St) (H : Hp) (Q : VK), Inv X pins σ H s → t σ H Q → wpAny (model X.prog X.w) X.A (eval e X.env) (EP X pins σ Q) X.xe s
def PT (X : Cx) (e : Expr) (t : TT) : Prop :=
  ∀ (pins : List (Addr × Obj)) (s : Shared) (σ : St) (H : Hp) (Q : Bool → Hp → Prop), Inv X pins σ H s → t σ H Q → wpAny (model X.prog X.w) X.A (isTrue e X.env (eval e X.env)) (TP X pins σ Q) X.xe s
/-- a test whatever its 'whole' is (and, or) -/
def PW (X : Cx) (e : Expr) (t : TT) : Prop :=
  ∀ (whole : Sem Value) (pins : List (Addr × Obj)) (s : Shared) (σ : St) (H : Hp) (Q : Bool → Hp → Prop), Inv X pins σ H s → t σ H Q → wpAny (model X.prog X.w) X.A (isTrue e X.env whole) (TP X pins σ Q) X.xe s
theorem PW.pt {X : Cx} {e : Expr} {t : TT} (h : PW X e t) : PT X e t := h _
/-- an argument list (no star), from the left -/
def PA (X : Cx) (es : List Expr) (t : TA) : Prop :=
  ∀ (pos : Pos) (pins : List (Addr × Obj)) (s : Shared) (σ : St) (H : Hp) (Q : List V → Hp → Prop), Inv X pins σ H s → t σ H Q → wpAny (model X.prog X.w) X.A (spliced (backTo pos (starEach es X.env))) (AP X pins σ Q) X.xe s
def PS (X : Cx) (st : Stmt) (t : TS) : Prop :=
  ∀ (pins : List (Addr × Obj)) (s : Shared) (σ : St) (H : Hp) (D : Ends), Inv X pins σ H s → t D σ H → wpAny (model X.prog X.w) X.A (exec st X.env) (SP X pins D) X.xe s
def PSs (X : Cx) (st : List Stmt) (t : TS) : Prop :=
  ∀ (pins : List (Addr × Obj)) (s : Shared) (σ : St) (H : Hp) (D : Ends), Inv X pins σ H s → t D σ H → wpAny (model X.prog X.w) X.A (execs st X.env) (SP X pins D) X.xe s
/-- weaken the end -/
theorem thn {α : Type} {t : Sem α} {Q Q' : α → Shared → Prop} {M : Model} {A : Around} {E : Value → Shared → Prop} {s : Shared} (h : wpAny M A t Q E s) (hQ : ∀ a s, Q a s → Q' a s) : wpAny M A t Q' E s := wpAny_mono h hQ fun _ _ x => x
end L2

namespace L2
open PySem PySem.Spec PyProof.Rows
section
variable {X : Cx}

/-! ### names and constants -/
def tVar (i : Nat) : TE := fun σ H Q => ∃ v, σ[i]? = some (some v) ∧ Q v H
def tC (v : V) : TE := fun _ H Q => Q v H
theorem pe_var {i : Nat} {x : Str} {pos : Pos} (hN : X.N[i]? = some x) (hv : Vis X.env.scope x) (hd : (x == ("__debug__" : Str)) = false := by decide) (hcd : (x == ("__classdict__" : Str)) = false := by decide) : PE X (.Name x pos) (tVar i) := by
  intro pins s σ H Q I h
  obtain ⟨v, e, h⟩ := h
  obtain ⟨m, hn, hl⟩ := I.loc
  obtain ⟨u, r, l⟩ := hl i x v hN e hv
  have fin : EP X pins σ Q u s := ⟨v, H, I, r, h⟩
  rcases l with ⟨hk, hm⟩ | ⟨hk, c, hc, hcell⟩
  · exact wpAny_Name (wpAny_loadName_local I.ok.kind hk hn hm fin) hd
  · rcases hk with hk | hk
    · exact wpAny_Name (wpAny_loadName_cell I.ok.kind hk hc hcell fin) hd
    · exact wpAny_Name (wpAny_loadName_free I.ok.kind hk hc hcell fin hcd) hd
theorem pe_int {i j pos} : PE X (.Constant (.int i) j pos) (tC (.int i)) := fun _ _ _ H _ I h => wpAny_Constant_int ⟨.int i, H, I.tok _, ⟨_, rfl⟩, h⟩
theorem pe_bl {b j pos} : PE X (.Constant (.bool b) j pos) (tC (.bl b)) := fun _ _ _ H _ I h => Constant_bool ⟨.bl b, H, I, rfl, h⟩
theorem pe_non {j pos} : PE X (.Constant .none j pos) (tC .non) := fun _ _ _ H _ I h => Constant_none ⟨.non, H, I, rfl, h⟩
theorem pe_str {x j pos} : PE X (.Constant (.str x) j pos) (tC (.str x)) := fun _ _ _ H _ I h => Calls.Constant_str ⟨.str x, H, I.tok _, ⟨_, rfl⟩, h⟩

/-- a global name of the def -/
def Gl (X : Cx) (x : Str) : Prop := X.env.kindOf x = some .globalImplicit
theorem ld_glob {E : Value → Shared → Prop} {pins : List (Addr × Obj)} {s : Shared} {σ : St} {H : Hp} {x : Str} {u : Value} {pos : Pos} {Q : Value → Shared → Prop} (I : Inv X pins σ H s) (hg : Gl X x) (hm : X.mg x = some u) (h : Q u s)
    (hd : (x == ("__debug__" : Str)) = false := by decide) : wpAny (model X.prog X.w) X.A (eval (.Name x pos) X.env) Q E s :=
  Calls.Name_function_global I.ok.kind hg (Calls.loadGlobal_global (by rw [I.ok.glob]; exact I.mod.glob.keeps I.bk) hm h) hd
theorem ld_blt {E : Value → Shared → Prop} {pins : List (Addr × Obj)} {s : Shared} {σ : St} {H : Hp} {x : Str} {u : Value} {pos : Pos} {Q : Value → Shared → Prop} (I : Inv X pins σ H s) (hg : Gl X x) (hm : X.mg x = none) (hv : bootBuiltins x = some u) (h : Q u s)
    (hn : x ≠ "__name__" := by decide) (hd : (x == ("__debug__" : Str)) = false := by decide) : wpAny (model X.prog X.w) X.A (eval (.Name x pos) X.env) Q E s := by
  obtain ⟨mb, h1, h2⟩ := I.mod.blt
  exact Calls.Name_function_global I.ok.kind hg (Calls.loadGlobal_builtin (by rw [I.ok.glob]; exact I.mod.glob.keeps I.bk) hm (by rw [I.ok.blt]; exact h1.keeps I.bk) ((h2 x hn).trans hv) h) hd
theorem pe_bltn {x : Str} {v : V} {u : Value} {pos : Pos} (hg : Gl X x) (hm : X.mg x = none) (hv : bootBuiltins x = some u) (r : RelV v u) (hn : x ≠ "__name__" := by decide) (hd : (x == ("__debug__" : Str)) = false := by decide) : PE X (.Name x pos) (tC v) :=
  fun _ _ _ H _ I h => ld_blt I hg hm hv ⟨v, H, I, r, h⟩ hn hd

/-! ### arithmetic -/
variable {a b : Expr} {ta tb : TE} {pos : Pos}
/-! ### comparisons -/
/-- a comparison as a value, as a test -/
def tB (t : TE) : TT := fun σ H Q => t σ H fun x H1 => ∃ c, x = .bl c ∧ Q c H1
/-- an expression whose value is a bool, as a test -/
theorem pt_val {e : Expr} {t : TE} (h : PE X e t) (he : ∀ whole, isTrue e X.env whole = (do let v ← whole; standAt e.pos; holding [v] (truthy v)) := by intro _; rfl) : PT X e (tB t) := by
  intro pins s σ H Q I hw
  refine isTrue_plain (thn (h pins s σ H _ I hw) fun v s1 ⟨x, H1, I1, r1, q1⟩ => ?_) (he _)
  obtain ⟨d, rfl, q⟩ := q1
  cases r1
  exact wpAny_truthy_bool ⟨H1, I1, q⟩

/-! ### and, or, not -/
variable {tA tB' : TT} {rest : List Expr}
def tAnd (t u : TT) : TT := fun σ H Q => t σ H fun c H1 => if c = true then u σ H1 Q else Q false H1
def tOr (t u : TT) : TT := fun σ H Q => t σ H fun c H1 => if c = true then Q true H1 else u σ H1 Q
def tNot (t : TT) : TT := fun σ H Q => t σ H fun c H1 => Q (!c) H1
theorem pw_and1 (ha : PT X a tA) : PW X (.BoolOp .And [a] pos) tA := by
  intro wh pins s σ H Q I h
  refine isTrue_and (thn (ha pins s σ H Q I h) fun c s1 e => ?_)
  cases c with
  | true => exact isTrue_and_nil e
  | false => exact e
theorem pw_or1 (ha : PT X a tA) : PW X (.BoolOp .Or [a] pos) tA := by
  intro wh pins s σ H Q I h
  refine isTrue_or (thn (ha pins s σ H Q I h) fun c s1 e => ?_)
  cases c with
  | false => exact isTrue_or_nil e
  | true => exact e
theorem pw_and (ha : PT X a tA) (hb : PW X (.BoolOp .And (b :: rest) pos) tB') : PW X (.BoolOp .And (a :: b :: rest) pos) (tAnd tA tB') := by
  intro wh pins s σ H Q I h
  refine isTrue_and (thn (ha pins s σ H _ I h) fun c s1 ⟨H1, I1, q1⟩ => ?_)
  cases c with
  | true => exact hb wh pins s1 σ H1 Q I1 q1
  | false => exact ⟨H1, I1, q1⟩
theorem pw_or (ha : PT X a tA) (hb : PW X (.BoolOp .Or (b :: rest) pos) tB') : PW X (.BoolOp .Or (a :: b :: rest) pos) (tOr tA tB') := by
  intro wh pins s σ H Q I h
  refine isTrue_or (thn (ha pins s σ H _ I h) fun c s1 ⟨H1, I1, q1⟩ => ?_)
  cases c with
  | true => exact ⟨H1, I1, q1⟩
  | false => exact hb wh pins s1 σ H1 Q I1 q1
theorem pt_not (ha : PT X a tA) : PT X (.UnaryOp .Not a pos) (tNot tA) := by
  intro pins s σ H Q I h
  exact isTrue_not (ha pins s σ H (fun c H1 => Q (!c) H1) I h)
/-- .. as values (bools) -/
def tAndV (ta tb : TE) : TE := fun σ H Q => ta σ H fun x H1 => ∃ c, x = .bl c ∧ if c = true then tb σ H1 Q else Q (.bl false) H1
def tOrV (ta tb : TE) : TE := fun σ H Q => ta σ H fun x H1 => ∃ c, x = .bl c ∧ if c = true then Q (.bl true) H1 else tb σ H1 Q
theorem pe_one {op} {t : TE} (h : PE X a t) : PE X (.BoolOp op [a] pos) t := fun pins s σ H Q I hw => BoolOp_one (h pins s σ H Q I hw)
theorem pe_and (ha : PE X a ta) (hb : PE X (.BoolOp .And (b :: rest) pos) tb) : PE X (.BoolOp .And (a :: b :: rest) pos) (tAndV ta tb) := by
  intro pins s σ H Q I h
  refine BoolOp_and (thn (ha pins s σ H _ I h) fun v s1 ⟨x, H1, I1, r1, q1⟩ => ?_)
  obtain ⟨c, rfl, q1⟩ := q1
  cases r1
  refine wpAny_truthy_bool ?_
  cases c with
  | true => exact hb pins s1 σ H1 Q I1 q1
  | false => exact ⟨.bl false, H1, I1, rfl, q1⟩
theorem pe_or (ha : PE X a ta) (hb : PE X (.BoolOp .Or (b :: rest) pos) tb) : PE X (.BoolOp .Or (a :: b :: rest) pos) (tOrV ta tb) := by
  intro pins s σ H Q I h
  refine BoolOp_or (thn (ha pins s σ H _ I h) fun v s1 ⟨x, H1, I1, r1, q1⟩ => ?_)
  obtain ⟨c, rfl, q1⟩ := q1
  cases r1
  refine wpAny_truthy_bool ?_
  cases c with
  | false => exact hb pins s1 σ H1 Q I1 q1
  | true => exact ⟨.bl true, H1, I1, rfl, q1⟩
end
end L2

namespace L2
open PySem PySem.Spec PyProof.Rows

/-! ### a list, a tuple that is read: tracked, frozen, or an object of the module -/
def SqL (K : PySem.W.Frag) (H : Hp) (a : Addr) (xs : List V) : Prop :=
  Rd H a (.lst xs) ∨
    ∃ (o : Obj) (its : Array Value) (n : Nat), K.lookup a = some o ∧ o.cls = .type "list" ∧ o.dict = none ∧ o.data = .seq its n ∧ its.size ≤ sizeLine ∧ Vals xs its.toList
def SqT (K : PySem.W.Frag) (H : Hp) (a : Addr) (xs : List V) : Prop :=
  Rd H a (.tup xs) ∨
    ∃ (o : Obj) (its : Array Value) (n : Nat), K.lookup a = some o ∧ o.cls = .type "tuple" ∧ o.data = .seq its n ∧ its.size ≤ sizeLine ∧ Vals xs its.toList
def absV : Value → Option V
  | .none => some .non
  | .bool b => some (.bl b)
  | .int i _ => some (.int i)
  | .str x _ => some (.str x)
  | .bytes b _ => some (.byt b)
  | .float b _ => some (.flt b)
  | .ref a => some (.ref a)
  | .type n => some (.ty n)
  | _ => none
theorem RelV.abs {x : V} {u : Value} (r : RelV x u) : absV u = some x := by
  cases x with
  | non => cases r; rfl
  | bl _ => cases r; rfl
  | int _ => obtain ⟨t, rfl⟩ := r; rfl
  | str _ => obtain ⟨t, rfl⟩ := r; rfl
  | byt _ => obtain ⟨t, rfl⟩ := r; rfl
  | flt _ => obtain ⟨t, rfl⟩ := r; rfl
  | ref _ => cases r; rfl
  | ty _ => cases r; rfl
theorem RelV.inj {x y : V} {u : Value} (r : RelV x u) (q : RelV y u) : x = y := Option.some.inj (r.abs.symm.trans q.abs)
theorem Vals.inj : ∀ {xs ys : List V} {us : List Value}, Vals xs us → Vals ys us → xs = ys
  | _, _, _, .nil, .nil => rfl
  | _, _, _, .cons r t, .cons r' t' => by rw [r.inj r', Vals.inj t t']
section
variable {X : Cx} {pins : List (Addr × Obj)} {σ : St} {H : Hp} {s : Shared} {a : Addr} {xs ys : List V}
theorem SqL.of {K : PySem.W.Frag} (h : H a = some (.lst xs)) : SqL K H a xs := .inl (.inl h)
theorem SqT.of {K : PySem.W.Frag} (h : H a = some (.tup xs)) : SqT K H a xs := .inl (.inl h)
theorem Inv.list (I : Inv X pins σ H s) (h : SqL X.K H a xs) : ∃ its : List Value, Vals xs its ∧ PlainL s.heap a its.toArray ∧ xs.length ≤ sizeLine := by
  rcases h with h | ⟨o, its, n, hk, hc, hd, hs, hz, r⟩
  · obtain ⟨z, its, n, r, e⟩ := h.ok I.hok
    exact ⟨its, r, ⟨_, n, e, rfl, rfl, rfl⟩, z⟩
  · refine ⟨its.toList, r, ⟨o, n, I.kIn a o hk, hc, hd, by simpa using hs⟩, ?_⟩
    have e := r.length
    simp only [Array.length_toList] at e
    omega
theorem Inv.tuple (I : Inv X pins σ H s) (h : SqT X.K H a xs) : ∃ its : List Value, Vals xs its ∧ IsTup s.heap a its.toArray ∧ xs.length ≤ sizeLine := by
  rcases h with h | ⟨o, its, n, hk, hc, hs, hz, r⟩
  · obtain ⟨z, its, r, p⟩ := h.ok I.hok
    exact ⟨its, r, p.isTup, z⟩
  · refine ⟨its.toList, r, ⟨o, I.kIn a o hk, hc, n, by simpa using hs⟩, ?_⟩
    have e := r.length
    simp only [Array.length_toList] at e
    omega
theorem Inv.list_inj (I : Inv X pins σ H s) (h : SqL X.K H a xs) (h' : SqL X.K H a ys) : xs = ys := by
  obtain ⟨its, r, ⟨o, n, e, _, _, d⟩, _⟩ := I.list h
  obtain ⟨its', r', ⟨o', n', e', _, _, d'⟩, _⟩ := I.list h'
  rw [e] at e'; cases e'
  rw [d] at d'
  injection d' with d1 _
  have : its = its' := by simpa using congrArg Array.toList d1
  subst this
  exact r.inj r'
theorem Inv.tuple_inj (I : Inv X pins σ H s) (h : SqT X.K H a xs) (h' : SqT X.K H a ys) : xs = ys := by
  obtain ⟨its, r, ⟨o, e, _, n, d⟩, _⟩ := I.tuple h
  obtain ⟨its', r', ⟨o', e', _, n', d'⟩, _⟩ := I.tuple h'
  rw [e] at e'; cases e'
  rw [d] at d'
  injection d' with d1 _
  have : its = its' := by simpa using congrArg Array.toList d1
  subst this
  exact r.inj r'
end

/-! ### another wish about exceptions -/
abbrev Cx.wish (X : Cx) (E : Value → Shared → Prop) : Cx := { X with xe := E }
/-- no exception leaves -/
abbrev Cx.nox (X : Cx) : Cx := X.wish fun _ _ => False
theorem Cx.Ok.wish {X : Cx} (ok : X.Ok) (E : Value → Shared → Prop) : (X.wish E).Ok :=
  ⟨ok.mod, ok.kind, ok.glob, ok.blt, ok.above, ok.inj, ok.has, ok.cab, ok.hd, ok.frames, ok.stk, ok.exf, ok.bs, ok.bsz, ok.noex, ok.exfs, ok.funs, ok.frf⟩
theorem Cx.Ok.unwish {X : Cx} {E : Value → Shared → Prop} (ok : (X.wish E).Ok) : X.Ok :=
  ⟨ok.mod, ok.kind, ok.glob, ok.blt, ok.above, ok.inj, ok.has, ok.cab, ok.hd, ok.frames, ok.stk, ok.exf, ok.bs, ok.bsz, ok.noex, ok.exfs, ok.funs, ok.frf⟩
section
variable {X : Cx} {pins : List (Addr × Obj)} {σ : St} {H : Hp} {s : Shared} {E : Value → Shared → Prop}
theorem Inv.wish (I : Inv X pins σ H s) (E : Value → Shared → Prop) : Inv (X.wish E) pins σ H s := ⟨I.ok.wish E, I.os, I.bare, I.base, I.loc, I.cell, I.free, I.freeC, I.pin, I.hok, I.len⟩
theorem Inv.unwish (I : Inv (X.wish E) pins σ H s) : Inv X pins σ H s := ⟨I.ok.unwish, I.os, I.bare, I.base, I.loc, I.cell, I.free, I.freeC, I.pin, I.hok, I.len⟩
theorem SP.unwish {D : Ends} {f : Flow} {s' : Shared} (h : SP (X.wish E) pins D f s') : SP X pins D f s' := by
  cases f with
  | next => obtain ⟨σ', H', I, q⟩ := h; exact ⟨σ', H', I.unwish, q⟩
  | brk => obtain ⟨σ', H', I, q⟩ := h; exact ⟨σ', H', I.unwish, q⟩
  | cont => obtain ⟨σ', H', I, q⟩ := h; exact ⟨σ', H', I.unwish, q⟩
  | ret u => obtain ⟨v, σ', H', I, r, q⟩ := h; exact ⟨v, σ', H', I.unwish, r, q⟩
theorem PSs.nox {st : List Stmt} {t : TS} (h : PSs X.nox st t) : PSs X st t := fun pins s σ H D I hw =>
  wpAny_mono (h pins s σ H D (I.wish _) hw) (fun _ _ q => q.unwish) fun _ _ z => False.elim z
end

/-! ### blocks and small statements -/
section
variable {X : Cx} {st : Stmt} {rest : List Stmt} {t u : TS} {e : Expr} {te : TE} {pos : Pos}
def tNext : TS := fun D σ H => D.nx σ H
def tSeq (t u : TS) : TS := fun D σ H => t { D with nx := u D } σ H
theorem pss_nil : PSs X [] tNext := fun _ _ σ H _ I h => wpAny_execs_nil ⟨σ, H, I, h⟩
theorem pss_cons (h1 : PS X st t) (h2 : PSs X rest u) : PSs X (st :: rest) (tSeq t u) := by
  intro pins s σ H D I h
  refine wpAny_execs_cons (thn (h1 pins s σ H { D with nx := u D } I h) fun f s1 q => ?_)
  cases f with
  | next =>
    obtain ⟨σ', H', I', q⟩ := q
    exact h2 pins s1 σ' H' D I' q
  | ret v => exact q
  | brk => exact q
  | cont => exact q
theorem pss_one (h1 : PS X st t) : PSs X [st] t := by
  intro pins s σ H D I h
  refine wpAny_execs_cons (thn (h1 pins s σ H D I h) fun f s1 q => ?_)
  cases f with
  | next => exact wpAny_execs_nil q
  | ret v => exact q
  | brk => exact q
  | cont => exact q
/-- in a def's body nothing is shown -/
theorem Inv.quiet {pins : List (Addr × Obj)} {σ : St} {H : Hp} {s : Shared} (I : Inv X pins σ H s) : interactive X.env = false := by simp [interactive, I.ok.kind]
/-- an expression whose value is dropped -/
def tDrop (te : TE) : TS := fun D σ H => te σ H fun _ H1 => D.nx σ H1
theorem ps_expr (he : PE X e te) (hs : swapsWith e none pos.line X.env = pure false := by rfl) : PS X (.Expr e pos) (tDrop te) := by
  intro pins s σ H D I h
  exact wpAny_Expr_any (thn (he pins s σ H _ I h) fun v s1 ⟨x, H1, I1, r1, q1⟩ => ⟨σ, H1, I1, q1⟩) I.quiet hs
def tRet (te : TE) : TS := fun D σ H => te σ H D.rt
theorem ps_ret (he : PE X e te) : PS X (.Return (some e) pos) (tRet te) := by
  intro pins s σ H D I h
  exact wpAny_Return_some (thn (he pins s σ H _ I h) fun v s1 ⟨x, H1, I1, r1, q1⟩ => ⟨x, σ, H1, I1, r1, q1⟩)
def tIfS (c : TT) (t u : TS) : TS := fun D σ H => c σ H fun b H1 => if b = true then t D σ H1 else u D σ H1
theorem ps_if {c : Expr} {a b : List Stmt} {tc : TT} (hc : PT X c tc) (ha : PSs X a t) (hb : PSs X b u) : PS X (.If c a b pos) (tIfS tc t u) := by
  intro pins s σ H D I h
  refine wpAny_If (thn (hc pins s σ H _ I h) fun d s1 ⟨H1, I1, q1⟩ => ?_)
  cases d with
  | true => exact ha pins s1 σ H1 D I1 q1
  | false => exact hb pins s1 σ H1 D I1 q1
end

/-! ### targets -/
abbrev TG := V → St → Hp → (St → Hp → Prop) → Prop
abbrev TGs := List V → St → Hp → (St → Hp → Prop) → Prop
def PG (X : Cx) (target : Expr) (t : TG) : Prop :=
  ∀ (pins : List (Addr × Obj)) (s : Shared) (σ : St) (H : Hp) (v : V) (u : Value) (Q : St → Hp → Prop), Inv X pins σ H s → RelV v u → t v σ H Q →
    wpAny (model X.prog X.w) X.A (assign target X.env u) (fun _ s' => ∃ σ' H', Inv X pins σ' H' s' ∧ Q σ' H') X.xe s
/-- several targets, one after another -/
def PGs (X : Cx) (ts : List Expr) (t : TGs) : Prop :=
  ∀ (pins : List (Addr × Obj)) (s : Shared) (σ : St) (H : Hp) (vs : List V) (us : List Value) (Q : St → Hp → Prop), Inv X pins σ H s → Vals vs us → t vs σ H Q →
    wpAny (model X.prog X.w) X.A (assignInOrder ((assignEach ts X.env).map (·.2)) us) (fun _ s' => ∃ σ' H', Inv X pins σ' H' s' ∧ Q σ' H') X.xe s
/-- o[i] = v, by values -/
abbrev TSet := V → V → V → Hp → (Hp → Prop) → Prop
def PSet (X : Cx) (t : TSet) : Prop :=
  ∀ (pins : List (Addr × Obj)) (s : Shared) (σ : St) (H : Hp) (o i v : V) (ov iv u : Value) (Q : Hp → Prop), Inv X pins σ H s → RelV o ov → RelV i iv → RelV v u → t o i v H Q →
    wpAny (model X.prog X.w) X.A (setItem ov iv u) (fun _ s' => ∃ H', Inv X pins σ H' s' ∧ Q H') X.xe s
section
variable {X : Cx} {pos : Pos}
def gName (i : Nat) : TG := fun v σ H Q => Q (σ.set i (some v)) H
theorem pg_name {i : Nat} {x : Str} (hN : X.N.Nodup) (hi : X.N[i]? = some x) (hx : Loc X.env.scope x) (hf : X.fn x = true ∨ X.env.scope.names.lookup x = some .local := by first | exact .inl rfl | exact .inr rfl | assumption) : PG X (.Name x pos) (gName i) := by
  intro pins s σ H v u Q I r h
  exact wpAny_assign_Name (store_ok I hN hi hx r (fun s' I' => ⟨_, H, I', h⟩) hf)
def gNil : TGs := fun vs σ H Q => vs = [] ∧ Q σ H
def gCons (t : TG) (u : TGs) : TGs := fun vs σ H Q => ∃ v r, vs = v :: r ∧ t v σ H fun σ' H' => u r σ' H' Q
theorem pgs_nil : PGs X [] gNil := by
  intro pins s σ H vs us Q I r h
  obtain ⟨e, h⟩ := h
  subst e
  cases r
  exact assignInOrder_nil ⟨σ, H, I, h⟩
theorem pgs_cons {e : Expr} {es : List Expr} {t : TG} {u : TGs} (h1 : PG X e t) (h2 : PGs X es u)
    (hs : (assignEach (e :: es) X.env).map (·.2) = assign e X.env :: (assignEach es X.env).map (·.2) := by rfl) : PGs X (e :: es) (gCons t u) := by
  intro pins s σ H vs us Q I r h
  obtain ⟨v, vr, e1, h⟩ := h
  subst e1
  cases r with
  | cons r rr =>
    rw [hs]
    refine assignInOrder_cons (thn (h1 pins s σ H _ _ _ I r h) fun _ s1 ⟨σ1, H1, I1, q1⟩ => ?_)
    exact h2 pins s1 σ1 H1 _ _ Q I1 rr q1
/-- (a, b, ..) = a tuple of that length -/
def gTup (K : PySem.W.Frag) (n : Nat) (t : TGs) : TG := fun v σ H Q => ∃ a xs, v = .ref a ∧ SqT K H a xs ∧ xs.length = n ∧ t xs σ H Q
theorem pg_tup {es : List Expr} {k : Nat} {t : TGs} {n : Nat} (hc : X.calm = true) (h : PGs X es t)
    (hn : (assignEach es X.env).length = n := by rfl) (hst : (assignEach es X.env).findIdx? (·.1) = none := by rfl) : PG X (.Tuple es k pos) (gTup X.K n t) := by
  intro pins s σ H v u Q I r hw
  obtain ⟨a, xs, e1, hq, hl, hw⟩ := hw
  subst e1
  cases r
  obtain ⟨its, rv, ht, hz⟩ := I.tuple hq
  refine assign_Tuple_tuple (I.ok.hd hc) ht (by simp [hn, ← hl, rv.length]) hst fun h' hx => ?_
  have I1 : Inv X pins σ H { s with heap := h' } := I.kept (t' := s.toks) fun b o e => hx b o (Nat.ne_of_lt (Heap.lt_size e)) e
  exact h pins _ σ H xs _ Q I1 (by simpa using rv) hw
/-- o[i] = .. -/
def gSub (to ti : TE) (t : TSet) : TG := fun v σ H Q => to σ H fun o H1 => ti σ H1 fun i H2 => t o i v H2 fun H3 => Q σ H3
theorem pg_sub {o i : Expr} {to ti : TE} {t : TSet} (ho : PE X o to) (hi : PE X i ti) (hs : PSet X t)
    (ha : ∀ v, assign (.Subscript o i pos) X.env v = (do
      let ov ← holding [v] (eval o X.env)
      let iv ← holding [v, ov] (eval i X.env)
      standAt pos
      holding [v, ov, iv] (setItem ov iv v)
      release [v, ov, iv] []) := by intro _; rfl) : PG X (.Subscript o i pos) (gSub to ti t) := by
  intro pins s σ H v u Q I r h
  rw [ha]
  refine wpAny_bind (wpAny_holding (thn (ho pins s σ H _ I h) fun ov s1 ⟨x, H1, I1, r1, q1⟩ => ?_))
  refine wpAny_bind (wpAny_holding (thn (hi pins s1 σ H1 _ I1 q1) fun iv s2 ⟨y, H2, I2, r2, q2⟩ => ?_))
  refine wpAny_bind (wpAny_standAt (wpAny_bind (wpAny_holding (thn (hs pins s2 σ H2 x y v ov iv u _ I2 r1 r2 r q2) fun _ s3 ⟨H3, I3, q3⟩ => ?_))))
  exact wpAny_release ⟨σ, H3, I3, q3⟩
/-- target = value -/
def tAsg (te : TE) (g : TG) : TS := fun D σ H => te σ H fun x H1 => g x σ H1 D.nx
theorem ps_asg {tg e : Expr} {te : TE} {g : TG} (he : PE X e te) (hg : PG X tg g) (hs : swapsWithSole [tg] e pos.line X.env = pure false := by rfl) (hw : swappedStores [tg] e X.env = pure none := by rfl)
    (h1 : (assignEach [tg] X.env).map (·.2) = [assign tg X.env] := by rfl) : PS X (.Assign [tg] e pos) (tAsg te g) := by
  intro pins s σ H D I h
  refine wpAny_Assign_stores (thn (he pins s σ H _ I h) fun v s1 ⟨x, H1, I1, r1, q1⟩ => ?_) hs hw
  rw [h1]
  exact thn (hg pins s1 σ H1 x v _ I1 r1 q1) fun _ s2 q => q
/-- name = value -/
theorem ps_set {i : Nat} {x : Str} {e : Expr} {te : TE} {pos' : Pos} (hN : X.N.Nodup) (hi : X.N[i]? = some x) (hx : Loc X.env.scope x) (he : PE X e te) (hs : swapsWith e (some (.Name x pos')) pos.line X.env = pure false := by rfl) (hf : X.fn x = true ∨ X.env.scope.names.lookup x = some .local := by first | exact .inl rfl | exact .inr rfl | assumption) :
    PS X (.Assign [.Name x pos'] e pos) (tAsg te (gName i)) := by
  intro pins s σ H D I h
  refine wpAny_Assign_Name (thn (he pins s σ H _ I h) fun v s1 ⟨y, H1, I1, r1, q1⟩ => ?_) hs
  exact store_ok I1 hN hi hx r1 (fun s2 I2 => ⟨_, H1, I2, q1⟩) hf
end

/-! ### while -/
section
variable {X : Cx} {pos : Pos}
/-- the invariant W with its measure -/
def tWhile (c : TT) (tb : TS) : TS := fun D σ H => ∃ W : Nat → St → Hp → Prop, (∃ m, W m σ H) ∧ ∀ m σ H, W m σ H →
  c σ H fun b H1 => if b = true then ∃ N : St → Hp → Prop, (∀ σ' H', N σ' H' → ∃ m', m' < m ∧ W m' σ' H') ∧ tb { D with nx := N, ct := N, bk := D.nx } σ H1 else D.nx σ H1
theorem ps_while {c : Expr} {body : List Stmt} {tc : TT} {tb : TS} (hp : PassesOwn (model X.prog X.w) X.A X.env X.xe) (hc : PT X c tc) (hb : PSs X body tb) : PS X (.While c body [] pos) (tWhile tc tb) := by
  intro pins s σ H D I h
  obtain ⟨W, ⟨m0, w0⟩, turn⟩ := h
  refine wpAny_While (codeAny_whileLoop (fun n s' => ∃ σ' H', Inv X pins σ' H' s' ∧ W n σ' H') ?_ m0 ⟨σ, H, I, w0⟩)
  rintro n s1 ⟨σ1, H1, I1, w1⟩
  refine wpAny_passesOwn hp (thn (hc pins s1 σ1 H1 _ I1 (turn n σ1 H1 w1)) fun b s2 ⟨H2, I2, q2⟩ => ?_)
  cases b with
  | true =>
    obtain ⟨N, hN, q2⟩ := q2
    rw [if_pos rfl]
    refine wpAny_passesOwn hp (thn (hb pins s2 σ1 H2 _ I2 q2) fun f s3 q3 => ?_)
    cases f with
    | next =>
      obtain ⟨σ3, H3, I3, n3⟩ := q3
      obtain ⟨m', hm, w3⟩ := hN σ3 H3 n3
      exact ⟨m', hm, σ3, H3, I3, w3⟩
    | cont =>
      obtain ⟨σ3, H3, I3, n3⟩ := q3
      obtain ⟨m', hm, w3⟩ := hN σ3 H3 n3
      exact ⟨m', hm, σ3, H3, I3, w3⟩
    | brk => exact q3
    | ret v => exact q3
  | false =>
    rw [if_neg Bool.false_ne_true]
    exact wpAny_execs_nil ⟨σ1, H2, I2, q2⟩
end

/-! ### what a loop or a comprehension walks -/
/-- at turn i: it yields x (the heap may grow), or it stops -/
structure It where
  go : Nat → Hp → Prop
  yld : Nat → Hp → V → Hp → Prop
  stop : Nat → Hp → Prop
/-- the iterator's own objects may turn: they are not the frame's, not pinned, younger than the entry (or a comprehension's own) -/
def FpOk (X : Cx) (pins : List (Addr × Obj)) (H : Hp) (b : Addr) : Prop :=
  H b = none ∧ b ≠ X.env.locals ∧ b ∉ X.fs ∧ (b ∈ X.ex ∨ X.s₀.heap.objs.size ≤ b) ∧ (∀ x c, X.env.cells.lookup x = some c → c ≠ b) ∧ ∀ p ∈ X.pn ++ pins, p.1 ≠ b
theorem Inv.fpOk {X : Cx} {pins : List (Addr × Obj)} {σ : St} {H H' : Hp} {s : Shared} {b : Addr} (I : Inv X pins σ H s) (hb : s.heap.objs.size ≤ b) (hn : H' b = none) : FpOk X pins H' b := by
  refine ⟨hn, Nat.ne_of_gt (Nat.lt_of_lt_of_le I.lt hb), I.nofs hb, .inr (Nat.le_trans I.sz hb), fun x c e z => ?_, fun p hp z => ?_⟩
  · obtain ⟨v, q⟩ := I.cell x c e
    exact absurd (Nat.lt_of_lt_of_le q.lt (by rw [z]; exact hb)) (Nat.lt_irrefl _)
  · exact absurd (Nat.lt_of_lt_of_le (Heap.lt_size (I.pin p hp).1) (by rw [z]; exact hb)) (Nat.lt_irrefl _)
structure Turn (P : Program) (w : World) (K : PySem.W.Frag) (tg : Expr) (J : It) (fp : List Addr) (it : Addr) (tn : Nat → Heap → Prop) : Prop where
  mem : it ∈ fp
  obj : ∀ i h, tn i h → ∀ b ∈ fp, ∃ o, h.get? b = some o ∧ ∀ v, o.data ≠ .cell v
  keep : ∀ i h h', tn i h → (∀ b ∈ fp, ∀ o, h.get? b = some o → h'.get? b = some o) → tn i h'
  item : ∀ (X : Cx), X.prog = P → X.w = w → X.K = K → X.calm = true → ∀ (i : Nat) (pins : List (Addr × Obj)) (s : Shared) (σ : St) (H : Hp) (E : Value → Shared → Prop), Inv X pins σ H s → (∀ b ∈ fp, FpOk X pins H b) → tn i s.heap → J.go i H →
    wpAny (model P w) X.A (pyNext (.ref it)) (fun r s1 => ∃ u, r = some u ∧
      wpAny (model P w) X.A (letOwnedTupleGo tg (.ref it) u) (fun _ s2 => ∃ x H', Inv X pins σ H' s2 ∧ RelV x u ∧ J.yld i H x H' ∧ tn (i + 1) s2.heap ∧ ∀ b ∈ fp, H' b = none) E s1) E s
  done : ∀ (X : Cx), X.prog = P → X.w = w → X.K = K → X.calm = true → ∀ (i : Nat) (pins : List (Addr × Obj)) (s : Shared) (σ : St) (H : Hp) (E : Value → Shared → Prop), Inv X pins σ H s → (∀ b ∈ fp, FpOk X pins H b) → tn i s.heap → J.stop i H →
    wpAny (model P w) X.A (pyNext (.ref it)) (fun r s1 => r = none ∧ Inv X pins σ H s1) E s
  self : ∀ (A : Around) (i : Nat) (s : Shared) (Q : Value → Shared → Prop) (E : Value → Shared → Prop), tn i s.heap → Q (.ref it) s → wpAny (model P w) A (pyIter (.ref it)) Q E s
abbrev TI := St → Hp → (It → Hp → Prop) → Prop
/-- an iterator has come -/
def PIE (X : Cx) (pins : List (Addr × Obj)) (σ : St) (tg : Expr) (R : It → Hp → Prop) (itv : Value) (s2 : Shared) : Prop :=
  ∃ (it : Addr) (fp : List Addr) (tn : Nat → Heap → Prop) (J : It) (H' : Hp), itv = .ref it ∧ Inv X pins σ H' s2 ∧ Turn X.prog X.w X.K tg J fp it tn ∧ tn 0 s2.heap ∧ (∀ b ∈ fp, FpOk X pins H' b) ∧ R J H'
def PI (X : Cx) (tg iter : Expr) (wi : TI) : Prop :=
  ∀ (pins : List (Addr × Obj)) (s : Shared) (σ : St) (H : Hp) (R : It → Hp → Prop), Inv X pins σ H s → wi σ H R →
    wpAny (model X.prog X.w) X.A (eval iter X.env) (fun v s1 => wpAny (model X.prog X.w) X.A (pyIter v) (PIE X pins σ tg R) X.xe s1) X.xe s

/-- the step ahead of the store is nothing for an iterator that keeps no tuple -/
theorem go_of {M : Model} {A : Around} {E : Value → Shared → Prop} {s : Shared} {tg : Expr} {it : Addr} {u : Value} {o : Obj} {n : String} {vs : Array Value} {Q : Unit → Shared → Prop} (ho : s.heap.get? it = some o) (hc : o.cls = .type n) (hd : o.data = .fields vs)
    (hn : ["enumerate", "zip", "dict_itemiterator", "dict_reverseitemiterator", "odict_iterator", "itertools.zip_longest", "itertools.pairwise"].contains n = false) (hQ : Q () s) : wpAny M A (letOwnedTupleGo tg (.ref it) u) Q E s := by
  unfold letOwnedTupleGo
  cases tg <;> first
    | exact wpAny_pure hQ
    | (cases u <;> first
        | exact wpAny_pure hQ
        | (refine wpAny_bind (wpAny_load ho ?_)
           rw [hc, hd]
           show wpAny M A (if (["enumerate", "zip", "dict_itemiterator", "dict_reverseitemiterator", "odict_iterator", "itertools.zip_longest", "itertools.pairwise"].contains n && vs[0]? == some (rawInt _)) = true then _ else _) Q E s
           rw [if_neg (by intro h; rw [hn, Bool.false_and] at h; cases h)]
           exact wpAny_pure hQ))

/-- the list at a, as it stands at each turn (a loop may append to it) -/
def Itl (K : PySem.W.Frag) (a : Addr) : It :=
  ⟨fun i H => ∃ xs x, SqL K H a xs ∧ xs[i]? = some x, fun i H x H' => H' = H ∧ ∀ xs, SqL K H a xs → xs[i]? = some x, fun i H => ∃ xs, SqL K H a xs ∧ xs.length ≤ i⟩
def Itt (K : PySem.W.Frag) (a : Addr) : It :=
  ⟨fun i H => ∃ xs x, SqT K H a xs ∧ xs[i]? = some x, fun i H x H' => H' = H ∧ ∀ xs, SqT K H a xs → xs[i]? = some x, fun i H => ∃ xs, SqT K H a xs ∧ xs.length ≤ i⟩
/-- lo, lo + 1, .. (n of them) -/
def Itr (lo : Int) (n : Nat) : It := ⟨fun i _ => i < n, fun i H x H' => H' = H ∧ x = .int (lo + i), fun i _ => n ≤ i⟩
theorem turn_list {P : Program} {w : World} {K : PySem.W.Frag} {tg : Expr} (a it : Addr) : Turn P w K tg (Itl K a) [it] it (fun i h => h.IsListIter it a i) where
  mem := by simp
  obj := fun i h st b hb => by
    have e : b = it := by simpa using hb
    subst e
    obtain ⟨o, e, c, d⟩ := st
    exact ⟨o, e, fun v z => by rw [d] at z; cases z⟩
  keep := fun i h h' st k => st.at fun o e => k it (by simp) o e
  item := by
    intro X hP hw hK hc i pins s σ H E I hf st hg
    subst hP hw hK
    obtain ⟨xs, x, hq, hx⟩ := hg
    obtain ⟨its, rv, p, hz⟩ := I.list hq
    obtain ⟨u, hu, ru⟩ := rv.get hx
    obtain ⟨f0, f1, f2, f3, f4, f5⟩ := hf it (by simp)
    refine wpAny_pyNext_list_item st p.isList (x := u) (by simpa using hu) fun h' st' sb => ?_
    have I1 : Inv X pins σ H { s with heap := h' } := I.turned (t' := s.toks) (fun b o hb e => (sb.2 b hb).trans e) f0 f1 f3 f4 f5
    obtain ⟨o, e, c, d⟩ := id st'
    exact ⟨u, rfl, go_of (s := { s with heap := h' }) e c d (by decide) ⟨x, H, I1, ru, ⟨rfl, fun ys hy => by rw [I.list_inj hy hq]; exact hx⟩, st', fun b hb => (hf b hb).1⟩⟩
  done := by
    intro X hP hw hK hc i pins s σ H E I hf st hg
    subst hP hw hK
    obtain ⟨xs, hq, hx⟩ := hg
    obtain ⟨its, rv, p, hz⟩ := I.list hq
    obtain ⟨f0, f1, f2, f3, f4, f5⟩ := hf it (by simp)
    have hl := rv.length
    exact wpAny_pyNext_list_end (I.ok.hd hc) st p.isList (by simp; omega) fun h' eb => ⟨rfl, I.turned (t' := s.toks) (fun b o hb e => eb b o hb e) f0 f1 f3 f4 f5⟩
  self := fun _ _ _ _ _ st h => wpAny_pyIter_listiter st h
theorem turn_tuple {P : Program} {w : World} {K : PySem.W.Frag} {tg : Expr} (a it : Addr) : Turn P w K tg (Itt K a) [it] it (fun i h => h.IsTupleIter it a i) where
  mem := by simp
  obj := fun i h st b hb => by
    have e : b = it := by simpa using hb
    subst e
    obtain ⟨o, e, c, d⟩ := st
    exact ⟨o, e, fun v z => by rw [d] at z; cases z⟩
  keep := fun i h h' st k => st.at fun o e => k it (by simp) o e
  item := by
    intro X hP hw hK hc i pins s σ H E I hf st hg
    subst hP hw hK
    obtain ⟨xs, x, hq, hx⟩ := hg
    obtain ⟨its, rv, p, hz⟩ := I.tuple hq
    obtain ⟨u, hu, ru⟩ := rv.get hx
    obtain ⟨f0, f1, f2, f3, f4, f5⟩ := hf it (by simp)
    refine wpAny_pyNext_tuple_item st (show s.heap.IsTuple a its.toArray from p) (x := u) (by simpa using hu) fun h' st' sb => ?_
    have I1 : Inv X pins σ H { s with heap := h' } := I.turned (t' := s.toks) (fun b o hb e => (sb.2 b hb).trans e) f0 f1 f3 f4 f5
    obtain ⟨o, e, c, d⟩ := id st'
    exact ⟨u, rfl, go_of (s := { s with heap := h' }) e c d (by decide) ⟨x, H, I1, ru, ⟨rfl, fun ys hy => by rw [I.tuple_inj hy hq]; exact hx⟩, st', fun b hb => (hf b hb).1⟩⟩
  done := by
    intro X hP hw hK hc i pins s σ H E I hf st hg
    subst hP hw hK
    obtain ⟨xs, hq, hx⟩ := hg
    obtain ⟨its, rv, p, hz⟩ := I.tuple hq
    obtain ⟨f0, f1, f2, f3, f4, f5⟩ := hf it (by simp)
    have hl := rv.length
    exact wpAny_pyNext_tuple_end (I.ok.hd hc) st (show s.heap.IsTuple a its.toArray from p) (by simp; omega) fun h' eb => ⟨rfl, I.turned (t' := s.toks) (fun b o hb e => eb b o hb e) f0 f1 f3 f4 f5⟩
  self := fun _ _ _ _ _ st h => wpAny_pyIter_tupleiter st h
theorem turn_range {P : Program} {w : World} {K : PySem.W.Frag} {tg : Expr} (it : Addr) (lo : Int) (n : Nat) : Turn P w K tg (Itr lo n) [it] it (fun i h => IsRangeIter h it (lo + (i : Nat) * 1) ((n : Int) - (i : Nat)) 1) where
  mem := by simp
  obj := fun i h st b hb => by
    have e : b = it := by simpa using hb
    subst e
    exact ⟨_, st, fun v z => by
      have z' : Data.fields _ = Data.cell v := z
      cases z'⟩
  keep := fun i h h' st k => k it (by simp) _ st
  item := by
    intro X hP hw hK hc i pins s σ H E I hf st hg
    subst hP hw hK
    obtain ⟨f0, f1, f2, f3, f4, f5⟩ := hf it (by simp)
    have W := Walks.range (prog := X.prog) (w := X.w) (I.ok.hd hc) it lo 1 n
    refine W.item i s _ _ hg st fun v h' tk hv st' kk => ?_
    obtain ⟨t, rfl⟩ := hv
    have I1 : Inv X pins σ H { s with heap := h', toks := tk } := I.turned (fun b o hb e => kk b o (by simpa using hb) e) f0 f1 f3 f4 f5
    refine ⟨_, rfl, go_of (s := { s with heap := h', toks := tk }) (n := "range_iterator") st' rfl rfl (by decide) ⟨.int (lo + i), H, I1, ⟨t, ?_⟩, ⟨rfl, rfl⟩, st', fun b hb => (hf b hb).1⟩⟩
    rw [Int.mul_one]
  done := by
    intro X hP hw hK hc i pins s σ H E I hf st hg
    subst hP hw hK
    obtain ⟨f0, f1, f2, f3, f4, f5⟩ := hf it (by simp)
    exact wpAny_pyNext_range_end (I.ok.hd hc) st (by have : n ≤ i := hg; omega) fun h' eb => ⟨rfl, I.turned (t' := s.toks) (fun b o hb e => eb b o hb e) f0 f1 f3 f4 f5⟩
  self := fun _ _ _ _ _ st h => wpAny_pyIter_rangeiter st h
end L2

namespace L2
open PySem PySem.Spec PyProof.Rows
section
variable {X : Cx} {tg : Expr}
def iList (K : PySem.W.Frag) (tl : TE) : TI := fun σ H R => tl σ H fun x H1 => ∃ a, x = .ref a ∧ (∃ xs, SqL K H1 a xs) ∧ R (Itl K a) H1
def iTup (K : PySem.W.Frag) (tl : TE) : TI := fun σ H R => tl σ H fun x H1 => ∃ a, x = .ref a ∧ (∃ xs, SqT K H1 a xs) ∧ R (Itt K a) H1
theorem pi_list {l : Expr} {tl : TE} (hl : PE X l tl) : PI X tg l (iList X.K tl) := by
  intro pins s σ H R I h
  refine thn (hl pins s σ H _ I h) fun v s1 ⟨x, H1, I1, r1, q1⟩ => ?_
  obtain ⟨a, e, ⟨xs, hq⟩, q⟩ := q1
  subst e
  cases r1
  obtain ⟨its, rv, p, hz⟩ := I1.list hq
  refine wpAny_pyIter_list p.isList ?_
  refine ⟨s1.heap.objs.size, [s1.heap.objs.size], _, _, H1, rfl, I1.kept (t' := s1.toks) fun b o e => Heap.get?_push_of_some _ e, turn_list a _, ⟨_, Heap.get?_push_size _ rfl, rfl, rfl⟩, fun b hb => ?_, q⟩
  have e : b = s1.heap.objs.size := by simpa using hb
  subst e
  exact I1.fpOk (Nat.le_refl _) (I1.hok.fresh (Nat.le_refl _))
theorem pi_tup {l : Expr} {tl : TE} (hl : PE X l tl) : PI X tg l (iTup X.K tl) := by
  intro pins s σ H R I h
  refine thn (hl pins s σ H _ I h) fun v s1 ⟨x, H1, I1, r1, q1⟩ => ?_
  obtain ⟨a, e, ⟨xs, hq⟩, q⟩ := q1
  subst e
  cases r1
  obtain ⟨its, rv, p, hz⟩ := I1.tuple hq
  refine wpAny_pyIter_tuple (show s1.heap.IsTuple a its.toArray from p) ?_
  refine ⟨s1.heap.objs.size, [s1.heap.objs.size], _, _, H1, rfl, I1.kept (t' := s1.toks) fun b o e => Heap.get?_push_of_some _ e, turn_tuple a _, ⟨_, Heap.get?_push_size _ rfl, rfl, rfl⟩, fun b hb => ?_, q⟩
  have e : b = s1.heap.objs.size := by simpa using hb
  subst e
  exact I1.fpOk (Nat.le_refl _) (I1.hok.fresh (Nat.le_refl _))
/-- a range object just made, walked -/
theorem range_it {pins : List (Addr × Obj)} {σ : St} {H : Hp} {s : Shared} {R : It → Hp → Prop} {E : Value → Shared → Prop} {lo hi : Int} {t u v : Tok} {tk : Nat} (I : Inv X pins σ H s) (h1 : -(2 ^ 62) ≤ lo) (h2 : lo < 2 ^ 62) (h3 : -(2 ^ 62) ≤ hi) (h4 : hi < 2 ^ 62)
    (q : R (Itr lo (hi - lo).toNat) H) : wpAny (model X.prog X.w) X.A (pyIter (.ref s.heap.objs.size)) (PIE X pins σ tg R) E { s with heap := s.heap.push { cls := .type "range", data := .fields #[.int lo t, .int hi u, .int 1 v] }, toks := tk } := by
  refine wpAny_pyIter_range (IsRange.new ..) (small_one h1 h2 h3 h4) ?_
  have I1 : Inv X pins σ H { s with heap := s.heap.push { cls := .type "range", data := .fields #[.int lo t, .int hi u, .int 1 v] }, toks := tk } := I.kept fun b o e => Heap.get?_push_of_some _ e
  refine ⟨(s.heap.push { cls := .type "range", data := .fields #[.int lo t, .int hi u, .int 1 v] }).objs.size, [(s.heap.push { cls := .type "range", data := .fields #[.int lo t, .int hi u, .int 1 v] }).objs.size], _, _, H, rfl,
    I1.kept (t' := tk) fun b o e => Heap.get?_push_of_some _ e, turn_range _ lo (hi - lo).toNat, ?_, fun b hb => ?_, q⟩
  · have e1 : lo + ((0 : Nat) : Int) * 1 = lo := by simp
    have e2 : (((hi - lo).toNat : Nat) : Int) - ((0 : Nat) : Int) = Builtin.Range.rangeSize lo hi 1 := by rw [rangeSize_one]; split <;> omega
    show IsRangeIter _ _ (lo + ((0 : Nat) : Int) * 1) ((((hi - lo).toNat : Nat) : Int) - ((0 : Nat) : Int)) 1
    rw [e1, e2]
    exact Heap.get?_push_size _ rfl
  · have e : b = (s.heap.push { cls := .type "range", data := .fields #[.int lo t, .int hi u, .int 1 v] }).objs.size := by simpa using hb
    subst e
    exact I1.fpOk (Nat.le_refl _) (I1.hok.fresh (Nat.le_refl _))
def iRng1 (ta : TA) : TI := fun σ H R => ta σ H fun vs H1 => ∃ j : Int, vs = [.int j] ∧ -(2 ^ 62) ≤ j ∧ j < 2 ^ 62 ∧ R (Itr 0 j.toNat) H1
theorem pi_range1 {a : Expr} {ta : TA} {p pos : Pos} (hg : Gl X "range") (hm : X.mg "range" = none) (ha : PA X [a] ta) (hs : starEach [a] X.env = [(false, eval a X.env)] := by rfl) : PI X tg (.Call (.Name "range" p) [a] [] pos) (iRng1 ta) := by
  intro pins s σ H R I h
  refine Call_ (ld_blt I hg hm boot_range (PyProof.Rows.callWith_type1 (thn (ha pos pins s σ H _ I h) fun us s1 ⟨vs, H1, I1, r1, q1⟩ => ?_) hs rfl))
  obtain ⟨j, e, q1, q2, q⟩ := q1
  subst e
  cases r1 with
  | cons r rr =>
    cases rr
    obtain ⟨t, rfl⟩ := r
    exact call_range_1 (range_it I1 (by omega) (by omega) q1 q2 (by simpa using q))
/-! ### for -/
/-- W: the invariant by the turn and a measure; N: what the body is to reach -/
def tFor (wi : TI) (g : TG) (tb : TS) : TS := fun D σ H => wi σ H fun J H1 => ∃ W : Nat → Nat → St → Hp → Prop, (∃ m, W 0 m σ H1) ∧ ∀ i m σ H, W i m σ H →
  (J.stop i H ∧ D.nx σ H) ∨ (J.go i H ∧ ∃ N : St → Hp → Prop, (∀ σ' H', N σ' H' → ∃ m', m' < m ∧ W (i + 1) m' σ' H') ∧ ∀ x H', J.yld i H x H' → g x σ H' fun σ2 H2 => tb { D with nx := N, ct := N, bk := D.nx } σ2 H2)
/-- the records at fp as they stand -/
def pinsAt (fp : List Addr) (h : Heap) : List (Addr × Obj) := fp.filterMap fun b => (h.get? b).map fun o => (b, o)
theorem mem_pinsAt {fp : List Addr} {h : Heap} {b : Addr} {o : Obj} (hb : b ∈ fp) (e : h.get? b = some o) : (b, o) ∈ pinsAt fp h := List.mem_filterMap.mpr ⟨b, hb, by rw [e]; rfl⟩
theorem of_pinsAt {fp : List Addr} {h : Heap} {p : Addr × Obj} (hp : p ∈ pinsAt fp h) : p.1 ∈ fp ∧ h.get? p.1 = some p.2 := by
  obtain ⟨b, hb, e⟩ := List.mem_filterMap.mp hp
  cases q : h.get? b with
  | none => rw [q] at e; cases e
  | some o =>
    rw [q] at e
    have e' : (b, o) = p := Option.some.inj e
    subst e'
    exact ⟨hb, q⟩
theorem Inv.pinned {pins : List (Addr × Obj)} {σ : St} {H : Hp} {s : Shared} {fp : List Addr} (I : Inv X pins σ H s) (hf : ∀ b ∈ fp, FpOk X pins H b) (ho : ∀ b ∈ fp, ∃ o, s.heap.get? b = some o ∧ ∀ v, o.data ≠ .cell v) : Inv X (pins ++ pinsAt fp s.heap) σ H s :=
  I.pins_of fun p hp => (List.mem_append.mp hp).elim (fun z => I.pin p (List.mem_append_right _ z)) fun z => by
    obtain ⟨hb, e⟩ := of_pinsAt z
    obtain ⟨f0, f1, f2, _⟩ := hf p.1 hb
    obtain ⟨o, e', d⟩ := ho p.1 hb
    rw [e] at e'; cases e'
    exact ⟨e, f0, f1, f2, d⟩
theorem Inv.unpinned {pins pl : List (Addr × Obj)} {σ : St} {H : Hp} {s : Shared} (I : Inv X (pins ++ pl) σ H s) : Inv X pins σ H s := I.pins_of fun p hp => I.pin p (List.mem_append_right _ (List.mem_append_left _ hp))
theorem ps_for {iter : Expr} {body : List Stmt} {wi : TI} {g : TG} {tb : TS} {pos : Pos} (hp : PassesOwn (model X.prog X.w) X.A X.env X.xe) (hc : X.calm = true) (hi : PI X tg iter wi) (hg : PG X tg g) (hb : PSs X body tb)
    (hs : ∀ x, foldedSetIterable iter X.env x = pure x := by intro _; rfl) : PS X (.For tg iter body [] pos) (tFor wi g tb) := by
  intro pins s σ H D I h
  refine wpAny_For (thn (hi pins s σ H _ I h) fun v s1 h1 => thn h1 fun itv s2 h2 => ?_) hs
  obtain ⟨it, fp, tn, J, H2, e, I2, T, st2, f2, W, ⟨m0, w0⟩, turn⟩ := h2
  subst e
  -- what stays true of the iterator's objects through the loop
  have stat : ∀ {H' : Hp}, (∀ b ∈ fp, H' b = none) → ∀ b ∈ fp, FpOk X pins H' b := fun hn b hb => ⟨hn b hb, (f2 b hb).2⟩
  refine codeAny_forLoop_any (fun n s' => ∃ i σ' H', Inv X pins σ' H' s' ∧ tn i s'.heap ∧ (∀ b ∈ fp, H' b = none) ∧ W i n σ' H') ?_ m0 ⟨0, σ, H2, I2, st2, fun b hb => (f2 b hb).1, w0⟩
  rintro n s3 ⟨i, σ3, H3, I3, st3, fr3, w3⟩
  rcases turn i n σ3 H3 w3 with ⟨stop, qn⟩ | ⟨go, N, hN, step⟩
  · refine wpAny_passesOwn hp (thn (T.done X rfl rfl rfl hc i pins s3 σ3 H3 X.xe I3 (stat fr3) st3 stop) fun r s4 ⟨hr, I4⟩ => ?_)
    subst hr
    exact wpAny_execs_nil ⟨σ3, H3, I4, qn⟩
  · refine wpAny_passesOwn hp (thn (T.item X rfl rfl rfl hc i pins s3 σ3 H3 X.xe I3 (stat fr3) st3 go) fun r s4 ⟨u, hr, h4⟩ => ?_)
    subst hr
    refine wpAny_passesOwn hp (thn h4 fun _ s5 ⟨x, H5, I5, r5, y5, st5, fr5⟩ => ?_)
    have I5' := I5.pinned (stat fr5) (T.obj _ _ st5)
    refine wpAny_passesOwn hp (thn (hg _ s5 σ3 H5 x u _ I5' r5 (step x H5 y5)) fun _ s6 ⟨σ6, H6, I6, q6⟩ => ?_)
    refine wpAny_passesOwn hp (thn (hb _ s6 σ6 H6 _ I6 q6) fun f s7 q7 => ?_)
    have again : ∀ {σ7 : St} {H7 : Hp}, Inv X (pins ++ pinsAt fp s5.heap) σ7 H7 s7 → N σ7 H7 → ∃ m, m < n ∧ ∃ i σ' H', Inv X pins σ' H' s7 ∧ tn i s7.heap ∧ (∀ b ∈ fp, H' b = none) ∧ W i m σ' H' := fun {σ7 H7} I7 n7 => by
      obtain ⟨m', hm, w7⟩ := hN σ7 H7 n7
      refine ⟨m', hm, i + 1, σ7, H7, I7.unpinned, T.keep _ _ _ st5 fun b hb o e => (I7.pin (b, o) (List.mem_append_right _ (List.mem_append_right _ (mem_pinsAt hb e)))).1, fun b hb => ?_, w7⟩
      obtain ⟨o, e, d⟩ := T.obj _ _ st5 b hb
      exact (I7.pin (b, o) (List.mem_append_right _ (List.mem_append_right _ (mem_pinsAt hb e)))).2.1
    cases f with
    | next => obtain ⟨σ7, H7, I7, n7⟩ := q7; exact again I7 n7
    | cont => obtain ⟨σ7, H7, I7, n7⟩ := q7; exact again I7 n7
    | brk => obtain ⟨σ7, H7, I7, q7⟩ := q7; exact ⟨σ7, H7, I7.unpinned, q7⟩
    | ret v => obtain ⟨x7, σ7, H7, I7, r7, q7⟩ := q7; exact ⟨x7, σ7, H7, I7.unpinned, r7, q7⟩
end

/-! ### the forms one uses -/
/-- over a list that the body leaves as it is -/
theorem for_list {K : PySem.W.Frag} {a : Addr} {xs : List V} {g : TG} {tb : TS} {D : Ends} {σ : St} {H : Hp} (Pv : Nat → St → Hp → Prop) (h0 : Pv 0 σ H) (hl : ∀ i σ H, i ≤ xs.length → Pv i σ H → SqL K H a xs)
    (hs : ∀ i x σ H, xs[i]? = some x → Pv i σ H → g x σ H fun σ2 H2 => tb { D with nx := Pv (i + 1), ct := Pv (i + 1), bk := D.nx } σ2 H2) (hd : ∀ σ H, Pv xs.length σ H → D.nx σ H) :
    ∃ W : Nat → Nat → St → Hp → Prop, (∃ m, W 0 m σ H) ∧ ∀ i m σ H, W i m σ H →
      ((Itl K a).stop i H ∧ D.nx σ H) ∨ ((Itl K a).go i H ∧ ∃ N : St → Hp → Prop, (∀ σ' H', N σ' H' → ∃ m', m' < m ∧ W (i + 1) m' σ' H') ∧ ∀ x H', (Itl K a).yld i H x H' → g x σ H' fun σ2 H2 => tb { D with nx := N, ct := N, bk := D.nx } σ2 H2) := by
  refine ⟨fun i m σ H => m = xs.length - i ∧ i ≤ xs.length ∧ Pv i σ H, ⟨xs.length, by simp, Nat.zero_le _, h0⟩, ?_⟩
  rintro i m σ H ⟨rfl, hi, p⟩
  have q := hl i σ H hi p
  by_cases hlt : i < xs.length
  · refine .inr ⟨⟨xs, xs[i], q, by simp [hlt]⟩, Pv (i + 1), fun σ' H' p' => ⟨xs.length - (i + 1), by omega, rfl, hlt, p'⟩, fun x H' y => ?_⟩
    obtain ⟨e, y⟩ := y
    subst e
    exact hs i x σ _ (y xs q) p
  · have e : i = xs.length := by omega
    subst e
    exact .inl ⟨⟨xs, q, Nat.le_refl _⟩, hd σ H p⟩
theorem for_tup {K : PySem.W.Frag} {a : Addr} {xs : List V} {g : TG} {tb : TS} {D : Ends} {σ : St} {H : Hp} (Pv : Nat → St → Hp → Prop) (h0 : Pv 0 σ H) (hl : ∀ i σ H, i ≤ xs.length → Pv i σ H → SqT K H a xs)
    (hs : ∀ i x σ H, xs[i]? = some x → Pv i σ H → g x σ H fun σ2 H2 => tb { D with nx := Pv (i + 1), ct := Pv (i + 1), bk := D.nx } σ2 H2) (hd : ∀ σ H, Pv xs.length σ H → D.nx σ H) :
    ∃ W : Nat → Nat → St → Hp → Prop, (∃ m, W 0 m σ H) ∧ ∀ i m σ H, W i m σ H →
      ((Itt K a).stop i H ∧ D.nx σ H) ∨ ((Itt K a).go i H ∧ ∃ N : St → Hp → Prop, (∀ σ' H', N σ' H' → ∃ m', m' < m ∧ W (i + 1) m' σ' H') ∧ ∀ x H', (Itt K a).yld i H x H' → g x σ H' fun σ2 H2 => tb { D with nx := N, ct := N, bk := D.nx } σ2 H2) := by
  refine ⟨fun i m σ H => m = xs.length - i ∧ i ≤ xs.length ∧ Pv i σ H, ⟨xs.length, by simp, Nat.zero_le _, h0⟩, ?_⟩
  rintro i m σ H ⟨rfl, hi, p⟩
  have q := hl i σ H hi p
  by_cases hlt : i < xs.length
  · refine .inr ⟨⟨xs, xs[i], q, by simp [hlt]⟩, Pv (i + 1), fun σ' H' p' => ⟨xs.length - (i + 1), by omega, rfl, hlt, p'⟩, fun x H' y => ?_⟩
    obtain ⟨e, y⟩ := y
    subst e
    exact hs i x σ _ (y xs q) p
  · have e : i = xs.length := by omega
    subst e
    exact .inl ⟨⟨xs, q, Nat.le_refl _⟩, hd σ H p⟩
theorem for_range {lo : Int} {n : Nat} {g : TG} {tb : TS} {D : Ends} {σ : St} {H : Hp} (Pv : Nat → St → Hp → Prop) (h0 : Pv 0 σ H)
    (hs : ∀ i σ H, i < n → Pv i σ H → g (.int (lo + i)) σ H fun σ2 H2 => tb { D with nx := Pv (i + 1), ct := Pv (i + 1), bk := D.nx } σ2 H2) (hd : ∀ σ H, Pv n σ H → D.nx σ H) :
    ∃ W : Nat → Nat → St → Hp → Prop, (∃ m, W 0 m σ H) ∧ ∀ i m σ H, W i m σ H →
      ((Itr lo n).stop i H ∧ D.nx σ H) ∨ ((Itr lo n).go i H ∧ ∃ N : St → Hp → Prop, (∀ σ' H', N σ' H' → ∃ m', m' < m ∧ W (i + 1) m' σ' H') ∧ ∀ x H', (Itr lo n).yld i H x H' → g x σ H' fun σ2 H2 => tb { D with nx := N, ct := N, bk := D.nx } σ2 H2) := by
  refine ⟨fun i m σ H => m = n - i ∧ i ≤ n ∧ Pv i σ H, ⟨n, by simp, Nat.zero_le _, h0⟩, ?_⟩
  rintro i m σ H ⟨rfl, hi, p⟩
  by_cases hlt : i < n
  · refine .inr ⟨hlt, Pv (i + 1), fun σ' H' p' => ⟨n - (i + 1), by omega, rfl, hlt, p'⟩, fun x H' y => ?_⟩
    obtain ⟨e, y⟩ := y
    subst e y
    exact hs i σ _ hlt p
  · have e : i = n := by omega
    subst e
    exact .inl ⟨Nat.le_refl _, hd σ H p⟩
end L2

namespace L2
open PySem PySem.Spec PyProof.Rows

abbrev R2 := V → V → Hp → VK → Prop
/-- a two-place operation on values: f is binaryOp op, inplaceOp op or compareOp op -/
def OpR (X : Cx) (f : Value → Value → Sem Value) (r : R2) : Prop :=
  ∀ (pins : List (Addr × Obj)) (s : Shared) (σ : St) (H : Hp) (x y : V) (v u : Value) (Q : VK), Inv X pins σ H s → RelV x v → RelV y u → r x y H Q →
    wpAny (model X.prog X.w) X.A (f v u) (EP X pins σ Q) X.xe s
/-- a call of a value that is known (a builtin, a type) with values -/
def CallR (X : Cx) (f : Value) (r : List V → Hp → VK → Prop) : Prop :=
  ∀ (pins : List (Addr × Obj)) (s : Shared) (σ : St) (H : Hp) (xs : List V) (us : List Value) (Q : VK), Inv X pins σ H s → Vals xs us → r xs H Q →
    wpAny (model X.prog X.w) X.A (call f us) (EP X pins σ Q) X.xe s
def tOp (r : R2) (ta tb : TE) : TE := fun σ H Q => ta σ H fun x H1 => tb σ H1 fun y H2 => r x y H2 Q
/-- ints in, under C, and a value out -/
def rI (C : Int → Int → Prop) (g : Int → Int → V) : R2 := fun x y H Q => ∃ i j, x = .int i ∧ y = .int j ∧ C i j ∧ Q (g i j) H
def rI0 (g : Int → Int → V) : R2 := fun x y H Q => ∃ i j, x = .int i ∧ y = .int j ∧ Q (g i j) H
section
variable {X : Cx} {a b c : Expr} {ta tb tc : TE} {pos : Pos}

theorem binT (ha : PE X a ta) (hb : PE X b tb) {pins : List (Addr × Obj)} {s : Shared} {σ : St} {H : Hp} {R : V → V → Hp → Prop} (I : Inv X pins σ H s)
    (h : ta σ H fun x H1 => tb σ H1 fun y H2 => R x y H2) {Q : Value → Shared → Prop} {f : Value → Value → Sem Value}
    (hf : ∀ v u s2 x y H2, Inv X pins σ H2 s2 → RelV x v → RelV y u → R x y H2 → wpAny (model X.prog X.w) X.A (f v u) Q X.xe s2) :
    wpAny (model X.prog X.w) X.A (eval a X.env) (fun v s₁ => wpAny (model X.prog X.w) X.A (eval b X.env) (fun u s₂ => wpAny (model X.prog X.w) X.A (f v u) Q X.xe s₂) X.xe s₁) X.xe s := by
  refine thn (ha pins s σ H _ I h) fun v s1 ⟨x, H1, I1, r1, q1⟩ => ?_
  refine thn (hb pins s1 σ H1 _ I1 q1) fun u s2 ⟨y, H2, I2, r2, q2⟩ => ?_
  exact hf v u s2 x y H2 I2 r1 r2 q2

theorem pe_op {op : Operator} {r : R2} (ho : OpR X (binaryOp op) r) (ha : PE X a ta) (hb : PE X b tb) : PE X (.BinOp a op b pos) (tOp r ta tb) := by
  intro pins s σ H Q I h
  exact wpAny_BinOp (binT ha hb I h fun v u s2 x y H2 I2 rx ry q => ho pins s2 σ H2 x y v u Q I2 rx ry q)
/-! ### ints -/
theorem opI {f : Value → Value → Sem Value} {C : Int → Int → Prop} {g : Int → Int → Int}
    (rule : ∀ (i j : Int) (t u : Tok) (s : Shared) (Q : Value → Shared → Prop) (E : Value → Shared → Prop), C i j → Q (.int (g i j) s.toks) { s with toks := s.toks + 1 } → wpAny (model X.prog X.w) X.A (f (.int i t) (.int j u)) Q E s) :
    OpR X f (rI C fun i j => .int (g i j)) := by
  intro pins s σ H x y v u Q I rx ry h
  obtain ⟨i, j, rfl, rfl, hc, q⟩ := h
  obtain ⟨t, rfl⟩ := rx
  obtain ⟨t', rfl⟩ := ry
  exact rule i j t t' s _ _ hc ⟨.int (g i j), H, I.tok _, ⟨_, rfl⟩, q⟩
theorem opI0 {f : Value → Value → Sem Value} {g : Int → Int → Int}
    (rule : ∀ (i j : Int) (t u : Tok) (s : Shared) (Q : Value → Shared → Prop) (E : Value → Shared → Prop), Q (.int (g i j) s.toks) { s with toks := s.toks + 1 } → wpAny (model X.prog X.w) X.A (f (.int i t) (.int j u)) Q E s) :
    OpR X f (rI0 fun i j => .int (g i j)) := by
  intro pins s σ H x y v u Q I rx ry h
  obtain ⟨i, j, rfl, rfl, q⟩ := h
  obtain ⟨t, rfl⟩ := rx
  obtain ⟨t', rfl⟩ := ry
  exact rule i j t t' s _ _ ⟨.int (g i j), H, I.tok _, ⟨_, rfl⟩, q⟩
theorem opB0 {f : Value → Value → Sem Value} {g : Int → Int → Bool}
    (rule : ∀ (i j : Int) (t u : Tok) (s : Shared) (Q : Value → Shared → Prop) (E : Value → Shared → Prop), Q (.bool (g i j)) s → wpAny (model X.prog X.w) X.A (f (.int i t) (.int j u)) Q E s) :
    OpR X f (rI0 fun i j => .bl (g i j)) := by
  intro pins s σ H x y v u Q I rx ry h
  obtain ⟨i, j, rfl, rfl, q⟩ := h
  obtain ⟨t, rfl⟩ := rx
  obtain ⟨t', rfl⟩ := ry
  exact rule i j t t' s _ _ ⟨.bl (g i j), H, I, rfl, q⟩

def CDiv (i j : Int) : Prop := 0 < j ∧ j < 1073741824
def CPow (i j : Int) : Prop := 0 ≤ j ∧ j ≤ 1000000 ∧ i.natAbs < 2 ^ 64
def CMul (i j : Int) : Prop := (-(2 ^ 64) < i ∧ i < 2 ^ 64) ∨ (-(2 ^ 64) < j ∧ j < 2 ^ 64)
theorem CMul.ok {i j : Int} (h : CMul i j) : IntMulOk i j := by
  rcases h with ⟨h1, h2⟩ | ⟨h1, h2⟩
  · exact .of_left (intBits_le_64 h1 h2)
  · exact .of_right (intBits_le_64 h1 h2)
theorem op_add : OpR X (binaryOp .Add) (rI0 fun i j => .int (i + j)) := opI0 fun _ _ _ _ _ _ _ q => add_int q
theorem op_sub : OpR X (binaryOp .Sub) (rI0 fun i j => .int (i - j)) := opI0 fun _ _ _ _ _ _ _ q => sub_int q
theorem op_mul : OpR X (binaryOp .Mult) (rI CMul fun i j => .int (i * j)) := opI fun _ _ _ _ _ _ _ hc q => mul_int q hc.ok
/-- // by a positive divisor -/
theorem op_fdiv : OpR X (binaryOp .FloorDiv) (rI CDiv fun i j => .int (i / j)) := opI fun i j _ _ _ _ _ hc q => by
  have h1 : (0 : Int) < j := hc.1
  have h2 : j < 1073741824 := hc.2
  exact floordiv_int (by omega) (by rw [Int.fdiv_eq_ediv_of_nonneg i (by omega)]; exact q) (.inl (PyProof.noPylong_small (by omega)))
/-- % by a positive divisor of any size -/
theorem op_mod : OpR X (binaryOp .Mod) (rI (fun _ j => 0 < j) fun i j => .int (i % j)) := opI fun i j _ _ _ _ _ hc q => by
  have h1 : (0 : Int) < j := hc
  exact mod_int' (by omega) (by rw [Int.fmod_eq_emod_of_nonneg i (by omega)]; exact q)
theorem op_pow : OpR X (binaryOp .Pow) (rI CPow fun i j => .int (i ^ j.toNat)) := opI fun _ _ _ _ _ _ _ hc q => pow_int_small hc.1 hc.2.1 hc.2.2 q
/-! ### bools among ints: n += (a < b) -/
end

/-! ### comparisons -/
/-- the scalars that == tells apart as data does -/
def scal : V → V → Bool
  | .non, .non => true | .non, .int _ => true | .int _, .non => true | .non, .bl _ => true | .bl _, .non => true | .non, .str _ => true | .str _, .non => true
  | .int _, .int _ => true | .bl _, .bl _ => true | .str _, .str _ => true | .byt _, .byt _ => true
  | .int _, .str _ => true | .str _, .int _ => true | .bl _, .str _ => true | .str _, .bl _ => true
  | _, _ => false
def rEq : R2 := fun x y H Q => scal x y = true ∧ Q (.bl (decide (x = y))) H
def rNe : R2 := fun x y H Q => scal x y = true ∧ Q (.bl (!decide (x = y))) H

theorem dec_int {i j : Int} : decide (V.int i = V.int j) = (i == j) := by
  rw [Bool.eq_iff_iff]
  simp
theorem dec_bl {i j : Bool} : decide (V.bl i = V.bl j) = (i == j) := by
  rw [Bool.eq_iff_iff]
  simp
theorem dec_str {i j : Str} : decide (V.str i = V.str j) = (i == j) := by
  rw [Bool.eq_iff_iff]
  simp
theorem dec_byt {i j : Array UInt8} : decide (V.byt i = V.byt j) = (i.toList == j.toList) := by
  rw [Bool.eq_iff_iff]
  cases i
  cases j
  simp

section
variable {X : Cx} {a b c : Expr} {ta tb tc : TE} {pos : Pos}
theorem fin_bl {pins : List (Addr × Obj)} {σ : St} {H : Hp} {s : Shared} {Q : VK} {k k' : Bool} (I : Inv X pins σ H s) (q : Q (.bl k) H) (e : k = k') : EP X pins σ Q (.bool k') s := by
  subst e
  exact ⟨.bl k, H, I, rfl, q⟩
theorem op_eq : OpR X (compareOp .Eq) rEq := by
  intro pins s σ H x y v u Q I rx ry h
  obtain ⟨hs, q⟩ := h
  cases x with
  | non =>
    cases rx
    cases y with
    | non => cases ry; exact PySem.EqNone.eq_none_none (fin_bl I q (by simp))
    | bl j => cases ry; exact PySem.EqNone.eq_none_bool (fin_bl I q (by simp))
    | int j => obtain ⟨t', rfl⟩ := ry; exact PySem.EqNone.eq_none_int (fin_bl I q (by simp))
    | str j => obtain ⟨t', rfl⟩ := ry; exact PySem.EqNone.eq_none_str (fin_bl I q (by simp))
    | _ => exact absurd (show false = true from hs) Bool.false_ne_true
  | bl i =>
    cases rx
    cases y with
    | non => cases ry; exact PySem.EqNone.eq_bool_none (fin_bl I q (by simp))
    | bl j => cases ry; exact eq_bool (fin_bl I q dec_bl)
    | str j => obtain ⟨t', rfl⟩ := ry; exact PySem.EqMixed.eq_bool_str (fin_bl I q (by simp))
    | _ => exact absurd (show false = true from hs) Bool.false_ne_true
  | int i =>
    obtain ⟨t, rfl⟩ := rx
    cases y with
    | non => cases ry; exact PySem.EqNone.eq_int_none (fin_bl I q (by simp))
    | int j => obtain ⟨t', rfl⟩ := ry; exact eq_int (fin_bl I q dec_int)
    | str j => obtain ⟨t', rfl⟩ := ry; exact PySem.EqMixed.eq_int_str (fin_bl I q (by simp))
    | _ => exact absurd (show false = true from hs) Bool.false_ne_true
  | str i =>
    obtain ⟨t, rfl⟩ := rx
    cases y with
    | non => cases ry; exact PySem.EqNone.eq_str_none (fin_bl I q (by simp))
    | bl j => cases ry; exact PySem.EqMixed.eq_str_bool (fin_bl I q (by simp))
    | int j => obtain ⟨t', rfl⟩ := ry; exact PySem.EqMixed.eq_str_int (fin_bl I q (by simp))
    | str j => obtain ⟨t', rfl⟩ := ry; exact eq_str (fin_bl I q dec_str)
    | _ => exact absurd (show false = true from hs) Bool.false_ne_true
  | byt i =>
    obtain ⟨t, rfl⟩ := rx
    cases y with
    | byt j => obtain ⟨t', rfl⟩ := ry; exact PySem.W.eq_bytes (fin_bl I q dec_byt)
    | _ => exact absurd (show false = true from hs) Bool.false_ne_true
  | _ => cases y <;> exact absurd (show false = true from hs) Bool.false_ne_true
theorem op_ne : OpR X (compareOp .NotEq) rNe := by
  intro pins s σ H x y v u Q I rx ry h
  obtain ⟨hs, q⟩ := h
  cases x with
  | non =>
    cases rx
    cases y with
    | non => cases ry; exact PySem.EqNone.ne_none_none (fin_bl I q (by simp))
    | bl j => cases ry; exact PySem.EqNone.ne_none_bool (fin_bl I q (by simp))
    | int j => obtain ⟨t', rfl⟩ := ry; exact PySem.EqNone.ne_none_int (fin_bl I q (by simp))
    | str j => obtain ⟨t', rfl⟩ := ry; exact PySem.EqNone.ne_none_str (fin_bl I q (by simp))
    | _ => exact absurd (show false = true from hs) Bool.false_ne_true
  | bl i =>
    cases rx
    cases y with
    | non => cases ry; exact PySem.EqNone.ne_bool_none (fin_bl I q (by simp))
    | bl j => cases ry; exact ne_bool (fin_bl I q (congrArg not dec_bl))
    | str j => obtain ⟨t', rfl⟩ := ry; exact PySem.EqMixed.ne_bool_str (fin_bl I q (by simp))
    | _ => exact absurd (show false = true from hs) Bool.false_ne_true
  | int i =>
    obtain ⟨t, rfl⟩ := rx
    cases y with
    | non => cases ry; exact PySem.EqNone.ne_int_none (fin_bl I q (by simp))
    | int j => obtain ⟨t', rfl⟩ := ry; exact ne_int (fin_bl I q (congrArg not dec_int))
    | str j => obtain ⟨t', rfl⟩ := ry; exact PySem.EqMixed.ne_int_str (fin_bl I q (by simp))
    | _ => exact absurd (show false = true from hs) Bool.false_ne_true
  | str i =>
    obtain ⟨t, rfl⟩ := rx
    cases y with
    | non => cases ry; exact PySem.EqNone.ne_str_none (fin_bl I q (by simp))
    | bl j => cases ry; exact PySem.EqMixed.ne_str_bool (fin_bl I q (by simp))
    | int j => obtain ⟨t', rfl⟩ := ry; exact PySem.EqMixed.ne_str_int (fin_bl I q (by simp))
    | str j => obtain ⟨t', rfl⟩ := ry; exact ne_str (fin_bl I q (congrArg not dec_str))
    | _ => exact absurd (show false = true from hs) Bool.false_ne_true
  | byt i =>
    obtain ⟨t, rfl⟩ := rx
    cases y with
    | byt j => obtain ⟨t', rfl⟩ := ry; exact PySem.W.ne_bytes (fin_bl I q (congrArg not dec_byt))
    | _ => exact absurd (show false = true from hs) Bool.false_ne_true
  | _ => cases y <;> exact absurd (show false = true from hs) Bool.false_ne_true

theorem op_lt : OpR X (compareOp .Lt) (rI0 fun i j => .bl (decide (i < j))) := opB0 fun _ _ _ _ _ _ _ q => lt_int q
theorem op_gt : OpR X (compareOp .Gt) (rI0 fun i j => .bl (decide (j < i))) := opB0 fun _ _ _ _ _ _ _ q => gt_int q
theorem op_ge : OpR X (compareOp .GtE) (rI0 fun i j => .bl (decide (j ≤ i))) := opB0 fun _ _ _ _ _ _ _ q => ge_int q
/-- is None, is not None: the right side a value none -/
theorem op_isN : OpR X (compareOp .Is) (fun x y H Q => y = .non ∧ Q (.bl (decide (x = .non))) H) := by
  intro pins s σ H x y v u Q I rx ry h
  obtain ⟨rfl, q⟩ := h
  cases ry
  refine is_none_gen (fin_bl I q ?_)
  cases x <;> first
    | (cases rx; rfl)
    | (obtain ⟨t, rfl⟩ := rx; rfl)
theorem op_notN : OpR X (compareOp .IsNot) (fun x y H Q => y = .non ∧ Q (.bl (!decide (x = .non))) H) := by
  intro pins s σ H x y v u Q I rx ry h
  obtain ⟨rfl, q⟩ := h
  cases ry
  refine isnot_none_gen (fin_bl I q ?_)
  cases x <;> first
    | (cases rx; rfl)
    | (obtain ⟨t, rfl⟩ := rx; rfl)

theorem nomark (b : Expr) {op : CmpOp} (h : op ≠ .In := by decide) (h2 : op ≠ .NotIn := by decide) : behindInMarks op b = false := by
  have e1 : (op == CmpOp.In) = false := by cases op <;> first | rfl | exact absurd rfl h
  have e2 : (op == CmpOp.NotIn) = false := by cases op <;> first | rfl | exact absurd rfl h2
  cases b <;> simp [behindInMarks, e1, e2]
/-- a comparison as a value; hm: nomark b, or (for in, not in) by with_unfolding_all rfl -/
theorem pe_cmpR {op : CmpOp} {r : R2} (ho : OpR X (compareOp op) r) (ha : PE X a ta) (hb : PE X b tb) (hm : behindInMarks op b = false) : PE X (.Compare a [op] [b] pos) (tOp r ta tb) := by
  intro pins s σ H Q I h
  exact wpAny_Compare1 (binT ha hb I h fun v u s2 x y H2 I2 rx ry q => ho pins s2 σ H2 x y v u Q I2 rx ry q) hm
/-- a reading of a value as a test -/
def tTest (t : TE) : TT := fun σ H Q => t σ H fun x H' => ∃ k, x = .bl k ∧ Q k H'
theorem pt_cmpR {op : CmpOp} {r : R2} (ho : OpR X (compareOp op) r) (ha : PE X a ta) (hb : PE X b tb) (hm : behindInMarks op b = false) : PT X (.Compare a [op] [b] pos) (tTest (tOp r ta tb)) := by
  intro pins s σ H Q I h
  refine wpAny_isTrue_Compare1 (thn (ha pins s σ H _ I h) fun v s1 ⟨x, H1, I1, r1, q1⟩ => thn (hb pins s1 σ H1 _ I1 q1) fun u s2 ⟨y, H2, I2, r2, q2⟩ =>
    thn (ho pins s2 σ H2 x y v u _ I2 r1 r2 q2) fun c s3 ⟨z, H3, I3, r3, k, e, q3⟩ => ?_) hm
  subst e
  cases r3
  exact wpAny_truthy_bool ⟨H3, I3, q3⟩
/-! ### truth -/
theorem line63 : (sizeLine : Nat) < 2 ^ 63 := by rw [sizeLine_eq]; decide
/-! ### strs and bytes -/
theorem op_add_str : OpR X (binaryOp .Add) (fun x y H Q => ∃ i j, x = .str i ∧ y = .str j ∧ i.length + j.length ≤ sizeLine ∧ Q (.str (i ++ j)) H) := by
  intro pins s σ H x y v u Q I rx ry h
  obtain ⟨i, j, rfl, rfl, hz, q⟩ := h
  obtain ⟨t, rfl⟩ := rx
  obtain ⟨t', rfl⟩ := ry
  exact add_str (fun t' tk => ⟨.str (i ++ j), H, I.tok _, ⟨_, rfl⟩, q⟩) hz
/-! ### scalar builtins, by CallR -/
theorem vals1 {x : V} {us : List Value} (r : Vals [x] us) : ∃ u, us = [u] ∧ RelV x u := by
  cases r with
  | cons r1 r2 => cases r2; exact ⟨_, rfl, r1⟩
theorem vals2 {x y : V} {us : List Value} (r : Vals [x, y] us) : ∃ u w', us = [u, w'] ∧ RelV x u ∧ RelV y w' := by
  cases r with
  | cons r1 r2 =>
    cases r2 with
    | cons r3 r4 => cases r4; exact ⟨_, _, rfl, r1, r3⟩
theorem call_abs : CallR X (.builtin "abs") (fun xs H Q => ∃ i, xs = [.int i] ∧ Q (.int (if i < 0 then -i else i)) H) := by
  intro pins s σ H xs us Q I r h
  obtain ⟨i, rfl, q⟩ := h
  obtain ⟨u, rfl, t, rfl⟩ := vals1 r
  exact call_abs_int fun u tk => ⟨.int (if i < 0 then -i else i), H, I.tok _, ⟨_, rfl⟩, q⟩
theorem call_max2 (hc : X.calm = true) : CallR X (.builtin "max") (fun xs H Q => ∃ i j, xs = [.int i, .int j] ∧ Q (.int (if j > i then j else i)) H) := by
  intro pins s σ H xs us Q I r h
  obtain ⟨i, j, rfl, q⟩ := h
  obtain ⟨u, w', rfl, ⟨t, rfl⟩, ⟨t', rfl⟩⟩ := vals2 r
  refine max_two_ints (I.ok.hd hc) fun h' tk k => ⟨_, H, I.kept k, ?_, q⟩
  by_cases hj : j > i
  · rw [if_pos hj, if_pos hj]; exact ⟨_, rfl⟩
  · rw [if_neg hj, if_neg hj]; exact ⟨_, rfl⟩
theorem call_min2 (hc : X.calm = true) : CallR X (.builtin "min") (fun xs H Q => ∃ i j, xs = [.int i, .int j] ∧ Q (.int (if j < i then j else i)) H) := by
  intro pins s σ H xs us Q I r h
  obtain ⟨i, j, rfl, q⟩ := h
  obtain ⟨u, w', rfl, ⟨t, rfl⟩, ⟨t', rfl⟩⟩ := vals2 r
  refine min_two_ints (I.ok.hd hc) fun h' tk k => ⟨_, H, I.kept k, ?_, q⟩
  by_cases hj : j < i
  · rw [if_pos hj, if_pos hj]; exact ⟨_, rfl⟩
  · rw [if_neg hj, if_neg hj]; exact ⟨_, rfl⟩
theorem call_int1 : CallR X (.type "int") (fun xs H Q => (∃ i, xs = [.int i] ∧ Q (.int i) H) ∨ ∃ k, xs = [.bl k] ∧ Q (.int (if k then 1 else 0)) H) := by
  intro pins s σ H xs us Q I r h
  rcases h with ⟨i, rfl, q⟩ | ⟨k, rfl, q⟩
  · obtain ⟨u, rfl, t, rfl⟩ := vals1 r
    exact call_int_int ⟨.int i, H, I, ⟨_, rfl⟩, q⟩
  · obtain ⟨u, rfl, r1⟩ := vals1 r
    cases r1
    exact call_int_bool ⟨.int (if k then 1 else 0), H, I.tok _, ⟨_, rfl⟩, q⟩
/-- len of a str, a bytes, a list, a tuple -/
def LenV (K : PySem.W.Frag) (x : V) (H : Hp) (n : Nat) : Prop :=
  match x with
  | .str y => y.length ≤ sizeLine ∧ n = y.length
  | .byt y => y.size ≤ sizeLine ∧ n = y.size
  | .ref p => (∃ xs, SqL K H p xs ∧ n = xs.length) ∨ ∃ xs, SqT K H p xs ∧ n = xs.length
  | _ => False
theorem call_len : CallR X (.builtin "len") (fun xs H Q => ∃ x n, xs = [x] ∧ LenV X.K x H n ∧ Q (.int n) H) := by
  intro pins s σ H xs us Q I r h
  obtain ⟨x, n, rfl, e, q⟩ := h
  obtain ⟨u, rfl, rx⟩ := vals1 r
  have hl := line63
  have hs : sizeLine = 16777216 := sizeLine_eq
  cases x with
  | str y =>
    obtain ⟨t, rfl⟩ := rx
    obtain ⟨hy, e'⟩ : y.length ≤ sizeLine ∧ n = y.length := e
    subst e'
    exact len_str (by omega) ⟨.int _, H, I.tok _, ⟨_, rfl⟩, q⟩
  | byt y =>
    obtain ⟨t, rfl⟩ := rx
    obtain ⟨hy, e'⟩ : y.size ≤ sizeLine ∧ n = y.size := e
    subst e'
    exact PySem.W.len_bytes (by omega) ⟨.int _, H, I.tok _, ⟨_, rfl⟩, q⟩
  | ref p =>
    cases rx
    have e' : (∃ xs, SqL X.K H p xs ∧ n = xs.length) ∨ ∃ xs, SqT X.K H p xs ∧ n = xs.length := e
    rcases e' with ⟨xs, hx, e'⟩ | ⟨xs, hx, e'⟩
    · subst e'
      obtain ⟨its, r', pl, hz⟩ := I.list hx
      have hlen := r'.length
      exact Calls.call_len_list pl.isList (by simp only [List.size_toArray]; omega) ⟨.int xs.length, H, I.tok _, ⟨_, by simp only [List.size_toArray]; rw [hlen]⟩, q⟩
    · subst e'
      obtain ⟨its, r', pl, hz⟩ := I.tuple hx
      have hlen := r'.length
      exact len_tuple pl (by simp only [List.size_toArray]; omega) ⟨.int xs.length, H, I.tok _, ⟨_, by simp only [List.size_toArray]; rw [hlen]⟩, q⟩
  | _ => exact (show False from e).elim
/-- divmod: a new tuple -/
theorem call_divmod : CallR X (.builtin "divmod") (fun xs H Q => ∃ i j, xs = [.int i, .int j] ∧ CDiv i j ∧ ∀ p, H p = none → Q (.ref p) (upd H p (.tup [.int (i / j), .int (i % j)]))) := by
  intro pins s σ H xs us Q I r h
  obtain ⟨i, j, rfl, ⟨h1, h2⟩, q⟩ := h
  obtain ⟨u, w', rfl, ⟨t, rfl⟩, ⟨t', rfl⟩⟩ := vals2 r
  refine divmod_int (by omega) ?_ (.inl (PyProof.noPylong_small (by omega)))
  rw [Int.fdiv_eq_ediv_of_nonneg i (by omega), Int.fmod_eq_emod_of_nonneg i (by omega)]
  have hn : H s.heap.objs.size = none := I.hok.fresh (Nat.le_refl _)
  refine ⟨.ref s.heap.objs.size, _, ?_, rfl, q _ hn⟩
  refine I.laid (fun b o e => Heap.get?_push_of_some _ e) (Nat.le_refl _) ⟨by simp only [List.length_cons, List.length_nil]; rw [sizeLine_eq]; decide, [.int (i / j) s.toks, .int (i % j) (s.toks + 1)], .cons ⟨_, rfl⟩ (.cons ⟨_, rfl⟩ .nil), ?_⟩
  exact ⟨_, Heap.get?_push_size s.heap rfl, rfl, ⟨0, rfl⟩, rfl⟩
end
end L2

namespace L2
open PySem PySem.Spec PyProof.Rows

/-! ### an instance, its attributes a map -/
structure ObjM (h : Heap) (x dx C : Addr) (mA : Str → Option Value) : Prop where
  obj : h.get? x = some (PySem.W.instObj C dx)
  ns : h.Ns1 dx mA
  ne : dx ≠ x

theorem lookIn_ns {h : Heap} {dx : Addr} {mA : Str → Option Value} (n : h.Ns1 dx mA) : ∃ od, h.get? dx = some od ∧ ∀ name, PySem.W.lookIn name od = some (mA name) := by
  obtain ⟨o, es, ep, ho, hd, hk, _, hm⟩ := n
  refine ⟨o, ho, fun name => ?_⟩
  have e := hm name
  unfold nsFind findBy at e
  rw [← Array.find?_toList] at e
  unfold PySem.W.lookIn
  rw [hd]
  dsimp only
  split
  · rename_i y q
    rw [q] at e
    exact congrArg some e
  · rename_i q
    rw [q] at e
    have a : es.toList.any (·.refKey) = false := by
      rw [List.any_eq_false]
      intro y hy
      obtain ⟨z, t, hkey⟩ := hk y (Array.mem_toList_iff.mp hy)
      simp [DictEntry.refKey, hkey]
    have a' : ¬ es.toList.any (·.refKey) = true := by rw [a]; exact Bool.false_ne_true
    rw [if_neg a']
    exact congrArg some e

theorem ObjM.look {h : Heap} {x dx C : Addr} {mA : Str → Option Value} (I : ObjM h x dx C mA) : ∃ od, PySem.W.InstAt h x (PySem.W.instObj C dx) C (some od) ∧ ∀ name, PySem.W.lookIn name od = some (mA name) :=
  let ⟨od, ho, hl⟩ := lookIn_ns I.ns
  ⟨od, ⟨I.obj, rfl, rfl, ho⟩, hl⟩

section
variable {prog : Program} {w : World} {A : Around} {E : Value → Shared → Prop} {s : Shared} {K : PySem.W.Frag} {x dx C f : Addr} {mA : Str → Option Value} {name : Str} {v : Value}

end

/-! ### the attributes as a list of pairs -/
theorem RelO.some_of {v : V} {o : Option Value} (r : RelO (some v) o) : ∃ u, o = some u ∧ RelV v u := by
  cases o with
  | none => exact (show False from r).elim
  | some u => exact ⟨u, rfl, r⟩
section
variable {P : Program} {w : World} {H H' : Hp} {h h' : Heap} {a C dx : Addr} {fs fs' : List (Str × V)}
theorem ins_get (hok : HOk P w H h) (e : H a = some (.ins C dx fs)) : ∃ mA, ObjM h a dx C mA ∧ (∀ f, RelO (fs.lookup f) (mA f)) ∧ PySem.Within mA (fs.map (·.1)) ∧ fs.length ≤ 1000 ∧ H dx = some (.own a) := by
  obtain ⟨d, z, ne, ob, mA, n, r, q⟩ := (show ObjOk P w H h a (.ins C dx fs) from hok a _ e)
  exact ⟨mA, ⟨ob, n, ne⟩, r, q, z, d⟩
end

/-! ### what of the text a class must have -/
structure Cls (K : PySem.W.Frag) (C : Addr) : Prop where
  pg : PySem.W.plainGet K C Str.empty = true
  hd : PySem.W.hasDictIn K C = true
  po : PySem.W.plainOver K C = true
  sa : PySem.W.findIn K (.ref C) "__setattr__" = some (some (.builtin "object.__setattr__"))
theorem Cls.get {K : PySem.W.Frag} {C : Addr} (c : Cls K C) (f : Str) : PySem.W.plainGet K C f = true := c.pg
section
variable {X : Cx} {pins : List (Addr × Obj)} {σ : St} {H : Hp} {s : Shared} {a C dx : Addr} {fs : List (Str × V)} {f : Str} {v : V} {A : Around} {E : Value → Shared → Prop}

end

/-! ### readings and rules -/
section
variable {X : Cx} {o e value : Expr} {f : Str} {pos pos' tpos : Pos} {ta tv : TE}
end

/-! ### isinstance -/
section
variable {X : Cx} {pins : List (Addr × Obj)} {σ : St} {H : Hp} {s : Shared} {A : Around} {E : Value → Shared → Prop} {Q : Value → Shared → Prop} {c : Value} {b : Bool}
/-- the type of a value, as the fragment's deciders take it; for an instance its class -/
inductive TyOf (K : PySem.W.Frag) (H : Hp) : V → Value → Prop where
  | non : TyOf K H .non (.type "NoneType")
  | bl (x : Bool) : TyOf K H (.bl x) (.type "bool")
  | int (i : Int) : TyOf K H (.int i) (.type "int")
  | str (x : Str) : TyOf K H (.str x) (.type "str")
  | flt (x : UInt64) : TyOf K H (.flt x) (.type "float")
  | lst {a : Addr} {xs : List V} (e : H a = some (.lst xs)) : TyOf K H (.ref a) (.type "list")
  | frz {a : Addr} {o : Obj} {xs : List V} (e : H a = some (.frz o (.lst xs))) : TyOf K H (.ref a) (.type "list")
  | tup {a : Addr} {xs : List V} (e : H a = some (.tup xs)) : TyOf K H (.ref a) (.type "tuple")
  | dK {a : Addr} {kvs : List (Key × V)} (e : H a = some (.dK kvs)) : TyOf K H (.ref a) (.type "dict")
  | dT {a : Addr} {kvs : List (List Key × V)} (e : H a = some (.dT kvs)) : TyOf K H (.ref a) (.type "dict")
  | ins {a C dx : Addr} {fs : List (Str × V)} (e : H a = some (.ins C dx fs)) (cl : Cls K C) (ha : PySem.W.findIn K (.ref C) "__class__" = some (some (.builtin "object.__class__")))
      (hn : PySem.W.specialIn K (.builtin "object.__class__") "__get__" = some (some (.builtin "getset_descriptor.__get__"))) (htk : PySem.W.takesIn K (.builtin "object.__class__") = some true)
      (hm : PySem.W.mroIn K C (.type "object") = some true) : TyOf K H (.ref a) (.ref C)
/-- isinstance(x, c) for one class c, a built-in or an own one: kitOne's answer -/
theorem isinst_ok {x : V} {u t : Value} (I : Inv X pins σ H s) (rx : RelV x u) (ty : TyOf X.K H x t) (e : PySem.W.kitOne X.K t c = some b) (h : ∀ tk, Q (.bool b) { s with toks := tk }) :
    wpAny (model X.prog X.w) A (call (.builtin "isinstance") [u, c]) Q E s := by
  cases ty with
  | non => cases (show u = Value.none from rx); exact PySem.W.kia_one PySem.W.kitx_none I.kIn True.intro e (fun z => nomatch z) h
  | bl y => cases (show u = Value.bool y from rx); exact PySem.W.kia_one PySem.W.kitx_bool I.kIn True.intro e (fun z => nomatch z) h
  | int i => obtain ⟨t, q⟩ := (show ∃ t, u = Value.int i t from rx); cases q; exact PySem.W.kia_one PySem.W.kitx_int I.kIn True.intro e (fun z => nomatch z) h
  | str y => obtain ⟨t, q⟩ := (show ∃ t, u = Value.str y t from rx); cases q; exact PySem.W.kia_one PySem.W.kitx_str I.kIn True.intro e (fun z => nomatch z) h
  | flt y => obtain ⟨t, q⟩ := (show ∃ t, u = Value.float y t from rx); cases q; exact PySem.W.kia_one PySem.W.kitx_float I.kIn True.intro e (fun z => nomatch z) h
  | @lst a xs ea =>
    cases (show u = Value.ref a from rx)
    obtain ⟨_, _, n, _, h1⟩ := (show ObjOk X.prog X.w H s.heap a (.lst xs) from I.hok a _ ea)
    exact PySem.W.kia_one PySem.W.kitx_list I.kIn ⟨_, h1, rfl⟩ e (fun z => nomatch z) h
  | @frz a ob xs ea =>
    cases (show u = Value.ref a from rx)
    obtain ⟨_, _, _, n, _, h1⟩ := (show ObjOk X.prog X.w H s.heap a (.frz ob (.lst xs)) from I.hok a _ ea)
    exact PySem.W.kia_one PySem.W.kitx_list I.kIn ⟨_, h1, rfl⟩ e (fun z => nomatch z) h
  | @tup a xs ea =>
    cases (show u = Value.ref a from rx)
    obtain ⟨_, _, _, p⟩ := (show ObjOk X.prog X.w H s.heap a (.tup xs) from I.hok a _ ea)
    obtain ⟨o, h1, h2, _⟩ := p
    exact PySem.W.kia_one PySem.W.kitx_tuple I.kIn ⟨o, h1, h2⟩ e (fun z => nomatch z) h
  | @dK a kvs ea =>
    cases (show u = Value.ref a from rx)
    obtain ⟨_, _, vs, _, p⟩ := (show ObjOk X.prog X.w H s.heap a (.dK kvs) from I.hok a _ ea)
    obtain ⟨o, es, ep, h1, h2, _⟩ := p
    exact PySem.W.kia_one PySem.W.kitx_dict I.kIn ⟨o, h1, h2.1⟩ e (fun z => nomatch z) h
  | @dT a kvs ea =>
    cases (show u = Value.ref a from rx)
    obtain ⟨_, _, xs, _, o, es, ep, h1, h2, _⟩ := (show ObjOk X.prog X.w H s.heap a (.dT kvs) from I.hok a _ ea)
    exact PySem.W.kia_one PySem.W.kitx_dict I.kIn ⟨o, h1, h2.1⟩ e (fun z => nomatch z) h
  | @ins a C dx fs ea cl ha hn htk hm =>
    cases (show u = Value.ref a from rx)
    obtain ⟨mA, O, _⟩ := ins_get I.hok ea
    obtain ⟨od, J, _⟩ := O.look
    exact PySem.W.kia_one (PySem.W.kitx_own (cl.get _) cl.hd ha hn htk hm) I.kIn J e (fun z => nomatch z) h
end
end L2

namespace L2
open PySem PySem.Spec PyProof.Rows

/-! ### room -/
structure Room (k : Nat) (A : Around) : Prop where
  hd : A.handled = none
  dp : A.depth + 3 * k + 5 < recursionLimit
  un : A.units + 16 * k + 200 < cLine
theorem Room.mono {j k : Nat} {A : Around} (r : Room k A) (h : j ≤ k) : Room j A := ⟨r.hd, by have := r.dp; omega, by have := r.un; omega⟩
theorem Room.deeper {k : Nat} {A : Around} (r : Room (k + 1) A) (env : Env) : Room k (A.deeper env) :=
  ⟨r.hd, by have := r.dp; show A.depth + 1 + 3 * k + 5 < _; omega, by have := r.un; show A.units + 3 + 16 * k + 200 < _; omega⟩
theorem Room.depth {k : Nat} {A : Around} (r : Room k A) : A.depth < recursionLimit := by have := r.dp; omega
theorem Room.units {k : Nat} {A : Around} (r : Room k A) : A.units + 64 < cLine := by have := r.un; omega
/-! ### argument lists and displays -/
def tNil : TA := fun _ H Q => Q [] H
def tCons (ta : TE) (tr : TA) : TA := fun σ H Q => ta σ H fun x H1 => tr σ H1 fun xs H2 => Q (x :: xs) H2
section
variable {X : Cx} {e : Expr} {es : List Expr} {te : TE} {t : TA} {pos : Pos}
theorem pa_nil : PA X [] tNil := fun _ _ _ _ H Q I h => Calls.spliced_nil ⟨[], H, I, .nil, h⟩
theorem pa_cons (ha : PE X e te) (hr : PA X es t) (hs : starEach (e :: es) X.env = (false, eval e X.env) :: starEach es X.env := by rfl) : PA X (e :: es) (tCons te t) := by
  intro pos pins s σ H Q I h
  rw [hs]
  show wpAny _ _ (spliced ((false, eval e X.env) :: backTo pos (starEach es X.env))) _ _ s
  refine Calls.spliced_cons (thn (ha pins s σ H _ I h) fun u s1 ⟨x, H1, I1, r1, q1⟩ => ?_)
  exact thn (hr pos pins s1 σ H1 _ I1 q1) fun us s2 ⟨xs, H2, I2, r2, q2⟩ => ⟨x :: xs, H2, I2, .cons r1 r2, q2⟩

/-- a tuple, a list of written items -/
def tTup (t : TA) : TE := fun σ H Q => t σ H fun xs H1 => xs.length ≤ sizeLine ∧ ∀ p, H1 p = none → Q (.ref p) (upd H1 p (.tup xs))
def tLst (t : TA) : TE := fun σ H Q => t σ H fun xs H1 => xs.length ≤ sizeLine ∧ ∀ p, H1 p = none → Q (.ref p) (upd H1 p (.lst xs))
theorem pe_tup {x1} (h : PA X es t) : PE X (.Tuple es x1 pos) (tTup t) := by
  intro pins s σ H Q I hq
  refine wpAny_Tuple_spliced (thn (h pos pins s σ H _ I hq) fun us s1 ⟨xs, H1, I1, r, z, q⟩ => ⟨by rw [← r.length]; exact z, ?_⟩)
  have hf : H1 s1.heap.objs.size = none := I1.hok.fresh (Nat.le_refl _)
  refine ⟨.ref s1.heap.objs.size, upd H1 s1.heap.objs.size (.tup xs), I1.laid (t' := s1.toks) (fun b u e => Heap.get?_push_of_some _ e) (Nat.le_refl _) ?_, rfl, q _ hf⟩
  exact ⟨z, us, r, ⟨_, Heap.get?_push_size _ rfl, rfl, ⟨_, rfl⟩, rfl⟩⟩
theorem pe_lst (h : PA X es t) : PE X (.List es pos) (tLst t) := by
  intro pins s σ H Q I hq
  refine wpAny_List_spliced (thn (h pos pins s σ H _ I hq) fun us s1 ⟨xs, H1, I1, r, z, q⟩ => ⟨by rw [← r.length]; exact z, ?_⟩)
  have hf : H1 s1.heap.objs.size = none := I1.hok.fresh (Nat.le_refl _)
  refine ⟨.ref s1.heap.objs.size, upd H1 s1.heap.objs.size (.lst xs), I1.laid (t' := s1.toks) (fun b u e => Heap.get?_push_of_some _ e) (Nat.le_refl _) ?_, rfl, q _ hf⟩
  exact ⟨z, us, 0, r, Heap.get?_push_size _ rfl⟩
end

/-! ### what a def promises -/
/-- a def's promise: the bound arguments in the parameters' order, the heap, the wanted end, the wanted exception -/
abbrev Sp := List V → Hp → VK → XK → Prop
/-- how an exception lies behind a call (file 08 gives it): the callers' frames, abstract heap and state ahead of the call, the wish, the exception, the state -/
abbrev CXT := List Env → Hp → Shared → XK → Value → Shared → Prop

/-- the state at a call -/
structure Env0 (P : Program) (w : World) (K : PySem.W.Frag) (mg : Str → Option Value) (base : Heap) (A : Around) (outer : List Env) (s : Shared) (H : Hp) : Prop where
  frames : A.frames = some outer
  mod : Mod K mg base
  bs : ∀ b o, base.get? b = some o → s.heap.get? b = some o ∧ H b = none
  bsz : base.objs.size ≤ s.heap.objs.size
  funs : s.heap.FunFrames base outer
  frf : ∀ b ∈ frs outer, H b = none
  hok : HOk P w H s.heap
  bare : AllBare s.gens
/-- a call's end -/
def CE (outer : List Env) (P : Program) (w : World) (H : Hp) (s : Shared) (Q : VK) (u : Value) (s' : Shared) : Prop :=
  ∃ v H', s'.os = s.os ∧ AllBare s'.gens ∧ Un (frs outer) [] H H' s.heap s'.heap ∧ HOk P w H' s'.heap ∧ RelV v u ∧ Q v H'
def CR (CX : CXT) (outer : List Env) (P : Program) (w : World) (H : Hp) (s : Shared) (Q : VK) (E : XK) (r : Result) (s' : Shared) : Prop :=
  match r with
  | .ok (.ret u) => CE outer P w H s Q u s'
  | .ok _ => False
  | .error e => CX outer H s E e s'
structure FnOk (P : Program) (w : World) (K : PySem.W.Frag) (mg : Str → Option Value) (base : Heap) (CX : CXT) (k : Nat) (f : Addr) (fd : FuncData) (ps : List Str) (sp : Sp) : Prop where
  len : ∀ vs H Q E, sp vs H Q E → vs.length = ps.length
  run : ∀ (A : Around) (outer : List Env) (s : Shared) (H : Hp) (args : Args) (us : List Value) (vs : List V) (Q : VK) (E : XK), Room k A → Env0 P w K mg base A outer s H → BindsTo s fd args (ps.zip us) → Vals vs us → sp vs H Q E →
    codeAny (model P w) A (.call (.ref f) args) (CR CX outer P w H s Q E) s
section
variable {X : Cx} {pins : List (Addr × Obj)} {σ : St} {H : Hp} {s s' : Shared}
/-- from a body: what a callee wants -/
theorem Inv.env0 (I : Inv X pins σ H s) : Env0 X.prog X.w X.K X.mg X.base X.A X.stack s H :=
  ⟨I.ok.frames, I.ok.mod, I.bs, Nat.le_trans I.ok.bsz I.sz, I.stack, I.stkFree, I.hok, I.bare⟩
/-- behind a call -/
theorem Inv.after {Q : VK} {u : Value} (I : Inv X pins σ H s) (h : CE X.stack X.prog X.w H s Q u s') : EP X pins σ Q u s' := by
  obtain ⟨v, H', os, bare, un, hok, r, q⟩ := h
  obtain ⟨hh, g, d, t, os'⟩ := s'
  obtain rfl : os' = s.os := os
  exact ⟨v, H', I.call (h' := hh) (g' := g) (d' := d) (t' := t) (ch := []) un hok bare (fun b z => absurd z (by simp)), r, q⟩
end

/-! ### calls -/
/-- f(..): the written arguments, then the defaults dvs; E: what is wanted of an exception -/
def tCall (sp : Sp) (dvs : List V) (E : XK) (t : TA) : TE := fun σ H Q => t σ H fun vs H1 => sp (vs ++ dvs) H1 Q E
/-- how the parameters are bound: us the positional arguments, kw the keywords' values by name, ds the defaults that fill up -/
def Binds (K : PySem.W.Frag) (fd : FuncData) (ps : List Str) (ds : List Value) : Prop :=
  ∀ (s : Shared) (us : List Value), K.In s.heap → (us ++ ds).length = ps.length → BindsTo s fd ⟨us, []⟩ (ps.zip (us ++ ds))
/-- every parameter is given -/
theorem Binds.all {K : PySem.W.Frag} {fd : FuncData} {ps : List Str} (h : ∀ us : List Value, us.length = ps.length → bindArgs fd ⟨us, []⟩ = pure (ps.zip us)) : Binds K fd ps [] := fun s us _ hl => by
  rw [List.append_nil] at hl ⊢
  exact .of_eq (h us hl)

/-- an exception of a callee reaches what this body wants of exceptions -/
def Passes (CX : CXT) (X : Cx) (E : XK) : Prop := ∀ (pins : List (Addr × Obj)) (σ : St) (H : Hp) (s : Shared) (e : Value) (s' : Shared), Inv X pins σ H s → CX X.stack H s E e s' → X.xe e s'

section

/-- the callee runs -/
theorem run_fn {pins : List (Addr × Obj)} {σ : St} {H : Hp} {s : Shared} {Q : VK} {us : List Value} {vs : List V} (F : FnOk X.prog X.w X.K X.mg X.base CX k f fd ps sp) (hr : Room k X.A) (hb : Binds X.K fd ps ds) (hd : Vals dvs ds) (hx : Passes CX X E)
    (I : Inv X pins σ H s) (r : Vals vs us) (h : sp (vs ++ dvs) H Q E) : wpAny (model X.prog X.w) X.A (call (.ref f) us) (EP X pins σ Q) X.xe s := by
  have r2 : Vals (vs ++ dvs) (us ++ ds) := r.append hd
  have hl : (us ++ ds).length = ps.length := by rw [← r2.length]; exact F.len _ _ _ _ h
  refine wpAny_call (codeAny_mono (F.run X.A X.stack s H ⟨us, []⟩ (us ++ ds) (vs ++ dvs) Q E hr I.env0 (hb s us I.kIn hl) r2 h) fun r s' hq => ?_)
  cases r with
  | error e => exact hx pins σ H s e s' I hq
  | ok fl =>
    cases fl with
    | ret u => exact I.after hq
    | next => exact False.elim hq
    | brk => exact False.elim hq
    | cont => exact False.elim hq

theorem pe_call (F : FnOk X.prog X.w X.K X.mg X.base CX k f fd ps sp) (hr : Room k X.A) (hg : Gl X x) (hm : X.mg x = some (.ref f)) (hk : PySem.W.keepIn X.K (.ref f) = true) (hb : Binds X.K fd ps ds) (hd : Vals dvs ds) (hx : Passes CX X E)
    (ha : PA X (e :: es) t) (hdb : (x == ("__debug__" : Str)) = false := by decide) (he : starEach (e :: es) X.env = (false, eval e X.env) :: starEach es X.env := by rfl) (hpl : (backTo pos (starEach es X.env)).any (·.1) = false := by rfl) :
    PE X (.Call (.Name x p) (e :: es) [] pos) (tCall sp dvs E t) := by
  intro pins s σ H Q I h
  refine wpAny_Call_Name_kw (ld_glob I hg hm ?_ hdb)
  refine PySem.W.callWith_K (h₀ := X.base) I.ok.mod.kin hk (thn (ha pos pins s σ H _ I h) fun us s1 ⟨vs, H1, I1, r, q⟩ => ⟨I1.kIn, ?_⟩) he hpl
  exact run_fn F hr hb hd hx I1 r q
end

/-! ### keywords -/
section
variable {g : List Value → List Value → List Value} {gV : List V → List V → List V}
end

/-! ### a def's body keeps its promise -/
/-- names: the parameters first -/
structure FnScope (N P : List Str) (sc : Scope) : Prop where
  kind : sc.kind = .function
  co : sc.isCoroutine = false
  gen : sc.isGenerator = false
  nd : N.Nodup
  pre : N.take P.length = P
  par : ∀ x ∈ P, sc.names.lookup x = some .local ∨ sc.names.lookup x = some .cell
  nofree : ∀ y ∈ sc.names, y.2 ≠ .free

theorem bindL_out {kindOf : Str → Option NameKind} {x : Str} : ∀ {binds : List (Str × Value)} {m : Str → Option Value}, (∀ v, (x, v) ∉ binds) → bindL kindOf binds m x = m x
  | [], _, _ => rfl
  | (n, v) :: r, m, h => by
    unfold bindL
    rw [bindL_out fun w hw => h w (List.mem_cons_of_mem _ hw)]
    split
    · have : x ≠ n := by rintro rfl; exact h v List.mem_cons_self
      simp [this]
    · rfl
theorem bindC_out {kindOf : Str → Option NameKind} {x : Str} : ∀ {binds : List (Str × Value)} {m : Str → Option Value}, (∀ v, (x, v) ∉ binds) → bindC kindOf binds m x = m x
  | [], _, _ => rfl
  | (n, v) :: r, m, h => by
    unfold bindC
    rw [bindC_out fun w hw => h w (List.mem_cons_of_mem _ hw)]
    split
    · rfl
    · have : x ≠ n := by rintro rfl; exact h v List.mem_cons_self
      simp [this]
theorem bindL_get {kindOf : Str → Option NameKind} {x : Str} {v : Value} : ∀ {P : List Str} {vs : List Value} {i : Nat} {m : Str → Option Value}, P.Nodup → P[i]? = some x → vs[i]? = some v → kindOf x = some .local →
    bindL kindOf (P.zip vs) m x = some v
  | [], _, _, _, _, h, _, _ => by simp at h
  | _ :: _, [], _, _, _, _, h, _ => by simp at h
  | p :: P, w :: vs, 0, m, nd, h1, h2, hk => by
    simp at h1 h2; subst h1; subst h2
    show bindL kindOf ((p, w) :: P.zip vs) m p = _
    unfold bindL
    rw [bindL_out fun v hv => (List.nodup_cons.mp nd).1 (List.of_mem_zip hv).1, if_pos hk]
    simp
  | p :: P, w :: vs, i + 1, m, nd, h1, h2, hk => by
    show bindL kindOf ((p, w) :: P.zip vs) m x = _
    unfold bindL
    exact bindL_get (i := i) (List.nodup_cons.mp nd).2 (by simpa using h1) (by simpa using h2) hk
theorem bindC_get {kindOf : Str → Option NameKind} {x : Str} {v : Value} : ∀ {P : List Str} {vs : List Value} {i : Nat} {m : Str → Option Value}, P.Nodup → P[i]? = some x → vs[i]? = some v → kindOf x ≠ some .local →
    bindC kindOf (P.zip vs) m x = some v
  | [], _, _, _, _, h, _, _ => by simp at h
  | _ :: _, [], _, _, _, _, h, _ => by simp at h
  | p :: P, w :: vs, 0, m, nd, h1, h2, hk => by
    simp at h1 h2; subst h1; subst h2
    show bindC kindOf ((p, w) :: P.zip vs) m p = _
    unfold bindC
    rw [bindC_out fun v hv => (List.nodup_cons.mp nd).1 (List.of_mem_zip hv).1, if_neg hk]
    simp
  | p :: P, w :: vs, i + 1, m, nd, h1, h2, hk => by
    show bindC kindOf ((p, w) :: P.zip vs) m x = _
    unfold bindC
    exact bindC_get (i := i) (List.nodup_cons.mp nd).2 (by simpa using h1) (by simpa using h2) hk

/-- the names' values at the entry -/
def start (N : List Str) (vs : List V) : St := vs.map some ++ List.replicate (N.length - vs.length) none

/-- the context of a def's body, at its entry; an exception leaves the frame, then lies as CX says -/
def cxOf (CX : CXT) (P : Program) (w : World) (K : PySem.W.Frag) (mg : Str → Option Value) (base : Heap) (N : List Str) (qual : Str) (scope : Scope) (f : Addr) (cd : Value) (A : Around) (outer : List Env) (s : Shared) (H : Hp) (E : XK) : Cx where
  prog := P
  w := w
  K := K
  mg := mg
  base := base
  A := A.deeper (envOfC qual scope s.heap.objs.size f cd)
  N := N
  s₀ := s
  H₀ := H
  env := envOfC qual scope s.heap.objs.size f cd
  outer := outer
  stack := envOfC qual scope s.heap.objs.size f cd :: outer
  ex := []
  calm := true
  fn := fun _ => true
  pn := []
  xe := fun e s' => wpAny (model P w) (A.deeper (envOfC qual scope s.heap.objs.size f cd)) (leaving (envOfC qual scope s.heap.objs.size f cd) e) (fun _ s'' => CX outer H s E e s'') (fun e' s'' => CX outer H s E e' s'') s'

theorem cell_has {sc : Scope} {n : Nat} {x : Str} (h : sc.names.lookup x = some .cell) : ∃ c, (cellsFrom n sc.names []).lookup x = some c := by
  have q := PySem.W.cellsFrom_some sc.names n [] (.inl h)
  exact Option.isSome_iff_exists.mp q

theorem inv_start {CX : CXT} {P : Program} {w : World} {K : PySem.W.Frag} {mg : Str → Option Value} {base : Heap} {N ps : List Str} {qual : Str} {scope : Scope} {f : Addr} {cd : Value} {A : Around} {outer : List Env} {s s1 : Shared} {H : Hp} {E : XK} {us : List Value} {vs : List V}
    (S : FnScope N ps scope) (hd : A.handled = none) (e0 : Env0 P w K mg base A outer s H) (hl : vs.length = ps.length) (r : Vals vs us)
    (x : InCallC s s.heap.objs.size (bindL (envOfC qual scope s.heap.objs.size f cd).kindOf (ps.zip us) fun _ => none) (cellsFrom (s.heap.objs.size + 1) scope.names []) (bindC (envOfC qual scope s.heap.objs.size f cd).kindOf (ps.zip us) fun _ => none) s1) :
    Inv (cxOf CX P w K mg base N qual scope f cd A outer s H E) [] (start N vs) H s1 := by
  have hpl : ps.length ≤ N.length := by have := congrArg List.length S.pre; rw [List.length_take] at this; omega
  obtain ⟨h1, tk, rfl, hk⟩ := x.done
  have noA : ∀ b : Addr, b ∉ (cxOf CX P w K mg base N qual scope f cd A outer s H E).ex := fun b z => absurd (show b ∈ ([] : List Addr) from z) (by simp)
  refine ⟨⟨e0.mod, S.kind, rfl, rfl, Nat.le_refl _, fun y z c h1 h2 => ?_, fun y hy => ?_, fun y c _ h => ?_, fun _ => hd, Around.frames_deeper e0.frames, .inr ⟨rfl, rfl⟩, fun b z => absurd z (noA b), e0.bs, e0.bsz, fun b _ _ => noA b, fun b z => absurd z (noA b), e0.funs, e0.frf⟩,
    rfl, e0.bare, Un.kept hk, ⟨_, x.toInCall.ns, fun i y v h1 h2 h3 => ?_⟩, fun y c h => ⟨_, x.cell y c h⟩, e0.hok.fresh (Nat.le_refl _), fun y c h => ?_, fun p hp => absurd (show p ∈ ([] : List (Addr × Obj)) from hp) (by simp), e0.hok.kept hk, ?_⟩
  · exact name_of_addr x.apart (PySem.mem_of_lookup h1) (PySem.mem_of_lookup h2)
  · have hy : scope.names.lookup y = some .cell ∨ scope.names.lookup y = some .free := hy
    rcases hy with hy | hy
    · exact cell_has hy
    · exact absurd rfl (S.nofree _ (PySem.mem_of_lookup hy))
  · exact Nat.le_of_lt (x.above y c (PySem.mem_of_lookup h))
  · have hi : i < vs.length := by
      unfold start at h2
      by_cases hi : i < vs.length
      · exact hi
      · rw [List.getElem?_append_right (by simpa using hi)] at h2
        rw [List.getElem?_replicate] at h2
        split at h2 <;> cases h2
    have ha : vs[i]? = some v := by
      unfold start at h2
      rw [List.getElem?_append_left (by simpa using hi), List.getElem?_map] at h2
      cases e : vs[i]? with
      | none => rw [e] at h2; cases h2
      | some a => rw [e] at h2; cases h2; rfl
    obtain ⟨u, hu, rv⟩ := r.get ha
    have hp : ps[i]? = some y := by
      rw [← S.pre, List.getElem?_take_of_lt (by omega)]; exact h1
    have ndP : ps.Nodup := by rw [← S.pre]; exact S.nd.sublist (List.take_sublist _ _)
    refine ⟨u, rv, ?_⟩
    rcases S.par y (List.mem_of_getElem? hp) with k | k
    · exact .inl ⟨k, bindL_get ndP hp hu k⟩
    · obtain ⟨c, e⟩ := cell_has (n := s.heap.objs.size + 1) k
      refine .inr ⟨.inl k, c, e, ?_⟩
      have q := x.cell y c e
      rw [bindC_get ndP hp hu (by show scope.names.lookup y ≠ _; rw [k]; decide)] at q
      exact q
  · exact e0.hok.fresh (Nat.le_of_lt (x.above y c (PySem.mem_of_lookup h)))
  · unfold start
    show _ = N.length
    rw [List.length_append, List.length_map, List.length_replicate]
    omega

/-- THE RULE: a def (or a method) of the text, by its body. The body's reading t is chosen for each entry; it is run at the parameters' values -/
theorem fn_of {CX : CXT} {P : Program} {w : World} {K : PySem.W.Frag} {mg : Str → Option Value} {base : Heap} {k : Nat} {f : Addr} {name qual : Str} {params : Arguments} {body : List Stmt} {scope : Scope} {dV kV doc pm cdv ct oc : Value} {an od : Option Addr}
    {osl : Array (Option Value)} {N ps : List Str} {sp : Sp} (lk : K.lookup f = some ⟨oc, od, .func (PySem.W.fnOf name qual params body scope dV kV doc pm an cdv ct), osl⟩) (hcd : PySem.W.codeIn K cdv qual = true) (S : FnScope N ps scope)
    (len : ∀ vs H Q E, sp vs H Q E → vs.length = ps.length)
    (hbody : ∀ (A : Around) (outer : List Env) (s : Shared) (H : Hp) (vs : List V) (Q : VK) (E : XK), Room k (A.deeper (envOfC qual scope s.heap.objs.size f cdv)) → sp vs H Q E →
      ∃ t, PSs (cxOf CX P w K mg base N qual scope f cdv A outer s H E) body t ∧ t { nx := fun _ H' => Q .non H', rt := Q } (start N vs) H) :
    FnOk P w K mg base CX (k + 1) f (PySem.W.fnOf name qual params body scope dV kV doc pm an cdv ct) ps sp := by
  refine ⟨len, fun A outer s H args us vs Q E hr e0 hb r hsp => ?_⟩
  have hl := len _ _ _ _ hsp
  have KX : K.In s.heap := e0.mod.kin.keeps fun b o e => (e0.bs b o e).1
  have lim : s.heap.NoLimit := e0.mod.nolimit.keeps fun b o e => (e0.bs b o e).1
  have hkind : ∀ y ∈ ps.zip us, scope.names.lookup y.1 = some .local ∨ (scope.names.lookup y.1 = some .cell ∧ ((cellsFrom (s.heap.objs.size + 1) scope.names []).lookup y.1).isSome = true) := fun ⟨n, v⟩ hy => by
    rcases S.par n (List.of_mem_zip hy).1 with q | q
    · exact .inl q
    · exact .inr ⟨q, PySem.W.cellsFrom_some _ _ _ (.inl q)⟩
  refine codeAny_call_function hr.depth (KX _ _ lk) rfl S.co S.gen rfl (PySem.W.codeRec_of KX hcd) (hb _ _ _ _ ?_)
  refine wpAny_newFunctionEnv_cells S.kind hkind fun env he s1 x => ?_
  subst he
  refine ⟨lim.keeps x.toInCall.keep, codeAny_func ?_⟩
  obtain ⟨t, ht, hq⟩ := hbody A outer s H vs Q E (hr.deeper _) hsp
  have I : Inv (cxOf CX P w K mg base N qual scope f cdv A outer s H E) [] (start N vs) H s1 := inv_start S hr.hd e0 hl r x
  refine wpAny_mono (ht [] s1 (start N vs) H _ I hq) (fun fl s' hs => ?_) fun e s' hs => hs
  have fin : ∀ {σ' : St} {H' : Hp} {v : V} {u : Value}, Inv (cxOf CX P w K mg base N qual scope f cdv A outer s H E) [] σ' H' s' → RelV v u → Q v H' → CE outer P w H s Q u s' :=
    fun {σ' H' v u} J rv q => ⟨v, H', J.os, J.bare, J.base, J.hok, rv, q⟩
  cases fl with
  | ret u =>
    obtain ⟨v, σ', H', J, rv, q⟩ := hs
    exact fin J rv q
  | next =>
    obtain ⟨σ', H', J, q⟩ := hs
    exact fin (v := V.non) (u := Value.none) J rfl q
  | brk =>
    obtain ⟨_, _, _, q⟩ := hs
    exact False.elim q
  | cont =>
    obtain ⟨_, _, _, q⟩ := hs
    exact False.elim q
end L2

namespace L2
open PySem PySem.Spec PyProof.Rows
section
variable {X : Cx} {x : Str} {p pos : Pos} {e : Expr} {es : List Expr} {t : TA} {id T : String} {r : List V → Hp → VK → Prop}

def tCB (r : List V → Hp → VK → Prop) (t : TA) : TE := fun σ H Q => t σ H fun vs H1 => r vs H1 Q
/-- f(e, ..), f a built-in function -/
theorem pe_callB (hc : CallR X (.builtin id) r) (hg : Gl X x) (hm : X.mg x = none) (hv : bootBuiltins x = some (.builtin id)) (ha : PA X (e :: es) t) (hn : x ≠ "__name__" := by decide) (hdb : (x == ("__debug__" : Str)) = false := by decide)
    (he : starEach (e :: es) X.env = (false, eval e X.env) :: starEach es X.env := by rfl) (hpl : (backTo pos (starEach es X.env)).any (·.1) = false := by rfl) : PE X (.Call (.Name x p) (e :: es) [] pos) (tCB r t) := by
  intro pins s σ H Q I h
  refine wpAny_Call_Name_kw (ld_blt I hg hm hv ?_ hn hdb)
  exact PyProof.Rows.callWith_builtin1 (thn (ha pos pins s σ H _ I h) fun us s1 ⟨vs, H1, I1, r1, q1⟩ => hc pins s1 σ H1 vs us Q I1 r1 q1) he hpl
/-- T(e, ..), T a built-in type -/
theorem pe_callTy (hc : CallR X (.type T) r) (hg : Gl X x) (hm : X.mg x = none) (hv : bootBuiltins x = some (.type T)) (ha : PA X (e :: es) t) (hn : x ≠ "__name__" := by decide) (hdb : (x == ("__debug__" : Str)) = false := by decide)
    (he : starEach (e :: es) X.env = (false, eval e X.env) :: starEach es X.env := by rfl) (hpl : (backTo pos (starEach es X.env)).any (·.1) = false := by rfl) : PE X (.Call (.Name x p) (e :: es) [] pos) (tCB r t) := by
  intro pins s σ H Q I h
  refine wpAny_Call_Name_kw (ld_blt I hg hm hv ?_ hn hdb)
  exact PyProof.Rows.callWith_type1 (thn (ha pos pins s σ H _ I h) fun us s1 ⟨vs, H1, I1, r1, q1⟩ => hc pins s1 σ H1 vs us Q I1 r1 q1) he hpl
end
end L2

namespace HT
open PySem PyProof.Rows

section
open PySem.SeqAt
open PySem.AutoSeq1 (wpAny_loadPart')
open PySem.MeetsSeq PySem.MeetsSeq2 PySem.MeetsSeq3

end

section
variable {prog : Program} {w : World} {A : Around} {E : Value → Shared → Prop} {s : Shared}

/-- t + u, t not empty -/
theorem cat_tup {t b : Addr} {vs ws : List Value} {Q : Value → Shared → Prop} (ht : IsTup s.heap t vs.toArray) (hb : IsTup s.heap b ws.toArray) (hv : vs ≠ [])
    (h1 : ws = [] → Q (.ref t) s) (h2 : ws ≠ [] → Q (.ref s.heap.objs.size) { s with heap := s.heap.push { cls := .type "tuple", data := .seq (vs ++ ws).toArray } })
    (hsz : vs.length + ws.length ≤ sizeLine) : wpAny (model prog w) A (binaryOp .Add (.ref t) (.ref b)) Q E s := by
  obtain ⟨⟨cls, dd, data, sl⟩, ho, hc, n, hd⟩ := id ht
  obtain ⟨⟨cls2, dd2, data2, sl2⟩, ho2, hc2, n2, hd2⟩ := id hb
  simp only at hc hd hc2 hd2
  subst hc hd hc2 hd2
  have e : vs.toArray ++ ws.toArray = (vs ++ ws).toArray := by simp
  by_cases hw : ws = []
  · exact concat_meets ⟨_, ho, rfl⟩ ⟨_, ho2, rfl⟩ noFill_tuple_add seq_tuple_add PySem.F.slot_tuple_add PySem.F.entry_tuple_add (PySem.F.args_tuple_add_2 _ _)
      (tuple_addW1 t b vs.toArray ws.toArray n n2 dd dd2 sl sl2 (by simpa using hv) (by simp [hw])) ⟨ho, ho2, h1 hw⟩
  · refine concat_meets ⟨_, ho, rfl⟩ ⟨_, ho2, rfl⟩ noFill_tuple_add seq_tuple_add PySem.F.slot_tuple_add PySem.F.entry_tuple_add (PySem.F.args_tuple_add_2 _ _)
      (tuple_addW2 t b vs.toArray ws.toArray n n2 dd dd2 sl sl2 (by simpa using hv) (by simpa using hw) (by rw [List.size_toArray, List.size_toArray]; exact hsz)) ⟨ho, ho2, ?_⟩
    rw [e]
    exact h2 hw

/-! ### t[a:b], not the whole -/
/-- a slice's bound as a place among n (d where it is left out) -/
def sIx (n d : Nat) : Option Int → Nat
  | none => d
  | some v => if v < 0 then (v + (n : Int)).toNat else min v.toNat n
theorem sIx_le (n d : Nat) (hd : d ≤ n) (o : Option Int) : sIx n d o ≤ n := by
  cases o with
  | none => exact hd
  | some v =>
    show (if v < 0 then (v + (n : Int)).toNat else min v.toNat n) ≤ n
    by_cases hv : v < 0
    · rw [if_pos hv]; omega
    · rw [if_neg hv]; exact Nat.min_le_right _ _
theorem clip_eq (v : Int) (n d : Nat) : (if v < 0 then max (v + (n : Int)) 0 else min v (n : Int)) = ((sIx n d (some v) : Nat) : Int) := by
  show (if v < 0 then max (v + (n : Int)) 0 else min v (n : Int)) = (((if v < 0 then (v + (n : Int)).toNat else min v.toNat n) : Nat) : Int)
  by_cases hv : v < 0
  · simp only [if_pos hv]; omega
  · simp only [if_neg hv]; omega
theorem adjust_gen (lo hi : Option Int) (n : Nat) : Builtin.Slice.sliceAdjust lo hi 1 (n : Int) = (((sIx n 0 lo : Nat) : Int), ((sIx n n hi : Nat) : Int)) := by
  have h1 : ¬ ((1 : Int) < 0) := by omega
  unfold Builtin.Slice.sliceAdjust
  simp only [h1, if_false]
  refine Prod.ext ?_ ?_
  · cases lo with
    | none => rfl
    | some v => exact clip_eq v n 0
  · cases hi with
    | none => rfl
    | some v => exact clip_eq v n n
theorem places_gen (i j : Nat) : Builtin.Slice.slicePlaces (i : Int) (j : Int) 1 = j - i := by
  unfold Builtin.Slice.slicePlaces
  have h1 : (1 : Int) > 0 := by omega
  simp only [h1, if_true, Int.ediv_one]
  split <;> omega
theorem slicePart_ {v : Value} {o : Option Int} {Q : Option Int → Shared → Prop} (p : IsPart v o) (h : Q o s) : wpAny (model prog w) A (Builtin.Slice.slicePartIndex v) Q E s := by
  cases p with
  | none => exact slicePart_none h
  | int i t => exact slicePart_int h
theorem sliceApplied_gen {sl : Addr} {vl vu : Value} {lo hi : Option Int} {n : Nat} {Q : Int × Int × Nat → Shared → Prop} (hs : s.heap.IsSliceOf sl vl vu .none) (pl : IsPart vl lo) (pu : IsPart vu hi)
    (h : Q (((sIx n 0 lo : Nat) : Int), 1, sIx n n hi - sIx n 0 lo) s) : wpAny (model prog w) A (Builtin.Slice.sliceApplied (.ref sl) (pure (n : Int))) Q E s := by
  obtain ⟨os, hos, hcs, hds⟩ := id hs
  unfold Builtin.Slice.sliceApplied Builtin.Slice.sliceFields
  refine wpAny_bind (wpAny_bind (wpAny_field hos hds (x := vl) rfl (wpAny_bind (wpAny_field hos hds (x := vu) rfl (wpAny_bind (wpAny_field hos hds (x := .none) rfl (wpAny_pure ?_)))))))
  refine wpAny_bind (slicePart_none ?_)
  show wpAny _ _ (if ((1 : Int) == 0) = true then _ else _) _ _ s
  rw [if_neg (by decide)]
  refine wpAny_bind (slicePart_ pl (wpAny_bind (slicePart_ pu (wpAny_bind (wpAny_pure ?_)))))
  show wpAny _ _ (match Builtin.Slice.sliceAdjust lo hi 1 (n : Int) with | (lo, hi) => pure (lo, (1 : Int), Builtin.Slice.slicePlaces lo hi 1)) _ _ s
  rw [adjust_gen lo hi n]
  show wpAny _ _ (pure (((sIx n 0 lo : Nat) : Int), (1 : Int), Builtin.Slice.slicePlaces ((sIx n 0 lo : Nat) : Int) ((sIx n n hi : Nat) : Int) 1)) _ _ s
  rw [places_gen]
  exact wpAny_pure h
theorem pick_gen (xs : Array Value) (i k : Nat) : ((List.range k).filterMap fun (m : Nat) => xs[((i : Int) + (m : Int) * 1).toNat]?).toArray = ((xs.toList.drop i).take k).toArray := by
  have e : (fun (m : Nat) => xs[((i : Int) + (m : Int) * 1).toNat]?) = fun m => xs[i + m]? := by
    funext m
    have : ((i : Int) + (m : Int) * 1).toNat = i + m := by omega
    rw [this]
  rw [e]
  have := pick_run xs i k
  rw [List.filterMap_map] at this
  have e2 : ((fun x => xs[x]?) ∘ fun x => i + x) = fun m => xs[i + m]? := rfl
  rw [e2] at this
  rw [this]

theorem getItem_tuple_cut {t sl : Addr} {items : Array Value} {vl vu : Value} {lo hi : Option Int} {Q : Value → Shared → Prop} (ht : IsTup s.heap t items) (hs : s.heap.IsSliceOf sl vl vu .none) (pl : IsPart vl lo) (pu : IsPart vu hi)
    (hw : ¬ (sIx items.size 0 lo = 0 ∧ sIx items.size items.size hi = items.size))
    (h : Q (.ref s.heap.objs.size) { s with heap := s.heap.push { cls := .type "tuple", data := .seq ((items.toList.drop (sIx items.size 0 lo)).take (sIx items.size items.size hi - sIx items.size 0 lo)).toArray } })
    (hsz : items.size ≤ sizeLine) : wpAny (model prog w) A (getItem (.ref t) (.ref sl)) Q E s := by
  have htake : sizeOk (.seq ((items.toList.drop (sIx items.size 0 lo)).take (sIx items.size items.size hi - sIx items.size 0 lo)).toArray) := by
    show ((items.toList.drop (sIx items.size 0 lo)).take (sIx items.size items.size hi - sIx items.size 0 lo)).toArray.size ≤ sizeLine
    rw [List.size_toArray, List.length_take, List.length_drop, Array.length_toList]
    omega
  have hj : sIx items.size items.size hi ≤ items.size := sIx_le _ _ (Nat.le_refl _) hi
  obtain ⟨os, hos, hcs, hds⟩ := id hs
  have hTs : s.TypeIs (.ref sl) "slice" := ⟨os, hos, hcs⟩
  unfold getItem
  try with_reducible refine wpAny_holding ?_
  first | refine wpAny_bind (wpAny_pure ?_) | skip
  refine wpAny_bind (wpAny_sequenceKey ht.typeIs (by decide) ?_)
  refine wpAny_bind (wpAny_callSpecial?_slot (name := Str.ofString "__getitem__") ht.typeIs PyProof.Rows.slot_tuple_getitem
    (wpAny_call_entry PyProof.Rows.slot_tuple_getitem ht.typeIs entry_tuple_getitem ?_ (args_tuple_getitem _ _)))
  show wpAny _ _ (Builtin.Tuple.tupleItemsOf (.ref t) >>= _) _ _ s
  refine wpAny_bind (tupleItemsOf_ ht ?_)
  refine wpAny_bind (wpAny_typeOf hTs ?_)
  rw [if_pos (by decide)]
  refine wpAny_bind (sliceApplied_gen hs pl pu ?_)
  have hno : ¬ ((((sIx items.size 0 lo : Nat) : Int) == 0 && (1 : Int) == 1 && (sIx items.size items.size hi - sIx items.size 0 lo) == items.size) = true) := by
    intro q
    rw [Bool.and_eq_true, Bool.and_eq_true] at q
    have q1 : ((sIx items.size 0 lo : Nat) : Int) = 0 := eq_of_beq q.1.1
    have q2 : sIx items.size items.size hi - sIx items.size 0 lo = items.size := eq_of_beq q.2
    exact hw ⟨by omega, by omega⟩
  show wpAny _ _ (if (((sIx items.size 0 lo : Nat) : Int) == 0 && (1 : Int) == 1 && (sIx items.size items.size hi - sIx items.size 0 lo) == items.size) = true then _ else _) _ _ s
  rw [if_neg hno, pick_gen]
  first
    | exact wpAny_bind (m := Builtin.Tuple.tupleExact _) (wpAny_newObj_type (wpAny_pure ⟨_, rfl, wpAny_pure h⟩) htake)
    | exact wpAny_bind (m := Builtin.Tuple.tupleExact _) (wpAny_newObj_type (wpAny_bind (wpAny_pure (wpAny_pure ⟨_, rfl, wpAny_pure h⟩))) htake)
    | exact wpAny_bind (wpAny_bind (m := Builtin.Tuple.tupleExact _) (wpAny_newObj_type (wpAny_pure (wpAny_pure ⟨_, rfl, wpAny_pure h⟩)) htake))
    | exact wpAny_bind (wpAny_bind (m := Builtin.Tuple.tupleExact _) (wpAny_newObj_type (wpAny_pure ⟨_, rfl, wpAny_pure h⟩) htake))
end
end HT

namespace L2
open PySem PySem.Spec PyProof.Rows

/-! ### the parts of a slice -/
abbrev TO := St → Hp → (Option Int → Hp → Prop) → Prop
/-- a slice's part (left out, or an int) -/
def PO (X : Cx) (e : Option Expr) (t : TO) : Prop :=
  ∀ (pins : List (Addr × Obj)) (s : Shared) (σ : St) (H : Hp) (Q : Option Int → Hp → Prop), Inv X pins σ H s → t σ H Q →
    wpAny (model X.prog X.w) X.A (evalPart e X.env) (fun u s' => ∃ o H', Inv X pins σ H' s' ∧ IsPart u o ∧ Q o H') X.xe s
def tNoPart : TO := fun _ H Q => Q none H
def tPart (t : TE) : TO := fun σ H Q => t σ H fun x H1 => ∃ i, x = .int i ∧ Q (some i) H1

section
variable {X : Cx} {e : Expr} {te : TE} {lo hi : Option Expr} {tl th : TO} {pos p2 : Pos}

theorem po_none : PO X none tNoPart := by
  intro pins s σ H Q I h
  rw [evalPart_none]
  exact wpAny_pure ⟨none, H, I, .none, h⟩
theorem po_some (h : PE X e te) : PO X (some e) (tPart te) := by
  intro pins s σ H Q I hw
  rw [evalPart_some]
  refine thn (h pins s σ H _ I hw) fun u s1 ⟨x, H1, I1, r1, q1⟩ => ?_
  obtain ⟨i, rfl, q⟩ := q1
  obtain ⟨t, rfl⟩ := r1
  exact ⟨some i, H1, I1, .int i t, q⟩

/-- what a slice of a value is, by values: the slice object stands at sl -/
def SlR (X : Cx) (r : V → Option Int → Option Int → Hp → VK → Prop) : Prop :=
  ∀ (pins : List (Addr × Obj)) (s : Shared) (σ : St) (H : Hp) (x : V) (v vl vu : Value) (lo hi : Option Int) (sl : Addr) (Q : VK), Inv X pins σ H s → RelV x v → s.heap.IsSliceOf sl vl vu .none → IsPart vl lo → IsPart vu hi → r x lo hi H Q →
    ∃ T id, typeLookup (.type T) "__getitem__" = pure (some (.builtin id)) ∧ s.TypeIs v T ∧ wpAny (model X.prog X.w) X.A (getItem v (.ref sl)) (EP X pins σ Q) X.xe s
theorem SlR.or {r r' : V → Option Int → Option Int → Hp → VK → Prop} (h : SlR X r) (h' : SlR X r') : SlR X (fun x lo hi H Q => r x lo hi H Q ∨ r' x lo hi H Q) := by
  intro pins s σ H x v vl vu lo hi sl Q I rx hs pl pu q
  rcases q with q | q
  · exact h pins s σ H x v vl vu lo hi sl Q I rx hs pl pu q
  · exact h' pins s σ H x v vl vu lo hi sl Q I rx hs pl pu q
def tSl (r : V → Option Int → Option Int → Hp → VK → Prop) (te : TE) (tl th : TO) : TE := fun σ H Q => te σ H fun x H1 => tl σ H1 fun l H2 => th σ H2 fun u H3 => r x l u H3 Q
/-- a[lo:hi], any a -/
theorem pe_slice {r : V → Option Int → Option Int → Hp → VK → Prop} (hr : SlR X r) (he : PE X e te) (hl : PO X lo tl) (hu : PO X hi th) : PE X (.Subscript e (.Slice lo hi none p2) pos) (tSl r te tl th) := by
  intro pins s σ H Q I h
  refine Subscript_ (thn (he pins s σ H _ I h) fun v s1 ⟨x, H1, I1, r1, q1⟩ => ?_)
  refine wpAny_Slice (thn (hl pins s1 σ H1 _ I1 q1) fun vl s2 ⟨l, H2, I2, pl, q2⟩ => thn (hu pins s2 σ H2 _ I2 q2) fun vu s3 ⟨u, H3, I3, pu, q3⟩ => ?_)
  rw [evalPart_none]
  refine wpAny_pure ?_
  have I4 : Inv X pins σ H3 { s3 with heap := s3.heap.push { cls := .type "slice", data := .fields #[vl, vu, .none] } } := I3.kept (t' := s3.toks) fun b ob q => Heap.get?_push_of_some _ q
  obtain ⟨T, id, hT, ht, hg⟩ := hr pins { s3 with heap := s3.heap.push { cls := .type "slice", data := .fields #[vl, vu, .none] } } σ H3 x v vl vu l u s3.heap.objs.size Q I4 r1 (Heap.IsSliceOf.new ..) pl pu q3
  show wpAny (model X.prog X.w) X.A (subscriptTail e (.Slice lo hi none p2) v (.ref s3.heap.objs.size)) (EP X pins σ Q) X.xe { s3 with heap := s3.heap.push { cls := .type "slice", data := .fields #[vl, vu, .none] } }
  exact tail_any (ops := [.ref s3.heap.objs.size, v]) ht hT hg (by with_unfolding_all rfl)

/-- the items of xs[lo:hi] -/
def cutV (xs : List V) (lo hi : Option Int) : List V := (xs.drop (HT.sIx xs.length 0 lo)).take (HT.sIx xs.length xs.length hi - HT.sIx xs.length 0 lo)
theorem cutV_length (xs : List V) (lo hi : Option Int) : (cutV xs lo hi).length ≤ xs.length := by
  unfold cutV
  rw [List.length_take, List.length_drop]
  omega
/-- t[lo:hi], not the whole of it (the whole would be t itself) -/
def rSlT (K : PySem.W.Frag) : V → Option Int → Option Int → Hp → VK → Prop := fun x lo hi H Q => ∃ a xs, x = .ref a ∧ SqT K H a xs ∧
  ¬ (HT.sIx xs.length 0 lo = 0 ∧ HT.sIx xs.length xs.length hi = xs.length) ∧ ∀ p, H p = none → Q (.ref p) (upd H p (.tup (cutV xs lo hi)))
theorem sl_tup : SlR X (rSlT X.K) := by
  intro pins s σ H x v vl vu lo hi sl Q I rx hs pl pu h
  obtain ⟨a, xs, rfl, hx, hw, q⟩ := h
  cases rx
  obtain ⟨its, r, ht, hz⟩ := I.tuple hx
  have hlen : its.toArray.size = xs.length := by rw [List.size_toArray]; exact r.length.symm
  refine ⟨"tuple", _, PyProof.Rows.slot_tuple_getitem.lookup, ht.typeIs, ?_⟩
  refine HT.getItem_tuple_cut ht hs pl pu (by rw [hlen]; exact hw) ?_ (by rw [hlen]; exact hz)
  rw [hlen]
  refine ⟨.ref s.heap.objs.size, _, I.laid (t' := s.toks) (o := .tup (cutV xs lo hi)) (fun b ob q => Heap.get?_push_of_some _ q) (Nat.le_refl _) ?_, rfl, q _ (I.hok.fresh (Nat.le_refl _))⟩
  exact ⟨Nat.le_trans (cutV_length xs lo hi) hz, _, (r.drop (HT.sIx xs.length 0 lo)).take (HT.sIx xs.length xs.length hi - HT.sIx xs.length 0 lo), PTup.new _ _⟩

/-! ### t < u, t + u -/
/-- t + u, t not empty: u empty gives t itself -/
def rCatT (K : PySem.W.Frag) : R2 := fun x y H Q => ∃ a b xs ys, x = .ref a ∧ y = .ref b ∧ SqT K H a xs ∧ SqT K H b ys ∧ xs ≠ [] ∧ xs.length + ys.length ≤ sizeLine ∧
  (ys = [] → Q (.ref a) H) ∧ (ys ≠ [] → ∀ p, H p = none → Q (.ref p) (upd H p (.tup (xs ++ ys))))
theorem Vals.nil_iff {xs : List V} {us : List Value} (r : Vals xs us) : us = [] ↔ xs = [] := by
  cases r with
  | nil => simp
  | cons _ _ => simp
theorem op_catT : OpR X (binaryOp .Add) (rCatT X.K) := by
  intro pins s σ H x y v u Q I rx ry h
  obtain ⟨a, b, xs, ys, rfl, rfl, ha, hb, hx, hz, q1, q2⟩ := h
  cases rx
  cases ry
  obtain ⟨its, r1, p1, _⟩ := I.tuple ha
  obtain ⟨its2, r2, p2, _⟩ := I.tuple hb
  refine HT.cat_tup p1 p2 (fun z => hx (r1.nil_iff.mp z)) (fun z => ⟨.ref a, H, I, rfl, q1 (r2.nil_iff.mp z)⟩) (fun z => ?_) (by rw [← r1.length, ← r2.length]; exact hz)
  refine ⟨.ref s.heap.objs.size, _, I.laid (t' := s.toks) (o := .tup (xs ++ ys)) (fun b ob q => Heap.get?_push_of_some _ q) (Nat.le_refl _) ?_, rfl, q2 (fun w => z (r2.nil_iff.mpr w)) _ (I.hok.fresh (Nat.le_refl _))⟩
  exact ⟨by rw [List.length_append]; exact hz, _, r1.append r2, PTup.new _ _⟩
end
end L2

namespace L2
open PySem PySem.Spec PyProof.Rows

/-! ### places -/
/-- the place that an index of any sign means -/
def ixN (n : Nat) (i : Int) : Option Nat := if 0 ≤ i then (if i < n then some i.toNat else none) else if -(n : Int) ≤ i then some (i + n).toNat else none
def atI {α : Type} (xs : List α) (i : Int) : Option α := (ixN xs.length i).bind fun j => xs[j]?
theorem ixN_seq {n : Nat} {i : Int} {j : Nat} (h : ixN n i = some j) : seqIndex? i n = some j ∧ j < n ∧ -(n : Int) ≤ i ∧ i < n := by
  unfold ixN at h
  by_cases h0 : 0 ≤ i
  · rw [if_pos h0] at h
    by_cases h1 : i < n
    · rw [if_pos h1] at h
      have e : i.toNat = j := Option.some.inj h
      exact ⟨by rw [seqIndex_of h0 h1, e], by omega, by omega, h1⟩
    · rw [if_neg h1] at h; cases h
  · rw [if_neg h0] at h
    by_cases h1 : -(n : Int) ≤ i
    · rw [if_pos h1] at h
      have e : (i + n).toNat = j := Option.some.inj h
      exact ⟨by rw [seqIndex_neg (by omega) h1, e], by omega, h1, by omega⟩
    · rw [if_neg h1] at h; cases h
theorem atI_get {α : Type} {xs : List α} {i : Int} {v : α} (h : atI xs i = some v) : ∃ j, seqIndex? i xs.length = some j ∧ xs[j]? = some v ∧ j < xs.length ∧ -(xs.length : Int) ≤ i ∧ i < xs.length := by
  unfold atI at h
  cases e : ixN xs.length i with
  | none => rw [e] at h; cases h
  | some j =>
    rw [e] at h
    obtain ⟨h1, h2, h3, h4⟩ := ixN_seq e
    exact ⟨j, h1, h, h2, h3, h4⟩
theorem atI_nat {α : Type} {xs : List α} {j : Nat} {v : α} (h : xs[j]? = some v) : atI xs (j : Int) = some v := by
  have hj : j < xs.length := (List.getElem?_eq_some_iff.mp h).1
  have e : ixN xs.length (j : Int) = some j := by
    unfold ixN
    rw [if_pos (by omega), if_pos (by omega)]; simp
  unfold atI; rw [e]; exact h
/-! ### what may be subscripted -/
/-- what stands as an index of a plain subscript -/
def PlainIx (b : Expr) : Prop := ∀ o i, subscripted b false o i = operate [o, i] (getItem o i)
/-- a subscript by values -/
def IxR (X : Cx) (r : R2) : Prop :=
  ∀ (value slice : Expr) (pins : List (Addr × Obj)) (s : Shared) (σ : St) (H : Hp) (x y : V) (v u : Value) (Q : VK), Inv X pins σ H s → RelV x v → RelV y u → r x y H Q →
    subscripted slice false v u = operate [v, u] (getItem v u) → wpAny (model X.prog X.w) X.A (subscriptTail value slice v u) (EP X pins σ Q) X.xe s
/-- a call of a builtin's method by values: the receiver, the arguments -/
def MtR (X : Cx) (id : String) (r : V → List V → Hp → VK → Prop) : Prop :=
  ∀ (pins : List (Addr × Obj)) (s : Shared) (σ : St) (H : Hp) (x : V) (xs : List V) (v : Value) (us : List Value) (Q : VK), Inv X pins σ H s → RelV x v → Vals xs us → r x xs H Q →
    wpAny (model X.prog X.w) X.A (call (.builtin id) (v :: us)) (EP X pins σ Q) X.xe s
section
variable {X : Cx} {a b : Expr} {ta tb : TE} {pos : Pos}
theorem IxR.or {r r' : R2} (h : IxR X r) (h' : IxR X r') : IxR X (fun x y H Q => r x y H Q ∨ r' x y H Q) := by
  intro value slice pins s σ H x y v u Q I rx ry q hs
  rcases q with q | q
  · exact h value slice pins s σ H x y v u Q I rx ry q hs
  · exact h' value slice pins s σ H x y v u Q I rx ry q hs
/-- a[b] -/
theorem pe_ix {r : R2} (hr : IxR X r) (ha : PE X a ta) (hb : PE X b tb) (hs : PlainIx b) : PE X (.Subscript a b pos) (tOp r ta tb) := by
  intro pins s σ H Q I h
  exact Subscript_ (binT ha hb I h fun v u s2 x y H2 I2 rx ry q => hr a b pins s2 σ H2 x y v u Q I2 rx ry q (hs _ _))

def rIxL (K : PySem.W.Frag) : R2 := fun x y H Q => ∃ p xs i v, x = .ref p ∧ y = .int i ∧ SqL K H p xs ∧ atI xs i = some v ∧ Q v H
def rIxT (K : PySem.W.Frag) : R2 := fun x y H Q => ∃ p xs i v, x = .ref p ∧ y = .int i ∧ SqT K H p xs ∧ atI xs i = some v ∧ Q v H
def rIxS : R2 := fun x y H Q => ∃ z i c, x = .str z ∧ y = .int i ∧ z.length ≤ sizeLine ∧ atI z.cps.toList i = some c ∧ Q (.str ⟨#[c]⟩) H
theorem ix_list : IxR X (rIxL X.K) := by
  intro value slice pins s σ H x y v u Q I rx ry h hs
  obtain ⟨p, xs, i, z, rfl, rfl, hq, he, q⟩ := h
  cases rx
  obtain ⟨t, rfl⟩ := ry
  obtain ⟨its, r, pl, hz⟩ := I.list hq
  obtain ⟨j, h1, h2, h3, h4, h5⟩ := atI_get he
  obtain ⟨w, ew, rw'⟩ := r.get h2
  have hl := r.length
  have hn := line63
  have fin : EP X pins σ Q w s := ⟨z, H, I, rw', q⟩
  by_cases h0 : 0 ≤ i
  · have hj : i.toNat = j := by
      rw [seqIndex_of h0 h5] at h1
      exact Option.some.inj h1
    exact item_listR pl.isList h0 (by omega) (by rw [hj]; simpa using ew) fin hs
  · have hj : (i + (its.toArray.size : Int)).toNat = j := by
      rw [seqIndex_neg (by omega) h4] at h1
      rw [List.size_toArray, ← hl]
      exact Option.some.inj h1
    exact subscriptTail_builtinR (x := w) pl.isList.typeIs slot_list_getitem.lookup
      (wpAny_getItem_list_neg (Q := fun r s' => r = w ∧ EP X pins σ Q r s') pl.isList (by omega) (by rw [List.size_toArray] <;> omega) (by omega) (by rw [hj]; simpa using ew) ⟨rfl, fin⟩) hs
theorem ix_tup : IxR X (rIxT X.K) := by
  intro value slice pins s σ H x y v u Q I rx ry h hs
  obtain ⟨p, xs, i, z, rfl, rfl, hq, he, q⟩ := h
  cases rx
  obtain ⟨t, rfl⟩ := ry
  obtain ⟨its, r, pl, hz⟩ := I.tuple hq
  obtain ⟨j, h1, h2, h3, h4, h5⟩ := atI_get he
  obtain ⟨w, ew, rw'⟩ := r.get h2
  have hl := r.length
  have hn := line63
  have fin : EP X pins σ Q w s := ⟨z, H, I, rw', q⟩
  exact subscriptTail_builtinR (x := w) pl.typeIs slot_tuple_getitem.lookup
    (getItem_tuple (j := j) (Q := fun r s' => r = w ∧ EP X pins σ Q r s') pl (by omega) (by omega) (by rw [List.size_toArray, ← hl]; exact h1) (by simpa using ew) ⟨rfl, fin⟩) hs
theorem ix_str : IxR X rIxS := by
  intro value slice pins s σ H x y v u Q I rx ry h hs
  obtain ⟨z, i, c, rfl, rfl, hz, he, q⟩ := h
  obtain ⟨t, rfl⟩ := rx
  obtain ⟨t', rfl⟩ := ry
  obtain ⟨j, h1, h2, h3, h4, h5⟩ := atI_get he
  have hl : z.cps.toList.length = z.length := by simp [Str.length]
  rw [hl] at h1 h4 h5
  have hn := line63
  exact tail_any (typeIs_str s z t) slot_str_getitem.lookup (getItem_str (c := c) (by
    have e1 : decide (i < -(2 ^ 63 : Int)) = false := decide_eq_false (by omega)
    have e2 : decide (i ≥ 2 ^ 63) = false := decide_eq_false (by omega)
    rw [e1, e2, Bool.or_false]) (by rw [h1]; simpa using h2) ⟨.str ⟨#[c]⟩, H, I.tok _, ⟨_, rfl⟩, q⟩) hs
/-- list, tuple or str -/
def rIx (K : PySem.W.Frag) : R2 := fun x y H Q => rIxL K x y H Q ∨ rIxT K x y H Q ∨ rIxS x y H Q
theorem ix_seq : IxR X (rIx X.K) := ix_list.or (ix_tup.or ix_str)

/-! ### xs[i] = v, any sign -/
/-- the list's object behind a store -/
theorem mapSeq_set (its : List Value) (n j : Nat) (u : Value) : Obj.mapSeq (·.setIfInBounds j u) { cls := .type "list", data := .seq its.toArray n } = { cls := .type "list", data := .seq (its.set j u).toArray n } := by
  simp [Obj.mapSeq]
theorem Inv.lst {pins : List (Addr × Obj)} {σ : St} {H : Hp} {s : Shared} {p : Addr} {xs : List V} (I : Inv X pins σ H s) (h : H p = some (.lst xs)) :
    ∃ (its : List Value) (n : Nat), Vals xs its ∧ s.heap.get? p = some { cls := .type "list", data := .seq its.toArray n } ∧ xs.length ≤ sizeLine := by
  obtain ⟨z, its, n, r, e⟩ := I.hok p _ h
  exact ⟨its, n, r, e, z⟩
/-- the list at p is written by an update of its object -/
theorem Inv.lstUpd {pins : List (Addr × Obj)} {σ : St} {H : Hp} {s : Shared} {p : Addr} {xs ys : List V} {its its' : List Value} {n n' : Nat} {f : Obj → Obj} (I : Inv X pins σ H s) (h : H p = some (.lst xs))
    (ho : s.heap.get? p = some { cls := .type "list", data := .seq its.toArray n }) (hf : f { cls := .type "list", data := .seq its.toArray n } = { cls := .type "list", data := .seq its'.toArray n' }) (r : Vals ys its') (hz : ys.length ≤ sizeLine) (t : Nat) :
    Inv X pins σ (upd H p (.lst ys)) { s with heap := s.heap.update p f, toks := t } := by
  have e : (s.heap.update p f).get? p = some { cls := .type "list", data := .seq its'.toArray n' } := by
    rw [Heap.get?_update_self f ho (by rw [hf] <;> rfl), hf]
  refine I.write (x := p) (e := p) (by rw [h]; trivial) (.inl rfl) (fun b u hb q => (Heap.get?_update_other _ _ (Ne.symm hb)).trans q) ⟨_, e⟩ ?_
  exact ⟨hz, its', n', r, e⟩
def rSetL : V → V → V → Hp → (Hp → Prop) → Prop := fun o i v H Q => ∃ p xs k j, o = .ref p ∧ i = .int k ∧ H p = some (.lst xs) ∧ ixN xs.length k = some j ∧ Q (upd H p (.lst (xs.set j v)))
theorem set_list : PSet X rSetL := by
  intro pins s σ H o i v ov iv u Q I ro ri rv h
  obtain ⟨p, xs, k, j, rfl, rfl, hp, hj, q⟩ := h
  cases ro
  obtain ⟨t, rfl⟩ := ri
  obtain ⟨its, n, r, ho, hz⟩ := I.lst hp
  obtain ⟨h1, h2, h3, h4⟩ := ixN_seq hj
  have hl := r.length
  have hn := line63
  have I' : Inv X pins σ (upd H p (.lst (xs.set j v))) { s with heap := s.heap.update p (Obj.mapSeq (·.setIfInBounds j u)) } :=
    I.lstUpd hp ho (mapSeq_set its n j u) (r.set rv j) (by rw [List.length_set]; exact hz) s.toks
  by_cases h0 : 0 ≤ k
  · have hk : k.toNat = j := by
      rw [seqIndex_of h0 h4] at h1
      exact Option.some.inj h1
    exact PySem.W.ki_setAt ho h0 (by omega) (by rw [List.size_toArray, ← hl]; exact h4) (by rw [hk]; exact ⟨_, I', q⟩)
  · have hk : (k + (its.toArray.size : Int)).toNat = j := by
      rw [seqIndex_neg (by omega) h3] at h1
      rw [List.size_toArray, ← hl]
      exact Option.some.inj h1
    exact PySem.W.ki_setBack ho (by omega) (by rw [List.size_toArray, ← hl]; exact h3) (by omega) (by rw [hk]; exact ⟨_, I', q⟩)

/-! ### slices -/
theorem slice_bounds (lo hi : Option Int) (n : Nat) : (sliceBounds lo hi none n).1 = ((HT.sIx n 0 lo : Nat) : Int) ∧ (sliceBounds lo hi none n).2.1 = ((HT.sIx n n hi : Nat) : Int) ∧ (sliceBounds lo hi none n).2.2 = 1 := by
  refine ⟨?_, ?_, rfl⟩
  · cases lo with
    | none => simp [sliceBounds, HT.sIx]
    | some i =>
      simp only [sliceBounds, HT.sIx, Option.getD_none, show (1 : Int) > 0 by decide, if_true]
      by_cases h : i < 0
      · simp only [h, if_true] <;> omega
      · simp only [h, if_false] <;> omega
  · cases hi with
    | none => simp [sliceBounds, HT.sIx]
    | some i =>
      simp only [sliceBounds, HT.sIx, Option.getD_none, show (1 : Int) > 0 by decide, if_true]
      by_cases h : i < 0
      · simp only [h, if_true] <;> omega
      · simp only [h, if_false] <;> omega
theorem slicePick_cut (its : List Value) (lo hi : Option Int) : slicePick its.toArray lo hi none = ((its.drop (HT.sIx its.length 0 lo)).take (HT.sIx its.length its.length hi - HT.sIx its.length 0 lo)).toArray := by
  obtain ⟨h1, h2, h3⟩ := slice_bounds lo hi its.toArray.size
  unfold slicePick
  rw [h1, h2, h3]
  simp only [sliceRange_one, pick_run, List.size_toArray] <;> rfl
/-- xs[lo:hi] of a list: a new list -/
def rSlL (K : PySem.W.Frag) : V → Option Int → Option Int → Hp → VK → Prop := fun x lo hi H Q => ∃ a xs, x = .ref a ∧ SqL K H a xs ∧ ∀ p, H p = none → Q (.ref p) (upd H p (.lst (cutV xs lo hi)))
theorem sl_list : SlR X (rSlL X.K) := by
  intro pins s σ H x v vl vu lo hi sl Q I rx hs pl pu h
  obtain ⟨a, xs, rfl, hx, q⟩ := h
  cases rx
  obtain ⟨its, r, ht, hz⟩ := I.list hx
  have hlen := r.length
  refine ⟨"list", _, slot_list_getitem.lookup, ht.isList.typeIs, ?_⟩
  refine wpAny_getItem_list_slice ht.isList hs pl pu .none (by simp) ?_ (by rw [List.size_toArray] <;> omega)
  rw [slicePick_cut, ← hlen]
  refine ⟨.ref s.heap.objs.size, _, I.laid (t' := s.toks) (o := .lst (cutV xs lo hi)) (fun b ob q => Heap.get?_push_of_some _ q) (Nat.le_refl _) ?_, rfl, q _ (I.hok.fresh (Nat.le_refl _))⟩
  exact ⟨Nat.le_trans (cutV_length xs lo hi) hz, _, 0, (r.drop (HT.sIx xs.length 0 lo)).take (HT.sIx xs.length xs.length hi - HT.sIx xs.length 0 lo), Heap.get?_push_size _ rfl⟩

/-! ### in, not in: flat items -/
def flatV : V → Bool
  | .non => true
  | .bl _ => true
  | .int _ => true
  | .str _ => true
  | _ => false
/-- == of flat values -/
def eqV : V → V → Bool
  | .non, .non => true
  | .bl a, .bl b => a == b
  | .bl a, .int b => (if a then 1 else 0) == b
  | .int a, .bl b => a == (if b then 1 else 0)
  | .int a, .int b => a == b
  | .str a, .str b => a == b
  | _, _ => false
theorem eqAt_V {A : Around} {s : Shared} {y x : V} {u v : Value} (ry : RelV y u) (rx : RelV x v) (fy : flatV y = true) (fx : flatV x = true) : SeqAt.EqAt A s u v (eqV y x) := by
  cases y with
  | non =>
    cases ry
    cases x with
    | non => cases rx; exact SeqAt.EqAt.same _
    | bl b => cases rx; exact SeqAt.EqAt.none_bool b
    | int b => obtain ⟨t, rfl⟩ := rx; exact SeqAt.EqAt.none_int b t
    | str b => obtain ⟨t, rfl⟩ := rx; exact SeqAt.EqAt.none_str b t
    | _ => exact absurd (show false = true from fx) Bool.false_ne_true
  | bl a =>
    cases ry
    cases x with
    | non => cases rx; exact SeqAt.EqAt.bool_none a
    | bl b => cases rx; exact SeqAt.EqAt.bool_bool a b
    | int b => obtain ⟨t, rfl⟩ := rx; exact SeqAt.EqAt.bool_int a b t
    | str b => obtain ⟨t, rfl⟩ := rx; exact SeqAt.EqAt.bool_str a b t
    | _ => exact absurd (show false = true from fx) Bool.false_ne_true
  | int a =>
    obtain ⟨t', rfl⟩ := ry
    cases x with
    | non => cases rx; exact SeqAt.EqAt.int_none a t'
    | bl b => cases rx; exact SeqAt.EqAt.int_bool a t' b
    | int b => obtain ⟨t, rfl⟩ := rx; exact SeqAt.EqAt.int_int a t' b t
    | str b => obtain ⟨t, rfl⟩ := rx; exact SeqAt.EqAt.int_str a t' b t
    | _ => exact absurd (show false = true from fx) Bool.false_ne_true
  | str a =>
    obtain ⟨t', rfl⟩ := ry
    cases x with
    | non => cases rx; exact SeqAt.EqAt.str_none a t'
    | bl b => cases rx; exact SeqAt.EqAt.str_bool a t' b
    | int b => obtain ⟨t, rfl⟩ := rx; exact SeqAt.EqAt.str_int a t' b t
    | str b => obtain ⟨t, rfl⟩ := rx; exact SeqAt.EqAt.str_str a t' b t
    | _ => exact absurd (show false = true from fx) Bool.false_ne_true
  | _ => exact absurd (show false = true from fy) Bool.false_ne_true
/-- the items' answers, read off the values (a value's own answer does not lean on its token) -/
def eqU (x : V) (u : Value) : Bool := match u with
  | .none => eqV .non x
  | .bool b => eqV (.bl b) x
  | .int i _ => eqV (.int i) x
  | .str z _ => eqV (.str z) x
  | _ => false
theorem eqU_of {x y : V} {u : Value} (r : RelV y u) (f : flatV y = true) : eqU x u = eqV y x := by
  cases y with
  | non => cases r; rfl
  | bl b => cases r; rfl
  | int i => obtain ⟨t, rfl⟩ := r; rfl
  | str z => obtain ⟨t, rfl⟩ := r; rfl
  | _ => exact absurd (show false = true from f) Bool.false_ne_true
theorem any_eqU {x : V} : ∀ {xs : List V} {us : List Value}, Vals xs us → xs.all flatV = true → us.any (eqU x) = xs.any fun y => eqV y x
  | _, _, .nil, _ => rfl
  | y :: xs, u :: us, .cons r t, f => by
    rw [List.all_cons, Bool.and_eq_true] at f
    rw [List.any_cons, List.any_cons, eqU_of r f.1, any_eqU t f.2]
theorem mem_eqAt {A : Around} {s : Shared} {x : V} {v : Value} (rx : RelV x v) (fx : flatV x = true) : ∀ {xs : List V} {us : List Value}, Vals xs us → xs.all flatV = true → ∀ u ∈ us, SeqAt.EqAt A s u v (eqU x u)
  | _, _, .nil, _ => fun u hu => by cases hu
  | y :: xs, u :: us, .cons r t, f => fun u' hu => by
    rw [List.all_cons, Bool.and_eq_true] at f
    rcases List.mem_cons.mp hu with rfl | hu
    · rw [eqU_of r f.1]; exact eqAt_V r rx f.1 fx
    · exact mem_eqAt rx fx t f.2 u' hu
def inV (x : V) (xs : List V) : Bool := xs.any fun y => eqV y x
/-- x in a list or tuple of flat items -/
def rIn (K : PySem.W.Frag) (neg : Bool) : R2 := fun x y H Q => ∃ p xs, y = .ref p ∧ (SqL K H p xs ∨ SqT K H p xs) ∧ flatV x = true ∧ xs.all flatV = true ∧ Q (.bl (if neg then !inV x xs else inV x xs)) H
theorem op_in_seq : OpR X (compareOp .In) (rIn X.K false) := by
  intro pins s σ H x y v u Q I rx ry h
  obtain ⟨p, xs, rfl, hq, fx, fs, q⟩ := h
  cases ry
  rcases hq with hq | hq
  · obtain ⟨its, r, pl, hz⟩ := I.list hq
    refine SeqAt.in_listAt (eqU x) pl.isList (fun w hw => mem_eqAt rx fx r fs w (by simpa using hw)) ⟨.bl _, H, I, rfl, ?_⟩
    rw [show its.toArray.any (eqU x) = its.any (eqU x) by simp, any_eqU r fs]
    exact q
  · obtain ⟨its, r, pl, hz⟩ := I.tuple hq
    refine SeqAt.in_tupleAt (eqU x) pl (fun w hw => mem_eqAt rx fx r fs w (by simpa using hw)) ⟨.bl _, H, I, rfl, ?_⟩
    rw [show its.toArray.any (eqU x) = its.any (eqU x) by simp, any_eqU r fs]
    exact q
/-! ### len, list(x), tuple(x) of any list or tuple that is read -/
theorem call_tuple_of : CallR X (.type "tuple") (fun xs H Q => ∃ p ys, xs = [.ref p] ∧ ((SqL X.K H p ys ∧ ∀ l, H l = none → Q (.ref l) (upd H l (.tup ys))) ∨ (SqT X.K H p ys ∧ Q (.ref p) H))) := by
  intro pins s σ H xs us Q I r h
  obtain ⟨p, ys, rfl, h⟩ := h
  obtain ⟨u, rfl, rx⟩ := vals1 r
  cases rx
  rcases h with ⟨hq, q⟩ | ⟨hq, q⟩
  · obtain ⟨its, r', pl, hz⟩ := I.list hq
    have hlen := r'.length
    refine call_tuple_list pl.isList (fun h' kp => ?_) (by simp only [List.size_toArray] <;> omega)
    have I1 : Inv X pins σ H { s with heap := h' } := I.kept (t' := s.toks) kp
    have I2 : Inv X pins σ (upd H h'.objs.size (.tup ys)) { s with heap := h'.push { cls := .type "tuple", data := .seq its.toArray } } :=
      I1.laid (t' := s.toks) (fun b o e => Heap.get?_push_of_some _ e) (Nat.le_refl _) (show ObjOk X.prog X.w _ _ _ (.tup ys) from ⟨hz, its, r', PTup.new _ _⟩)
    exact ⟨.ref h'.objs.size, _, I2, rfl, q _ (I1.hok.fresh (Nat.le_refl _))⟩
  · obtain ⟨its, r', pl, hz⟩ := I.tuple hq
    exact call_tuple_same pl ⟨.ref p, H, I, rfl, q⟩

/-! ### the call of a builtin's method: o.m(..) -/
/-- the value is of that builtin type -/
def tyV (K : PySem.W.Frag) (T : String) (x : V) (H : Hp) : Prop := match x with
  | .str _ => T = "str"
  | .int _ => T = "int"
  | .ref p => (T = "list" ∧ ∃ xs, SqL K H p xs) ∨ (T = "tuple" ∧ ∃ o, K.lookup p = some o ∧ o.cls = .type "tuple" ∧ o.dict = none) ∨
      (T = "dict" ∧ ((∃ kvs, H p = some (.dK kvs)) ∨ ∃ kvs, H p = some (.dT kvs))) ∨ (T = "set" ∧ ∃ S n, H p = some (.set S n)) ∨ (T = "tuple" ∧ ∃ xs, H p = some (.tup xs))
  | _ => False
theorem tyV_is {pins : List (Addr × Obj)} {σ : St} {H : Hp} {s : Shared} {T : String} {x : V} {v : Value} (I : Inv X pins σ H s) (r : RelV x v) (ty : tyV X.K T x H) :
    s.TypeIs v T ∧ ∀ a, v = .ref a → ∃ ob, s.heap.get? a = some ob ∧ ob.dict = none := by
  cases x with
  | str z =>
    obtain ⟨t, rfl⟩ := r
    cases (show T = "str" from ty)
    exact ⟨typeIs_str s z t, fun _ e => nomatch e⟩
  | int i =>
    obtain ⟨t, rfl⟩ := r
    cases (show T = "int" from ty)
    exact ⟨typeIs_int s i t, fun _ e => nomatch e⟩
  | ref p =>
    cases r
    rcases ty with ⟨rfl, xs, hq⟩ | ⟨rfl, o, hk, hc, hd⟩ | ⟨rfl, hk⟩ | ⟨rfl, S, n, hk⟩ | ⟨rfl, xs, hk⟩
    rotate_left 4
    · obtain ⟨_, its, _, o, e, c, _, hd⟩ := I.hok p _ hk
      exact ⟨⟨o, e, c⟩, fun a e2 => by cases e2; exact ⟨o, e, hd⟩⟩
    · obtain ⟨its, _, pl, _⟩ := I.list hq
      refine ⟨pl.isList.typeIs, fun a e => ?_⟩
      cases e
      obtain ⟨o, n, e, c, hd, _⟩ := pl
      exact ⟨o, e, hd⟩
    · refine ⟨⟨o, I.kIn p o hk, hc⟩, fun a e => ?_⟩
      cases e
      exact ⟨o, I.kIn _ o hk, hd⟩
    · have z : ∃ o, s.heap.get? p = some o ∧ o.ExactDict := by
        rcases hk with ⟨kvs, hk⟩ | ⟨kvs, hk⟩
        · obtain ⟨_, _, _, _, o, _, _, e, ex, _⟩ := I.hok p _ hk
          exact ⟨o, e, ex⟩
        · obtain ⟨_, _, _, _, o, _, _, e, ex, _⟩ := I.hok p _ hk
          exact ⟨o, e, ex⟩
      obtain ⟨o, e, ex⟩ := z
      refine ⟨⟨o, e, ex.1⟩, fun a e2 => ?_⟩
      cases e2
      exact ⟨o, e, ex.2.1⟩
    · obtain ⟨o, _, _, _, e, ex, _⟩ := I.hok p _ hk
      refine ⟨⟨o, e, ex.1⟩, fun a e2 => ?_⟩
      cases e2
      exact ⟨o, e, ex.2.1⟩
  | _ => exact False.elim ty
def tBM (K : PySem.W.Frag) (T : String) (r : V → List V → Hp → VK → Prop) (to : TE) (t : TA) : TE := fun σ H Q => to σ H fun x H1 => tyV K T x H1 ∧ t σ H1 fun xs H2 => r x xs H2 Q
variable {o e : Expr} {es : List Expr} {to : TE} {t : TA} {name : Str} {apos cpos : Pos} {T id : String} {r : V → List V → Hp → VK → Prop}
theorem pe_bm (pa : PlainAttrs T) (slot : Slot T name id) (hty : typeOf (.builtin id) = pure (.type "method_descriptor")) (hm : MtR X id r) (ho : PE X o to) (ha : PA X (e :: es) t)
    (hbase : attributeBase o name X.env (eval o X.env) = eval o X.env := by rfl)
    (hfew : ((backTo cpos (starEach (e :: es) X.env)).all (fun x => !x.1) && (backToKw cpos (keywordEach [] X.env)).all (fun x => x.1.isSome)
      && decide ((e :: es).length + ([] : List Keyword).length + (if ([] : List Keyword).isEmpty then 0 else 1) < 30)) = true := by rfl)
    (hline : (apos.endLine == cpos.line) = true := by rfl) (hs : starEach (e :: es) X.env = (false, eval e X.env) :: starEach es X.env := by rfl) (hplain : (backTo cpos (starEach es X.env)).any (·.1) = false := by rfl) :
    PE X (.Call (.Attribute o name apos) (e :: es) [] cpos) (tBM X.K T r to t) := by
  intro pins s σ H Q I h
  refine wpAny_Call_method_late hbase hfew hline rfl (thn (ho pins s σ H _ I h) fun v s1 ⟨x, H1, I1, r1, ty, q1⟩ => ?_)
  obtain ⟨h1, h2⟩ := tyV_is I1 r1 ty
  refine ⟨T, id, pa, slot, hty, h1, h2, ?_⟩
  have hA := ha cpos pins s1 σ H1 _ I1 q1
  rw [hs] at hA ⊢
  refine Calls.callWith_builtin (by show (false || (backTo cpos (starEach es X.env)).any (·.1)) = false; rw [hplain] <;> rfl) (Calls.evalArgs_plain ?_)
  exact thn hA fun us s2 ⟨vs, H2, I2, r2, q2⟩ => hm pins s2 σ H2 x vs v us Q I2 r1 r2 q2
/- xs.append(e), list.index on a module's tuple .. are MtR facts of 06m -/
end
end L2

namespace L2
open PySem PySem.Spec PyProof.Rows

def MtM (X : Cx) (id : String) (r : V → List V → Hp → VK → Prop) : Prop :=
  ∀ (pins : List (Addr × Obj)) (s : Shared) (σ : St) (H : Hp) (x : V) (xs : List V) (v : Value) (us : List Value) (Q : VK), Inv X pins σ H s → RelV x v → Vals xs us → r x xs H Q →
    wpAny (model X.prog X.w) X.A (call (.builtin id) (v :: us)) (EP X pins σ Q) X.xe s

/-! ### lists of values -/
theorem Vals.one : ∀ {x : V} {us : List Value}, Vals [x] us → ∃ u, us = [u] ∧ RelV x u
  | _, _, .cons r .nil => ⟨_, rfl, r⟩
theorem Vals.rep {xs : List V} {us : List Value} (h : Vals xs us) : ∀ k : Nat, Vals (List.replicate k xs).flatten (List.replicate k us).flatten
  | 0 => .nil
  | k + 1 => by
    rw [List.replicate_succ, List.replicate_succ, List.flatten_cons, List.flatten_cons]
    exact Vals.append h (Vals.rep h k)
theorem foldl_rep (its : List Value) : ∀ (k : Nat) (acc : List Value),
    List.foldl (fun x1 x2 => x1 ++ x2) acc.toArray (List.replicate k its.toArray) = (acc ++ (List.replicate k its).flatten).toArray
  | 0, acc => by simp
  | k + 1, acc => by
    have e : acc.toArray ++ its.toArray = (acc ++ its).toArray := by simp
    have e2 : (acc ++ its) ++ (List.replicate k its).flatten = acc ++ (List.replicate (k + 1) its).flatten := by
      rw [List.replicate_succ, List.flatten_cons, List.append_assoc]
    rw [← e2, ← foldl_rep its k (acc ++ its), ← e, List.replicate_succ, List.foldl_cons]

section
variable {X : Cx} {pins : List (Addr × Obj)} {σ : St} {H : Hp} {s : Shared} {l b : Addr} {xs ys zs : List V}

/-! ### the two steps: a tracked list is rewritten, a new list is laid -/
theorem Inv.lset {its its' : List Value} {n : Nat} {f : Array Value → Array Value} {t' : Nat} (I : Inv X pins σ H s) (hH : H l = some (.lst xs))
    (e : s.heap.get? l = some { cls := .type "list", data := .seq its.toArray n }) (hf : f its.toArray = its'.toArray) (hv : Vals ys its') (hz : ys.length ≤ sizeLine) :
    Inv X pins σ (upd H l (.lst ys)) { s with heap := s.heap.update l (Obj.mapSeq f), toks := t' } := by
  have q := PySem.IsL.update e f
  rw [hf] at q
  refine I.write (x := l) (e := l) (by rw [hH]; exact trivial) (.inl rfl) (fun b' u hb hu => (Heap.get?_update_other s.heap (Obj.mapSeq f) (Ne.symm hb)).trans hu) ⟨_, q⟩ ?_
  exact ⟨hz, its', _, hv, q⟩
theorem Inv.lnew {its : List Value} {t' : Nat} (I : Inv X pins σ H s) (hv : Vals ys its) (hz : ys.length ≤ sizeLine) :
    Inv X pins σ (upd H s.heap.objs.size (.lst ys)) { s with heap := s.heap.push { cls := .type "list", data := .seq its.toArray }, toks := t' } :=
  I.laid (fun _ _ q => Heap.get?_push_of_some _ q) (Nat.le_refl _) ⟨hz, its, 0, hv, Heap.get?_push_size _ rfl⟩
theorem Inv.fresh (I : Inv X pins σ H s) : H s.heap.objs.size = none := I.hok.fresh (Nat.le_refl _)
theorem Inv.lstM (I : Inv X pins σ H s) (hH : H l = some (.lst xs)) : xs.length ≤ sizeLine ∧ ∃ (its : List Value) (n : Nat), Vals xs its ∧ xs.length = its.length ∧ s.heap.get? l = some { cls := .type "list", data := .seq its.toArray n } := by
  obtain ⟨z, its, n, r, e⟩ := I.hok l _ hH
  exact ⟨z, its, n, r, r.length, e⟩

theorem notLongL {n : Nat} (h : n ≤ sizeLine) : Builtin.List.listTooLong n = false := by
  unfold Builtin.List.listTooLong
  exact decide_eq_false (by omega)
end

section
variable {X : Cx}

/-! ### methods -/
def rAppend : V → List V → Hp → VK → Prop := fun x vs H Q => ∃ l xs y, x = .ref l ∧ vs = [y] ∧ H l = some (.lst xs) ∧ xs.length < sizeLine ∧ Q .non (upd H l (.lst (xs ++ [y])))
theorem mt_append : MtM X "list.append" rAppend := by
  intro pins s σ H x vs v us Q I rx rv h
  obtain ⟨l, xs, y, rfl, rfl, hH, hz, q⟩ := h
  cases rx
  obtain ⟨u, rfl, ru⟩ := rv.one
  obtain ⟨z, its, n, r, hl, e⟩ := I.lstM hH
  refine call_meets F.slot_list_append ⟨_, e, rfl⟩ F.entry_list_append (F.args_list_append_2 _ _) (PySem.list_append l its.toArray n u (by rw [List.size_toArray]; omega)) ⟨e, ?_⟩
  refine ⟨.non, _, I.lset (its' := its ++ [u]) hH e (by simp) (r.append (.cons ru .nil)) ?_, rfl, q⟩
  rw [List.length_append, List.length_singleton]
  omega

def rExtend : V → List V → Hp → VK → Prop := fun x vs H Q => ∃ l b xs zs, x = .ref l ∧ vs = [.ref b] ∧ H l = some (.lst xs) ∧ H b = some (.lst zs) ∧ xs.length + zs.length ≤ sizeLine ∧ Q .non (upd H l (.lst (xs ++ zs)))
theorem mt_extend : MtM X "list.extend" rExtend := by
  intro pins s σ H x vs v us Q I rx rv h
  obtain ⟨l, b, xs, zs, rfl, rfl, hH, hB, hz, q⟩ := h
  cases rx
  obtain ⟨u, rfl, ru⟩ := rv.one
  cases ru
  obtain ⟨z, its, n, r, hl, e⟩ := I.lstM hH
  obtain ⟨z2, its2, n2, r2, hl2, e2⟩ := I.lstM hB
  have hsz : its.toArray.size + its2.toArray.size ≤ sizeLine := by rw [List.size_toArray, List.size_toArray]; omega
  have hlong : ¬ (!its.toArray.isEmpty && Builtin.List.listTooLong (its.toArray.size + its2.toArray.size)) = true := by
    rw [notLongL hsz, Bool.and_false]
    exact Bool.false_ne_true
  refine call_meets F.slot_list_extend ⟨_, e, rfl⟩ F.entry_list_extend (F.args_list_extend_2 _ _)
    (AutoSeq1.list_extend_list_list_0 l its.toArray n b its2.toArray n2 hlong (by rw [List.size_toArray]; omega) (by omega)) ⟨e, e2, ?_⟩
  refine ⟨.non, _, I.lset (its' := its ++ its2) hH e (by simp) (r.append r2) ?_, rfl, q⟩
  rw [List.length_append]
  omega

/-! ### list + list, list += list, list * int -/
def rCat : R2 := fun x y H Q => ∃ l b xs zs, x = .ref l ∧ y = .ref b ∧ H l = some (.lst xs) ∧ H b = some (.lst zs) ∧ xs.length + zs.length ≤ sizeLine ∧ ∀ p, H p = none → Q (.ref p) (upd H p (.lst (xs ++ zs)))
theorem op_cat : OpR X (binaryOp .Add) rCat := by
  intro pins s σ H x y v u Q I rx ry h
  obtain ⟨l, b, xs, zs, rfl, rfl, hH, hB, hz, q⟩ := h
  cases rx
  cases ry
  obtain ⟨z, its, n, r, hl, e⟩ := I.lstM hH
  obtain ⟨z2, its2, n2, r2, hl2, e2⟩ := I.lstM hB
  refine PySem.P.add_list e e2 ?_ (by rw [List.size_toArray, List.size_toArray]; omega)
  have ea : its.toArray ++ its2.toArray = (its ++ its2).toArray := by simp
  rw [ea]
  exact ⟨.ref _, _, I.lnew (t' := s.toks) (r.append r2) (by rw [List.length_append]; omega), rfl, q _ I.fresh⟩
theorem len_rep {α : Type} (xs : List α) (k : Nat) : (List.replicate k xs).flatten.length = k * xs.length := by
  induction k with
  | zero => simp
  | succ k ih => rw [List.replicate_succ, List.flatten_cons, List.length_append, ih, Nat.succ_mul, Nat.add_comm]
/-! ### del xs[i] -/
end

/-! ### xs[a:b] = ys -/
section
variable {prog : Program} {w : World} {A : Around} {E : Value → Shared → Prop} {s : Shared}
set_option maxRecDepth 100000 in
end

section
variable {X : Cx}
end
end L2

namespace Att
open PySem PySem.W PySem.Calls PyProof.Rows

/-! ### the script -/
theorem ints_of_wellAll {P : Params} {h : Heap} : ∀ (ns : List Int) (vs : List Value), WellAll P h vs (ns.map WData.int) → IntsAre vs ns := by
  intro ns
  induction ns with
  | nil =>
    intro vs w
    rw [List.map_nil] at w
    cases w
    exact .nil
  | cons n ns ih =>
    intro vs w
    rw [List.map_cons] at w
    cases w with
    | cons a b =>
      cases a
      exact .cons _ _ (ih _ b)

theorem script_of {l : OpenLaw} {n : Nat} (hn : l.most = some n) {P : Params} {h : Heap} {args : List WData} {vals : List Value}
    (hpre : l.row.toRowW.claim.pre args = true) (hwl : WellAll P h vals args) :
    ∃ a vs ns, vals = [Value.ref a] ∧ args = [WData.list (ns.map WData.int)] ∧ h.get? a = some { cls := .type "list", data := .seq vs.toArray } ∧ IntsAre vs ns ∧ ns.length ≤ n := by
  have hsh : WShape.hasAll [] args [.list .int] = true := (pre_splitW hpre).1
  have hc : l.pre.holds [] { args := args } = true := (pre_splitW hpre).2
  obtain ⟨d, r, rfl, h1, h2⟩ := hasAllW_cons hsh
  obtain rfl := hasAllW_nil h2
  obtain ⟨xs, rfl, h3⟩ := hasW_list h1
  obtain ⟨ns, rfl⟩ := items_int h3
  have hlen : ns.length ≤ n := by
    unfold OpenLaw.pre at hc
    have h4 : (WTm.not (.lt (.lit (.int (n : Int))) (.len (.arg 0)))).holds [] { args := [.list (ns.map .int)] } = true := by
      have h4 := (holds_andW hc).1
      rw [hn] at h4
      exact h4
    have h5 := condW_of h4 (w_not (w_lt w_lit (w_len_list (w_arg rfl))))
    rw [List.length_map] at h5
    refine Nat.le_of_not_lt fun q => ?_
    have q' : (n : Int) < ((ns.length : Nat) : Int) := by omega
    first
      | (rw [decide_eq_true q'] at h5; exact absurd h5 (by decide))
      | (simp at h5; omega)
  cases hwl with
  | cons w1 w2 =>
    cases w2
    cases w1 with
    | list ho hall => exact ⟨_, _, ns, rfl, rfl, ho, ints_of_wellAll ns _ hall, hlen⟩

theorem post_true (l : OpenLaw) (args : List WData) : l.row.toRowW.claim.post args (.bool true) args = true :=
  postW_of (r := l.row.toRowW) (X := (true == true))
    (show WShape.has [] (.bool true) .bool = true by first | rfl | decide | simp [WShape.has, WShape.arms, WShape.armsAll])
    (show (WTm.eq .res (.lit (.bool true))).value [] { args := args, res := some (.bool true), after := args } = some (.bool (true == true)) from w_eq_bool (w_res rfl) w_lit) rfl

/-! ### the attachment: holds_open's last premise (the goal 'hc' behind k_head) from a wpAny of the law's body -/
/-- the same from a codeAny of the CALL (for a layer whose function contracts speak of calls) -/
theorem attach_call {l : OpenLaw} {n : Nat} {q : Program} {loose : List Str} {XP : (Str → Option Value) → Heap → Prop} {YP : World → Heap → Prop} {d : DefRec}
    (hn : l.most = some n) (hdf : d.params.defaults = [])
    (call : ∀ (w : World) (s₀ s₁ : Shared) (mg mb : Str → Option Value) (fa : Addr) (o : Obj) (pm cd doc : Value) (a : Addr) (vs : List Value) (ns : List Int),
      Ground q loose [] XP w s₀ mg mb s₁.heap → YP w s₁.heap →
      s₁.heap.get? fa = some o → o.data = .func (docDef d.name d.params d.body d.scope pm cd doc) → s₁.heap.CodeRec cd d.name → mg d.name = some (.ref fa) →
      s₁.heap.get? a = some { cls := .type "list", data := .seq vs.toArray } → IntsAre vs ns → ns.length ≤ n → s₁.gens = #[] →
      codeAny (model l.prog w) callerA (.call (.ref fa) ⟨[.ref a], []⟩) (fun r s' => r = .ok (.ret (.bool true)) ∧ OldK s₁.heap s'.heap ∧ s'.os = s₁.os ∧ AllBare s'.gens) s₁) :
    WalkO q loose XP YP l.row.toRowW d [] (fun f vs => PySem.call f vs) := by
  intro w s₀ s₁ mg mb G Y fa o pm cd doc dV kV ho hd hcd hD hmg hg args vals as hpre hlay hrd hwl hlo
  obtain rfl : dV = .none := Dflts.none hD hdf
  obtain rfl : kV = .none := Dflts.noKw hD
  obtain ⟨a, vs, ns, rfl, rfl, hobj, hints, hlen⟩ := script_of hn hpre hwl
  refine enter_call (codeAny_mono (call w s₀ s₁ mg mb fa o pm cd doc a vs ns G Y ho (fd_plain hd) hcd hmg hobj hints hlen hg) fun r s' hq => ?_)
  obtain ⟨rfl, h2, h3, h4⟩ := hq
  exact ⟨.inl ⟨.bool true, .bool true, [], rfl, fun _ => rfl, .bool true, post_true l _, fun _ => ⟨List.Pairwise.nil, fun _ hm => (nomatch hm)⟩⟩, h2, h3, h4⟩

/-! ### rules over ANY heap (no ledger) from facts about the written part K: the library's own take a ledger (News) for what they write -/
section
variable {prog : Program} {w : World} {A : Around} {E : Value → Shared → Prop} {s : Shared} {K : Frag}

/-! the whole heap as the ledger: makes every rule that writes through a ledger a rule over any heap -/
end
end Att

namespace L2
open PySem PySem.Spec PyProof.Rows

theorem vals_ints : ∀ {vs : List Value} {ns : List Int}, IntsAre vs ns → Vals (ns.map V.int) vs
  | _, _, .nil => .nil
  | _, _, .cons n t h => .cons ⟨t, rfl⟩ (vals_ints h)

/-- nothing is tracked but the script, known to the object (or it is an object of the module) -/
def Only (H : Hp) : Prop := ∀ b, H b = none ∨ ∃ o xs, H b = some (.frz o (.lst xs))

/-- THE HEAD: the law's promise, at the heap behind the top. F, the promise of the law's def, may use that base is part of the heap (so K.In base, base.Ns mainGlobals mg stand in Mod) -/
theorem law_call {P : Program} {w : World} {K : PySem.W.Frag} {mg mb : Str → Option Value} {CX : CXT} {k : Nat} {fa a : Addr} {fd : FuncData} {x : Str} {sp : Sp} {s₁ : Shared} {vs : List Value} {ns : List Int}
    (KX : K.In s₁.heap) (hns : s₁.heap.Ns mainGlobals mg) (hb : s₁.heap.Ns builtinsNs mb) (hbb : ∀ x : Str, x ≠ "__name__" → mb x = bootBuiltins x) (hlim : s₁.heap.NoLimit) (hg : s₁.gens = #[])
    (ha : s₁.heap.get? a = some { cls := .type "list", data := .seq vs.toArray }) (hi : IntsAre vs ns) (hl : ns.length ≤ sizeLine) (hr : Room k callerA)
    (F : ∀ base : Heap, K.In base → base.Ns mainGlobals mg → FnOk P w K mg base CX k fa fd [x] sp) (hbind : ∀ (s : Shared) (u : Value), BindsTo s fd ⟨[u], []⟩ [(x, u)])
    (hsp : ∀ H : Hp, Only H → SqL K H a (ns.map V.int) → sp [.ref a] H (fun v _ => v = .bl true) fun _ _ _ => False)
    (hCX : ∀ H e s', CX [] H s₁ (fun _ _ _ => False) e s' → False) :
    codeAny (model P w) callerA (.call (.ref fa) ⟨[.ref a], []⟩) (fun r s' => r = .ok (.ret (.bool true)) ∧ OldK s₁.heap s'.heap ∧ s'.os = s₁.os ∧ AllBare s'.gens) s₁ := by
  have rv := vals_ints hi
  have lenV := hi.length
  -- from an abstract heap in which nothing but the script may be tracked
  have core : ∀ H : Hp, Only H → SqL K H a (ns.map V.int) → HOk P w H s₁.heap → (∀ b, H b ≠ none → b = a) → (H a ≠ none → K.lookup a = none) →
      codeAny (model P w) callerA (.call (.ref fa) ⟨[.ref a], []⟩) (fun r s' => r = .ok (.ret (.bool true)) ∧ OldK s₁.heap s'.heap ∧ s'.os = s₁.os ∧ AllBare s'.gens) s₁ := by
    intro H hO hS hok hA hK
    have base_of : ∀ {b : Addr} {o : Obj}, s₁.heap.get? b = some o → H b = none → (hidT s₁.heap H).get? b = some o := fun e n => hidT_get e n
    have noA : ∀ {b : Addr} {o : Obj} {es : Array DictEntry} {ep : Nat}, s₁.heap.get? b = some o → o.data = .dict es ep → H b = none := fun {b o es ep} e d => by
      cases q : H b with
      | none => rfl
      | some u =>
        have e' : b = a := hA b (by rw [q]; simp)
        subst e'
        rw [ha] at e; cases e
        have d' : Data.seq vs.toArray _ = Data.dict es ep := d
        cases d'
    have nsK : ∀ {b : Addr} {m : Str → Option Value}, s₁.heap.Ns b m → (hidT s₁.heap H).Ns b m := fun {b m} ⟨o, es, ep, e, d, r⟩ => ⟨o, es, ep, base_of e (noA e d), d, r⟩
    have hKb : K.In (hidT s₁.heap H) := fun b o e => base_of (KX b o e) (by
      cases q : H b with
      | none => rfl
      | some u =>
        have e' : b = a := hA b (by rw [q]; simp)
        subst e'
        rw [hK (by rw [q]; simp)] at e; cases e)
    have hM : Mod K mg (hidT s₁.heap H) := ⟨hKb, nsK hns, ⟨mb, nsK hb, hbb⟩, let ⟨mc, h1, h2⟩ := hlim; ⟨mc, nsK h1, h2⟩⟩
    have e0 : Env0 P w K mg (hidT s₁.heap H) callerA [] s₁ H := ⟨rfl, hM, fun b o e => of_hidT e, Nat.le_of_eq (hidT_size _ _), trivial, fun b hb => absurd (show b ∈ ([] : List Addr) from hb) (by simp), hok, .of_eq hg⟩
    refine codeAny_mono ((F _ hKb (nsK hns)).run callerA [] s₁ H ⟨[.ref a], []⟩ [.ref a] [.ref a] _ _ hr e0 (hbind s₁ (.ref a)) (.cons rfl .nil) (hsp H hO hS)) fun r s' h => ?_
    cases r with
    | error e => exact (hCX H e s' h).elim
    | ok fl =>
      cases fl with
      | next => exact False.elim h
      | brk => exact False.elim h
      | cont => exact False.elim h
      | ret u =>
        obtain ⟨v, H', os, bare, un, hok', r', q⟩ := h
        have q' : v = .bl true := q
        subst q'
        obtain rfl : u = Value.bool true := r'
        refine ⟨rfl, OldK.of_keep fun b o e => ?_, os, bare⟩
        cases q : H b with
        | none => exact un.keep b o e q (by intro z; exact absurd (show b ∈ ([] : List Addr) from z) (by simp)) (by simp)
        | some u =>
          rcases hO b with z | ⟨ob, xs, z⟩
          · rw [q] at z; cases z
          · have z2 := un.frzs b ob _ z
            obtain ⟨e1, _⟩ := hok b _ z
            obtain ⟨e2, _⟩ := hok' b _ z2
            rw [e] at e1; cases e1
            exact e2
  cases hk : K.lookup a with
  | some o =>
    -- the script is one of the module's own objects
    have e := KX a o hk
    rw [ha] at e
    cases e
    refine core (fun _ => none) (fun _ => .inl rfl) (.inr ⟨_, vs.toArray, _, hk, rfl, rfl, rfl, by rw [List.size_toArray, lenV]; exact hl, by simpa using rv⟩) (fun b u z => by have z' : (none : Option HO) = some u := z; cases z') (fun b z => absurd rfl z) fun z => absurd rfl z
  | none =>
    refine core (fun b => if b = a then some (.frz { cls := .type "list", data := .seq vs.toArray } (.lst (ns.map V.int))) else none) (fun b => ?_) (.inl (.inr ⟨{ cls := .type "list", data := .seq vs.toArray }, if_pos rfl⟩)) (fun b u z => ?_) (fun b z => ?_) fun _ => hk
    · by_cases hb : b = a
      · exact .inr ⟨_, _, if_pos hb⟩
      · exact .inl (if_neg hb)
    · by_cases hb : b = a
      · have z' := (if_pos hb).symm.trans z
        cases z'
        subst hb
        exact ⟨ha, by rw [List.length_map]; exact hl, vs, _, rv, ha⟩
      · have z' := (if_neg hb).symm.trans z
        cases z'
    · by_cases hb : b = a
      · exact hb
      · exact absurd (if_neg hb) z
end L2

namespace L2
open PySem PySem.Spec PyProof.Rows

/-- the goal that k_head leaves (case hc), from the law's promise. F gives the function object fd (K's own) once, then the promise over every base -/
theorem walk_of {l : PySem.W.OpenLaw} {n k : Nat} {q : Program} {loose : List Str} {XP : (Str → Option Value) → Heap → Prop} {YP : World → Heap → Prop} {d : DefRec} {K : Params → PySem.W.Frag} {CX : World → CXT} {sp : World → Sp} {x : Str}
    (hn : l.most = some n) (hn2 : n ≤ sizeLine) (hdf : d.params.defaults = []) (hr : Room k callerA)
    (hY : ∀ (w : World) (h : Heap), YP w h → (K w.params).In h)
    (F : ∀ (w : World) (mg : Str → Option Value) (fa : Addr) (h : Heap), (K w.params).In h → h.Ns mainGlobals mg → mg d.name = some (.ref fa) →
      ∃ fd : FuncData, (∀ (s : Shared) (u : Value), BindsTo s fd ⟨[u], []⟩ [(x, u)]) ∧
        ∀ base : Heap, (K w.params).In base → base.Ns mainGlobals mg → FnOk l.prog w (K w.params) mg base (CX w) k fa fd [x] (sp w))
    (hsp : ∀ (w : World) (H : Hp) (a : Addr) (ns : List Int), ns.length ≤ n → Only H → SqL (K w.params) H a (ns.map V.int) → sp w [.ref a] H (fun v _ => v = .bl true) fun _ _ _ => False)
    (hCX : ∀ (w : World) (H : Hp) (s : Shared) (e : Value) (s' : Shared), CX w [] H s (fun _ _ _ => False) e s' → False) :
    PySem.W.WalkO q loose XP YP l.row.toRowW d [] (fun f vs => PySem.call f vs) := by
  refine Att.attach_call hn hdf fun w s₀ s₁ mg mb fa o pm cd doc a vs ns G Y ho hd hcd hmg hobj hints hlen hg => ?_
  have KX := hY w _ Y
  obtain ⟨fd, hb, hF⟩ := F w mg fa _ KX G.T.g hmg
  exact law_call KX G.T.g G.T.b G.T.builtins G.T.nolimit hg hobj hints (Nat.le_trans hlen hn2) hr hF hb (fun H hO hS => hsp w H a ns hlen hO hS) fun H e s' => hCX w H s₁ e s'
end L2

/- THE LAST THEOREM (shape; LID, My.* are yours):
   My.Adr: a structure of the addresses that your layer names (classes, functions); My.Txt K t: a structure (Prop) of the equations over K;
   My.txt_mk : {K} {implicit addresses ..} (e1 : nsIn K mainGlobals "law" = some (some (.ref f))) (e2 : K.lookup f = some ⟨oc, od, .func (fnOf "law" "law" params body scope dV kV doc pm an cdv ct), sl⟩) (e3 : codeIn K cdv "law" = true) .. : ∃ t, My.Txt K t

set_option maxRecDepth 100000 in
set_option maxHeartbeats 0 in
theorem PySem.Challenge.cw_LID_holds : PySem.Challenge.rw_LID.Holds := by
  w_on; o_law; k_head; (case hw => w_witness2)
  k_fill
  refine L2.walk_of (l := PySem.Challenge.rw_LID) (n := 63) (k := 40) (x := "script") (CX := fun w => ..) (sp := fun _ => My.sp_law) rfl (by decide) rfl ⟨rfl, by decide, by decide⟩ (fun w h Y => PySem.W.kIn_of Y) ?F ?S ?C
  case F =>
    intro w mg fa h KX G hmg
    have T : ∃ t, My.Txt (L2.KOf KX) t := by
      dsimp only [L2.KOf]                          -- K must stand as «<heap const> w.params» for k_is
      refine' My.txt_mk ?e1 ?e2 ?e3 ..
      (case e1 => PySem.W.k_is)                    -- in the order: a name -> its address -> its object -> its parts
      (case e2 => PySem.W.k_is)
      ..
    obtain ⟨t, T⟩ := T
    have e0 := hmg.symm.trans (PySem.W.mg_of KX G T.law)
    cases e0                                       -- fa is the law's own address
    exact ⟨_, fun s u => .of_eq rfl, fun base kb nb => My.law_fn T kb nb⟩     -- if «.of_eq rfl» comes too early: refine' ⟨_, ?b, fun base kb nb => My.law_fn T kb nb⟩; exact fun s u => .of_eq rfl
  case S => exact fun w H a ns hl hO hS => ..
  case C => exact ..
(the tactic k_is has no namespace: write k_is) -/

/-! SHORT WORDS over the layer: a def of the text, its body, what a loop and a test want. -/
namespace L2
open PySem PySem.Spec PyProof.Rows

/-! ### the text by places -/
def defArgs (s : Stmt) : Arguments := match s with
  | .FunctionDef _ a _ _ _ _ _ _ _ _ => a
  | _ => { posonlyargs := [], args := [], vararg := none, kwonlyargs := [], kw_defaults := [], kwarg := none, defaults := [] }
def defBody (s : Stmt) : List Stmt := match s with
  | .FunctionDef _ _ b _ _ _ _ _ _ _ => b
  | _ => []
def defScope (s : Stmt) : Scope := match s with
  | .FunctionDef _ _ _ _ _ _ sc _ _ _ => sc
  | _ => { kind := .function, names := [], isGenerator := false, isCoroutine := false }

/-! ### no exception leaves a def -/
abbrev CX0 : CXT := fun _ _ _ _ _ _ => False
abbrev E0 : XK := fun _ _ _ => False
theorem pass0 {X : Cx} : Passes CX0 X E0 := fun _ _ _ _ _ _ _ h => h.elim

/-! ### a def (or method) of the text as it stands behind the top -/
structure Fun (K : PySem.W.Frag) (x qual : Str) (st : Stmt) (f : Addr) (fd : FuncData) : Prop where
  ex : ∃ (oc : Value) (od : Option Addr) (kV doc pm : Value) (an : Option Addr) (cdv ct : Value) (osl : Array (Option Value)),
    fd = PySem.W.fnOf x qual (defArgs st) (defBody st) (defScope st) .none kV doc pm an cdv ct ∧ K.lookup f = some ⟨oc, od, .func fd, osl⟩ ∧ PySem.W.codeIn K cdv qual = true
  kp : PySem.W.keepIn K (.ref f) = true
section
variable {P : Program} {w : World} {K : PySem.W.Frag} {mg : Str → Option Value} {base : Heap}
/-- THE RULE for a def: its body as a term of rules, and the reading of that term -/
theorem Fun.ok {x qual : Str} {st : Stmt} {f : Addr} {fd : FuncData} {N ps : List Str} {k : Nat} {sp : Sp} (F : Fun K x qual st f fd) (S : FnScope N ps (defScope st)) (len : ∀ vs H Q E, sp vs H Q E → vs.length = ps.length)
    (hbody : ∀ (cdv : Value) (A : Around) (outer : List Env) (s : Shared) (H : Hp) (vs : List V) (Q : VK) (E : XK), Room k (A.deeper (envOfC qual (defScope st) s.heap.objs.size f cdv)) → sp vs H Q E →
      ∃ t, PSs (cxOf CX0 P w K mg base N qual (defScope st) f cdv A outer s H E).nox (defBody st) t ∧ t { nx := fun _ H' => Q .non H', rt := Q } (start N vs) H) : FnOk P w K mg base CX0 (k + 1) f fd ps sp := by
  obtain ⟨oc, od, kV, doc, pm, an, cdv, ct, osl, rfl, lk, hcd⟩ := F.ex
  refine fn_of lk hcd S len fun A outer s H vs Q E hr hsp => ?_
  obtain ⟨t, h, q⟩ := hbody cdv A outer s H vs Q E hr hsp
  exact ⟨t, h.nox, q⟩
/-- how its arguments bind (no defaults): h is «fun _ _ _ _ _ _ us hl => match us, hl with | [_, _], _ => rfl», one _ a parameter -/
theorem Fun.binds {x qual : Str} {st : Stmt} {f : Addr} {fd : FuncData} {ps : List Str} (F : Fun K x qual st f fd)
    (h : ∀ (kV doc pm : Value) (an : Option Addr) (cdv ct : Value) (us : List Value), us.length = ps.length → bindArgs (PySem.W.fnOf x qual (defArgs st) (defBody st) (defScope st) .none kV doc pm an cdv ct) ⟨us, []⟩ = pure (ps.zip us)) : Binds K fd ps [] := by
  obtain ⟨oc, od, kV, doc, pm, an, cdv, ct, osl, rfl, lk, hcd⟩ := F.ex
  exact .all (h kV doc pm an cdv ct)
theorem fun_mk {x qual : Str} {st : Stmt} {f : Addr} {oc : Value} {od an : Option Addr} {osl : Array (Option Value)} {kV doc pm cdv ct : Value} (l : K.lookup f = some ⟨oc, od, .func (PySem.W.fnOf x qual (defArgs st) (defBody st) (defScope st) .none kV doc pm an cdv ct), osl⟩)
    (c : PySem.W.codeIn K cdv qual = true) (k : PySem.W.keepIn K (.ref f) = true) : Fun K x qual st f (PySem.W.fnOf x qual (defArgs st) (defBody st) (defScope st) .none kV doc pm an cdv ct) := ⟨⟨oc, od, kV, doc, pm, an, cdv, ct, osl, rfl, l, c⟩, k⟩
end
theorem hu_of {A : Around} {k : Nat} (hr : Room k A) : A.units + 1 < cLine := Nat.lt_of_le_of_lt (Nat.add_le_add_left (by decide : 1 ≤ 64) _) hr.units
theorem small1000 {n : Nat} (h : n ≤ 1000) : n < sizeLine := Nat.lt_of_le_of_lt h (by decide)

/-! ### expressions in short: the name that stands in the i-th slot -/
section
variable {X : Cx}
theorem pv (i : Nat) {x : Str} {pos : Pos} (hN : X.N[i]? = some x := by rfl) (hv : Vis X.env.scope x := by first | exact Or.inl rfl | exact Or.inr (Or.inl rfl) | exact Or.inr (Or.inr rfl)) (hd : (x == ("__debug__" : Str)) = false := by decide)
    (hcd : (x == ("__classdict__" : Str)) = false := by decide) : PE X (.Name x pos) (tVar i) := pe_var hN hv hd hcd
end

/-! ### tests -/
theorem iteF {A B : Prop} (h : B) : if false = true then A else B := by
  rw [if_neg Bool.false_ne_true]
  exact h
theorem iteT {A B : Prop} (h : A) : if true = true then A else B := by
  rw [if_pos rfl]
  exact h
theorem ite2 {c A B : Prop} [Decidable c] (h1 : c → A) (h2 : ¬ c → B) : if c then A else B := by
  by_cases h : c
  · rw [if_pos h]
    exact h1 h
  · rw [if_neg h]
    exact h2 h
/-! ### heaps -/
/-- all that was tracked is as it was -/
def Same (H H' : Hp) : Prop := ∀ b o, H b = some o → H' b = some o
theorem Same.refl (H : Hp) : Same H H := fun _ _ h => h
theorem Same.trans {H H1 H2 : Hp} (a : Same H H1) (b : Same H1 H2) : Same H H2 := fun c o h => b c o (a c o h)
theorem Same.free {H H' : Hp} (e : Same H H') {l : Addr} (h : H' l = Option.none) : H l = Option.none := by
  cases q : H l with
  | none => rfl
  | some o =>
    rw [e l o q] at h
    cases h
theorem Same.seq {K : PySem.W.Frag} {H H' : Hp} {a : Addr} {xs : List V} (e : Same H H') (h : SqL K H a xs) : SqL K H' a xs := by
  rcases h with (h | ⟨o, h⟩) | h
  · exact .inl (.inl (e _ _ h))
  · exact .inl (.inr ⟨o, e _ _ h⟩)
  · exact .inr h

end L2

set_option Elab.async false
set_option linter.all false
set_option maxRecDepth 100000
set_option maxHeartbeats 4000000
namespace L2
open PySem PySem.Spec PyProof.Rows

abbrev NoX : Value → Shared → Prop := fun _ _ => False
theorem wpX {α : Type} {M : Model} {A : Around} {t : Sem α} {Q : α → Shared → Prop} {E : Value → Shared → Prop} {s : Shared} (h : wpAny M A t Q NoX s) : wpAny M A t Q E s :=
  wpAny_mono h (fun _ _ q => q) fun _ _ f => f.elim

/-- the tests of a clause -/
def testAll (ifs : List Expr) (env : Env) : Sem Bool :=
  forIn ifs true fun c r => if r = true then do let ok ← isTrue c env (eval c env); pure (ForInStep.yield ok) else pure (ForInStep.yield r)

/-- the loop of a comprehension of one clause, any target; no exception leaves -/
theorem comp_loop_any {prog : Program} {w : World} {A : Around} {R : Result → Shared → Prop} {s : Shared} {elt tg iter : Expr} {ifs : List Expr} {scope : Scope} {pos : Pos} {it acc : Value} {env : Env} (Iv : Nat → Shared → Prop)
    (turn : ∀ n s, Iv n s → wpAny (model prog w) A (pyNext it) (fun r s1 => match r with
      | none => R (.ok .next) s1
      | some v => wpAny (model prog w) A (letOwnedTupleGo tg it v) (fun _ s2 => wpAny (model prog w) A (assign tg env v) (fun _ s3 => wpAny (model prog w) A (testAll ifs env) (fun ok s4 =>
            if ok = true then wpAny (model prog w) A (eval elt env) (fun x s5 => wpAny (model prog w) A (call (.builtin "list.append") [acc, x]) (fun _ s6 => ∃ m, m < n ∧ Iv m s6) NoX s5) NoX s4
            else ∃ m, m < n ∧ Iv m s4) NoX s3) NoX s2) NoX s1) NoX s)
    (n : Nat) (h : Iv n s) : codeAny (model prog w) A (.compLoop (.ListComp elt [⟨tg, iter, ifs, 0⟩] scope pos) 0 it acc env) R s := by
  refine codeAny_loop rfl Iv (fun n s hI => ?_) n h
  show wpAny (model prog w) A ((compTurn (.ListComp elt [⟨tg, iter, ifs, 0⟩] scope pos) 0 it acc env).onRaise (fun x => do noteFrame x env; theTreesLotGoes x)) _ _ s
  refine wpAny_noted (wpX ?_)
  rw [compTurn_list]
  refine wpAny_bind (wpAny_standAt (wpAny_bind (thn (turn n s hI) fun r s1 h1 => ?_)))
  cases r with
  | none => exact wpAny_pure h1
  | some v =>
    refine wpAny_bind (thn h1 fun _ s2 h2 => wpAny_bind (thn h2 fun _ s3 h3 => wpAny_bind (thn h3 fun ok s4 h4 => ?_)))
    cases ok with
    | false => exact wpAny_pure ⟨rfl, h4⟩
    | true => exact wpAny_bind (wpAny_bind (thn h4 fun x s5 h5 => wpAny_bind (thn h5 fun _ s6 h6 => wpAny_pure (wpAny_pure ⟨rfl, h6⟩))))

/-! what a block closes over -/
def stepCap (env : Env) (y : Str × NameKind) (cs : List (Str × Addr)) : List (Str × Addr) := if (y.2 == NameKind.free) = true then (y.1, (env.cells.lookup y.1).getD 0) :: cs else cs
def capOf (env : Env) (scope : Scope) : List (Str × Addr) := scope.names.foldl (fun c y => stepCap env y c) []
theorem forIn_steps {α β : Type} {f : α → β → Sem (ForInStep β)} {g : β → α → β} : ∀ (l : List α) (c : β), (∀ x ∈ l, ∀ c, f x c = pure (.yield (g c x))) → forIn l c f = pure (l.foldl g c)
  | [], c, _ => rfl
  | x :: l, c, h => by
    rw [List.forIn_cons, h x List.mem_cons_self, pure_bind]
    exact forIn_steps l (g c x) fun y hy => h y (List.mem_cons_of_mem _ hy)
theorem closure_is {env : Env} {scope : Scope} (h : ∀ y ∈ scope.names, y.2 = .free → ∃ c, env.cells.lookup y.1 = some c) : closureFor scope env = pure (capOf env scope) := by
  simp only [closureFor]
  rw [forIn_steps (g := fun c y => stepCap env y c) scope.names [] (fun y hy c => ?_)]
  · rfl
  · obtain ⟨n, k⟩ := y
    by_cases hk : k = .free
    · subst hk
      obtain ⟨a, ha⟩ := h _ hy rfl
      have ha' : env.cells.lookup n = some a := ha
      simp [stepCap, cellOf, ha']
    · have hb : (k == NameKind.free) = false := by simpa using hk
      simp only [stepCap, hb, Bool.false_eq_true, if_false]
theorem fold_cap_sub {env : Env} : ∀ (ns : List (Str × NameKind)) (cs : List (Str × Addr)), (∀ y ∈ ns, y.2 = .free → ∃ c, env.cells.lookup y.1 = some c) → (∀ x c, cs.lookup x = some c → env.cells.lookup x = some c) →
    ∀ x c, (ns.foldl (fun c y => stepCap env y c) cs).lookup x = some c → env.cells.lookup x = some c
  | [], _, _, h => h
  | y :: ns, cs, hf, h => by
    refine fold_cap_sub ns (stepCap env y cs) (fun z hz => hf z (List.mem_cons_of_mem _ hz)) fun x c e => ?_
    unfold stepCap at e
    split at e
    · rename_i hk
      have hk' : y.2 = .free := by simpa using hk
      obtain ⟨a, ha⟩ := hf y List.mem_cons_self hk'
      rw [List.lookup_cons] at e
      split at e
      · rename_i hx
        have hx' : x = y.1 := by simpa using hx
        rw [ha] at e
        rw [hx', ha]
        exact e
      · exact h x c e
    · exact h x c e
theorem fold_cap_has {env : Env} (x : Str) : ∀ (ns : List (Str × NameKind)) (cs : List (Str × Addr)), ((x, NameKind.free) ∈ ns ∨ ∃ c, cs.lookup x = some c) → ∃ c, (ns.foldl (fun c y => stepCap env y c) cs).lookup x = some c
  | [], _, h => by
    rcases h with h | h
    · exact absurd h (by simp)
    · exact h
  | y :: ns, cs, h => by
    refine fold_cap_has x ns (stepCap env y cs) ?_
    rcases h with h | ⟨c, h⟩
    · rcases List.mem_cons.mp h with e | h
      · subst e
        exact .inr ⟨(List.lookup x env.cells).getD 0, by simp [stepCap]⟩
      · exact .inl h
    · refine .inr ?_
      unfold stepCap
      split
      · rw [List.lookup_cons]
        split
        · exact ⟨_, rfl⟩
        · exact ⟨c, h⟩
      · exact ⟨c, h⟩
def relK (env : Env) (n : Str) (k : NameKind) : NameKind := if (k == NameKind.free && env.scope.kind == .function && env.kindOf n == some .cell) = true then .cell else k
def relP (env : Env) (y : Str × NameKind) : Str × NameKind := if (y.2 == NameKind.free && env.scope.kind == .function && env.kindOf y.1 == some .cell) = true then (y.1, NameKind.cell) else (y.1, y.2)
theorem relP_eq (env : Env) (y : Str × NameKind) : relP env y = (y.1, relK env y.1 y.2) := by
  unfold relP relK
  split <;> rfl
theorem lookup_rel {env : Env} (x : Str) : ∀ ns : List (Str × NameKind), (ns.map (relP env)).lookup x = (ns.lookup x).map (relK env x)
  | [] => rfl
  | (n, k) :: r => by
    have ih := lookup_rel (env := env) x r
    rw [List.map_cons, relP_eq, List.lookup_cons, List.lookup_cons]
    cases hx : x == n with
    | true =>
      have e : x = n := by simpa using hx
      subst e
      rfl
    | false => exact ih
theorem relabel_lookup {env : Env} {scope : Scope} (x : Str) : (relabel scope env).names.lookup x = (scope.names.lookup x).map (relK env x) := lookup_rel x scope.names

def capOne (N : List Str) (scope : Scope) (p : Option Nat × Str) : Bool := match p.1 with
  | none => true
  | some j => decide (N[j]? = some p.2) && decide (scope.names.lookup p.2 = some .free)
/-- a block's names: its own, and the captured ones with their slots outside -/
structure CompOk (N : List Str) (sc : Scope) (N' : List Str) (ix : List (Option Nat)) (scope : Scope) : Prop where
  kind : scope.kind = .function
  nocell : ∀ y ∈ scope.names, y.2 ≠ .cell
  locs : ∀ y ∈ scope.names, y.2 = .local → scope.names.lookup y.1 = some .local
  frees : ∀ y ∈ scope.names, y.2 = .free → (sc.names.lookup y.1 = some .cell ∨ sc.names.lookup y.1 = some .free)
  nd : N'.Nodup
  len : ix.length = N'.length
  cap : (ix.zip N').all (capOne N scope) = true
def ixSt (ix : List (Option Nat)) (σ : St) : St := ix.map fun o => o.bind fun i => (σ[i]?).join
/-- the context of a comprehension's block -/
def cxComp (X : Cx) (N' : List Str) (scope : Scope) (C : Addr) (fp : List Addr) (s₀ : Shared) (H₀ : Hp) : Cx where
  prog := X.prog
  w := X.w
  K := X.K
  mg := X.mg
  base := X.base
  A := X.A
  N := N'
  s₀ := s₀
  H₀ := H₀
  env := compEnvC scope (capOf X.env scope) C X.env
  outer := X.stack
  stack := X.stack
  ex := fp
  fn := fun _ => false
  calm := X.calm
  pn := []
  xe := NoX

section
variable {X : Cx} {N' : List Str} {ix : List (Option Nat)} {scope : Scope} {pins : List (Addr × Obj)} {σ : St} {H : Hp} {s : Shared} {fp : List Addr}
theorem CompOk.has (S : CompOk X.N X.env.scope N' ix scope) (ok : X.Ok) : ∀ y ∈ scope.names, y.2 = .free → ∃ c, X.env.cells.lookup y.1 = some c := fun y hy hk => ok.has y.1 (S.frees y hy hk)
theorem CompOk.sub (S : CompOk X.N X.env.scope N' ix scope) (ok : X.Ok) : ∀ x c, (capOf X.env scope).lookup x = some c → X.env.cells.lookup x = some c :=
  fold_cap_sub scope.names [] (S.has ok) fun x c e => by simp at e
theorem CompOk.frK (S : CompOk X.N X.env.scope N' ix scope) {x : Str} (h : (relabel scope X.env).names.lookup x = some .cell ∨ (relabel scope X.env).names.lookup x = some .free) : scope.names.lookup x = some .free := by
  rw [relabel_lookup] at h
  cases e : scope.names.lookup x with
  | none => rw [e] at h; simp at h
  | some k =>
    rw [e] at h
    cases k with
    | free => rfl
    | cell => exact absurd rfl (S.nocell _ (PySem.mem_of_lookup e))
    | «local» => simp [relK] at h
    | globalExplicit => simp [relK] at h
    | globalImplicit => simp [relK] at h
/-- into the block -/
theorem comp_enter {h1 : Heap} {m : Str → Option Value} {tk : Nat} (S : CompOk X.N X.env.scope N' ix scope) (I : Inv X pins σ H s) (hf : ∀ b ∈ fp, FpOk X pins H b) (hlt : ∀ b ∈ fp, b < s.heap.objs.size)
    (ns : h1.Ns s.heap.objs.size m) (kp : ∀ b o, s.heap.get? b = some o → h1.get? b = some o) :
    Inv (cxComp X N' scope s.heap.objs.size fp s H) [] (ixSt ix σ) H { s with heap := h1, toks := tk } := by
  have sub := S.sub I.ok
  have cellS : ∀ x c, (capOf X.env scope).lookup x = some c → c < s.heap.objs.size := fun x c e => by
    obtain ⟨v, q⟩ := I.cell x c (sub x c e)
    exact q.lt
  refine ⟨⟨I.ok.mod, S.kind, I.ok.glob, I.ok.blt, Nat.le_refl _, fun x y c h1 h2 => I.ok.inj x y c (sub x c h1) (sub y c h2), fun x hx => ?_, fun x c z _ => ?_, I.ok.hd, I.ok.frames, .inl rfl, fun b hb => ⟨?_, fun x c e => ?_⟩, I.bs, Nat.le_trans I.ok.bsz I.sz, fun b o e hb => ?_, fun b hb z => ?_, I.stack, I.stkFree⟩,
    rfl, I.bare, Un.kept kp, ⟨m, ns, fun i x v h1 h2 h3 => ?_⟩, fun x c e => ?_, I.hok.fresh (Nat.le_refl _), fun x c e => I.freeC x c (sub x c e), fun p hp => absurd (show p ∈ ([] : List (Addr × Obj)) from hp) (by simp), I.hok.kept kp, ?_⟩
  · exact fold_cap_has x scope.names [] (.inl (PySem.mem_of_lookup (S.frK hx)))
  · exact absurd (show false = true from z) (by simp)
  · exact Nat.ne_of_lt (hlt b hb)
  · exact (hf b hb).2.2.2.2.1 x c (sub x c e)
  · rcases (hf b hb).2.2.2.1 with z | z
    · exact I.ok.noex b o e z
    · exact absurd (Nat.lt_of_lt_of_le (Heap.lt_size e) (Nat.le_trans I.ok.bsz z)) (Nat.lt_irrefl _)
  · rcases List.mem_cons.mp (I.stkSub b z) with e | e
    · exact (hf b hb).2.1 e
    · exact (hf b hb).2.2.1 e
  · have hi : i < ix.length := by
      have := (List.getElem?_eq_some_iff.mp h1).1
      rw [S.len]; exact this
    have e1 : ix[i]? = some ix[i] := List.getElem?_eq_getElem hi
    have h2' : (ixSt ix σ)[i]? = some (some v) := h2
    rw [ixSt, List.getElem?_map, e1] at h2'
    have h2'' : (ix[i].bind fun j => (σ[j]?).join) = some v := Option.some.inj h2'
    cases ej : ix[i] with
    | none => rw [ej] at h2''; cases h2''
    | some j =>
      rw [ej] at h2''
      have h2j : (σ[j]?).join = some v := h2''
      have hz : (ix[i], x) ∈ ix.zip N' := by
        have ez : (ix.zip N')[i]? = some (ix[i], x) := by rw [List.getElem?_zip_eq_some]; exact ⟨e1, h1⟩
        exact List.mem_of_getElem? ez
      have cq := List.all_eq_true.mp S.cap _ hz
      have cq' : (decide (X.N[j]? = some x) && decide (scope.names.lookup x = some .free)) = true := by
        unfold capOne at cq
        simp only [ej] at cq
        exact cq
      rw [Bool.and_eq_true] at cq'
      have c1 := of_decide_eq_true cq'.1
      have c2 := of_decide_eq_true cq'.2
      have kx : X.env.scope.names.lookup x = some .cell ∨ X.env.scope.names.lookup x = some .free := S.frees (x, .free) (PySem.mem_of_lookup c2) rfl
      have hs : σ[j]? = some (some v) := by
        cases q : σ[j]? with
        | none => rw [q] at h2j; cases h2j
        | some o => rw [q] at h2j; have : o = some v := h2j; rw [this]
      obtain ⟨m0, hn0, hl0⟩ := I.loc
      obtain ⟨u, ru, lk⟩ := hl0 j x v c1 hs (kx.elim (fun z => .inr (.inl z)) fun z => .inr (.inr z))
      refine ⟨u, ru, .inr ⟨?_, ?_⟩⟩
      · show (relabel scope X.env).names.lookup x = some .cell ∨ (relabel scope X.env).names.lookup x = some .free
        rw [relabel_lookup, c2]
        simp only [Option.map_some, relK]
        split
        · exact .inl rfl
        · exact .inr rfl
      · rcases lk with ⟨k, _⟩ | ⟨_, c, ec, hc⟩
        · have k' : X.env.scope.names.lookup x = some .local := k
          rw [k'] at kx
          rcases kx with z | z <;> cases z
        · obtain ⟨c', ec'⟩ := fold_cap_has (env := X.env) x scope.names [] (.inl (PySem.mem_of_lookup c2))
          have := sub x c' ec'
          rw [ec] at this; cases this
          exact ⟨c, ec', hc.keeps kp⟩
  · obtain ⟨v, q⟩ := I.cell x c (sub x c e)
    exact ⟨v, q.keeps kp⟩
  · show (ixSt ix σ).length = N'.length
    rw [ixSt, List.length_map, S.len]

/-- the tests' readings -/
def PF (X : Cx) (ifs : List Expr) (t : TT) : Prop := ∀ (pins : List (Addr × Obj)) (s : Shared) (σ : St) (H : Hp) (Q : Bool → Hp → Prop), Inv X pins σ H s → t σ H Q → wpAny (model X.prog X.w) X.A (testAll ifs X.env) (TP X pins σ Q) X.xe s
def tYes : TT := fun _ H Q => Q true H
theorem pf_nil : PF X [] tYes := fun _ _ _ H _ I h => wpAny_tests_nil ⟨H, I, h⟩
theorem pf_one {c : Expr} {t : TT} (hc : PT X c t) : PF X [c] t := fun pins s σ H Q I h => wpAny_tests_one (hc pins s σ H Q I h)

/-- [elt for tg in iter if ..]: D is the list that is made -/
def CompGo (J : It) (g : TG) (tt : TT) (te : TE) (σ0 : St) (H1 : Hp) (Q : VK) (D : Addr) : Prop := ∃ W : Nat → Nat → St → Hp → Prop, (∃ m, W 0 m σ0 (upd H1 D (.lst []))) ∧ ∀ i m σ' H', W i m σ' H' →
  (J.stop i H' ∧ Q (.ref D) H') ∨ (J.go i H' ∧ ∀ x H2, J.yld i H' x H2 → g x σ' H2 fun σ2 H3 => tt σ2 H3 fun b H4 =>
    if b = true then te σ2 H4 fun v H5 => ∃ xs, H5 D = some (.lst xs) ∧ xs.length < sizeLine ∧ ∃ m', m' < m ∧ W (i + 1) m' σ2 (upd H5 D (.lst (xs ++ [v]))) else ∃ m', m' < m ∧ W (i + 1) m' σ2 H4)
def tComp (ix : List (Option Nat)) (wi : TI) (g : TG) (tt : TT) (te : TE) : TE := fun σ H Q => wi σ H fun J H1 => ∀ D, H1 D = none → CompGo J g tt te (ixSt ix σ) H1 Q D

/-- the block, from the iterator on; Z: what is wanted behind it, of the new list, the block's names (at C) and the state -/
theorem comp_block {elt tg iter : Expr} {ifs : List Expr} {pos : Pos} {g : TG} {tt : TT} {te : TE} {Q : VK} {Z : Value → Addr → Result → Shared → Prop} {it : Addr} {tn : Nat → Heap → Prop} {J : It}
    (S : CompOk X.N X.env.scope N' ix scope) (hc : X.calm = true)
    (hg : ∀ C fp s₀ H₀, PG (cxComp X N' scope C fp s₀ H₀) tg g) (ht : ∀ C fp s₀ H₀, PF (cxComp X N' scope C fp s₀ H₀) ifs tt) (he : ∀ C fp s₀ H₀, PE (cxComp X N' scope C fp s₀ H₀) elt te)
    (I : Inv X pins σ H s) (T : Turn X.prog X.w X.K tg J fp it tn) (st : tn 0 s.heap) (hf : ∀ b ∈ fp, FpOk X pins H b)
    (h : ∀ D, H D = none → ∃ W : Nat → Nat → St → Hp → Prop, (∃ m, W 0 m (ixSt ix σ) (upd H D (.lst []))) ∧ ∀ i m σ' H', W i m σ' H' →
      (J.stop i H' ∧ Q (.ref D) H') ∨ (J.go i H' ∧ ∀ x H2, J.yld i H' x H2 → g x σ' H2 fun σ2 H3 => tt σ2 H3 fun b H4 =>
        if b = true then te σ2 H4 fun v H5 => ∃ xs, H5 D = some (.lst xs) ∧ xs.length < sizeLine ∧ ∃ m', m' < m ∧ W (i + 1) m' σ2 (upd H5 D (.lst (xs ++ [v]))) else ∃ m', m' < m ∧ W (i + 1) m' σ2 H4))
    (hZ : ∀ D C H' s' m, Inv X pins σ H' s' → s'.heap.Ns C m → H' C = none → s.heap.objs.size ≤ C → Q (.ref D) H' → Z (.ref D) C (.ok .next) s') :
    wpAny (model X.prog X.w) X.A (newList []) (fun acc s3 => wpAny (model X.prog X.w) X.A (newFunctionEnv scope X.env.globals (capOf X.env scope) [] X.env.qual none .none (some X.env)) (fun cenv s4 =>
      codeAny (model X.prog X.w) X.A (.compStart (.ListComp elt [⟨tg, iter, ifs, 0⟩] scope pos) 0 (.ref it) acc { cenv with scope := relabel scope X.env }) (Z acc cenv.locals) s4) X.xe s3) X.xe s := by
  refine wpAny_newObj_type (wpAny_newFunctionEnv S.nocell (by intro y hy; simp at hy) (fun h1 ns1 sb1 => ?_) S.kind)
  have I3 : Inv X pins σ (upd H s.heap.objs.size (.lst [])) { s with heap := s.heap.push { cls := .type "list", data := .seq ([] : List Value).toArray }, toks := s.toks } := I.lnew (ys := []) (its := []) .nil (Nat.zero_le _)
  generalize hs3 : ({ s with heap := s.heap.push { cls := .type "list", data := .seq ([] : List Value).toArray } } : Shared) = s3 at ns1 sb1 ⊢
  have I3 : Inv X pins σ (upd H s.heap.objs.size (.lst [])) s3 := by rw [← hs3]; exact I3
  have hsz : s3.heap.objs.size = s.heap.objs.size + 1 := by rw [← hs3]; exact Heap.size_push _ _
  have st3 : tn 0 s3.heap := by
    rw [← hs3]
    exact T.keep _ _ _ st fun b _ o e => Heap.get?_push_of_some _ e
  have blw : ∀ b ∈ fp, b < s.heap.objs.size := fun b hb => by
    obtain ⟨o, e, _⟩ := T.obj _ _ st b hb
    exact Heap.lt_size e
  have hf3 : ∀ b ∈ fp, FpOk X pins (upd H s.heap.objs.size (.lst [])) b := fun b hb => ⟨by rw [upd_ne (Nat.ne_of_lt (blw b hb))]; exact (hf b hb).1, (hf b hb).2⟩
  obtain ⟨W, ⟨m0, w0⟩, turn⟩ := h s.heap.objs.size I.fresh
  have kp : ∀ b o, s3.heap.get? b = some o → h1.get? b = some o := fun b o e => (sb1.2 b (Nat.ne_of_lt (Heap.lt_size e))).trans (Heap.get?_push_of_some _ e)
  have J0 := comp_enter (tk := s3.toks + ([] : List (Str × Value)).length) S I3 hf3 (fun b hb => by rw [hsz]; exact Nat.lt_succ_of_lt (blw b hb)) ns1 kp
  have st4 : tn 0 h1 := T.keep _ _ _ st3 fun b _ o e => kp b o e
  have stat : ∀ {H' : Hp} {pl : List (Addr × Obj)}, (∀ b ∈ fp, H' b = none) → (∀ b ∈ fp, ∀ p ∈ pl, p.1 ≠ b) → ∀ b ∈ fp, FpOk (cxComp X N' scope s3.heap.objs.size fp s3 (upd H s.heap.objs.size (.lst []))) pl H' b := fun hn hp b hb =>
    ⟨hn b hb, (J0.ok.exf b hb).1, J0.ok.exfs b hb, .inl hb, (J0.ok.exf b hb).2, fun p q => hp b hb p q⟩
  have loop : codeAny (model X.prog X.w) X.A (.compLoop (.ListComp elt [⟨tg, iter, ifs, 0⟩] scope pos) 0 (.ref it) (.ref s.heap.objs.size) (cxComp X N' scope s3.heap.objs.size fp s3 (upd H s.heap.objs.size (.lst []))).env) (Z (.ref s.heap.objs.size) s3.heap.objs.size)
      { s3 with heap := h1, toks := s3.toks + ([] : List (Str × Value)).length } := by
    refine comp_loop_any (fun n s' => ∃ i σ' H', Inv (cxComp X N' scope s3.heap.objs.size fp s3 (upd H s.heap.objs.size (.lst []))) [] σ' H' s' ∧ tn i s'.heap ∧ (∀ b ∈ fp, H' b = none) ∧ W i n σ' H') ?_ m0
      ⟨0, _, _, J0, st4, fun b hb => (hf3 b hb).1, w0⟩
    rintro n s5 ⟨i, σ5, H5, I5, st5, fr5, w5⟩
    rcases turn i n σ5 H5 w5 with ⟨stop, q⟩ | ⟨go, step⟩
    · refine thn (T.done (cxComp X N' scope s3.heap.objs.size fp s3 (upd H s.heap.objs.size (.lst []))) rfl rfl rfl hc i [] s5 σ5 H5 NoX I5 (stat (pl := []) fr5 (fun _ _ p hp => absurd hp (by simp))) st5 stop) fun r s6 ⟨hr, I6⟩ => ?_
      subst hr
      have I7 : Inv X pins σ H5 s6 := I3.call' (ch := fp) I6.os I6.base I6.hok I6.bare fun b hb => ⟨(hf3 b hb).2.2.2.1, (hf3 b hb).2.1, (hf3 b hb).2.2.2.2.1, (hf3 b hb).2.2.2.2.2⟩
      obtain ⟨m6, n6, _⟩ := I6.loc
      exact hZ _ _ H5 s6 m6 I7 n6 I6.free (by rw [hsz]; exact Nat.le_succ _) q
    · refine thn (T.item (cxComp X N' scope s3.heap.objs.size fp s3 (upd H s.heap.objs.size (.lst []))) rfl rfl rfl hc i [] s5 σ5 H5 NoX I5 (stat (pl := []) fr5 (fun _ _ p hp => absurd hp (by simp))) st5 go) fun r s6 ⟨u, hr, h6⟩ => ?_
      subst hr
      refine thn h6 fun _ s7 ⟨x, H7, I7, r7, y7, st7, fr7⟩ => ?_
      have I7' := I7.pinned (stat (pl := []) fr7 (fun _ _ p hp => absurd hp (by simp))) (T.obj _ _ st7)
      refine thn (hg _ _ _ _ _ s7 σ5 H7 x u _ I7' r7 (step x H7 y7)) fun _ s8 ⟨σ8, H8, I8, q8⟩ => ?_
      refine thn (ht _ _ _ _ _ s8 σ8 H8 _ I8 q8) fun b s9 ⟨H9, I9, q9⟩ => ?_
      have again : ∀ {σ' : St} {H' : Hp} {s' : Shared} {m' : Nat}, Inv (cxComp X N' scope s3.heap.objs.size fp s3 (upd H s.heap.objs.size (.lst []))) ([] ++ pinsAt fp s7.heap) σ' H' s' → m' < n → W (i + 1) m' σ' H' →
          ∃ m, m < n ∧ ∃ i σ' H', Inv (cxComp X N' scope s3.heap.objs.size fp s3 (upd H s.heap.objs.size (.lst []))) [] σ' H' s' ∧ tn i s'.heap ∧ (∀ b ∈ fp, H' b = none) ∧ W i m σ' H' := fun {σ' H' s' m'} I' hm w' => by
        refine ⟨m', hm, i + 1, σ', H', I'.unpinned, T.keep _ _ _ st7 fun b hb o e => (I'.pin (b, o) (List.mem_append_right _ (List.mem_append_right _ (mem_pinsAt hb e)))).1, fun b hb => ?_, w'⟩
        obtain ⟨o, e, d⟩ := T.obj _ _ st7 b hb
        exact (I'.pin (b, o) (List.mem_append_right _ (List.mem_append_right _ (mem_pinsAt hb e)))).2.1
      cases b with
      | false =>
        obtain ⟨m', hm, w'⟩ := (show ∃ m', m' < n ∧ W (i + 1) m' σ8 H9 from q9)
        exact again I9 hm w'
      | true =>
        refine thn (he _ _ _ _ _ s9 σ8 H9 _ I9 q9) fun v s10 ⟨y, H10, I10, r10, q10⟩ => ?_
        obtain ⟨xs, hx, hl, m', hm, w'⟩ := q10
        refine thn (mt_append _ s10 σ8 H10 (.ref s.heap.objs.size) [y] (.ref s.heap.objs.size) [v] (fun _ H' => W (i + 1) m' σ8 H') I10 rfl (.cons r10 .nil) ⟨_, xs, y, rfl, rfl, hx, hl, w'⟩) fun _ s11 ⟨_, H11, I11, _, q11⟩ => ?_
        exact again I11 hm q11
  exact codeAny_compStart_list loop (T.self _ _ _ _ _ st4 loop)

/-- as a value -/
theorem pe_comp {elt tg iter : Expr} {ifs : List Expr} {pos : Pos} {wi : TI} {g : TG} {tt : TT} {te : TE} (S : CompOk X.N X.env.scope N' ix scope) (hc : X.calm = true) (hi : PI X tg iter wi)
    (hg : ∀ C fp s₀ H₀, PG (cxComp X N' scope C fp s₀ H₀) tg g) (ht : ∀ C fp s₀ H₀, PF (cxComp X N' scope C fp s₀ H₀) ifs tt) (he : ∀ C fp s₀ H₀, PE (cxComp X N' scope C fp s₀ H₀) elt te)
    (hs : ∀ x, foldedSetIterable iter X.env x = pure x := by intro _; rfl) : PE X (.ListComp elt [⟨tg, iter, ifs, 0⟩] scope pos) (tComp ix wi g tt te) := by
  intro pins s σ H Q I h
  rw [eval_ListComp]
  refine wpAny_comprehension_free (use := none) rfl hs (closure_is (S.has I.ok)) S.kind S.locs (thn (hi pins s σ H _ I h) fun v s1 h1 => thn h1 fun itv s2 h2 => ?_)
  obtain ⟨it, fp, tn, J, H2, e, I2, T, st2, f2, q⟩ := h2
  subst e
  refine comp_block (Z := fun acc C => compPost (model X.prog X.w) X.A X.xe none (EP X pins σ Q) acc C) S hc hg ht he I2 T st2 f2 q ?_
  intro D C H' s' m I' hn hC hz qD
  refine ⟨m, hn, fun h' sb => ?_⟩
  have I'' : Inv X pins σ H' { s' with heap := h', toks := s'.toks } := I'.turned (it := C) (fun b o hb e => (sb.2 b hb).trans e) hC (fun z => absurd (Nat.lt_of_lt_of_le I2.lt (by rw [← z]; exact hz)) (Nat.lt_irrefl _))
    (.inr (Nat.le_trans I2.sz hz)) (fun x c e z => by obtain ⟨v, w⟩ := I2.cell x c e; exact absurd (Nat.lt_of_lt_of_le w.lt (by rw [z]; exact hz)) (Nat.lt_irrefl _)) (fun p hp z => absurd (Nat.lt_of_lt_of_le (Heap.lt_size (I2.pin p hp).1) (by rw [z]; exact hz)) (Nat.lt_irrefl _))
  exact ⟨.ref D, H', I'', rfl, qD⟩
/-- name = [..], the name not captured, on one line -/
theorem ps_setComp {i : Nat} {y : Str} {py spos : Pos} {elt tg iter : Expr} {ifs : List Expr} {pos : Pos} {wi : TI} {g : TG} {tt : TT} {te : TE} (S : CompOk X.N X.env.scope N' ix scope) (hc : X.calm = true) (hi : PI X tg iter wi)
    (hg : ∀ C fp s₀ H₀, PG (cxComp X N' scope C fp s₀ H₀) tg g) (ht : ∀ C fp s₀ H₀, PF (cxComp X N' scope C fp s₀ H₀) ifs tt) (he : ∀ C fp s₀ H₀, PE (cxComp X N' scope C fp s₀ H₀) elt te)
    (hN : X.N.Nodup) (hy : X.N[i]? = some y) (hl : X.env.scope.names.lookup y = some .local) (hsw : swapsWith (.ListComp elt [⟨tg, iter, ifs, 0⟩] scope pos) (some (.Name y py)) spos.line X.env = pure true)
    (hs : ∀ x, foldedSetIterable iter X.env x = pure x := by intro _; rfl) : PS X (.Assign [.Name y py] (.ListComp elt [⟨tg, iter, ifs, 0⟩] scope pos) spos) (tAsg (tComp ix wi g tt te) (gName i)) := by
  intro pins s σ H D I h
  rw [exec_Assign_Name_used _ _ _ _ hsw]
  refine wpAny_bind (wpAny_standAt (wpAny_bind ?_))
  rw [arm_evalThenUse_ListComp]
  refine wpAny_bind (thn (wpAny_comprehension_free (use := some (assign (.Name y py) X.env)) (Q := fun _ s' => SP X pins D .next s') rfl hs (closure_is (S.has I.ok)) S.kind S.locs
    (thn (hi pins s σ H _ I h) fun v s1 h1 => thn h1 fun itv s2 h2 => ?_)) fun _ s' q => wpAny_pure (wpAny_pure q))
  obtain ⟨it, fp, tn, J, H2, e, I2, T, st2, f2, q⟩ := h2
  subst e
  refine comp_block (Q := fun x H1 => gName i x σ H1 D.nx) (Z := fun acc C => compPost (model X.prog X.w) X.A X.xe (some (assign (.Name y py) X.env)) (fun _ s' => SP X pins D .next s') acc C) S hc hg ht he I2 T st2 f2 q ?_
  intro Dl C H' s' m I' hn hC hz qD
  have neL : C ≠ X.env.locals := fun z => absurd (Nat.lt_of_lt_of_le I2.lt (by rw [← z]; exact hz)) (Nat.lt_irrefl _)
  have neC : ∀ x c, X.env.cells.lookup x = some c → c ≠ C := fun x c e z => by obtain ⟨v, w⟩ := I2.cell x c e; exact absurd (Nat.lt_of_lt_of_le w.lt (by rw [z]; exact hz)) (Nat.lt_irrefl _)
  show wpAny (model X.prog X.w) X.A (assign (.Name y py) X.env (.ref Dl)) _ X.xe s'
  refine wpAny_assign_Name (store_ok2 I' hN hy (.inl hl) (show RelV (.ref Dl) (.ref Dl) from rfl) (fun s'' J' ⟨a, sb, ha⟩ => ?_) (.inr hl))
  have na : C ≠ a := by
    rcases ha with z | z
    · rw [z]; exact neL
    · exact Ne.symm (neC y a z)
  refine ⟨m, hn.sameBut sb na, fun h' sb' => ?_⟩
  have I'' : Inv X pins (σ.set i (some (.ref Dl))) H' { s'' with heap := h', toks := s''.toks } := J'.turned (it := C) (fun b o hb e => (sb'.2 b hb).trans e) hC neL (.inr (Nat.le_trans I2.sz hz)) neC
    (fun p hp z => absurd (Nat.lt_of_lt_of_le (Heap.lt_size (I2.pin p hp).1) (by rw [z]; exact hz)) (Nat.lt_irrefl _))
  exact ⟨_, H', I'', qD⟩
end
end L2

set_option Elab.async false
set_option linter.all false
set_option maxRecDepth 100000
set_option maxHeartbeats 4000000
namespace L2
open PySem PySem.Spec PyProof.Rows
theorem bt_abs : bootBuiltins "abs" = some (.builtin "abs") := by decide +kernel
theorem bt_len : bootBuiltins "len" = some (.builtin "len") := by decide +kernel
theorem bt_all : bootBuiltins "all" = some (.builtin "all") := by decide +kernel
theorem bt_isinstance : bootBuiltins "isinstance" = some (.builtin "isinstance") := by decide +kernel
theorem bt_int : bootBuiltins "int" = some (.type "int") := by decide +kernel
theorem bt_bool : bootBuiltins "bool" = some (.type "bool") := by decide +kernel
theorem bt_tuple : bootBuiltins "tuple" = some (.type "tuple") := by decide +kernel
/-! a def of the text with its promise, as its callers take it -/
def Def (P : Program) (w : World) (K : PySem.W.Frag) (mg : Str → Option Value) (base : Heap) (k : Nat) (x : Str) (ps : List Str) (sp : Sp) : Prop :=
  ∃ (f : Addr) (fd : FuncData), FnOk P w K mg base CX0 k f fd ps sp ∧ mg x = some (.ref f) ∧ PySem.W.keepIn K (.ref f) = true ∧ Binds K fd ps []
section
variable {X : Cx}
theorem pe_def {k k' : Nat} {x : Str} {ps : List Str} {sp : Sp} {e : Expr} {es : List Expr} {t : TA} {p pos : Pos} (D : Def X.prog X.w X.K X.mg X.base k x ps sp) (hr : Room k' X.A) (hk : k ≤ k') (hg : Gl X x) (ha : PA X (e :: es) t)
    (hdb : (x == ("__debug__" : Str)) = false := by decide) (he : starEach (e :: es) X.env = (false, eval e X.env) :: starEach es X.env := by rfl) (hpl : (backTo pos (starEach es X.env)).any (·.1) = false := by rfl) :
    PE X (.Call (.Name x p) (e :: es) [] pos) (tCall sp [] E0 t) := by
  obtain ⟨f, fd, F, m, kp, b⟩ := D
  exact pe_call F (hr.mono hk) hg m kp b .nil pass0 ha hdb he hpl

/-- isinstance(x, c), c a built-in type -/
theorem call_isiT : CallR X (.builtin "isinstance") (fun xs H Q => ∃ x n t b, xs = [x, .ty n] ∧ TyOf X.K H x t ∧ PySem.W.kitOne X.K t (.type n) = some b ∧ Q (.bl b) H) := by
  intro pins s σ H xs us Q I r h
  obtain ⟨x, n, t, b, rfl, ty, e, q⟩ := h
  obtain ⟨u, w', rfl, r1, r2⟩ := vals2 r
  cases r2
  exact isinst_ok I r1 ty e fun tk => ⟨.bl b, H, I.tok tk, rfl, q⟩
theorem kit_same {K : PySem.W.Frag} (n : String) : PySem.W.kitOne K (.type n) (.type n) = some true := by simp [PySem.W.kitOne]
theorem kit_int_bool {K : PySem.W.Frag} : PySem.W.kitOne K (.type "int") (.type "bool") = some false := by rfl

/-! a text's signs -/
/-! z[lo:hi] of a text -/
def rSlS : V → Option Int → Option Int → Hp → VK → Prop := fun x lo hi H Q => ∃ z, x = .str z ∧ z.length ≤ sizeLine ∧ Q (.str (PySem.Txt.slice z lo hi)) H
theorem sl_str : SlR X rSlS := by
  intro pins s σ H x v vl vu lo hi sl Q I rx hs pl pu h
  obtain ⟨z, rfl, hz, q⟩ := h
  obtain ⟨t, rfl⟩ := rx
  refine ⟨"str", _, F.slot_str_getitem.lookup, typeIs_str _ _ _, ?_⟩
  cases pl with
  | none =>
    cases pu with
    | none => exact wpAny_getItem_str_slice (l := none) (u := none) (st := none) hs rfl (post_val_or_str ⟨Nat.le_trans (PySem.Txt.slice_le z _ _) hz, fun t' k => ⟨.str _, H, I.tok k, ⟨t', rfl⟩, q⟩⟩)
    | int j uj => exact wpAny_getItem_str_slice (l := none) (u := some (j, uj)) (st := none) hs rfl (post_val_or_str ⟨Nat.le_trans (PySem.Txt.slice_le z _ _) hz, fun t' k => ⟨.str _, H, I.tok k, ⟨t', rfl⟩, q⟩⟩)
  | int i ui =>
    cases pu with
    | none => exact wpAny_getItem_str_slice (l := some (i, ui)) (u := none) (st := none) hs rfl (post_val_or_str ⟨Nat.le_trans (PySem.Txt.slice_le z _ _) hz, fun t' k => ⟨.str _, H, I.tok k, ⟨t', rfl⟩, q⟩⟩)
    | int j uj => exact wpAny_getItem_str_slice (l := some (i, ui)) (u := some (j, uj)) (st := none) hs rfl (post_val_or_str ⟨Nat.le_trans (PySem.Txt.slice_le z _ _) hz, fun t' k => ⟨.str _, H, I.tok k, ⟨t', rfl⟩, q⟩⟩)
theorem sl_any : SlR X (fun x lo hi H Q => rSlL X.K x lo hi H Q ∨ (rSlT X.K x lo hi H Q ∨ rSlS x lo hi H Q)) := sl_list.or (sl_tup.or sl_str)
end
end L2

set_option Elab.async false
set_option linter.all false
set_option maxRecDepth 100000
set_option maxHeartbeats 4000000
namespace L2
open PySem PySem.Spec PyProof.Rows
/-! comprehensions, by what holds ahead of the i-th turn, of the items so far -/
def cW (R : St → Prop) (P : Nat → List V → Hp → Prop) (n : Nat) (D : Addr) : Nat → Nat → St → Hp → Prop := fun i m σ' H => m = n - i ∧ i ≤ n ∧ R σ' ∧ ∃ ys, P i ys H ∧ H D = some (.lst ys)
def cYes (R : St → Prop) (P : Nat → List V → Hp → Prop) (n : Nat) (D : Addr) (σ : St) (i : Nat) : VK := fun v H5 => ∃ xs, H5 D = some (.lst xs) ∧ xs.length < sizeLine ∧ ∃ m', m' < n - i ∧ cW R P n D (i + 1) m' σ (upd H5 D (.lst (xs ++ [v])))
def cNo (R : St → Prop) (P : Nat → List V → Hp → Prop) (n : Nat) (D : Addr) (σ : St) (i : Nat) : Hp → Prop := fun H4 => ∃ m', m' < n - i ∧ cW R P n D (i + 1) m' σ H4
theorem cyes {R : St → Prop} {P : Nat → List V → Hp → Prop} {n : Nat} {D : Addr} {σ : St} {i : Nat} {ys : List V} {v : V} {H : Hp} (hi : i < n) (r : R σ) (h : H D = some (.lst ys)) (hl : ys.length < sizeLine) (p : P (i + 1) (ys ++ [v]) (upd H D (.lst (ys ++ [v])))) : cYes R P n D σ i v H :=
  ⟨ys, h, hl, n - (i + 1), by omega, rfl, hi, r, _, p, upd_same⟩
theorem cno {R : St → Prop} {P : Nat → List V → Hp → Prop} {n : Nat} {D : Addr} {σ : St} {i : Nat} {ys : List V} {H : Hp} (hi : i < n) (r : R σ) (h : H D = some (.lst ys)) (p : P (i + 1) ys H) : cNo R P n D σ i H :=
  ⟨n - (i + 1), by omega, rfl, hi, r, _, p, h⟩
theorem comp_gen {J : It} {g : TG} {tt : TT} {te : TE} {σ0 : St} {H1 : Hp} {Q : VK} {D : Addr} {n : Nat} {xv : Nat → V} {st : Nat → St} (R : St → Prop) (P : Nat → List V → Hp → Prop) (r0 : R σ0) (h0 : P 0 [] (upd H1 D (.lst [])))
    (hj : ∀ i ys H, i < n → P i ys H → H D = some (.lst ys) → J.go i H ∧ ∀ x H2, J.yld i H x H2 → H2 = H ∧ x = xv i) (he : ∀ ys H, P n ys H → H D = some (.lst ys) → J.stop n H)
    (hg : ∀ i ys σ' H (K : St → Hp → Prop), i < n → R σ' → P i ys H → K (st i) H → g (xv i) σ' H K)
    (hs : ∀ i ys H, i < n → P i ys H → H D = some (.lst ys) → tt (st i) H fun b H4 => if b = true then te (st i) H4 (cYes R P n D (st i) i) else cNo R P n D (st i) i H4)
    (hd : ∀ ys H, P n ys H → H D = some (.lst ys) → Q (.ref D) H) :
    CompGo J g tt te σ0 H1 Q D := by
  refine ⟨cW R P n D, ⟨n, by simp [cW, r0]; exact ⟨_, h0, upd_same⟩⟩, ?_⟩
  rintro i m σ' H' ⟨rfl, hi, r, ys, p, hD⟩
  by_cases hlt : i < n
  · obtain ⟨g1, g2⟩ := hj i ys H' hlt p hD
    refine .inr ⟨g1, fun x H2 y => ?_⟩
    obtain ⟨rfl, rfl⟩ := g2 x H2 y
    exact hg i ys σ' H2 _ hlt r p (hs i ys H2 hlt p hD)
  · have e : i = n := by omega
    subst e
    exact .inl ⟨he ys H' p hD, hd ys H' p hD⟩
/-- the state with the one name set -/
def Rset (t : Nat) (σ0 : St) : St → Prop := fun σ' => ∀ v, σ'.set t v = σ0.set t v
theorem rset0 {t : Nat} {σ0 : St} : Rset t σ0 σ0 := fun _ => rfl
theorem rset1 {t : Nat} {σ0 : St} {x : Option V} : Rset t σ0 (σ0.set t x) := fun v => by rw [List.set_set]
theorem comp_range {t : Nat} {tt : TT} {te : TE} {σ0 : St} {H1 : Hp} {Q : VK} {D : Addr} {lo : Int} {n : Nat} (P : Nat → List V → Hp → Prop) (h0 : P 0 [] (upd H1 D (.lst [])))
    (hs : ∀ i ys H, i < n → P i ys H → H D = some (.lst ys) → tt (σ0.set t (some (.int (lo + i)))) H fun b H4 => if b = true then te (σ0.set t (some (.int (lo + i)))) H4 (cYes (Rset t σ0) P n D (σ0.set t (some (.int (lo + i)))) i) else cNo (Rset t σ0) P n D (σ0.set t (some (.int (lo + i)))) i H4)
    (hd : ∀ ys H, P n ys H → H D = some (.lst ys) → Q (.ref D) H) :
    CompGo (Itr lo n) (gName t) tt te σ0 H1 Q D :=
  comp_gen (xv := fun i => .int (lo + i)) (st := fun i => σ0.set t (some (.int (lo + i)))) (Rset t σ0) P rset0 h0 (fun i _ H hi _ _ => ⟨hi, fun x H2 y => y⟩) (fun _ _ _ _ => Nat.le_refl n)
    (fun i _ σ' H K _ r _ k => by show K (σ'.set t (some (.int (lo + i)))) H; rw [r]; exact k) hs hd
theorem comp_list {K : PySem.W.Frag} {a : Addr} {xs : List V} {t : Nat} {tt : TT} {te : TE} {σ0 : St} {H1 : Hp} {Q : VK} {D : Addr} (P : Nat → List V → Hp → Prop) (h0 : P 0 [] (upd H1 D (.lst []))) (hl : ∀ i ys H, P i ys H → H D = some (.lst ys) → SqL K H a xs)
    (hs : ∀ i ys H x, xs[i]? = some x → P i ys H → H D = some (.lst ys) → tt (σ0.set t (some x)) H fun b H4 => if b = true then te (σ0.set t (some x)) H4 (cYes (Rset t σ0) P xs.length D (σ0.set t (some x)) i) else cNo (Rset t σ0) P xs.length D (σ0.set t (some x)) i H4)
    (hd : ∀ ys H, P xs.length ys H → H D = some (.lst ys) → Q (.ref D) H) :
    CompGo (Itl K a) (gName t) tt te σ0 H1 Q D := by
  have get : ∀ i, i < xs.length → xs[i]? = some (xs.getD i .non) := fun i hi => by simp [List.getD, hi]
  refine comp_gen (xv := fun i => xs.getD i .non) (st := fun i => σ0.set t (some (xs.getD i .non))) (Rset t σ0) P rset0 h0 (fun i ys H hi p hD => ⟨⟨xs, _, hl i ys H p hD, get i hi⟩, fun x H2 y => ⟨y.1, ?_⟩⟩) (fun ys H p hD => ⟨xs, hl _ ys H p hD, Nat.le_refl _⟩)
    (fun i _ σ' H K _ r _ k => by show K (σ'.set t (some (xs.getD i .non))) H; rw [r]; exact k) (fun i ys H hi p hD => hs i ys H _ (get i hi) p hD) hd
  have e := y.2 xs (hl i ys H p hD)
  rw [get i hi] at e
  exact (Option.some.inj e).symm
theorem comp_tup {K : PySem.W.Frag} {a : Addr} {xs : List V} {t : Nat} {tt : TT} {te : TE} {σ0 : St} {H1 : Hp} {Q : VK} {D : Addr} (P : Nat → List V → Hp → Prop) (h0 : P 0 [] (upd H1 D (.lst []))) (hl : ∀ i ys H, P i ys H → H D = some (.lst ys) → SqT K H a xs)
    (hs : ∀ i ys H x, xs[i]? = some x → P i ys H → H D = some (.lst ys) → tt (σ0.set t (some x)) H fun b H4 => if b = true then te (σ0.set t (some x)) H4 (cYes (Rset t σ0) P xs.length D (σ0.set t (some x)) i) else cNo (Rset t σ0) P xs.length D (σ0.set t (some x)) i H4)
    (hd : ∀ ys H, P xs.length ys H → H D = some (.lst ys) → Q (.ref D) H) :
    CompGo (Itt K a) (gName t) tt te σ0 H1 Q D := by
  have get : ∀ i, i < xs.length → xs[i]? = some (xs.getD i .non) := fun i hi => by simp [List.getD, hi]
  refine comp_gen (xv := fun i => xs.getD i .non) (st := fun i => σ0.set t (some (xs.getD i .non))) (Rset t σ0) P rset0 h0 (fun i ys H hi p hD => ⟨⟨xs, _, hl i ys H p hD, get i hi⟩, fun x H2 y => ⟨y.1, ?_⟩⟩) (fun ys H p hD => ⟨xs, hl _ ys H p hD, Nat.le_refl _⟩)
    (fun i _ σ' H K _ r _ k => by show K (σ'.set t (some (xs.getD i .non))) H; rw [r]; exact k) (fun i ys H hi p hD => hs i ys H _ (get i hi) p hD) hd
  have e := y.2 xs (hl i ys H p hD)
  rw [get i hi] at e
  exact (Option.some.inj e).symm
end L2
namespace L2
open PySem PySem.Spec PyProof.Rows
theorem yes {σ : St} {H : Hp} {A B : Hp → Prop} (h : A H) : tYes σ H fun b H4 => if b = true then A H4 else B H4 := by
  show if true = true then A H else B H
  rw [if_pos rfl]
  exact h
end L2

set_option Elab.async false
set_option linter.all false
set_option maxRecDepth 100000
set_option maxHeartbeats 4000000
namespace L2
open PySem PySem.Spec PyProof.Rows
/-! the rules that name the written part, with K told: in a block nothing hangs on the block's own context -/
section
variable {X : Cx} (K : PySem.W.Frag)
theorem kix_seq (hK : X.K = K := by rfl) : IxR X (rIx K) := hK ▸ ix_seq
theorem kop_in_seq (hK : X.K = K := by rfl) : OpR X (compareOp .In) (rIn K false) := hK ▸ op_in_seq
theorem ksl_any (hK : X.K = K := by rfl) : SlR X (fun x lo hi H Q => rSlL K x lo hi H Q ∨ (rSlT K x lo hi H Q ∨ rSlS x lo hi H Q)) := hK ▸ sl_any
theorem kcall_len (hK : X.K = K := by rfl) : CallR X (.builtin "len") (fun xs H Q => ∃ x n, xs = [x] ∧ LenV K x H n ∧ Q (.int n) H) := hK ▸ call_len
theorem kcall_tuple_of (hK : X.K = K := by rfl) : CallR X (.type "tuple") (fun xs H Q => ∃ p ys, xs = [.ref p] ∧ ((SqL K H p ys ∧ ∀ l, H l = none → Q (.ref l) (upd H l (.tup ys))) ∨ (SqT K H p ys ∧ Q (.ref p) H))) := hK ▸ call_tuple_of
theorem kcall_isiT (hK : X.K = K := by rfl) : CallR X (.builtin "isinstance") (fun xs H Q => ∃ x n t b, xs = [x, .ty n] ∧ TyOf K H x t ∧ PySem.W.kitOne K t (.type n) = some b ∧ Q (.bl b) H) := hK ▸ call_isiT
theorem kpi_list {tg l : Expr} {tl : TE} (hl : PE X l tl) (hK : X.K = K := by rfl) : PI X tg l (iList K tl) := hK ▸ pi_list hl
theorem kpi_tup {tg l : Expr} {tl : TE} (hl : PE X l tl) (hK : X.K = K := by rfl) : PI X tg l (iTup K tl) := hK ▸ pi_tup hl
theorem kpe_bm {o e : Expr} {es : List Expr} {to : TE} {t : TA} {name : Str} {apos cpos : Pos} {T id : String} {r : V → List V → Hp → VK → Prop} (pa : PlainAttrs T) (slot : Slot T name id) (hty : typeOf (.builtin id) = pure (.type "method_descriptor")) (hm : MtR X id r) (ho : PE X o to) (ha : PA X (e :: es) t)
    (hbase : attributeBase o name X.env (eval o X.env) = eval o X.env := by rfl)
    (hfew : ((backTo cpos (starEach (e :: es) X.env)).all (fun x => !x.1) && (backToKw cpos (keywordEach [] X.env)).all (fun x => x.1.isSome)
      && decide ((e :: es).length + ([] : List Keyword).length + (if ([] : List Keyword).isEmpty then 0 else 1) < 30)) = true := by rfl)
    (hline : (apos.endLine == cpos.line) = true := by rfl) (hs : starEach (e :: es) X.env = (false, eval e X.env) :: starEach es X.env := by rfl) (hplain : (backTo cpos (starEach es X.env)).any (·.1) = false := by rfl) (hK : X.K = K := by rfl) :
    PE X (.Call (.Attribute o name apos) (e :: es) [] cpos) (tBM K T r to t) := hK ▸ pe_bm pa slot hty hm ho ha hbase hfew hline hs hplain
theorem kpg_tup {es : List Expr} {k : Nat} {pos : Pos} {t : TGs} {n : Nat} (hc : X.calm = true) (h : PGs X es t) (hn : (assignEach es X.env).length = n := by rfl) (hst : (assignEach es X.env).findIdx? (·.1) = none := by rfl) (hK : X.K = K := by rfl) : PG X (.Tuple es k pos) (gTup K n t) := hK ▸ pg_tup hc h hn hst
end
end L2

set_option Elab.async false
set_option linter.all false
set_option maxRecDepth 100000
set_option maxHeartbeats 4000000
namespace L2
open PySem PySem.Spec PyProof.Rows

/-! whole numbers of any moderate size -/
section
variable {X : Cx}
end

/-! ### an exception in flight: it is at e, over the frames at l; what was tracked, or stood in the elder heap, is held fast -/
section
variable {X : Cx} {pins : List (Addr × Obj)} {σ : St} {H H' : Hp} {s s' : Shared} {h2 : Heap}
end
section
variable {P : Program} {w : World} {K : PySem.W.Frag} {mg : Str → Option Value} {base : Heap} {N : List Str} {qual : Str} {scope : Scope} {f : Addr} {cd : Value} {A : Around} {outer : List Env} {s : Shared} {H : Hp} {E : XK}
end

/-! ### raise C(..), C an own class without an __init__ of its own -/
section
variable {X : Cx}
end
end L2

set_option Elab.async false
set_option linter.all false
set_option maxRecDepth 100000
set_option maxHeartbeats 4000000
namespace L2
open PySem PySem.Spec PyProof.Rows
section
variable {X : Cx}
end
section
variable {X : Cx} {pins : List (Addr × Obj)} {σ : St} {H : Hp} {s : Shared}
end
section
variable {X : Cx} {pins : List (Addr × Obj)} {R : Value → St → Hp → Prop} {e : Value} {s' : Shared}
end
section
variable {X : Cx} {pins : List (Addr × Obj)} {σ : St} {H : Hp} {s : Shared} {ea : Addr}
end
end L2
namespace L2
open PySem PySem.Spec PyProof.Rows
/-! a def of the text that raises on some ways -/
section
end
section
variable {P : Program} {w : World} {K : PySem.W.Frag} {mg : Str → Option Value} {base : Heap}
end
end L2

set_option Elab.async false
set_option linter.all false
set_option maxRecDepth 100000
set_option maxHeartbeats 4000000
namespace L2
open PySem PySem.Spec PyProof.Rows
/-! isinstance of an exception of an own class -/
section
variable {prog : Program} {w : World} {A : Around} {E : Value → Shared → Prop} {s : Shared} {K : PySem.W.Frag} {e C : Addr} {h : Heap}
end
end L2
namespace L2
open PySem PySem.Spec PyProof.Rows
/-! == of two lists of flat values -/
def eqVs (xs ys : List V) : Bool := (xs.zip ys).all (fun p => eqV p.1 p.2) && xs.length == ys.length
def rEqL (K : PySem.W.Frag) : R2 := fun x y H Q => ∃ p q xs ys, x = .ref p ∧ y = .ref q ∧ SqL K H p xs ∧ SqL K H q ys ∧ xs.all flatV = true ∧ ys.all flatV = true ∧ Q (.bl (eqVs xs ys)) H
theorem eqAt_get {A : Around} {s : Shared} {xs ys : List V} {us vs : List Value} (rx : Vals xs us) (ry : Vals ys vs) (fx : xs.all flatV = true) (fy : ys.all flatV = true) (j : Nat) (h1 : j < us.toArray.size) (h2 : j < vs.toArray.size) :
    SeqAt.EqAt A s us.toArray[j] vs.toArray[j] (eqV (xs.getD j .non) (ys.getD j .non)) := by
  have l1 := rx.length
  have l2 := ry.length
  have g1 : j < us.length := by simpa using h1
  have g2 : j < vs.length := by simpa using h2
  have k1 : xs[j]? = some (xs.getD j .non) := by simp [List.getD, show j < xs.length by omega]
  have k2 : ys[j]? = some (ys.getD j .non) := by simp [List.getD, show j < ys.length by omega]
  obtain ⟨u, e1, r1⟩ := rx.get k1
  obtain ⟨v, e2, r2⟩ := ry.get k2
  have f1 := List.all_eq_true.mp fx _ (List.mem_of_getElem? k1)
  have f2 := List.all_eq_true.mp fy _ (List.mem_of_getElem? k2)
  have w1 : us.toArray[j] = u := by
    rw [List.getElem?_eq_getElem g1] at e1
    simpa using Option.some.inj e1
  have w2 : vs.toArray[j] = v := by
    rw [List.getElem?_eq_getElem g2] at e2
    simpa using Option.some.inj e2
  rw [w1, w2]
  exact eqAt_V r1 r2 f1 f2
theorem range_all : ∀ (xs ys : List V), xs.length = ys.length → ((List.range xs.length).all fun j => eqV (xs.getD j .non) (ys.getD j .non)) = (xs.zip ys).all fun p => eqV p.1 p.2
  | [], [], _ => rfl
  | [], _ :: _, h => by cases h
  | _ :: _, [], h => by cases h
  | x :: xs, y :: ys, h => by
    have ih := range_all xs ys (by simpa using h)
    rw [List.length_cons, List.range_succ_eq_map, List.all_cons, List.all_map, List.zip_cons_cons, List.all_cons, ← ih]
    rfl
section
variable {X : Cx}
theorem op_eqL (K : PySem.W.Frag) {k : Nat} (hr : Room k X.A) (hK : X.K = K := by rfl) : OpR X (compareOp .Eq) (rEqL K) := by
  subst hK
  intro pins s σ H x y v u Q I rx ry h
  obtain ⟨p, q, xs, ys, rfl, rfl, h1, h2, f1, f2, hq⟩ := h
  cases rx
  cases ry
  obtain ⟨us, r1, pl1, _⟩ := I.list h1
  obtain ⟨vs, r2, pl2, _⟩ := I.list h2
  have hu : X.A.units < cLine := Nat.lt_of_succ_lt (hu_of hr)
  have l1 := r1.length
  have l2 := r2.length
  by_cases hz : xs.length = ys.length
  · have hz' : us.toArray.size = vs.toArray.size := by simp; omega
    refine SeqAt.eq_listAt pl1.isList pl2.isList hz' hu (eqAt_get r1 r2 f1 f2) ⟨.bl _, H, I, rfl, ?_⟩
    have e : us.toArray.size = xs.length := by simp; omega
    rw [e, range_all xs ys hz]
    unfold eqVs at hq
    rw [hz] at hq
    simpa using hq
  · have hz' : (us.toArray.size != vs.toArray.size) = true := by simp; omega
    refine SeqAt.eq_list_lengthsAt pl1.isList pl2.isList hz' hu ⟨.bl _, H, I, rfl, ?_⟩
    have e : eqVs xs ys = false := by
      unfold eqVs
      simp [hz]
    rw [e] at hq
    exact hq
/-- all(a list of bools) -/
theorem bools_at {bs : List Bool} : ∀ {us : List Value}, Vals (bs.map V.bl) us → us = bs.map Value.bool := by
  induction bs with
  | nil => intro us r; rw [List.map_nil] at r; cases r; rfl
  | cons b bs ih =>
    intro us r
    rw [List.map_cons] at r
    cases r with
    | cons r1 r2 => rw [List.map_cons, ← ih r2]; cases r1; rfl
theorem range_bools : ∀ bs : List Bool, ((List.range bs.length).all fun i => bs.getD i true) = bs.all id
  | [] => rfl
  | b :: bs => by
    have ih := range_bools bs
    rw [List.length_cons, List.range_succ_eq_map, List.all_cons, List.all_map, List.all_cons, ← ih]
    rfl
theorem call_all (hc : X.calm = true) : CallR X (.builtin "all") (fun xs H Q => ∃ (p : Addr) (bs : List Bool), xs = [.ref p] ∧ SqL X.K H p (bs.map V.bl) ∧ Q (.bl (bs.all id)) H) := by
  intro pins s σ H xs us Q I r h
  obtain ⟨p, bs, rfl, hq, q⟩ := h
  obtain ⟨u, rfl, ru⟩ := vals1 r
  cases ru
  obtain ⟨its, rv, pl, _⟩ := I.list hq
  have hl : s.heap.IsList p its.toArray := pl.isList
  have hlt : p < s.heap.objs.size := by obtain ⟨_, e, _⟩ := hl; exact Heap.lt_size e
  refine call_all_walk (wpAny_pyIter_list hl ⟨_, _, _, _, _, _, fun i => bs.getD i true, rfl, Walks.list (A := X.A.in1) (I.ok.hd hc) _ p (Nat.ne_of_lt hlt) its.toArray, ⟨⟨_, Heap.get?_push_size _ rfl, rfl, rfl⟩, hl.push _⟩, fun i v s' Q' E' hv hQ => ?_, fun h' tk hk => ⟨.bl _, H, I.kept (old_kept hk), rfl, ?_⟩⟩)
  · have hv' : its[i]? = some v := by simpa using hv
    rw [bools_at rv, List.getElem?_map] at hv'
    obtain ⟨b, hb, rfl⟩ := Option.map_eq_some_iff.mp hv'
    have e : bs.getD i true = b := by simp [List.getD, hb]
    have z : Q' (bs.getD i true) s' := hQ
    rw [e] at z
    exact wpAny_truthy_bool z
  · have e1 : its.toArray.size = bs.length := by
      have := rv.length
      rw [List.length_map] at this
      simp; omega
    rw [e1]
    have e2 := range_bools bs
    rw [e2]
    exact q
theorem bt_max : bootBuiltins "max" = some (.builtin "max") := by decide +kernel
theorem kcall_all (K : PySem.W.Frag) (hc : X.calm = true) (hK : X.K = K := by rfl) : CallR X (.builtin "all") (fun xs H Q => ∃ (p : Addr) (bs : List Bool), xs = [.ref p] ∧ SqL K H p (bs.map V.bl) ∧ Q (.bl (bs.all id)) H) := hK ▸ call_all hc
end
end L2

set_option Elab.async false
set_option linter.all false
set_option maxRecDepth 100000
set_option maxHeartbeats 4000000
namespace L2
open PySem PySem.Spec PyProof.Rows
/-! a range by steps -/
section
variable {X : Cx} {tg : Expr}
/-! (a, b, ..) = a list of that length -/
/-! != of two tuples of flat values -/
theorem kcall_max2 (K : PySem.W.Frag) (hc : X.calm = true) : CallR X (.builtin "max") (fun xs H Q => ∃ i j, xs = [.int i, .int j] ∧ Q (.int (if j > i then j else i)) H) := call_max2 hc
end
end L2

set_option Elab.async false
set_option linter.all false
set_option maxRecDepth 100000
set_option maxHeartbeats 4000000
namespace L2
open PySem PySem.Spec PyProof.Rows
/-! sets of texts, made of a list -/
section
variable {prog : Program} {w : World} {A : Around} {E : Value → Shared → Prop} {s : Shared}
end
section
variable {X : Cx}
end
end L2

set_option Elab.async false
set_option linter.all false
set_option maxRecDepth 100000
set_option maxHeartbeats 4000000
namespace L2
open PySem PySem.Spec PyProof.Rows
/-! zip(t, u) of two tuples -/
section
variable {prog : Program} {w : World} {A : Around} {E : Value → Shared → Prop} {s : Shared}
variable {z TI TO i1 i2 t1 t2 : Addr} {xs ys : Array Value} {k1 k2 : Nat}
end
end L2
namespace L2
open PySem PySem.Spec PyProof.Rows
section
variable {X : Cx}
end
end L2

set_option Elab.async false
set_option linter.all false
set_option maxRecDepth 100000
set_option maxHeartbeats 4000000
namespace L2
open PySem PySem.Spec PyProof.Rows
section
variable {X : Cx}
end
/-! == and != of things that are alike, tuples within tuples -/
theorem eqV_self {v : V} (h : flatV v = true) : eqV v v = true := by
  cases v with
  | non => rfl
  | bl b => simp [eqV]
  | int i => simp [eqV]
  | str x => simp [eqV]
  | _ => cases h
theorem Paired.at {α β : Type} {F : α → β → Prop} : ∀ {l₁ : List α} {l₂ : List β}, Paired F l₁ l₂ → ∀ (i : Nat) (x : α) (y : β), l₁[i]? = some x → l₂[i]? = some y → F x y
  | _, _, .nil, i, x, y, h, _ => by simp at h
  | _, _, .cons r t, 0, x, y, h, k => by simp at h k; subst h k; exact r
  | _, _, .cons r t, i + 1, x, y, h, k => Paired.at t i x y (by simpa using h) (by simpa using k)
section
variable {X : Cx} {pins : List (Addr × Obj)} {σ : St} {H : Hp} {s : Shared}
end
end L2

set_option Elab.async false
set_option linter.all false
set_option maxRecDepth 100000
set_option maxHeartbeats 4000000
namespace L2
open PySem PySem.Spec PyProof.Rows
end L2

set_option Elab.async false
set_option linter.all false
set_option maxRecDepth 100000
set_option maxHeartbeats 4000000
namespace L4
open PySem L2
/-! pools: a list of three ints, of which nothing more is known -/
/-- all that was tracked is as it was, but for p -/
def Off (p : Addr) (H H' : Hp) : Prop := ∀ b o, b ≠ p → H b = some o → H' b = some o
/-- tuples stay -/
def Tk (H H' : Hp) : Prop := ∀ b xs, H b = some (.tup xs) → H' b = some (.tup xs)
theorem Off.refl {p : Addr} {H : Hp} : Off p H H := fun _ _ _ h => h
theorem Off.trans {p : Addr} {H H1 H2 : Hp} (a : Off p H H1) (b : Off p H1 H2) : Off p H H2 := fun c o n h => b c o n (a c o n h)
theorem Off.put {p : Addr} {H : Hp} {o : HO} : Off p H (upd H p o) := fun c u n h => by rw [upd_ne n]; exact h
theorem Off.new {p t : Addr} {H : Hp} {o : HO} (h : H t = none) : Off p H (upd H t o) := fun c u n q => by rw [upd_ne (ne_of_none q h)]; exact q
theorem Tk.trans {H H1 H2 : Hp} (a : Tk H H1) (b : Tk H1 H2) : Tk H H2 := fun c xs h => b c xs (a c xs h)
theorem Tk.put {t : Addr} {H : Hp} {xs : List V} {o : HO} (h : H t = some (.lst xs)) : Tk H (upd H t o) := fun c u q => by rw [upd_ne (ne_of q h (by intro z; cases z))]; exact q
theorem same_new {H : Hp} {p : Addr} (h : H p = none) (o : HO) : Same H (upd H p o) := fun b u q => by rw [upd_ne (ne_of_none q h)]; exact q
theorem Off.fresh {p f : Addr} {H H' : Hp} {o : HO} (h : Off p H H') (n : H f = none) : Off p H (upd H' f o) := fun b u hb q => by rw [upd_ne (ne_of_none q n)]; exact h b u hb q
theorem Off.of {p : Addr} {H H' : Hp} (s : Same H H') : Off p H H' := fun b o _ q => s b o q
theorem Tk.of {H H' : Hp} (s : Same H H') : Tk H H' := fun b xs q => s b _ q
theorem take_snoc {α : Type} {xs : List α} {i : Nat} {x : α} (h : xs[i]? = some x) : xs.take (i + 1) = xs.take i ++ [x] := by rw [List.take_add_one, h]; rfl
theorem small9 {n : Nat} (h : n ≤ 1000) : n ≤ sizeLine := Nat.le_of_lt (small1000 h)
end L4

set_option Elab.async false
set_option linter.all false
set_option maxRecDepth 100000
set_option maxHeartbeats 4000000
namespace Fr
end Fr
namespace Fr
end Fr
namespace L4
open PySem L2
/-! fractions at the heap: pairs in lowest terms, of at most n bits -/
theorem _root_.L2.Same.put {H H' : Hp} {l : Addr} {o : HO} (h : Same H H') (n : H l = none) : Same H (upd H' l o) := fun b u e => by rw [upd_ne (ne_of_none e n)]; exact h b u e
end L4

set_option Elab.async false
set_option linter.all false
namespace L2
open PySem PySem.Spec PyProof.Rows
variable {X : Cx}
end L2

set_option Elab.async false
set_option linter.all false
set_option maxRecDepth 100000
set_option maxHeartbeats 4000000
namespace HT
open PySem PyProof.Rows
open PySem.SeqAt
open PySem.AutoSeq1 (wpAny_loadPart')
open PySem.MeetsSeq PySem.MeetsSeq2 PySem.MeetsSeq3
variable {prog : Program} {w : World} {A : Around} {E : Value → Shared → Prop} {s : Shared}
end HT
namespace L2
open PySem PySem.Spec PyProof.Rows
variable {X : Cx}
end L2

set_option Elab.async false
set_option linter.all false
set_option maxRecDepth 100000
set_option maxHeartbeats 4000000
namespace L2
open PySem PySem.Spec PyProof.Rows
section
variable {X : Cx}
/-- t + u -/
def rCatA (K : PySem.W.Frag) : R2 := fun x y H Q => ∃ a b xs ys, x = .ref a ∧ y = .ref b ∧ SqT K H a xs ∧ SqT K H b ys ∧ xs.length + ys.length ≤ sizeLine ∧
  (xs = [] → Q (.ref b) H) ∧ (xs ≠ [] → ys = [] → Q (.ref a) H) ∧ (xs ≠ [] → ys ≠ [] → ∀ p, H p = none → Q (.ref p) (upd H p (.tup (xs ++ ys))))
theorem op_catA (K : PySem.W.Frag) (hK : X.K = K := by rfl) : OpR X (binaryOp .Add) (rCatA K) := by
  subst hK
  intro pins s σ H x y v u Q I rx ry h
  obtain ⟨a, b, xs, ys, rfl, rfl, ha, hb, hz, q0, q1, q2⟩ := h
  by_cases hx : xs = []
  · cases rx
    cases ry
    obtain ⟨its, r1, p1, _⟩ := I.tuple ha
    obtain ⟨its2, r2, p2, _⟩ := I.tuple hb
    obtain ⟨⟨cls, dd, data, sl⟩, ho, hc, n, hd⟩ := id p1
    obtain ⟨⟨cls2, dd2, data2, sl2⟩, ho2, hc2, n2, hd2⟩ := id p2
    simp only at hc hd hc2 hd2
    subst hc hd hc2 hd2
    have hv : its = [] := (Vals.nil_iff r1).mpr hx
    exact concat_meets ⟨_, ho, rfl⟩ ⟨_, ho2, rfl⟩ noFill_tuple_add seq_tuple_add PySem.F.slot_tuple_add PySem.F.entry_tuple_add (PySem.F.args_tuple_add_2 _ _)
      (tuple_addW0 a b its.toArray its2.toArray n n2 dd dd2 sl sl2 (by simp [hv])) ⟨ho, ho2, ⟨.ref b, H, I, rfl, q0 hx⟩⟩
  · exact op_catT pins s σ H _ _ v u Q I rx ry ⟨a, b, xs, ys, rfl, rfl, ha, hb, hx, hz, q1 hx, q2 hx⟩
end
end L2

set_option Elab.async false
set_option linter.all false
set_option maxRecDepth 100000
set_option maxHeartbeats 4000000
namespace L4
open PySem L2
/-! names and pigeons -/
/-! half tables as data -/
end L4

set_option Elab.async false
set_option linter.all false
set_option maxRecDepth 100000
set_option maxHeartbeats 4000000
namespace L4
open PySem L2 PySem.StrLaws
/-! texts put together and taken apart again -/
/-! figures -/
end L4

set_option Elab.async false
set_option linter.all false
set_option maxRecDepth 100000
set_option maxHeartbeats 4000000
namespace L4
open PySem L2 PySem.StrLaws
/-! good names, good half tables -/
end L4

set_option Elab.async false
set_option linter.all false
set_option maxRecDepth 100000
set_option maxHeartbeats 4000000
namespace L4
open PySem L2
/-! comprehensions that only tell: every part by itself -/
theorem map_list {α : Type} {K : PySem.W.Frag} {a D : Addr} {t : Nat} {te : TE} {σ0 : St} {H1 : Hp} {Q : VK} (as : List α) (g h : α → V) (ha : H1 a = some (.lst (as.map g))) (hl : as.length ≤ 1000) (hD : H1 D = none)
    (he : ∀ z ∈ as, ∀ H' Q', Same H1 H' → (∀ H'', Same H' H'' → Q' (h z) H'') → te (σ0.set t (some (g z))) H' Q')
    (q : ∀ H', Same H1 H' → H' D = some (.lst (as.map h)) → Q (.ref D) H') : CompGo (Itl K a) (gName t) tYes te σ0 H1 Q D := by
  refine comp_list (xs := as.map g) (fun i ys H' => Same H1 H' ∧ ys = (as.take i).map h) ⟨same_new hD _, rfl⟩ (fun i ys H' hh _ => SqL.of (hh.1 _ _ ha)) ?_ ?_
  · rintro i ys H' x hx ⟨s1, rfl⟩ hD'
    have hi : i < (as.map g).length := (List.getElem?_eq_some_iff.mp hx).1
    rw [List.getElem?_map] at hx
    obtain ⟨z, hz, rfl⟩ := Option.map_eq_some_iff.mp hx
    refine yes (he z (List.mem_of_getElem? hz) H' _ s1 fun H'' s2 => ?_)
    rw [List.length_map] at hi
    refine cyes (by rw [List.length_map]; exact hi) rset1 (s2 _ _ hD') (by rw [List.length_map, List.length_take]; exact small1000 (by omega)) ⟨fun b o qb => ?_, ?_⟩
    · rw [upd_ne (ne_of_none qb hD)]
      exact s2 b o (s1 b o qb)
    · rw [take_snoc hz, List.map_append]
      rfl
  · rintro ys H' ⟨s1, rfl⟩ hD'
    rw [List.length_map, List.take_length] at hD'
    exact q H' s1 hD'
theorem Same.rfl' {H : Hp} : Same H H := fun _ _ h => h
end L4

set_option Elab.async false
set_option linter.all false
set_option maxRecDepth 100000
set_option maxHeartbeats 4000000
namespace L4
open PySem L2 PySem.StrLaws
/-! things of any kind -/
/-! what the document says of them -/
end L4

set_option Elab.async false
set_option linter.all false
set_option maxRecDepth 100000
set_option maxHeartbeats 4000000
namespace L4
open PySem L2 PySem.StrLaws
end L4

set_option Elab.async false
set_option linter.all false
set_option maxRecDepth 100000
set_option maxHeartbeats 4000000
namespace L4
open PySem L2 PySem.StrLaws
/-! a thing that is a half table, as data -/
end L4

set_option Elab.async false
set_option linter.all false
set_option maxRecDepth 100000
set_option maxHeartbeats 4000000
namespace L4
open PySem L2
/-! displays that make things; X: lists that are still written on, which no thing has -/
open Classical in
section
variable {X : Addr → Prop} {H0 : Hp} {σ : St}
end
end L4

set_option Elab.async false
set_option linter.all false
set_option maxRecDepth 100000
set_option maxHeartbeats 4000000
namespace L4
open PySem L2
end L4

set_option Elab.async false
set_option linter.all false
set_option maxRecDepth 100000
set_option maxHeartbeats 4000000
namespace L4
open PySem L2
end L4

set_option Elab.async false
set_option linter.all false
set_option maxRecDepth 100000
set_option maxHeartbeats 4000000
namespace L2
open PySem PySem.Spec PyProof.Rows
open Builtin
section
variable {X : Cx}
end
end L2

set_option Elab.async false
set_option linter.all false
set_option maxRecDepth 100000
set_option maxHeartbeats 4000000
namespace L4
open PySem L2
/-! the same for any predicate and any slot -/
section
end
end L4

set_option Elab.async false
set_option linter.all false
set_option maxRecDepth 100000
set_option maxHeartbeats 4000000
namespace L4
open PySem L2 PySem.StrLaws
/-! any text, read as a table's -/
/-! how long the parts are -/
/-! how a text fails -/
end L4

set_option Elab.async false
set_option linter.all false
set_option maxRecDepth 100000
set_option maxHeartbeats 4000000
namespace L2
open PySem PySem.Spec PyProof.Rows
/-! the count of tokens never goes back -/
end L2

set_option Elab.async false
set_option linter.all false
set_option maxRecDepth 100000
set_option maxHeartbeats 4000000
namespace L2
open PySem PySem.Spec PyProof.Rows PySem.Builtin PySem.Builtin.Str
/-! rules where a token has been drawn -/
section
variable {X : Cx} {e : Expr} {es : List Expr} {te ta tb : TE} {t : TA} {pos : Pos} {a b : Expr} {st : Stmt} {rest : List Stmt} {ts us : TS}
end
end L2

set_option Elab.async false
set_option linter.all false
set_option maxRecDepth 100000
set_option maxHeartbeats 4000000
namespace L2
open PySem PySem.Spec PyProof.Rows PySem.Builtin PySem.Builtin.Str
section
variable {X : Cx}
/-- text * number -/
theorem op_mulS : OpR X (binaryOp .Mult) (fun x y H Q => ∃ (i : Str) (n : Int), x = .str i ∧ y = .int n ∧ 0 ≤ n ∧ n ≤ 100 ∧ i.length ≤ 10 ∧ Q (.str (Txt.mul i n)) H) := by
  intro pins s σ H x y v u Q I rx ry h
  obtain ⟨i, n, rfl, rfl, n0, n1, il, q⟩ := h
  obtain ⟨t, rfl⟩ := rx
  obtain ⟨t', rfl⟩ := ry
  refine SB.mul ⟨by simp; omega, fun h1 _ => ?_, fun h1 _ => ?_⟩ fun t' k => ⟨.str _, H, I.tok _, ⟨_, rfl⟩, q⟩
  · have h2 : (2 ^ 63 - 1 : Int) / 100 ≤ (2 ^ 63 - 1) / n := by
      rw [Int.le_ediv_iff_mul_le (by omega)]
      have h3 : (2 ^ 63 - 1 : Int) / 100 * n ≤ (2 ^ 63 - 1 : Int) / 100 * 100 := Int.mul_le_mul_of_nonneg_left n1 (by decide)
      have h4 : (2 ^ 63 - 1 : Int) / 100 * 100 ≤ 2 ^ 63 - 1 := by decide
      omega
    have h5 : (10 : Int) ≤ (2 ^ 63 - 1 : Int) / 100 := by decide
    omega
  · have : i.length * n.toNat ≤ 10 * 100 := Nat.mul_le_mul il (by omega)
    unfold tooLong sizeLine
    exact decide_eq_false (by omega)
end
end L2

set_option Elab.async false
set_option linter.all false
set_option maxRecDepth 100000
set_option maxHeartbeats 4000000
namespace L4
open PySem L2 PySem.StrLaws
/-! texts put together of parts of words, and taken apart -/
/-! no "; " within -/
end L4

set_option Elab.async false
set_option linter.all false
set_option maxRecDepth 100000
set_option maxHeartbeats 4000000
namespace L4
open PySem L2 PySem.StrLaws
/-! the words of a good table -/
/-! cells that are none -/
/-! A: a part more -/
/-! B: the last word -/
end L4

set_option Elab.async false
set_option linter.all false
set_option maxRecDepth 100000
set_option maxHeartbeats 4000000
namespace L4
open PySem L2 PySem.StrLaws
section
end
end L4

set_option Elab.async false
set_option linter.all false
set_option maxRecDepth 100000
set_option maxHeartbeats 4000000
namespace L4
open PySem L2
section
/-! slices and repetitions that make things -/
end
end L4

set_option Elab.async false
set_option linter.all false
set_option maxRecDepth 100000
set_option maxHeartbeats 4000000
namespace L4
open PySem L2
end L4

set_option Elab.async false
set_option linter.all false
set_option maxRecDepth 100000
set_option maxHeartbeats 4000000
namespace L4
open PySem L2
end L4
namespace L4
open PySem L2
end L4

set_option Elab.async false
set_option linter.all false
set_option maxRecDepth 100000
set_option maxHeartbeats 4000000
namespace L4
open PySem L2
/-! good half tables, as things -/
end L4

set_option Elab.async false
set_option linter.all false
set_option maxRecDepth 100000
set_option maxHeartbeats 4000000
namespace L4
open PySem L2 PySem.StrLaws
section
/-! D: parts put otherwise -/
/-! E: where there are connectives -/
end
end L4

set_option Elab.async false
set_option linter.all false
set_option maxRecDepth 100000
set_option maxHeartbeats 4000000
namespace L4
open PySem L2 PySem.StrLaws
/-! displays that make texts, and lists of texts -/
section
variable {X : Addr → Prop} {H0 : Hp} {σ : St} {K : PySem.W.Frag}
end
end L4

set_option Elab.async false
set_option linter.all false
set_option maxRecDepth 100000
set_option maxHeartbeats 4000000
namespace L4
open PySem L2 PySem.StrLaws
section
end
section
end
/-! a great letter -/
/-! the good text -/
/-! two of the same thing are alike -/
end L4

set_option Elab.async false
set_option linter.all false
set_option maxRecDepth 100000
set_option maxHeartbeats 4000000
namespace L2
open PySem PySem.Spec PyProof.Rows
section
variable {X : Cx}
theorem bt_min : bootBuiltins "min" = some (.builtin "min") := by decide +kernel
theorem kcall_min2 (K : PySem.W.Frag) (hc : X.calm = true) : CallR X (.builtin "min") (fun xs H Q => ∃ i j, xs = [.int i, .int j] ∧ Q (.int (if j < i then j else i)) H) := call_min2 hc
end
end L2
namespace L4
open PySem L2
/-! the chains' connectives -/
end L4
namespace Fr
end Fr

set_option Elab.async false
set_option linter.all false
set_option maxRecDepth 100000
set_option maxHeartbeats 4000000
namespace PySem
open Sem (wp)
section
variable {prog : Program} {w : World} {A : Around} {E : Value → Shared → Prop} {s : Shared}
theorem wpAny_collect_range {Q : List Value → Shared → Prop} {it : Addr} {a b c : Int} {t u v : Tok} {n : Nat} (hh : A.handled = none) (hr : IsRange s.heap it a b c t u v) (hsmall : Builtin.Range.small a b c = true)
    (hn : Builtin.Range.rangeSize a b c = n) (hlen : n ≤ 2 ^ 24)
    (hQ : ∀ h' tk (acc : Array Value), (∀ b o', s.heap.get? b = some o' → h'.get? b = some o') → ItemsOf (fun i v => ∃ t, v = .int (a + i * c) t) acc n → Q acc.toList { s with heap := h', toks := tk }) :
    wpAny (model prog w) A (collect (.ref it)) Q E s := by
  unfold collect
  refine wpAny_bind (wpAny_runValue (codeAny_builtin F.entry_proto_collect ?_))
  rw [Around.under_plainId F.plain_proto_collect _]
  show wpAny _ A.in1 (newList [] >>= fun l => again (.builtin "list.__iadd__" ⟨[l, .ref it], []⟩)) _ _ s
  refine wpAny_bind (wpAny_newObj_type ?_)
  refine wpAny_pure ⟨plainId_quiet F.plain_list_iadd _, codeAny_builtin F.entry_list_iadd ?_⟩
  rw [Around.under_plainId F.plain_list_iadd _]
  show wpAny _ A.in1 (Builtin.List.listExtendWith (.ref s.heap.objs.size) (.ref it) (.ref s.heap.objs.size)) _ _ _
  have hS : (s.heap.push { cls := .type "list", data := .seq ([] : List Value).toArray }).get? s.heap.objs.size = some { cls := .type "list", data := .seq #[] 0 } := Heap.get?_push_size _ rfl
  have fin' : ∀ (s' : Shared), (∃ h' tk acc c', s' = { s with heap := h', toks := tk } ∧ (∀ b o, b ≠ s.heap.objs.size → (s.heap.push { cls := .type "list", data := .seq ([] : List Value).toArray }).get? b = some o → h'.get? b = some o) ∧ h'.get? s.heap.objs.size = some { cls := .type "list", dict := none, data := .seq acc c', slots := #[] } ∧ ItemsOf (fun i v => ∃ t, v = .int (a + i * c) t) acc n) → wpAny (model prog w) A (match Value.ref s.heap.objs.size with
      | Value.ref a => do
        match (← load a).data with
          | Data.seq xs _ => pure xs.toList
          | _ => unsupported "internal:collect"
      | _ => unsupported "internal:collect") Q E s' := by
    rintro s' ⟨h', tk, acc, c', rfl, kp, e, hacc⟩
    show wpAny _ A (load s.heap.objs.size >>= _) _ _ _
    refine wpAny_bind (wpAny_load e ?_)
    refine wpAny_pure ?_
    exact hQ h' tk acc (fun b o' hb => kp b o' (Nat.ne_of_lt (Heap.lt_size hb)) (Heap.get?_push_of_some _ hb)) hacc
  refine wpAny_mono (wpAny_extend_range (A := A) (R := fun r s' => r = .ok (.ret (.ref s.heap.objs.size)) ∧ ∃ h' tk acc c', s' = { s with heap := h', toks := tk } ∧ (∀ b o, b ≠ s.heap.objs.size → (s.heap.push { cls := .type "list", data := .seq ([] : List Value).toArray }).get? b = some o → h'.get? b = some o) ∧ h'.get? s.heap.objs.size = some { cls := .type "list", dict := none, data := .seq acc c', slots := #[] } ∧ ItemsOf (fun i v => ∃ t, v = .int (a + i * c) t) acc n)
    (s := { s with heap := s.heap.push { cls := .type "list", data := .seq ([] : List Value).toArray } }) hh (Heap.get?_push_of_some _ hr) hsmall hn hlen _ _ 0 hS fun h' tk acc' c' k1 k2 k3 => ⟨rfl, h', tk, acc', c', rfl, k1, k2, k3⟩) (fun fin s' h => ?_) (fun e s' h => ?_)
  · cases fin with
    | done f =>
      obtain ⟨e, h⟩ := h
      cases e
      exact fin' _ h
    | again c' => exact ⟨h.1, codeAny_mono h.2 fun r s'' hr => by obtain ⟨rfl, hr⟩ := hr; exact fin' _ hr⟩
  · exact absurd h.1 (by simp)
end
theorem meets_tuple_new_range (l : Addr) (a b c : Int) (t u v : Tok) (n : Nat) (hsmall : Builtin.Range.small a b c = true) (hn : Builtin.Range.rangeSize a b c = n) (hlen : n ≤ 2 ^ 20) :
    Meets (Builtin.«tuple.__new__» ⟨[.type "tuple", .ref l], []⟩)
      (fun A R s => A.handled = none ∧ IsRange s.heap l a b c t u v ∧ ∀ (h' : Heap) (tk : Nat) (acc : Array Value), (∀ b o', s.heap.get? b = some o' → h'.get? b = some o') → ItemsOf (fun i v => ∃ t, v = .int (a + i * c) t) acc n → R (.ok (.ret (.ref h'.objs.size))) { s with heap := h'.push { cls := .type "tuple", data := .seq acc }, toks := tk }) :=
  .of_wp fun prog w A R s h => by
    obtain ⟨hp, g, d, tk, os⟩ := s; obtain ⟨hh, ht, h⟩ := h
    have hsub := sub_tuple_self
    have hinit := init_tuple_lookup
    have hmh := madeHere_tuple
    have hT : Shared.TypeIs ⟨hp, g, d, tk, os⟩ (.ref l) "range" := ⟨_, ht, rfl⟩
    wp_walk using AutoSeq1.wpAny_loadPart' ht, wpAny_typeOf hT, wpAny_collect_range (A := A.in1) hh ht hsmall hn (by omega)
    intro h' tk' acc hk hacc
    show wpAny _ _ (Builtin.Tuple.tupleExact acc.toList.toArray >>= fun v => ret v) _ _ _
    unfold Builtin.Tuple.tupleExact
    have hsz : acc.size ≤ sizeLine := by rw [hacc.1]; exact Nat.le_trans hlen (by decide +kernel)
    refine wpAny_bind (wpAny_newObj_type ?_ (by show acc.toList.toArray.size ≤ sizeLine; simpa using hsz))
    refine wpAny_pure ⟨_, rfl, ?_⟩
    have e : acc.toList.toArray = acc := by simp
    rw [e]
    exact h h' tk' acc hk hacc
section
variable {prog : Program} {w : World} {A : Around} {E : Value → Shared → Prop} {s : Shared}
theorem call_tuple_range {l : Addr} {a b c : Int} {t u v : Tok} {n : Nat} {Q : Value → Shared → Prop} (hh : A.handled = none) (hr : IsRange s.heap l a b c t u v) (hsmall : Builtin.Range.small a b c = true) (hn : Builtin.Range.rangeSize a b c = n) (hlen : n ≤ 2 ^ 20)
    (h : ∀ (h' : Heap) (tk : Nat) (acc : Array Value), (∀ b o', s.heap.get? b = some o' → h'.get? b = some o') → ItemsOf (fun i v => ∃ t, v = .int (a + i * c) t) acc n → Q (.ref h'.objs.size) { s with heap := h'.push { cls := .type "tuple", data := .seq acc }, toks := tk }) :
    wpAny (model prog w) A (call (.type "tuple") [.ref l]) Q E s :=
  callType_new F.called_tuple (by decide) (F.typeCall_tuple_1 _) (F.newCall_tuple_1 _) (fun obj => F.args_object_init_2 obj _) F.entry_tuple_new
    (meets_tuple_new_range l a b c t u v n hsmall hn hlen) ⟨hh, hr, fun h' tk acc hk hacc => ⟨⟨_, Heap.get?_push_size _ rfl, rfl⟩, h h' tk acc hk hacc⟩⟩
end
end PySem
namespace PySem.SeqAt
open PySem
theorem wpAny_forRange {M : Model} {A : Around} {E : Value → Shared → Prop} {s : Shared} {β : Type} {a b : Nat} (f : Nat → β → Sem (ForInStep β)) (I : Nat → β → Shared → Prop) (Q : β → Shared → Prop)
    (turn : ∀ i c s, a ≤ i → i < b → I i c s → wpAny M A (f i c) (fun r s' => match r with | .yield c' => I (i + 1) c' s' | .done c' => Q c' s') E s)
    (fin : ∀ c s, I (max a b) c s → Q c s) (c : β) (h : I a c s) : wpAny M A (forIn [a:b] c f) Q E s := by
  rw [Std.Legacy.Range.forIn_eq_forIn_range']
  have hsz : ([a:b] : Std.Legacy.Range).size = b - a := by simp [Std.Legacy.Range.size]
  show wpAny M A (forIn (List.range' a ([a:b] : Std.Legacy.Range).size 1) c f) Q E s
  rw [hsz]
  refine wpAny_forIn_list f (fun l c st => ∃ i, a ≤ i ∧ i ≤ max a b ∧ l = List.range' i (max a b - i) 1 ∧ I i c st) Q ?_ ?_ _ c ⟨a, Nat.le_refl _, by omega, by congr 1; omega, h⟩
  · rintro x rest c st ⟨i, hai, hib, hl, hI⟩
    have hlt : i < max a b := by
      rcases Nat.lt_or_ge i (max a b) with h' | h'
      · exact h'
      · rw [show max a b - i = 0 by omega] at hl; simp at hl
    obtain ⟨n, hn⟩ : ∃ n, max a b - i = n + 1 := ⟨max a b - i - 1, by omega⟩
    rw [hn, List.range'_succ] at hl
    obtain ⟨rfl, rfl⟩ := List.cons.inj hl
    refine wpAny_mono (turn x c st hai (by omega) hI) (fun r st' h' => ?_) fun _ _ h' => h'
    cases r with
    | done c' => exact h'
    | yield c' => exact ⟨x + 1, by omega, by omega, by congr 1; omega, h'⟩
  · rintro c st ⟨i, hai, hib, hl, hI⟩
    have : i = max a b := by
      rcases Nat.lt_or_ge i (max a b) with h' | h'
      · obtain ⟨n, hn⟩ : ∃ n, max a b - i = n + 1 := ⟨max a b - i - 1, by omega⟩
        rw [hn, List.range'_succ] at hl
        cases hl
      · omega
    rw [this] at hI
    exact fin c st hI
theorem tuple_indexAt (l : Addr) (items : Array Value) (n : Nat) (dd : Option Addr) (sl : Array (Option Value)) (x : Value) (e : Value → Bool) (j : Nat) (hj : j < items.size)
    (hit : e items[j] = true) (hno : ∀ m (hm : m < items.size), m < j → e items[m] = false) :
    Meets (Builtin.«tuple.index» ⟨[.ref l, x], []⟩)
      (fun A R s => s.heap.get? l = some { cls := .type "tuple", dict := dd, data := .seq items n, slots := sl } ∧ (∀ y, y ∈ items → EqAt A.in1 s y x (e y)) ∧ R (.ok (.ret (.int j s.toks))) { s with toks := s.toks + 1 }) :=
  .of_wp fun prog w A R s h => by
    obtain ⟨hp, g, d, tk, os⟩ := s; obtain ⟨hl, he, h⟩ := h
    wp_walk using AutoSeq1.wpAny_loadPart' hl, wpAny_forRange _ (fun i c s' => c = (none, ()) ∧ s' = ⟨hp, g, d, tk, os⟩ ∧ i ≤ j) _
    case turn =>
      rintro i c s' hi1 hi2 ⟨rfl, rfl, hij⟩
      have hi : i < items.size := by omega
      rw [Array.getElem?_eq_getElem hi]
      refine wpAny_bind (he _ (Array.getElem_mem hi) prog w _ _ ?_)
      rcases Nat.lt_or_ge i j with h' | h'
      · rw [hno i hi h']
        wp_walk
        exact ⟨rfl, rfl, h'⟩
      · have e1 : i = j := by omega
        subst e1
        rw [hit]
        wp_walk
        exact ⟨_, rfl, h⟩
    case fin =>
      rintro c s' ⟨rfl, rfl, hij⟩
      omega
    case h =>
      exact ⟨rfl, rfl, Nat.zero_le _⟩
end PySem.SeqAt
namespace L2
open PySem PySem.Spec PyProof.Rows
section
variable {X : Cx}
/-- xs * n, a new list -/
def rRepL (K : PySem.W.Frag) : R2 := fun x y H Q => ∃ a xs n, x = .ref a ∧ y = .int n ∧ H a = some (.lst xs) ∧ 0 ≤ n ∧ n ≤ 1000 ∧ xs.length * n.toNat ≤ 1000 ∧ ∀ p, H p = none → Q (.ref p) (upd H p (.lst (List.replicate n.toNat xs).flatten))
theorem op_repL (K : PySem.W.Frag) : OpR X (binaryOp .Mult) (rRepL K) := by
  intro pins s σ H x y v u Q I rx ry h
  obtain ⟨a, xs, k, rfl, rfl, ha, k0, k1, hz, q⟩ := h
  cases rx
  obtain ⟨t, rfl⟩ := ry
  obtain ⟨z, its, n, r, hl, e⟩ := I.lstM ha
  have e1 : List.foldl (fun x1 x2 => x1 ++ x2) #[] (List.replicate k.toNat its.toArray) = (List.replicate k.toNat its).flatten.toArray := by
    have := foldl_rep its k.toNat []
    rw [List.nil_append] at this
    exact this
  have hnew : List.foldl (fun x1 x2 => x1 ++ x2) #[] (List.replicate (if its.toArray.isEmpty = true then 0 else k.toNat) its.toArray) = (List.replicate k.toNat its).flatten.toArray := by
    cases hi : its with
    | nil => simp
    | cons b bs =>
      rw [← hi]
      have : its.toArray.isEmpty = false := by rw [hi]; rfl
      rw [this]
      exact e1
  refine wpAny_binaryOp_repeat_ref (T := "list") (U := "int") (by decide) ⟨_, e, rfl⟩ (fun s' => typeIs_int s' k t) noFill_list_mul F.fills_int_mul F.slot_int_rmul repeat_list F.slot_int_index.lookup
    (call_meets F.slot_int_rmul (typeIs_int s k t) F.entry_int_rmul (F.args_int_rmul_2 _ _) (int___rmul___int_list k t a its.toArray n)
      ⟨e, rfl, ⟨_, e, rfl⟩, call_meets F.slot_list_mul ⟨_, e, rfl⟩ F.entry_list_mul (F.args_list_mul_2 _ _)
        (AutoListH.list___mul___list_int_3 a its.toArray n k t (by simp [Builtin.List.listFitsIndex]; omega) (by
          have h1 : its.length * k.toNat ≤ 1000 := by rw [← hl]; exact hz
          have h2 : ((its.length * k.toNat : Nat) : Int) ≤ 1000 := by exact_mod_cast h1
          rw [Int.natCast_mul, show ((k.toNat : Nat) : Int) = k by omega] at h2
          simp only [List.size_toArray]
          omega) (by
          have h1 : its.length * k.toNat ≤ 1000 := by rw [← hl]; exact hz
          have h2 : ((its.length * k.toNat : Nat) : Int) ≤ 1000 := by exact_mod_cast h1
          rw [Int.natCast_mul, show ((k.toNat : Nat) : Int) = k by omega] at h2
          simp [Builtin.List.listTooLong, sizeLine]
          omega))
        ⟨e, ?_⟩⟩)
  rw [hnew]
  refine ⟨.ref s.heap.objs.size, _, I.laid (t' := s.toks) (o := .lst (List.replicate k.toNat xs).flatten) (fun b ob q => Heap.get?_push_of_some _ q) (Nat.le_refl _) ?_, rfl, q _ (I.hok.fresh (Nat.le_refl _))⟩
  exact ⟨by rw [len_rep]; exact Nat.le_of_lt (small1000 (by rw [Nat.mul_comm]; exact hz)), _, 0, r.rep k.toNat, Heap.get?_push_size _ rfl⟩
end
end L2

set_option Elab.async false
set_option linter.all false
set_option maxRecDepth 100000
set_option maxHeartbeats 4000000
namespace L2
open PySem PySem.Spec PyProof.Rows
/-! enumerate(a list) -/
section
variable {X : Cx}
end
end L2

set_option Elab.async false
set_option linter.all false
set_option maxRecDepth 100000
set_option maxHeartbeats 4000000
namespace L2
open PySem PySem.Spec PyProof.Rows
theorem bt_divmod : bootBuiltins "divmod" = some (.builtin "divmod") := by decide +kernel
theorem bt_sorted : bootBuiltins "sorted" = some (.builtin "sorted") := by decide +kernel
end L2
namespace L4
open PySem L2
abbrev nV (i : Nat) : V := .int (i : Int)
/-! the wells of draws: a list of two ints, of which nothing more is known -/
def Wel (H : Hp) (p : Addr) : Prop := ∃ x y : Int, H p = some (.lst [.int x, .int y])
theorem Wel.put {H : Hp} {p : Addr} {x y : Int} : Wel (upd H p (.lst [.int x, .int y])) p := ⟨x, y, upd_same⟩
theorem Wel.same {H H' : Hp} {p : Addr} (h : Wel H p) (s : Same H H') : Wel H' p := by
  obtain ⟨x, y, e⟩ := h
  exact ⟨x, y, s _ _ e⟩
theorem Wel.off {H : Hp} {p t : Addr} {o : HO} (h : Wel H p) (n : p ≠ t) : Wel (upd H t o) p := by
  obtain ⟨x, y, e⟩ := h
  exact ⟨x, y, by rw [upd_ne n]; exact e⟩
theorem Wel.ne {H : Hp} {p t : Addr} (h : Wel H p) (n : H t = none) : p ≠ t := by
  obtain ⟨x, y, e⟩ := h
  exact ne_of_none e n
theorem Wel.tk {p : Addr} {H H' : Hp} (h : Wel H p) (o : Off p H H') : Tk H H' := fun b xs e => by
  obtain ⟨x, y, q⟩ := h
  exact o b _ (ne_of e q (by intro z; cases z)) e
def spDrawW : Sp := fun vs H Q _ => ∃ (p : Addr) (m : Nat), vs = [.ref p, .int (m : Int)] ∧ Wel H p ∧ 0 < m ∧ m < 1000000 ∧ ∀ (v : Nat) H', v < m → Off p H H' → Wel H' p → Q (nV v) H'
/-- draws, one for each turn -/
theorem comp_draws {t : Nat} {te : TE} {σ0 : St} {H1 : Hp} {Q : VK} {D p : Addr} {lo : Int} {n m : Nat} (w : Wel H1 p) (hD : H1 D = none) (hn : n ≤ 900)
    (he : ∀ i H' Q', i < n → Wel H' p → (∀ (v : Nat) H'', v < m → Off p H' H'' → Wel H'' p → Q' (nV v) H'') → te (σ0.set t (some (.int (lo + i)))) H' Q')
    (q : ∀ (vs : List Nat) H', vs.length = n → (∀ v ∈ vs, v < m) → Off p H1 H' → Wel H' p → H' D = some (.lst (vs.map nV)) → Q (.ref D) H') : CompGo (Itr lo n) (gName t) tYes te σ0 H1 Q D := by
  have pD := w.ne hD
  refine comp_range (fun i ys H' => ∃ vs : List Nat, ys = vs.map nV ∧ vs.length = i ∧ (∀ v ∈ vs, v < m) ∧ Off p H1 H' ∧ Wel H' p) ⟨[], rfl, rfl, (fun v h => by cases h), Off.new hD, w.off pD⟩ ?_ ?_
  · rintro i ys H' hi ⟨vs, rfl, hl, hv, o1, w1⟩ hD'
    refine yes (he i H' _ hi w1 fun v H'' v1 o2 w2 => ?_)
    have hD2 := o2 D _ (Ne.symm pD) hD'
    refine cyes hi rset1 hD2 (by rw [List.length_map, hl]; exact small1000 (by omega)) ⟨vs ++ [v], by rw [List.map_append]; rfl, by rw [List.length_append, hl]; rfl, fun u hu => ?_, (o1.trans o2).fresh hD, w2.off pD⟩
    rcases List.mem_append.mp hu with h | h
    · exact hv u h
    · rw [List.mem_singleton.mp h]
      exact v1
  · rintro ys H' ⟨vs, rfl, hl, hv, o1, w1⟩ hD'
    exact q vs H' hl hv o1 w1 hD'
/-- texts in a list: at most n, short ones -/
def TL (n : Nat) (xs : List V) : Prop := ∃ ys : List Str, xs = ys.map V.str ∧ ys.length ≤ n ∧ ∀ y ∈ ys, y.length ≤ 100
theorem TL.cut {n : Nat} {xs : List V} (h : TL n xs) (lo hi : Option Int) : TL n (cutV xs lo hi) := by
  obtain ⟨ys, rfl, hl, hy⟩ := h
  unfold cutV
  refine ⟨_, by rw [← List.map_drop, ← List.map_take], ?_, fun y h => hy y (List.mem_of_mem_drop (List.mem_of_mem_take h))⟩
  rw [List.length_take, List.length_drop]
  omega
theorem TL.app {n m : Nat} {xs ys : List V} (h : TL n xs) (k : TL m ys) : TL (n + m) (xs ++ ys) := by
  obtain ⟨a, rfl, al, ah⟩ := h
  obtain ⟨b, rfl, bl, bh⟩ := k
  refine ⟨a ++ b, by rw [List.map_append], by rw [List.length_append]; omega, fun y h => ?_⟩
  rcases List.mem_append.mp h with h | h
  · exact ah y h
  · exact bh y h
theorem TL.mono {n m : Nat} {xs : List V} (h : TL n xs) (k : n ≤ m) : TL m xs := by
  obtain ⟨a, e, al, ah⟩ := h
  exact ⟨a, e, Nat.le_trans al k, ah⟩
theorem TL.len {n : Nat} {xs : List V} (h : TL n xs) : xs.length ≤ n := by
  obtain ⟨a, rfl, al, ah⟩ := h
  rw [List.length_map]
  exact al
theorem mul_len (x : Str) (n : Int) : (Txt.mul x n).length ≤ x.length * n.toNat := by
  unfold Txt.mul
  split
  · exact Nat.zero_le _
  · split
    · rename_i h1 h2
      simp at h2
      rcases h2 with h2 | h2
      · rw [h2]
        simp
      · rw [h2]
        simp
    · have aux : ∀ (k : Nat) (a acc : Array Nat), ((List.replicate k a).foldl (· ++ ·) acc).size = acc.size + k * a.size := by
        intro k a
        induction k with
        | zero => intro acc; simp
        | succ k ih =>
          intro acc
          rw [List.replicate_succ, List.foldl_cons, ih, Array.size_append, Nat.succ_mul]
          omega
      show ((List.replicate n.toNat x.cps).foldl (· ++ ·) #[]).size ≤ _
      rw [aux]
      simp
      rw [Nat.mul_comm]
      exact Nat.le_refl _
theorem cat_len (x y : Str) : (x ++ y).length = x.length + y.length := by
  show (x.cps ++ y.cps).size = _
  rw [Array.size_append]
  rfl
end L4

set_option linter.all false
namespace Tn
def at' (o : List Nat) (i : Nat) : Nat := o.getD i 0
theorem nodup_len : ∀ (m : Nat) (xs : List Nat), xs.Nodup → (∀ x ∈ xs, x < m) → xs.length ≤ m
  | 0, [], _, _ => Nat.le_refl _
  | 0, x :: xs, _, h => absurd (h x (List.mem_cons_self ..)) (Nat.not_lt_zero _)
  | m + 1, xs, nd, h => by
    have h1 := nodup_len m (xs.erase m) (nd.erase m) fun x hx => by
      obtain ⟨ne, hm⟩ := nd.mem_erase_iff.mp hx
      have := h x hm
      omega
    by_cases hm : m ∈ xs
    · rw [List.length_erase_of_mem hm] at h1
      omega
    · rw [List.erase_of_not_mem hm] at h1
      omega
structure Cs (m k : Nat) (cs : List Nat) : Prop where
  len : cs.length = m ^ k
  lt : ∀ x ∈ cs, x < m
theorem Cs.at_lt {m k : Nat} {cs : List Nat} (h : Cs m k cs) {p : Nat} (hp : p < m ^ k) : at' cs p < m := by
  unfold at'
  rw [List.getD_eq_getElem?_getD, List.getElem?_eq_getElem (by rw [h.len]; exact hp)]
  exact h.lt _ (List.getElem_mem _)
end Tn

set_option Elab.async false
set_option linter.all false
set_option maxRecDepth 100000
set_option maxHeartbeats 4000000
namespace L2
open PySem PySem.Spec PyProof.Rows
/-! zip(t, u) of two tuples -/
section
variable {prog : Program} {w : World} {A : Around} {E : Value → Shared → Prop} {s : Shared}
variable {z TI TO i1 i2 t1 t2 : Addr} {xs ys : Array Value} {k1 k2 : Nat}
end
end L2
namespace L2
open PySem PySem.Spec PyProof.Rows
section
variable {X : Cx}
end
end L2

set_option Elab.async false
set_option linter.all false
set_option maxRecDepth 100000
set_option maxHeartbeats 4000000
namespace L2
open PySem PySem.Spec PyProof.Rows
theorem eqVs_self {a : List V} (h : a.all flatV = true) : eqVs a a = true := by
  unfold eqVs
  rw [Bool.and_eq_true]
  refine ⟨?_, by simp⟩
  rw [List.all_eq_true]
  intro p hp
  have h1 := List.of_mem_zip hp
  have e : p.1 = p.2 := by
    obtain ⟨i, hi⟩ := List.getElem?_of_mem hp
    rw [List.getElem?_zip_eq_some] at hi
    exact Option.some.inj (hi.1.symm.trans hi.2)
  rw [← e]
  exact eqV_self (List.all_eq_true.mp h _ h1.1)
section
variable {X : Cx}
end
end L2

namespace Tn
theorem at_map {gs : List Nat} {i : Nat} (hi : i < gs.length) : gs[i]? = some (at' gs i) := by
  unfold at'
  rw [List.getD_eq_getElem?_getD, List.getElem?_eq_getElem hi]
  rfl
end Tn
namespace L2
open PySem PySem.Spec PyProof.Rows
section
variable {X : Cx}
end
/-- over a tuple of triples, the block's names being the three, and others behind them -/
theorem comp_tt3m {K : PySem.W.Frag} {a : Addr} {n : Nat} {xs : List V} {ad : Nat → Addr} {v1 v2 v3 : Nat → V} {tt : TT} {te : TE} {H1 : Hp} {Q : VK} {D : Addr} {more : St} (P : Nat → List V → Hp → Prop) (h0 : P 0 [] (upd H1 D (.lst []))) (hn : xs.length = n) (hx : ∀ i, i < n → xs[i]? = some (.ref (ad i)))
    (hl : ∀ i ys H, P i ys H → H D = some (.lst ys) → SqT K H a xs) (ht : ∀ i ys H, i < n → P i ys H → SqT K H (ad i) [v1 i, v2 i, v3 i])
    (hs : ∀ i ys H, i < n → P i ys H → H D = some (.lst ys) → tt (some (v1 i) :: some (v2 i) :: some (v3 i) :: more) H fun b H4 => if b = true then te (some (v1 i) :: some (v2 i) :: some (v3 i) :: more) H4 (cYes (fun σ => ∃ x y z, σ = x :: y :: z :: more) P n D (some (v1 i) :: some (v2 i) :: some (v3 i) :: more) i) else cNo (fun σ => ∃ x y z, σ = x :: y :: z :: more) P n D (some (v1 i) :: some (v2 i) :: some (v3 i) :: more) i H4)
    (hd : ∀ ys H, P n ys H → H D = some (.lst ys) → Q (.ref D) H) :
    CompGo (Itt K a) (gTup K 3 (gCons (gName 0) (gCons (gName 1) (gCons (gName 2) gNil)))) tt te (none :: none :: none :: more) H1 Q D := by
  refine comp_gen (xv := fun i => .ref (ad i)) (st := fun i => some (v1 i) :: some (v2 i) :: some (v3 i) :: more) (fun σ => ∃ x y z, σ = x :: y :: z :: more) P ⟨_, _, _, rfl⟩ h0 (fun i ys H hi p hD => ⟨⟨xs, _, hl i ys H p hD, hx i hi⟩, fun x H2 y => ⟨y.1, ?_⟩⟩) (fun ys H p hD => ⟨xs, hl _ ys H p hD, Nat.le_of_eq hn⟩)
    (fun i ys σ' H K' hi r p k => ?_) hs hd
  · have e := y.2 xs (hl i ys H p hD)
    rw [hx i hi] at e
    exact (Option.some.inj e).symm
  · obtain ⟨x, y, z, rfl⟩ := r
    exact ⟨ad i, _, rfl, ht i ys H hi p, rfl, _, _, rfl, _, _, rfl, _, _, rfl, rfl, k⟩
end L2

set_option Elab.async false
set_option linter.all false
set_option maxRecDepth 100000
set_option maxHeartbeats 4000000
namespace L2
open PySem PySem.Spec PyProof.Rows
/-! enumerate(a tuple) -/
section
variable {X : Cx}
end
end L2

set_option Elab.async false
set_option linter.all false
set_option maxRecDepth 100000
namespace L2
open PySem PySem.Spec PyProof.Rows
/-! ### lists of pairs as tables -/
section
variable {κ : Type} [DecidableEq κ]
def valV (kvs : List (κ × V)) (k : κ) : Option V := (kvs.find? fun kv => decide (kv.1 = k)).map (·.2)
/-- in its place, or at the end -/
def putK (kvs : List (κ × V)) (k : κ) (v : V) : List (κ × V) :=
  if (kvs.any fun kv => decide (kv.1 = k)) = true then kvs.map (fun kv => if kv.1 = k then (kv.1, v) else kv) else kvs ++ [(k, v)]
theorem valV_pos {p : κ × V} {r : List (κ × V)} {k : κ} (e : p.1 = k) : valV (p :: r) k = some p.2 := by simp [valV, List.find?_cons, e]
theorem valV_neg {p : κ × V} {r : List (κ × V)} {k : κ} (e : ¬ p.1 = k) : valV (p :: r) k = valV r k := by simp [valV, List.find?_cons, e]
theorem valV_any (k : κ) : ∀ kvs : List (κ × V), (kvs.any fun kv => decide (kv.1 = k)) = (valV kvs k).isSome
  | [] => rfl
  | p :: r => by
    rw [List.any_cons]
    by_cases e : p.1 = k
    · simp only [valV_pos e, decide_eq_true e, Bool.true_or, Option.isSome_some]
    · rw [valV_neg e, decide_eq_false e, Bool.false_or]; exact valV_any k r
theorem valV_map (k j : κ) (y : V) : ∀ kvs : List (κ × V), valV (kvs.map fun kv => if kv.1 = k then (kv.1, y) else kv) j = (valV kvs j).map fun x => if j = k then y else x
  | [] => rfl
  | p :: r => by
    have ih := valV_map k j y r
    rw [List.map_cons]
    by_cases h : p.1 = k
    · rw [if_pos h]
      by_cases e : p.1 = j
      · rw [valV_pos (p := (p.1, y)) e, valV_pos e, Option.map_some, if_pos (e.symm.trans h)]
      · rw [valV_neg (p := (p.1, y)) e, valV_neg e, ih]
    · rw [if_neg h]
      by_cases e : p.1 = j
      · rw [valV_pos (p := p) e, valV_pos e, Option.map_some, if_neg (fun z => h (e.trans z))]
      · rw [valV_neg (p := p) e, valV_neg e, ih]
theorem valV_snoc (k j : κ) (y : V) : ∀ kvs : List (κ × V), valV kvs k = none → valV (kvs ++ [(k, y)]) j = if j = k then some y else valV kvs j
  | [], _ => by
    by_cases e : k = j
    · rw [if_pos e.symm]; exact valV_pos (p := (k, y)) e
    · rw [if_neg (fun z => e z.symm)]; exact valV_neg (p := (k, y)) e
  | p :: r, hn => by
    rw [List.cons_append]
    have hk : ¬ p.1 = k := fun z => by rw [valV_pos z] at hn; cases hn
    rw [valV_neg hk] at hn
    have ih := valV_snoc k j y r hn
    by_cases e : p.1 = j
    · rw [valV_pos e, valV_pos e, if_neg (fun z => hk (e.trans z))]
    · rw [valV_neg e, valV_neg e, ih]
theorem valV_put (kvs : List (κ × V)) (k j : κ) (y : V) : valV (putK kvs k y) j = if j = k then some y else valV kvs j := by
  unfold putK
  by_cases a : (kvs.any fun kv => decide (kv.1 = k)) = true
  · rw [if_pos a, valV_map]
    rw [valV_any] at a
    by_cases e : j = k
    · obtain ⟨x, hx⟩ := Option.isSome_iff_exists.mp a
      rw [if_pos e, e, hx, Option.map_some, if_pos rfl]
    · rw [if_neg e]
      cases valV kvs j with
      | none => rfl
      | some x => rw [Option.map_some, if_neg e]
  · rw [if_neg a]
    refine valV_snoc k j y kvs ?_
    rw [valV_any] at a
    cases q : valV kvs k with
    | none => rfl
    | some x => rw [q] at a; exact (a rfl).elim
theorem length_putK (kvs : List (κ × V)) (k : κ) (v : V) : (putK kvs k v).length ≤ kvs.length + 1 := by
  unfold putK
  split
  · rw [List.length_map]; omega
  · rw [List.length_append, List.length_cons, List.length_nil]; omega
theorem putK_new {kvs : List (κ × V)} {k : κ} (v : V) (h : valV kvs k = none) : putK kvs k v = kvs ++ [(k, v)] := by
  unfold putK
  rw [valV_any, h]
  exact if_neg (by decide)

theorem RelO.isSome_eq {o : Option V} {u : Option Value} (r : RelO o u) : o.isSome = u.isSome := by
  cases o with
  | none => cases u with
    | none => rfl
    | some _ => exact (show False from r).elim
  | some _ => cases u with
    | none => exact (show False from r).elim
    | some _ => rfl
/-- raw tables of the same keys -/
theorem KV.val {kvs : List (κ × V)} {vs : List (κ × Value)} (r : KV kvs vs) (k : κ) : RelO (valV kvs k) (valueAt vs k) := by
  unfold KV at r
  induction r with
  | nil => exact True.intro
  | @cons p q ps qs h t ih =>
    obtain ⟨h1, h2⟩ := h
    by_cases e : p.1 = k
    · have e' : q.1 = k := h1.symm.trans e
      have b : valueAt (q :: qs) k = some q.2 := by simp [valueAt, List.find?_cons, e']
      rw [valV_pos e, b]; exact h2
    · have e' : ¬ q.1 = k := fun z => e (h1.trans z)
      have b : valueAt (q :: qs) k = valueAt qs k := by simp [valueAt, List.find?_cons, e']
      rw [valV_neg e, b]; exact ih
theorem KV.any {kvs : List (κ × V)} {vs : List (κ × Value)} (r : KV kvs vs) (k : κ) : (kvs.any fun kv => decide (kv.1 = k)) = vs.any fun kv => decide (kv.1 = k) := by
  unfold KV at r
  induction r with
  | nil => rfl
  | cons h t ih => rw [List.any_cons, List.any_cons, ih, h.1]
theorem KV.repl {kvs : List (κ × V)} {vs : List (κ × Value)} (r : KV kvs vs) (k : κ) {y : V} {u : Value} (ry : RelV y u) :
    KV (kvs.map fun kv => if kv.1 = k then (kv.1, y) else kv) (vs.map fun kv => if kv.1 = k then (kv.1, u) else kv) := by
  unfold KV at r ⊢
  induction r with
  | nil => exact .nil
  | @cons p q ps qs h t ih =>
    rw [List.map_cons, List.map_cons]
    refine .cons ?_ ih
    obtain ⟨h1, h2⟩ := h
    by_cases e : p.1 = k
    · rw [if_pos e, if_pos (h1.symm.trans e)]; exact ⟨h1, ry⟩
    · rw [if_neg e, if_neg (fun z => e (h1.trans z))]; exact ⟨h1, h2⟩
theorem KV.put {kvs : List (κ × V)} {vs : List (κ × Value)} (r : KV kvs vs) (k : κ) {y : V} {u : Value} (ry : RelV y u) : KV (putK kvs k y) (stored vs k u) := by
  unfold putK stored
  rw [r.any k]
  by_cases e : (vs.any fun kv => decide (kv.1 = k)) = true
  · rw [if_pos e, if_pos e]; exact r.repl k ry
  · rw [if_neg e, if_neg e]; exact Paired.snoc r ⟨rfl, ry⟩
theorem KV.length {kvs : List (κ × V)} {vs : List (κ × Value)} (r : KV kvs vs) : kvs.length = vs.length := Paired.length r
end


/-! ### a tracked dict, its keys ints and texts or tuples of these -/
theorem kV_is {P : Program} {w : World} {k : Key} {u : Value} (r : RelV (kV k) u) : (mixKind P w).is k u = true := by
  cases k with
  | inl i => obtain ⟨t, e⟩ := (show ∃ t, u = Value.int i t from r); subst e; exact mixKind_int P w i t
  | inr x => obtain ⟨t, e⟩ := (show ∃ t, u = Value.str x t from r); subst e; exact mixKind_str P w x t
theorem items_are {P : Program} {w : World} : ∀ {ks : List Key} {us : List Value}, Vals (ks.map kV) us → ItemsAre (mixKind P w) ks us
  | [], _, r => by rw [List.map_nil] at r; cases r; exact .nil
  | k :: ks, _, r => by
    rw [List.map_cons] at r
    cases r with
    | cons h t => exact .cons (kV_is h) (items_are t)

/-- raw entries of a dict with tuple keys -/
abbrev KT (H : Hp) : List (List Key × V) → List (List Key × Addr × Value) → Prop := Paired fun p q => p.1 = q.1 ∧ H q.2.1 = some (.tup (p.1.map kV)) ∧ RelV p.2 q.2.2
theorem KT.val {H : Hp} {kvs : List (List Key × V)} {xs : List (List Key × Addr × Value)} (r : KT H kvs xs) (k : List Key) : RelO (valV kvs k) ((atKey xs k).map (·.2)) := by
  induction r with
  | nil => exact True.intro
  | @cons p q ps qs h t ih =>
    obtain ⟨h1, _, h2⟩ := h
    by_cases e : p.1 = k
    · have e' : q.1 = k := h1.symm.trans e
      have b : atKey (q :: qs) k = some q.2 := by simp [atKey, List.find?_cons, e']
      rw [valV_pos e, b]; exact h2
    · have e' : ¬ q.1 = k := fun z => e (h1.trans z)
      have b : atKey (q :: qs) k = atKey qs k := by simp [atKey, List.find?_cons, e']
      rw [valV_neg e, b]; exact ih
theorem KT.repl {H : Hp} {kvs : List (List Key × V)} {xs : List (List Key × Addr × Value)} (r : KT H kvs xs) (k : List Key) {y : V} {u : Value} (ry : RelV y u) :
    KT H (kvs.map fun kv => if kv.1 = k then (kv.1, y) else kv) (xs.map (putAt k u)) := by
  induction r with
  | nil => exact .nil
  | @cons p q ps qs h t ih =>
    rw [List.map_cons, List.map_cons]
    refine .cons ?_ ih
    obtain ⟨h1, h2, h3⟩ := h
    unfold putAt
    by_cases e : p.1 = k
    · rw [if_pos e, if_pos (h1.symm.trans e)]; exact ⟨h1, h2, ry⟩
    · rw [if_neg e, if_neg (fun z => e (h1.trans z))]; exact ⟨h1, h2, h3⟩
theorem KT.put {H : Hp} {kvs : List (List Key × V)} {xs : List (List Key × Addr × Value)} (r : KT H kvs xs) (k : List Key) {b : Addr} {y : V} {u : Value} (hb : H b = some (.tup (k.map kV))) (ry : RelV y u) :
    KT H (putK kvs k y) (storedH xs k b u) := by
  have e : (kvs.any fun kv => decide (kv.1 = k)) = (atKey xs k).isSome := by
    rw [valV_any, (r.val k).isSome_eq, Option.isSome_map]
  unfold putK storedH
  rw [e]
  by_cases q : (atKey xs k).isSome = true
  · rw [if_pos q, if_pos q]; exact r.repl k ry
  · rw [if_neg q, if_neg q]; exact Paired.snoc r ⟨rfl, hb, ry⟩
theorem KT.keeps {H H' : Hp} {kvs : List (List Key × V)} {xs : List (List Key × Addr × Value)} (r : KT H kvs xs) (ht : ∀ b ys, H b = some (.tup ys) → H' b = some (.tup ys)) : KT H' kvs xs :=
  Paired.mapP r fun _ _ z => ⟨z.1, ht _ _ z.2.1, z.2.2⟩

section
variable {P : Program} {w : World} {H : Hp} {h : Heap} {a : Addr}
theorem rd_of {u : HO} (ok : HOk P w H h) (e : Rd H a u) : ObjOk P w H h a u := e.ok ok
theorem dk_rd {kvs : List (Key × V)} (ok : HOk P w H h) (e : Rd H a (.dK kvs)) : kvs.length ≤ sizeLine ∧ (a == sysModules) = false ∧ ∃ vs, KV kvs vs ∧ h.DictOf (mixKind P w) a vs :=
  show ObjOk P w H h a (.dK kvs) from rd_of ok e
theorem dk_of {kvs : List (Key × V)} (ok : HOk P w H h) (e : H a = some (.dK kvs)) : kvs.length ≤ sizeLine ∧ (a == sysModules) = false ∧ ∃ vs, KV kvs vs ∧ h.DictOf (mixKind P w) a vs := dk_rd ok (.inl e)
/-- a tracked tuple of ints and texts is a key -/
theorem key_of {ks : List Key} (ok : HOk P w H h) (e : H a = some (.tup (ks.map kV))) : (tupleKind (mixKind P w)).is h ks a := by
  obtain ⟨_, its, r, o, h1, h2, ⟨n, h3⟩, _⟩ := (show ObjOk P w H h a (.tup (ks.map kV)) from ok a _ e)
  exact ⟨o, its.toArray, n, h1, h2, h3, by simpa using items_are r⟩
theorem dt_rd {kvs : List (List Key × V)} (ok : HOk P w H h) (e : Rd H a (.dT kvs)) : kvs.length ≤ sizeLine ∧ (a == sysModules) = false ∧
    ∃ xs, KT H kvs xs ∧ h.DictOfH (tupleKind (mixKind P w)) a xs := by
  obtain ⟨z, y, xs, r, o, es, ep, h1, h2, h3, h4, h5⟩ := (show ObjOk P w H h a (.dT kvs) from rd_of ok e)
  refine ⟨z, y, xs, r, o, es, ep, h1, h2, h3, h4, fun x hx => ?_, h5⟩
  have all : ∀ {l : List (List Key × V)} {m : List (List Key × Addr × Value)}, KT H l m → ∀ x ∈ m, (tupleKind (mixKind P w)).is h x.1 x.2.1 := by
    intro l m q
    induction q with
    | nil => intro x hx; exact nomatch hx
    | @cons p q ps qs hq t ih =>
      intro x hx
      rcases List.mem_cons.mp hx with e | hx
      · subst e
        exact key_of ok (by rw [← hq.1]; exact hq.2.1)
      · exact ih x hx
  exact all r x hx
theorem dt_of {kvs : List (List Key × V)} (ok : HOk P w H h) (e : H a = some (.dT kvs)) : kvs.length ≤ sizeLine ∧ (a == sysModules) = false ∧
    ∃ xs, KT H kvs xs ∧ h.DictOfH (tupleKind (mixKind P w)) a xs := dt_rd ok (.inl e)
end

/-- what the dict at a holds at the key y -/
def DGet (H : Hp) (a : Addr) (y : V) (r : Option V) : Prop :=
  (∃ kvs k, Rd H a (.dK kvs) ∧ y = kV k ∧ r = valV kvs k) ∨ ∃ kvs k b, Rd H a (.dT kvs) ∧ y = .ref b ∧ H b = some (.tup (k.map kV)) ∧ r = valV kvs k
/-- the heap behind a[y] = v -/
def DPut (H : Hp) (a : Addr) (y v : V) (H' : Hp) : Prop :=
  (∃ kvs k, H a = some (.dK kvs) ∧ y = kV k ∧ kvs.length < sizeLine ∧ H' = upd H a (.dK (putK kvs k v))) ∨
  ∃ kvs k b, H a = some (.dT kvs) ∧ y = .ref b ∧ H b = some (.tup (k.map kV)) ∧ kvs.length < sizeLine ∧ H' = upd H a (.dT (putK kvs k v))
theorem DGet.t {H : Hp} {a b : Addr} {kvs : List (List Key × V)} {k : List Key} (e : H a = some (.dT kvs)) (eb : H b = some (.tup (k.map kV))) : DGet H a (.ref b) (valV kvs k) := .inr ⟨kvs, k, b, .inl e, rfl, eb, rfl⟩
theorem DPut.t {H : Hp} {a b : Addr} {kvs : List (List Key × V)} {k : List Key} {v : V} (e : H a = some (.dT kvs)) (eb : H b = some (.tup (k.map kV))) (hl : kvs.length < sizeLine) :
    DPut H a (.ref b) v (upd H a (.dT (putK kvs k v))) := .inr ⟨kvs, k, b, e, rfl, eb, hl, rfl⟩


section
variable {X : Cx} {pins : List (Addr × Obj)} {σ : St} {H : Hp} {s : Shared} {a : Addr} {y v : V} {u r : Value} {o : Option V} {A : Around} {E : Value → Shared → Prop}

theorem Inv.big (I : Inv X pins σ H s) : sysModules < s.heap.objs.size := by
  have h : mainGlobals < s.heap.objs.size := (I.mod.glob.keeps I.bk).lt
  exact Nat.lt_trans (by decide) h

/-- d[y], there -/
theorem d_getItem {Q : Value → Shared → Prop} (hu : A.units + 1 < cLine) (I : Inv X pins σ H s) (g : DGet H a y (some v)) (ry : RelV y u) (h : ∀ w' s', Inv X pins σ H s' → RelV v w' → Q w' s') :
    wpAny (model X.prog X.w) A (getItem (.ref a) u) Q E s := by
  rcases g with ⟨kvs, k, e, ey, l⟩ | ⟨kvs, k, b, e, ey, eb, l⟩
  · subst ey
    obtain ⟨z, hd, vs, rel, dd⟩ := dk_rd I.hok e
    obtain ⟨w', hw, rw'⟩ := RelO.some_of (v := v) (o := valueAt vs k) (by rw [l]; exact rel.val k)
    exact wpAny_getItem_of (kV_is ry) dd.mapOf hw (h w' _ (I.tok _) rw')
  · subst ey
    cases (show u = Value.ref b from ry)
    obtain ⟨z, hd, xs, rel, dd⟩ := dt_rd I.hok e
    obtain ⟨w', hw, rw'⟩ := RelO.some_of (v := v) (o := (atKey xs k).map (·.2)) (by rw [l]; exact rel.val k)
    obtain ⟨p, hp, hp2⟩ := Option.map_eq_some_iff.mp hw
    refine wpAny_getItem_heap (tupleKind_room_in1 hu) (key_of I.hok eb) dd hp ?_
    rw [hp2]
    exact h w' _ (I.tok _) rw'
theorem d_notIn {Q : Value → Shared → Prop} (hu : A.units + 1 < cLine) (I : Inv X pins σ H s) (g : DGet H a y o) (ry : RelV y u) (h : ∀ s', Inv X pins σ H s' → Q (.bool (!o.isSome)) s') :
    wpAny (model X.prog X.w) A (compareOp .NotIn u (.ref a)) Q E s := by
  rcases g with ⟨kvs, k, e, ey, l⟩ | ⟨kvs, k, b, e, ey, eb, l⟩
  · subst ey
    obtain ⟨z, hd, vs, rel, dd⟩ := dk_rd I.hok e
    refine wpAny_notIn_of (kV_is ry) hd dd.mapOf ?_
    rw [← (rel.val k).isSome_eq, ← l]
    exact h _ (I.tok _)
  · subst ey
    cases (show u = Value.ref b from ry)
    obtain ⟨z, hd, xs, rel, dd⟩ := dt_rd I.hok e
    refine wpAny_notIn_heap (tupleKind_room_in1 hu) (key_of I.hok eb) hd dd ?_
    have q := (rel.val k).isSome_eq
    rw [Option.isSome_map] at q
    rw [← q, ← l]
    exact h _ (I.tok _)
/-- a dict's object is replaced -/
theorem d_write {h' : Heap} {t' : Nat} {ob : HO} (I : Inv X pins σ H s) (mu : Mut (H a)) (hs : Heap.SameBut a s.heap h') (he : ∃ q, h'.get? a = some q) (new : ObjOk X.prog X.w (upd H a ob) h' a ob) :
    Inv X pins σ (upd H a ob) { s with heap := h', toks := t' } :=
  I.write (x := a) (e := a) mu (.inl rfl) (fun b q hb z => (hs.2 b hb).trans z) he new
theorem dk_new {P : Program} {w : World} {H' : Hp} {h' : Heap} {kvs : List (Key × V)} {vs : List (Key × Value)} (z : kvs.length ≤ sizeLine) (hd : (a == sysModules) = false) (rel : KV kvs vs) (dd : h'.DictOf (mixKind P w) a vs) :
    ObjOk P w H' h' a (.dK kvs) := ⟨z, hd, vs, rel, dd⟩
/-- d[y] = v -/
theorem d_setItem {H' : Hp} {Q : Unit → Shared → Prop} (hu : A.units + 1 < cLine) (I : Inv X pins σ H s) (g : DPut H a y v H') (ry : RelV y u) (rv : RelV v r) (h : ∀ s', Inv X pins σ H' s' → Q () s') :
    wpAny (model X.prog X.w) A (setItem (.ref a) u r) Q E s := by
  rcases g with ⟨kvs, k, e, ey, l, eH⟩ | ⟨kvs, k, b, e, ey, eb, l, eH⟩
  · subst ey eH
    obtain ⟨z, hd, vs, rel, dd⟩ := dk_of I.hok e
    have hz : vs.length ≤ sizeLine := by rw [← rel.length]; exact z
    have hl : (putK kvs k v).length ≤ sizeLine := by have := length_putK kvs k v; omega
    refine wpAny_setItem_pairs (hsz := hz) (kV_is ry) dd fun h' dd' hs => h _ ?_
    have he : ∃ q, h'.get? a = some q := let ⟨q, _, _, hq, _⟩ := dd'; ⟨q, hq⟩
    exact d_write I (by rw [e]; exact True.intro) hs he (dk_new hl hd (rel.put k rv) dd')
  · subst ey eH
    cases (show u = Value.ref b from ry)
    obtain ⟨z, hd, xs, rel, dd⟩ := dt_of I.hok e
    have hz : xs.length ≤ sizeLine := by rw [← Paired.length rel]; exact z
    have hl : (putK kvs k v).length ≤ sizeLine := by have := length_putK kvs k v; omega
    refine wpAny_setItem_heap (hsz := hz) (tupleKind_room_in1 hu) (key_of I.hok eb) dd fun h' dd' hs => h _ ?_
    obtain ⟨q, es, ep, hq, h2, h3, h4, _, h5⟩ := dd'
    refine d_write I (by rw [e]; exact True.intro) hs ⟨q, hq⟩ ⟨hl, hd, _, (rel.put k eb rv).keeps fun c ys ec => ?_, q, es, ep, hq, h2, h3, h4, h5⟩
    rw [upd_ne (ne_of ec e (fun z => nomatch z))]
    exact ec
end

section
variable {X : Cx} {pins : List (Addr × Obj)} {σ : St} {H : Hp} {s : Shared} {a : Addr} {kvs : List (Key × V)} {k : Key} {u : Value} {A : Around} {E : Value → Shared → Prop}
end


/-! ### readings and rules -/
/-- the element of a subscription, not a slice -/
def NoSl (i : Expr) : Prop := ∀ ov iv, subscripted i false ov iv = operate [ov, iv] (getItem ov iv)
theorem subD_of {prog : Program} {w : World} {A : Around} {E : Value → Shared → Prop} {s : Shared} {env : Env} {value slice : Expr} {pos : Pos} {T id : String} {Q : Value → Shared → Prop}
    (hl : typeLookup (.type T) "__getitem__" = pure (some (.builtin id))) (hs : NoSl slice)
    (h : wpAny (model prog w) A (eval value env) (fun o s₁ => wpAny (model prog w) A (eval slice env) (fun i s₂ => s₂.TypeIs o T ∧ wpAny (model prog w) A (getItem o i) Q E s₂) E s₁) E s) :
    wpAny (model prog w) A (eval (.Subscript value slice pos) env) Q E s := by
  refine Subscript_ (wpAny_mono h (fun o s₁ h₁ => wpAny_mono h₁ (fun i s₂ h₂ => ?_) fun _ _ x => x) fun _ _ x => x)
  obtain ⟨hT, h₂⟩ := h₂
  unfold subscriptTail
  refine wpAny_bind ?_
  rw [getitemInPython_of_ne hT.not_modules]
  refine wpAny_bind (wpAny_specialOf hT hl ?_)
  have fin : wpAny (model prog w) A (subscripted slice false o i) (fun r s₃ => wpAny (model prog w) A (letTemporaryGo value o r >>= fun _ => pure r) Q E s₃) E s₂ := by
    rw [hs o i]
    exact wpAny_operating (wpAny_mono h₂ (fun r s₃ h₃ => wpAny_bind (wpAny_letTemporaryGo (wpAny_pure h₃))) fun _ _ x => x)
  first
    | exact wpAny_pure (wpAny_bind fin)
    | exact wpAny_bind (wpAny_pure (wpAny_bind fin))
    | exact wpAny_bind fin

theorem dict_typeIs {X : Cx} {pins : List (Addr × Obj)} {σ : St} {H : Hp} {s : Shared} {a : Addr} {y : V} {o : Option V} (I : Inv X pins σ H s) (g : DGet H a y o) : s.TypeIs (.ref a) "dict" := by
  rcases g with ⟨kvs, k, e, _, _⟩ | ⟨kvs, k, b, e, _, _, _⟩
  · obtain ⟨_, _, vs, _, dd⟩ := dk_rd I.hok e
    exact dd.typeIs
  · obtain ⟨_, _, xs, _, dd⟩ := dt_rd I.hok e
    exact dd.typeIs
/-- d[y] -/
def tDGet (td ty : TE) : TE := fun σ H Q => td σ H fun x H1 => ty σ H1 fun y H2 => ∃ a v, x = .ref a ∧ DGet H2 a y (some v) ∧ Q v H2
/-- d[y] = v -/
def sDPut (td ty tv : TE) : TS := fun D σ H => tv σ H fun v H1 => td σ H1 fun x H2 => ty σ H2 fun y H3 => ∃ a H4, x = .ref a ∧ DPut H3 a y v H4 ∧ D.nx σ H4
section
variable {X : Cx} {o i e value : Expr} {pos pos' tpos : Pos} {td ty tv : TE}
theorem pe_dget (hu : X.A.units + 1 < cLine) (ho : PE X o td) (hi : PE X i ty) (hs : NoSl i) : PE X (.Subscript o i pos) (tDGet td ty) := by
  intro pins s σ H Q I h
  refine subD_of PySem.F.slot_dict_getitem.lookup hs (thn (ho pins s σ H _ I h) fun u s1 ⟨x, H1, I1, rx, q1⟩ => thn (hi pins s1 σ H1 _ I1 q1) fun iv s2 ⟨y, H2, I2, ry, a, v, ex, g, q2⟩ => ?_)
  subst ex
  obtain rfl : u = Value.ref a := rx
  exact ⟨dict_typeIs I2 g, d_getItem hu I2 g ry fun w' s3 I3 rw' => ⟨v, H2, I3, rw', q2⟩⟩
theorem ps_dput (hu : X.A.units + 1 < cLine) (ho : PE X o td) (hi : PE X i ty) (hv : PE X value tv) (hs : swapsWith value (some (.Subscript o i pos')) pos.line X.env = pure false) :
    PS X (.Assign [.Subscript o i pos'] value pos) (sDPut td ty tv) := by
  intro pins s σ H D I h
  refine wpAny_Assign_Subscript (thn (hv pins s σ H _ I h) fun r s1 ⟨v, H1, I1, rv, q1⟩ => thn (ho pins s1 σ H1 _ I1 q1) fun u s2 ⟨x, H2, I2, rx, q2⟩ => thn (hi pins s2 σ H2 _ I2 q2) fun iv s3 ⟨y, H3, I3, ry, a, H4, ex, g, q3⟩ => ?_) hs
  subst ex
  obtain rfl : u = Value.ref a := rx
  exact d_setItem hu I3 g ry rv fun s4 I4 => ⟨σ, H4, I4, q3⟩
end


/-! ### displays -/
theorem dt_empty {P : Program} {w : World} {H : Hp} (h : Heap) (hb : sysModules < h.objs.size) : ObjOk P w H (h.push { cls := .type "dict", data := .dict #[] }) h.objs.size (.dT []) :=
  ⟨Nat.zero_le _, beq_eq_false_iff_ne.mpr (Ne.symm (Nat.ne_of_lt hb)), [], .nil, _, #[], 0, Heap.get?_push_size _ rfl, ⟨rfl, rfl, rfl⟩, rfl, rfl, List.nodup_nil⟩
def tDNewT : TE := fun _ H Q => ∀ p, H p = none → Q (.ref p) (upd H p (.dT []))
section
variable {X : Cx} {pos : Pos}
theorem pe_dnewT : PE X (.Dict [] [] pos) tDNewT := fun pins s σ H Q I h =>
  wpAny_Dict_empty ⟨.ref s.heap.objs.size, _, I.laid (a := s.heap.objs.size) (o := .dT []) (t' := s.toks) (fun _ _ q => Heap.get?_push_of_some _ q) (Nat.le_refl _) (dt_empty s.heap I.big), rfl, h _ (I.hok.fresh (Nat.le_refl _))⟩
end

/-! ### methods -/
section
variable {X : Cx} {pins : List (Addr × Obj)} {σ : St} {H : Hp} {s : Shared} {a : Addr} {y d : V} {u r : Value} {o : Option V} {A : Around} {E : Value → Shared → Prop}
end

section
end

/-! ### dict(d): a copy -/
section
variable {X : Cx} {pins : List (Addr × Obj)} {σ : St} {H : Hp} {s : Shared} {a : Addr} {kvs : List (Key × V)} {A : Around} {E : Value → Shared → Prop}
end


section
variable {X : Cx} {pins : List (Addr × Obj)} {σ : St} {H : Hp} {s : Shared} {a : Addr} {y : V} {u : Value} {A : Around} {E : Value → Shared → Prop}
end
end L2

set_option Elab.async false
set_option linter.all false
set_option maxRecDepth 100000
set_option maxHeartbeats 4000000
namespace L2
open PySem PySem.Spec PyProof.Rows
/-! dict(a list of pairs) -/
theorem no_keys : typeLookup (.type "list") "keys" = pure none := am_miss_of_fast (by decide +kernel)
theorem plain_upd_loop : plainId "dict.update.loop" = true := by decide +kernel
theorem entry_upd_loop : entryFor table "dict.update.loop" = some Builtin.«dict.update.loop» := entryFor_of_fast (by kernel_rfl)
theorem sub_attr_err : isSubtype (.type "AttributeError") (.type "AttributeError") = pure true := by rw [isSubtype_type]; kernel_rfl
theorem keys_by {prog : Program} {w : World} {A : Around} {E : Value → Shared → Prop} {s : Shared} {a : Addr} {o : Obj} {xs : Array Value} {k : Nat} {t : Tok} {Q : Value → Shared → Prop}
    (hx : s.heap.get? a = some o) (hc : o.cls = .type "list") (hdat : o.data = .seq xs k) (hd : o.dict = none) (hA : A.handled = none)
    (h : ∀ h' tk e, Heap.NewExcOf s.heap h' e "AttributeError" → E (.ref e) { s with heap := h', toks := tk }) :
    wpAny (model prog w) A (getAttrBy (.ref a) (.str "keys" t) false) Q E s := by
  obtain ⟨c, dct, dat, sl⟩ := o
  simp only at hc hdat hd
  subst hc hdat hd
  obtain ⟨hp, g, d, tk, os⟩ := s
  have hT : ∀ tk', (⟨hp, g, d, tk', os⟩ : Shared).TypeIs (.ref a) "list" := fun _ => ⟨_, hx, rfl⟩
  have f1 := sub_attr_err
  have f3 := PySem.F.slot_list_getattribute.lookup
  have f4 := PySem.F.slot_list_getattribute.bind (.ref a)
  have f5 := am_list_getattr_none
  unfold getAttrBy
  repeat (any_goals (first | assumption | exact hT _ | ((with_reducible show wpAny _ _ (call (Value.builtin "list.__getattribute__") _ _) _ _ _); refine call_meets PySem.F.slot_list_getattribute (hT _) am_entry_list_getattribute (PySem.F.args_list_getattribute_2 _ _) (meets_getattribute_miss_list a xs k sl "keys" _ no_keys (by decide) (by decide)) ⟨hx, hA, fun h' tk' e hx' => ?_⟩) | wp_step))
  obtain ⟨t', u', he⟩ := hx'.there
  show wpAny _ _ (getattributeRaised _ _ _ _ _ _ _) _ _ _
  unfold getattributeRaised
  repeat (any_goals (first | assumption | wp_step))
  exact h _ _ _ hx'.of
theorem keys_miss {prog : Program} {w : World} {A : Around} {E : Value → Shared → Prop} {s : Shared} {a : Addr} {o : Obj} {xs : Array Value} {k : Nat} {Q : Option Value → Shared → Prop}
    (hx : s.heap.get? a = some o) (hc : o.cls = .type "list") (hdat : o.data = .seq xs k) (hd : o.dict = none) (hA : A.handled = none)
    (h : ∀ h' tk, (∀ b ob, s.heap.get? b = some ob → h'.get? b = some ob) → Q none { s with heap := h', toks := tk }) :
    wpAny (model prog w) A (getAttr? (.ref a) "keys") Q E s := by
  unfold getAttr? getAttrBy?
  refine wpAny_bind (wpAny_mkText (wpAny_bind (wpAny_attempt (keys_by (s := { s with toks := s.toks + 1 }) hx hc hdat hd hA fun h' tk e ne => ?_))))
  obtain ⟨kp, nw, ob, vs, he, h1, h2⟩ := ne
  refine wpAny_bind (wpAny_isInstance (T := "AttributeError") (b := true) ⟨ob, he, h1⟩ sub_attr_err ?_)
  exact wpAny_pure (h h' tk kp)
section
variable {prog : Program} {w : World} {A : Around} {R : Result → Shared → Prop}
end
theorem bt_dict : bootBuiltins "dict" = some (.type "dict") := by decide +kernel
section
variable {X : Cx}
end
end L2

set_option Elab.async false
set_option linter.all false
set_option maxRecDepth 100000
set_option maxHeartbeats 4000000
namespace L2
open PySem PySem.Spec PyProof.Rows L4
end L2

set_option Elab.async false
set_option linter.all false
set_option maxRecDepth 100000
set_option maxHeartbeats 4000000
namespace L2
open PySem PySem.Spec PyProof.Rows
section
variable {prog : Program} {w : World} {K : Type} [DecidableEq K] {knd : KeyKind prog w K} {A : Around} {E : Value → Shared → Prop} {s : Shared}
end
section
variable {X : Cx}
end
end L2

set_option Elab.async false
set_option linter.all false
set_option maxRecDepth 100000
set_option maxHeartbeats 4000000
namespace L2
open PySem PySem.Spec PyProof.Rows
/-! list(reversed(a tuple)) -/
section
variable {prog : Program} {w : World} {A : Around} {E : Value → Shared → Prop} {s : Shared}
end
section
variable {prog : Program} {w : World} {A : Around} {s : Shared}
end
end L2

set_option Elab.async false
set_option linter.all false
set_option maxRecDepth 100000
set_option maxHeartbeats 4000000
namespace L2
open PySem PySem.Spec PyProof.Rows
section
variable {X : Cx}
/-- a tuple in a tuple of tuples, all of one length -/
def TupsK (K : PySem.W.Frag) (H : Hp) (n : Nat) : List (List V) → List V → Prop := Paired fun c v => ∃ t, v = .ref t ∧ SqT K H t c ∧ c.length = n ∧ c.all flatV = true
open Classical in
noncomputable def isIn (K : PySem.W.Frag) (H : Hp) (xs : List V) (w : Value) : Bool := decide (∃ t c, w = .ref t ∧ SqT K H t c ∧ eqVs c xs = true)
end
end L2

set_option Elab.async false
set_option linter.all false
set_option maxRecDepth 100000
set_option maxHeartbeats 4000000
namespace L2
open PySem PySem.Spec PyProof.Rows
section
variable {X : Cx}
/-- l != [] -/
def rNeNil (K : PySem.W.Frag) : R2 := fun x y H Q => ∃ p q xs, x = .ref p ∧ y = .ref q ∧ SqL K H p xs ∧ SqL K H q [] ∧ Q (.bl (!xs.isEmpty)) H
theorem op_neNil (K : PySem.W.Frag) {k : Nat} (hr : Room k X.A) (hK : X.K = K := by rfl) : OpR X (compareOp .NotEq) (rNeNil K) := by
  subst hK
  intro pins s σ H x y v u Q I rx ry h
  obtain ⟨p, q, xs, rfl, rfl, h1, h2, hq⟩ := h
  cases rx
  cases ry
  obtain ⟨us, r1, pl1, _⟩ := I.list h1
  obtain ⟨vs, r2, pl2, _⟩ := I.list h2
  have hu : X.A.units < cLine := Nat.lt_of_succ_lt (hu_of hr)
  cases r2
  cases xs with
  | nil =>
    cases r1
    exact SeqAt.RcNeAt.lists (e := fun _ => true) pl1.isList pl2.isList rfl hu (fun j h _ => absurd h (Nat.not_lt_zero _)) X.prog X.w _ _ ⟨.bl _, H, I, rfl, hq⟩
  | cons x xs =>
    have l1 := r1.length
    exact SeqAt.RcNeAt.lists_lengths pl1.isList pl2.isList (by simp at l1 ⊢; intro z; rw [z] at l1; cases l1) hu X.prog X.w _ _ ⟨.bl _, H, I, rfl, hq⟩
end
end L2
namespace L4
open PySem L2
end L4

set_option Elab.async false
set_option linter.all false
set_option maxRecDepth 100000
set_option maxHeartbeats 4000000
namespace L2
open PySem PySem.Spec PyProof.Rows
/-! dict(a list of pairs), the keys tuples -/
section
variable {prog : Program} {w : World} {A : Around} {R : Result → Shared → Prop}
abbrev TK (prog : Program) (w : World) : HeapKind prog w (List Key) := tupleKind (mixKind prog w)
theorem keyH_keep {h h' : Heap} {ks : List Key} {a b0 : Addr} (x : (TK prog w).is h ks a) (hs : ∀ b o, b ≠ b0 → h.get? b = some o → h'.get? b = some o) (hn : ∀ o, h.get? b0 = some o → o.cls ≠ .type "tuple") : (TK prog w).is h' ks a := by
  obtain ⟨o, items, n, e, c, r⟩ := x
  exact ⟨o, items, n, hs a o (fun z => by subst z; exact hn o e c) e, c, r⟩
theorem dictH_keep {h h' : Heap} {d b0 : Addr} {xs : List (List Key × Addr × Value)} (m : h.DictOfH (TK prog w) d xs) (hd : d ≠ b0) (hs : ∀ b o, b ≠ b0 → h.get? b = some o → h'.get? b = some o) (hn : ∀ o, h.get? b0 = some o → o.cls ≠ .type "tuple") : h'.DictOfH (TK prog w) d xs := by
  obtain ⟨o, es, ep, ho, hc, hd', he, his, hn'⟩ := m
  exact ⟨o, es, ep, hs d o hd ho, hc, hd', he, fun x hx => keyH_keep (his x hx) hs hn, hn'⟩
def PairAtH (prog : Program) (w : World) (h : Heap) (v : Value) (p : List Key × Addr × Value) : Prop := ∃ b, v = .ref b ∧ h.IsTuple b #[.ref p.2.1, p.2.2] ∧ (TK prog w).is h p.1 p.2.1
theorem PairAtH.keep {h h' : Heap} {v : Value} {p : List Key × Addr × Value} {b0 : Addr} (x : PairAtH prog w h v p) (hs : ∀ b o, b ≠ b0 → h.get? b = some o → h'.get? b = some o) (hn : ∀ o, h.get? b0 = some o → o.cls ≠ .type "tuple") : PairAtH prog w h' v p := by
  obtain ⟨b, rfl, ⟨o, e, c, r⟩, hk⟩ := x
  exact ⟨b, rfl, ⟨o, hs b o (fun z => by subst z; exact hn o e c) e, c, r⟩, keyH_keep hk hs hn⟩
def stAll (acc ps : List (List Key × Addr × Value)) : List (List Key × Addr × Value) := ps.foldl (fun acc p => storedH acc p.1 p.2.1 p.2.2) acc
theorem storedH_len (acc : List (List Key × Addr × Value)) (k : List Key) (a : Addr) (v : Value) : (storedH acc k a v).length ≤ acc.length + 1 := by
  unfold storedH
  split
  · rw [List.length_map]; omega
  · rw [List.length_append]; simp
theorem upd_loopH (hh : A.handled = none) (hu : A.units + 1 < cLine) (D L it : Addr) (items : Array Value) (hDL : D ≠ L) (hDi : D ≠ it) (hLi : L ≠ it) (ps : List (List Key × Addr × Value)) (hlen : ps.length = items.size) (hsz : ps.length ≤ sizeLine) :
    ∀ (n i : Nat) (s : Shared) (acc : List (List Key × Addr × Value)), n + i = items.size → acc.length ≤ i → s.heap.IsListIter it L i → s.heap.IsList L items → s.heap.DictOfH (TK prog w) D acc →
    (∀ (j : Nat) (p : List Key × Addr × Value) (v : Value), ps[j]? = some p → items[j]? = some v → PairAtH prog w s.heap v p) →
    (∀ h' tk, h'.DictOfH (TK prog w) D (stAll acc (ps.drop i)) → (∀ b o, b ≠ D → b ≠ it → s.heap.get? b = some o → h'.get? b = some o) → R (.ok (.ret .none)) { s with heap := h', toks := tk }) →
    codeAny (model prog w) A (.builtin "dict.update.loop" ⟨[.ref D, .ref it, rawInt i, .none], []⟩) R s := by
  intro n
  induction n with
  | zero =>
    intro i s acc hn hacc hit hl hd hp hR
    obtain ⟨oi, hoi, hci, _⟩ := id hit
    refine codeAny_builtin entry_upd_loop ?_
    rw [Around.under_plainId plain_upd_loop _]
    show wpAny _ A.in1 (pyNext (.ref it) >>= _) _ _ s
    refine wpAny_bind (wpAny_pyNext_list_end (show A.in1.handled = none from hh) hit hl (by simp; omega) fun h' eb => ?_)
    show wpAny _ _ (Builtin.Dict.addKeywords D [] >>= _) _ _ _
    refine wpAny_bind (wpAny_pure (wpAny_pure (hR h' s.toks ?_ fun b o _ h2 e => eb b o h2 e)))
    rw [List.drop_eq_nil_of_le (by omega)]
    exact dictH_keep hd hDi (fun b o hb e => eb b o hb e) fun o e => by rw [hoi] at e; cases e; rw [hci]; decide
  | succ n ih =>
    intro i s acc hn hacc hit hl hd hp hR
    have hi : i < items.size := by omega
    obtain ⟨v, hv⟩ : ∃ v, items[i]? = some v := ⟨items[i], by simp [hi]⟩
    obtain ⟨p, hpi⟩ : ∃ p, ps[i]? = some p := ⟨ps[i]'(by omega), by rw [List.getElem?_eq_getElem (by omega)]⟩
    refine codeAny_builtin entry_upd_loop ?_
    rw [Around.under_plainId plain_upd_loop _]
    show wpAny _ A.in1 (pyNext (.ref it) >>= _) _ _ s
    refine wpAny_bind (wpAny_pyNext_list_item hit hl hv fun h1 hit1 hs1 => ?_)
    obtain ⟨oi, hoi, hci, _⟩ := hit
    have nti : ∀ o, s.heap.get? it = some o → o.cls ≠ .type "tuple" := fun o e => by rw [hoi] at e; cases e; rw [hci]; decide
    have hp1 : ∀ (j : Nat) (p : List Key × Addr × Value) (v : Value), ps[j]? = some p → items[j]? = some v → PairAtH prog w h1 v p := fun j p v a b => (hp j p v a b).keep (b0 := it) (fun b o hb e => hs1.extBut b o hb e) nti
    obtain ⟨b, rfl, hb, hk⟩ := hp1 i p v hpi hv
    obtain ⟨ot, e1, e2, nt, e3⟩ := id hb
    have hd1 := dictH_keep hd hDi (fun b o hb e => hs1.extBut b o hb e) nti
    refine wpAny_bind (wpAny_holding (wpAny_bind (wpAny_tryCatch ?_)))
    unfold Builtin.Dict.pairItems
    refine wpAny_bind (wpAny_typeOf (T := "tuple") ⟨ot, e1, e2⟩ ?_)
    rw [if_pos (by decide)]
    refine wpAny_bind (wpAny_seqItems e1 e3 (wpAny_pure ?_))
    show wpAny _ _ (holding [.ref p.2.1, p.2.2] (dictSet D (.ref p.2.1) p.2.2)) _ _ _
    refine wpAny_holding (wpAny_dictSet_heap (s := { s with heap := h1 }) (hsz := by omega) (tupleKind_room_in1 hu) hk hd1 fun h2 hd2 hs2 => ?_)
    refine wpAny_pure ⟨plainId_quiet plain_upd_loop _, ?_⟩
    have hl1 : h1.IsList L items := hl.extBut hs1.extBut hLi
    have hle : (storedH acc p.1 p.2.1 p.2.2).length ≤ i + 1 := Nat.le_trans (storedH_len ..) (by omega)
    obtain ⟨oD, _, _, hoD, hcD, _⟩ := id hd1
    have := ih (i + 1) { s with heap := h2, toks := s.toks + (TK prog w).draws p.1 } (storedH acc p.1 p.2.1 p.2.2) (by omega) hle (hit1.extBut hs2.extBut (Ne.symm hDi)) (hl1.extBut hs2.extBut (Ne.symm hDL)) hd2 (fun j p v a b => (hp1 j p v a b).keep (b0 := D) (fun b o hb e => hs2.extBut b o hb e) fun o e => by
        rw [hoD] at e; cases e; rw [hcD.1]; decide) fun h' tk hd' hk' => ?_
    · simpa using this
    · refine hR h' tk ?_ fun b o h1 h2 e => hk' b o h1 h2 (hs2.extBut b o h1 (hs1.extBut b o h2 e))
      have e4 : ps.drop i = p :: ps.drop (i + 1) := by
        rw [List.getElem?_eq_some_iff] at hpi
        obtain ⟨h5, h6⟩ := hpi
        rw [← h6]
        exact List.drop_eq_getElem_cons h5
      unfold stAll
      rw [e4, List.foldl_cons]
      exact hd'
theorem call_dict_pairsH {E : Value → Shared → Prop} {Q : Value → Shared → Prop} {s : Shared} {L : Addr} {o : Obj} {items : Array Value} {k : Nat} {ps : List (List Key × Addr × Value)} (hh : A.handled = none) (hu : A.units + 2 < cLine) (hx : s.heap.get? L = some o) (hc : o.cls = .type "list") (hdat : o.data = .seq items k) (hdn : o.dict = none)
    (hlen : ps.length = items.size) (hsz : ps.length ≤ sizeLine) (hp : ∀ (j : Nat) (p : List Key × Addr × Value) (v : Value), ps[j]? = some p → items[j]? = some v → PairAtH prog w s.heap v p)
    (h : ∀ h' tk, h'.DictOfH (TK prog w) s.heap.objs.size (stAll [] ps) → (∀ b o, s.heap.get? b = some o → h'.get? b = some o) → Q (.ref s.heap.objs.size) { s with heap := h', toks := tk }) :
    wpAny (model prog w) A (call (.type "dict") [.ref L]) Q E s := by
  refine callType_codes (Q₁ := fun obj s₁ => obj = .ref s.heap.objs.size ∧ s₁ = { s with heap := s.heap.push { cls := .type "dict", data := .dict #[] } }) PySem.F.kt_called_dict (PySem.F.kt_typeCall_dict_1 _) PySem.F.entry_dict_init (kt_code_dict_new _ ⟨rfl, rfl⟩) ?_
  rintro obj s₁ ⟨rfl, rfl⟩
  have hnew : (s.heap.push { cls := .type "dict", data := .dict #[] }).DictOf (mixKind prog w) s.heap.objs.size [] := Heap.DictOf.new s.heap
  have hnewH : (s.heap.push { cls := .type "dict", data := .dict #[] }).DictOfH (TK prog w) s.heap.objs.size [] := ⟨_, #[], 0, Heap.get?_push_size _ rfl, ⟨rfl, rfl, rfl⟩, rfl, rfl, fun x hx => (by cases hx), .nil⟩
  have hx1 := Heap.get?_push_of_some { cls := .type "dict", data := .dict #[] } hx
  have Llt : L < s.heap.objs.size := Heap.lt_size hx
  refine ⟨hnew.typeIs, PySem.F.args_dict_init_2 _ _, ?_⟩
  unfold Builtin.«dict.__init__»
  refine wpAny_bind ?_
  unfold Builtin.Dict.selfAndRest
  refine wpAny_bind (wpAny_notOrdered_dict hnew.typeIs ?_)
  show wpAny _ _ (pure (s.heap.objs.size, [Value.ref L])) _ _ _
  refine wpAny_pure ?_
  show wpAny _ _ (Builtin.Dict.updateFrom "dict.__init__" s.heap.objs.size (.ref L) [] .none) _ _ _
  unfold Builtin.Dict.updateFrom
  refine wpAny_bind (wpAny_typeOf (T := "list") ⟨o, hx1, hc⟩ ?_)
  rw [if_pos (by decide)]
  refine wpAny_bind (keys_miss hx1 hc hdat hdn (show A.in1.in1.handled = none from hh) fun h' tk kp => ?_)
  rw [if_pos (by rfl)]
  have hL' : h'.IsList L items := ⟨o, kp _ _ hx1, hc, k, hdat⟩
  refine wpAny_bind (wpAny_rule (wpAny_bind (wpAny_pyIter_list hL' ?_)))
  have Dget : ∃ od, h'.get? s.heap.objs.size = some od := ⟨_, kp _ _ (Heap.get?_push_size _ rfl)⟩
  have Dlt : s.heap.objs.size < h'.objs.size := let ⟨_, e⟩ := Dget; Heap.lt_size e
  refine wpAny_pure ⟨plainId_quiet plain_upd_loop _, ?_⟩
  have it0 : (h'.push { cls := .type "list_iterator", data := .fields #[.ref L, .int 0 0] }).IsListIter h'.objs.size L 0 := ⟨_, Heap.get?_push_size _ rfl, rfl, rfl⟩
  have hd' : (h'.push { cls := .type "list_iterator", data := .fields #[.ref L, .int 0 0] }).DictOfH (TK prog w) s.heap.objs.size [] := by
    obtain ⟨od, es, ep, e, h1, h2, h3, _, h5⟩ := hnewH
    exact ⟨od, es, ep, Heap.get?_push_of_some _ (kp _ _ e), h1, h2, h3, (fun x hx => by cases hx), h5⟩
  refine upd_loopH (A := A.in1) (show A.in1.handled = none from hh) (show A.units + 1 + 1 < cLine from hu) s.heap.objs.size L h'.objs.size items (Nat.ne_of_gt Llt) (Nat.ne_of_lt Dlt) (Nat.ne_of_lt (Nat.lt_trans Llt Dlt)) ps hlen hsz items.size 0 { s with heap := h'.push { cls := .type "list_iterator", data := .fields #[.ref L, .int 0 0] }, toks := tk } [] rfl (Nat.le_refl _) it0 (hL'.push _) hd' (fun j p v a b => ?_) fun h2 tk2 hd2 hk2 => ?_
  · obtain ⟨bb, e1, ⟨ot, e2, r⟩, ⟨o3, i3, n3, e3, r3⟩⟩ := hp j p v a b
    exact ⟨bb, e1, ⟨ot, Heap.get?_push_of_some _ (kp _ _ (Heap.get?_push_of_some _ e2)), r⟩, ⟨o3, i3, n3, Heap.get?_push_of_some _ (kp _ _ (Heap.get?_push_of_some _ e3)), r3⟩⟩
  · refine ⟨rfl, h h2 tk2 ?_ fun b ob e => hk2 b ob (Nat.ne_of_lt (Heap.lt_size e)) (Nat.ne_of_lt (Nat.lt_trans (Heap.lt_size e) Dlt)) (Heap.get?_push_of_some _ (kp _ _ (Heap.get?_push_of_some _ e)))⟩
    rw [List.drop_zero] at hd2
    exact hd2
end
/-- the things are pairs, their keys tuples -/
def PrsT (H : Hp) : List V → List (List Key × V) → Prop := Paired fun x p => ∃ b kb, x = .ref b ∧ H b = some (.tup [.ref kb, p.2]) ∧ H kb = some (.tup (p.1.map kV))
def putAllT (kvs ps : List (List Key × V)) : List (List Key × V) := ps.foldl (fun acc p => putK acc p.1 p.2) kvs
theorem prsT_at {P : Program} {w : World} {H : Hp} {h : Heap} (ok : HOk P w H h) {xs : List V} {ps : List (List Key × V)} (r : PrsT H xs ps) : ∀ {us : List Value}, Vals xs us → ∃ rs : List (List Key × Addr × Value), KT H ps rs ∧ ∀ (j : Nat) (p : List Key × Addr × Value) (v : Value), rs[j]? = some p → us[j]? = some v → PairAtH P w h v p := by
  unfold PrsT at r
  induction r with
  | nil =>
    intro us rv
    exact ⟨[], .nil, fun j p v e => by simp at e⟩
  | @cons x p xs ps hx t ih =>
    intro us rv
    cases rv with
    | @cons _ u _ us hu rv =>
      obtain ⟨rs, r1, r2⟩ := ih rv
      obtain ⟨b, kb, rfl, hb, hkb⟩ := hx
      obtain ⟨_, its, ri, o, e1, e2, ⟨n, e3⟩, _⟩ := (show ObjOk P w H h b (.tup [.ref kb, p.2]) from ok b _ hb)
      cases ri with
      | @cons _ ku _ _ hk ri =>
        cases ri with
        | @cons _ vu _ _ hv ri =>
          cases ri
          obtain rfl : ku = Value.ref kb := hk
          refine ⟨(p.1, kb, vu) :: rs, .cons ⟨rfl, hkb, hv⟩ r1, fun j q v ej ev => ?_⟩
          cases j with
          | zero =>
            cases (Option.some.inj ej)
            cases (Option.some.inj ev)
            obtain rfl : u = Value.ref b := hu
            exact ⟨b, rfl, ⟨o, e1, e2, n, e3⟩, key_of ok hkb⟩
          | succ j => exact r2 j q v ej ev
theorem put_allT {H : Hp} {ps : List (List Key × V)} {rs : List (List Key × Addr × Value)} (r : KT H ps rs) : ∀ {acc : List (List Key × V)} {bcc : List (List Key × Addr × Value)}, KT H acc bcc → KT H (putAllT acc ps) (stAll bcc rs) := by
  unfold KT at r
  induction r with
  | nil => exact fun q => q
  | @cons p q ps qs h t ih =>
    intro acc bcc ra
    obtain ⟨h1, h2, h3⟩ := h
    show KT H (putAllT (putK acc p.1 p.2) ps) (stAll (storedH bcc q.1 q.2.1 q.2.2) qs)
    rw [← h1]
    exact ih (KT.put ra p.1 h2 h3)
theorem length_putAllT : ∀ (ps acc : List (List Key × V)), (putAllT acc ps).length ≤ acc.length + ps.length
  | [], acc => Nat.le_refl _
  | p :: ps, acc => by
    have h1 := length_putAllT ps (putK acc p.1 p.2)
    have h2 := length_putK acc p.1 p.2
    show (putAllT (putK acc p.1 p.2) ps).length ≤ _
    rw [List.length_cons]; omega
section
variable {X : Cx}
/-- dict(l), l a list of pairs, the keys tuples -/
def tDictPT (ta : TA) : TE := fun σ H Q => ta σ H fun vs H1 => ∃ p xs ps, vs = [.ref p] ∧ H1 p = some (.lst xs) ∧ PrsT H1 xs ps ∧ ∀ D, H1 D = none → Q (.ref D) (upd H1 D (.dT (putAllT [] ps)))
theorem pe_dictPT {k : Nat} (hr : Room k X.A) {a : Expr} {ta : TA} {p pos : Pos} (hg : Gl X "dict") (hm : X.mg "dict" = none) (ha : PA X [a] ta) (hs : starEach [a] X.env = [(false, eval a X.env)] := by rfl) (hc : X.calm = true := by rfl) :
    PE X (.Call (.Name "dict" p) [a] [] pos) (tDictPT ta) := by
  intro pins s σ H Q I h
  have hu : X.A.units + 64 < cLine := hr.units
  refine Call_ (ld_blt I hg hm bt_dict (PyProof.Rows.callWith_type1 (thn (ha pos pins s σ H _ I h) fun us s1 ⟨vs, H1, I1, r1, q1⟩ => ?_) hs rfl))
  obtain ⟨p1, xs, ps, e, hq, hps, q⟩ := q1
  subst e
  obtain ⟨u1, rfl, r2⟩ := vals1 r1
  cases r2
  obtain ⟨hz, its, n, rv, eo⟩ := (show ObjOk X.prog X.w H1 s1.heap p1 (.lst xs) from I1.hok p1 _ hq)
  obtain ⟨rs, rk, hpa⟩ := prsT_at I1.hok hps rv
  have a1 : ps.length = rs.length := Paired.length rk
  have a2 := Paired.length hps
  have l1 : rs.length = its.toArray.size := by
    have a3 := rv.length
    simp; omega
  refine call_dict_pairsH (ps := rs) (I1.ok.hd hc) (by omega) eo rfl rfl rfl l1 (by omega) (fun j p v a b => hpa j p v a (by simpa using b)) fun h' tk hd' kp => ?_
  have hb : (s1.heap.objs.size == sysModules) = false := beq_eq_false_iff_ne.mpr (Ne.symm (Nat.ne_of_lt I1.big))
  have hl : (putAllT [] ps).length ≤ sizeLine := by
    have := length_putAllT ps []
    simp at this; omega
  have Hn : H1 s1.heap.objs.size = none := I1.hok.fresh (Nat.le_refl _)
  obtain ⟨od, es, ep, f1, f2, f3, f4, _, f6⟩ := hd'
  exact ⟨.ref s1.heap.objs.size, _, I1.laid (a := s1.heap.objs.size) (o := .dT (putAllT [] ps)) (t' := tk) kp (Nat.le_refl _) ⟨hl, hb, _, (put_allT rk .nil).keeps fun b ys e => by rw [upd_ne (ne_of_none e Hn)]; exact e, od, es, ep, f1, f2, f3, f4, f6⟩, rfl, q _ Hn⟩
theorem hu1 {k : Nat} {A : Around} (hr : Room k A) : A.units + 1 < cLine := by
  have : A.units + 64 < cLine := hr.units
  omega
/-- t not in d, t a tuple -/
def rTNotIn : R2 := fun y x H Q => ∃ a b kvs k, x = .ref a ∧ y = .ref b ∧ H a = some (.dT kvs) ∧ H b = some (.tup (k.map kV)) ∧ Q (.bl (!(valV kvs k).isSome)) H
theorem op_tNotIn {j : Nat} (hr : Room j X.A) : OpR X (compareOp .NotIn) rTNotIn := by
  intro pins s σ H x y v u Q I rx ry h
  obtain ⟨a, b, kvs, k, rfl, rfl, ha, hb, q⟩ := h
  have hu : X.A.units + 64 < cLine := hr.units
  obtain rfl : u = Value.ref a := ry
  exact d_notIn (by omega) I (DGet.t ha hb) rx fun s' I' => ⟨.bl _, H, I', rfl, q⟩
end
end L2

set_option Elab.async false
set_option linter.all false
set_option maxRecDepth 100000
namespace L2
open PySem
/-! the table of a set: rising places -/
end L2

set_option Elab.async false
set_option linter.all false
set_option maxRecDepth 100000
set_option maxHeartbeats 4000000
namespace L2
open PySem
section
variable {prog : Program} {w : World} {K : Type} [DecidableEq K] {knd : KeyKind prog w K} {A : Around} {E : Value → Shared → Prop} {s : Shared}
end
end L2

set_option Elab.async false
set_option linter.all false
set_option maxRecDepth 100000
set_option maxHeartbeats 4000000
namespace L2
open PySem
/-! sets of digits: the table never gives way -/
end L2

set_option Elab.async false
set_option linter.all false
set_option maxRecDepth 100000
set_option maxHeartbeats 4000000
namespace L2
open PySem
/-! digits laid anew on thirty-two places -/
end L2

set_option Elab.async false
set_option linter.all false
set_option maxRecDepth 100000
set_option maxHeartbeats 4000000
namespace L2
open PySem
end L2

set_option Elab.async false
set_option linter.all false
set_option maxRecDepth 100000
set_option maxHeartbeats 4000000
namespace L2
open PySem
end L2

set_option Elab.async false
set_option linter.all false
set_option maxRecDepth 100000
set_option maxHeartbeats 4000000
namespace L2
open PySem
section
variable {prog : Program} {w : World} {A : Around} {E : Value → Shared → Prop} {s : Shared}
end
end L2

set_option Elab.async false
set_option linter.all false
set_option maxRecDepth 100000
set_option maxHeartbeats 4000000
namespace L2
open PySem PySem.Spec PyProof.Rows
section
variable {prog : Program} {w : World} {A : Around} {E : Value → Shared → Prop} {s : Shared}
end
end L2

set_option Elab.async false
set_option linter.all false
set_option maxRecDepth 100000
set_option maxHeartbeats 4000000
namespace L2
open PySem PySem.Spec PyProof.Rows
section
variable {prog : Program} {w : World} {A : Around} {E : Value → Shared → Prop} {s : Shared} {a I : Addr} {es : Array (Int × Value)} {ep : Nat} {t : SetTable}
end
end L2

set_option Elab.async false
set_option linter.all false
set_option maxRecDepth 100000
set_option maxHeartbeats 4000000
namespace L2
open PySem PySem.Spec PyProof.Rows PySem.W
section
variable {prog : Program} {w : World} {A : Around} {E : Value → Shared → Prop} {s : Shared} {a : Addr} {es : Array (Int × Value)} {ep : Nat} {t : SetTable}
end
section
variable {X : Cx}
end
end L2

set_option Elab.async false
set_option linter.all false
set_option maxRecDepth 100000
set_option maxHeartbeats 4000000
namespace L2
open PySem PySem.Spec PyProof.Rows
section
variable {X : Cx}
theorem paired_get {α β : Type} {R : α → β → Prop} {as : List α} {bs : List β} (h : Paired R as bs) : ∀ {i : Nat} {a : α}, as[i]? = some a → ∃ b, bs[i]? = some b ∧ R a b := by
  induction h with
  | nil => intro i a e; simp at e
  | cons r _ ih =>
    intro i a e
    cases i with
    | zero =>
      simp at e
      subst e
      exact ⟨_, rfl, r⟩
    | succ i =>
      obtain ⟨b, e1, e2⟩ := ih (i := i) (by simpa using e)
      exact ⟨b, by simpa using e1, e2⟩
end
section
variable {prog : Program} {w : World} {A : Around} {R : Result → Shared → Prop}
end
section
variable {X : Cx}
end
end L2

set_option Elab.async false
set_option linter.all false
set_option maxRecDepth 100000
set_option maxHeartbeats 4000000
namespace L2
open PySem PySem.Spec PyProof.Rows
section
variable {X : Cx}
/-- {t: v}, t a tuple -/
def tDispT (tk tv : TE) : TE := fun σ H Q => ∀ p, H p = none → tk σ (upd H p (.dT [])) fun x H1 => tv σ H1 fun y H2 => H2 p = some (.dT []) ∧ ∃ b k, x = .ref b ∧ H2 b = some (.tup (k.map kV)) ∧ Q (.ref p) (upd H2 p (.dT [(k, y)]))
theorem pe_dispT {pos : Pos} {k v : Expr} {tk tv : TE} {j : Nat} (hr : Room j X.A) (hk : PE X k tk) (hv : PE X v tv) : PE X (.Dict [some k] [v] pos) (tDispT tk tv) := by
  intro pins s σ H Q I q
  have hu : X.A.units + 64 < cLine := hr.units
  have hn := I.hok.fresh (Nat.le_refl s.heap.objs.size)
  have I1 := I.laid (a := s.heap.objs.size) (o := .dT []) (h' := s.heap.push { cls := .type "dict", data := .dict #[] }) (t' := s.toks) (fun _ _ q => Heap.get?_push_of_some _ q) (Nat.le_refl _) (dt_empty s.heap I.big)
  refine wpAny_Dict_any rfl rfl (by simp) (show 1 ≤ 15 by decide) (pairTrees_cons_walk (thn (hk pins _ σ _ _ I1 (q _ hn)) fun u s1 ⟨x, H1, I1', rx, q1⟩ => thn (hv pins s1 σ H1 _ I1' q1) fun w2 s2 ⟨y, H2, I2, ry, e, b, kk, ex, eb, q2⟩ => pairTrees_nil_walk ?_))
  subst ex
  obtain rfl : u = Value.ref b := rx
  obtain ⟨z, hd, xs, rel, dd⟩ := dt_of I2.hok e
  have hz : xs.length ≤ sizeLine := by rw [← Paired.length rel]; exact z
  unfold storeAll
  rw [List.forIn_cons]
  refine wpAny_bind (wpAny_bind (wpAny_dictSet_heap (hsz := hz) (knd := tupleKind (mixKind X.prog X.w)) (show X.A.units < cLine by omega) (key_of I2.hok eb) dd fun h' dd' hs => wpAny_pure ?_))
  dsimp only
  rw [List.forIn_nil]
  refine wpAny_pure ⟨.ref s.heap.objs.size, _, ?_, rfl, q2⟩
  obtain ⟨q', es, ep, hq, h2, h3, h4, _, h5⟩ := dd'
  refine d_write I2 (by rw [e]; exact True.intro) hs ⟨q', hq⟩ ⟨by show 1 ≤ sizeLine; decide, hd, _, (rel.put kk eb ry).keeps fun c ys ec => ?_, q', es, ep, hq, h2, h3, h4, h5⟩
  rw [upd_ne (ne_of ec e (fun z => nomatch z))]
  exact ec
end
end L2

set_option Elab.async false
set_option linter.all false
set_option maxRecDepth 100000
set_option maxHeartbeats 4000000
namespace L4
open PySem L2
/-! the chains' mathematics -/
-- residuation
/-! sayings -/
namespace Sy
end Sy
end L4

set_option Elab.async false
set_option linter.all false
set_option maxRecDepth 100000
set_option maxHeartbeats 4000000
namespace L4
open PySem L2
theorem PrsT.tk {H H' : Hp} (s : Tk H H') {xs : List V} {ps : List (List Key × V)} (h : PrsT H xs ps) : PrsT H' xs ps := by
  unfold PrsT at h ⊢
  induction h with
  | nil => exact .nil
  | cons r _ ih =>
    obtain ⟨b, kb, e, hb, hk⟩ := r
    exact .cons ⟨b, kb, e, s _ _ hb, s _ _ hk⟩ ih
theorem PrsT.snoc {H : Hp} {xs : List V} {ps : List (List Key × V)} {p : List Key × V} {b kb : Addr} (h : PrsT H xs ps) (hb : H b = some (.tup [.ref kb, p.2])) (hk : H kb = some (.tup (p.1.map kV))) : PrsT H (xs ++ [.ref b]) (ps ++ [p]) := by
  unfold PrsT at h ⊢
  induction h with
  | nil => exact .cons ⟨b, kb, rfl, hb, hk⟩ .nil
  | cons r _ ih => exact .cons r ih
theorem putT_other : ∀ (ps acc : List (List Key × V)) (k : List Key), k ∉ ps.map Prod.fst → valV (putAllT acc ps) k = valV acc k
  | [], acc, k, _ => rfl
  | p :: ps, acc, k, h => by
    rw [List.map_cons, List.mem_cons, not_or] at h
    show valV (putAllT (putK acc p.1 p.2) ps) k = _
    rw [putT_other ps _ k h.2, valV_put, if_neg h.1]
theorem putT_at : ∀ (ps acc : List (List Key × V)) (p : List Key × V), (ps.map Prod.fst).Nodup → p ∈ ps → valV (putAllT acc ps) p.1 = some p.2
  | [], acc, p, _, h => by cases h
  | z :: ps, acc, p, hn, h => by
    rw [List.map_cons, List.nodup_cons] at hn
    show valV (putAllT (putK acc z.1 z.2) ps) p.1 = _
    rcases List.mem_cons.mp h with rfl | h
    · rw [putT_other ps _ _ hn.1, valV_put, if_pos rfl]
    · exact putT_at ps _ p hn.2 h
end L4

set_option linter.all false
namespace Tn
/-! marks: alike things bear the first one's place -/
def fp {α : Type} [DecidableEq α] (xs : List α) : List Nat := xs.map fun x => xs.idxOf x
theorem fp_len {α : Type} [DecidableEq α] (xs : List α) : (fp xs).length = xs.length := List.length_map _
theorem fp_at {α : Type} [DecidableEq α] {xs : List α} {i : Nat} {x : α} (h : xs[i]? = some x) : at' (fp xs) i = xs.idxOf x := by
  unfold at' fp
  rw [List.getD_eq_getElem?_getD, List.getElem?_map, h]
  rfl
theorem idx_get {α : Type} [DecidableEq α] {xs : List α} {x : α} (h : x ∈ xs) : xs[xs.idxOf x]? = some x := by
  have hl := List.idxOf_lt_length_of_mem h
  rw [List.getElem?_eq_getElem hl, List.getElem_idxOf]
theorem idx_le {α : Type} [DecidableEq α] : ∀ {xs : List α} {x : α} {i : Nat}, xs[i]? = some x → xs.idxOf x ≤ i
  | [], x, i, h => by simp at h
  | y :: xs, x, i, h => by
    rw [List.idxOf_cons]
    by_cases e : y = x
    · simp [e]
    · have e' : (y == x) = false := by simpa using e
      rw [e']
      cases i with
      | zero => simp at h; exact absurd h e
      | succ i =>
        have := idx_le (xs := xs) (x := x) (i := i) (by simpa using h)
        simpa using this
structure Mk (n : Nat) (ms : List Nat) : Prop where
  len : ms.length = n
  le : ∀ i, i < n → at' ms i ≤ i
  rep : ∀ i, i < n → at' ms (at' ms i) = at' ms i
theorem fp_mk {α : Type} [DecidableEq α] (xs : List α) : Mk xs.length (fp xs) := by
  refine ⟨fp_len xs, fun i hi => ?_, fun i hi => ?_⟩
  · rw [fp_at (List.getElem?_eq_getElem hi)]
    exact idx_le (List.getElem?_eq_getElem hi)
  · rw [fp_at (List.getElem?_eq_getElem hi), fp_at (idx_get (List.getElem_mem hi))]
theorem fp_eq {α : Type} [DecidableEq α] {xs : List α} {i j : Nat} {x y : α} (hi : xs[i]? = some x) (hj : xs[j]? = some y) : at' (fp xs) i = at' (fp xs) j ↔ x = y := by
  rw [fp_at hi, fp_at hj]
  constructor
  · intro e
    have h1 := idx_get (List.mem_of_getElem? hi)
    have h2 := idx_get (List.mem_of_getElem? hj)
    rw [e, h2] at h1
    exact (Option.some.inj h1).symm
  · intro e
    rw [e]
theorem at_ext {xs ys : List Nat} {n : Nat} (h1 : xs.length = n) (h2 : ys.length = n) (h : ∀ i, i < n → at' xs i = at' ys i) : xs = ys := by
  refine List.ext_getElem? fun i => ?_
  by_cases hi : i < n
  · have := h i hi
    unfold at' at this
    rw [List.getD_eq_getElem?_getD, List.getD_eq_getElem?_getD, List.getElem?_eq_getElem (by omega), List.getElem?_eq_getElem (by omega)] at this
    rw [List.getElem?_eq_getElem (by omega), List.getElem?_eq_getElem (by omega)]
    exact congrArg some this
  · rw [List.getElem?_eq_none (by omega), List.getElem?_eq_none (by omega)]
theorem Mk.lt {n : Nat} {ms : List Nat} (h : Mk n ms) {i : Nat} (hi : i < n) : at' ms i < n := Nat.lt_of_le_of_lt (h.le i hi) hi
theorem mk_ext {n : Nat} {ms ks : List Nat} (h1 : Mk n ms) (h2 : Mk n ks) (h : ∀ i j, i < n → j < n → (at' ms i = at' ms j ↔ at' ks i = at' ks j)) : ms = ks := by
  refine at_ext h1.len h2.len fun i hi => Nat.le_antisymm ?_ ?_
  · have a := h2.lt hi
    have := (h _ i a hi).mpr (h2.rep i hi)
    rw [← this]
    exact h1.le _ a
  · have a := h1.lt hi
    have := (h _ i a hi).mp (h1.rep i hi)
    rw [← this]
    exact h2.le _ a
def reps (n : Nat) (ms : List Nat) : List Nat := (List.range n).filter fun i => decide (at' ms i = i)
theorem count_back {p q : Nat → Bool} : ∀ {l : List Nat}, (∀ i ∈ l, p i = true → q i = true) → (l.filter q).length ≤ (l.filter p).length → ∀ i ∈ l, q i = true → p i = true
  | [], _, _, i, hi, _ => by cases hi
  | a :: l, h, hc, i, hi, hq => by
    have ha := h a (List.mem_cons_self ..)
    have ht := fun i hi => h i (List.mem_cons_of_mem a hi)
    have mono : (l.filter p).length ≤ (l.filter q).length := by
      have : ∀ l : List Nat, (∀ i ∈ l, p i = true → q i = true) → (l.filter p).length ≤ (l.filter q).length := by
        intro l
        induction l with
        | nil => intro _; exact Nat.le_refl _
        | cons b l ih =>
          intro hb
          have h1 := ih fun i hi => hb i (List.mem_cons_of_mem _ hi)
          have h2 := hb b (List.mem_cons_self ..)
          rw [List.filter_cons, List.filter_cons]
          cases hpb : p b <;> cases hqb : q b <;> simp_all <;> omega
      exact this l ht
    rw [List.filter_cons, List.filter_cons] at hc
    cases hpa : p a with
    | true =>
      rw [hpa, ha hpa] at hc
      simp at hc
      rcases List.mem_cons.mp hi with rfl | hi
      · exact hpa
      · exact count_back ht hc i hi hq
    | false =>
      rw [hpa] at hc
      cases hqa : q a with
      | true => rw [hqa] at hc; simp at hc; omega
      | false =>
        rw [hqa] at hc
        simp at hc
        rcases List.mem_cons.mp hi with rfl | hi
        · rw [hqa] at hq; cases hq
        · exact count_back ht hc i hi hq
theorem reps_grow {n : Nat} {ms ks : List Nat} (h1 : Mk n ms) (h2 : Mk n ks) (h : ∀ i j, i < n → j < n → at' ks i = at' ks j → at' ms i = at' ms j) (ne : ¬ ks = ms) : (reps n ms).length < (reps n ks).length := by
  refine Classical.byContradiction fun hc => ne ?_
  have up : ∀ i ∈ List.range n, decide (at' ms i = i) = true → decide (at' ks i = i) = true := fun i hi e => by
    have hi := List.mem_range.mp hi
    have e := of_decide_eq_true e
    refine decide_eq_true ?_
    have a := h2.lt hi
    have h3 := h _ i a hi (h2.rep i hi)
    have h4 := h1.le _ a
    have h5 := h2.le i hi
    omega
  have dn := count_back up (by unfold reps at hc; omega)
  refine mk_ext h2 h1 fun i j hi hj => ⟨h i j hi hj, fun e => ?_⟩
  have a := h2.lt hi
  have b := h2.lt hj
  have ra := of_decide_eq_true (dn _ (List.mem_range.mpr a) (decide_eq_true (h2.rep i hi)))
  have rb := of_decide_eq_true (dn _ (List.mem_range.mpr b) (decide_eq_true (h2.rep j hj)))
  have ea := h _ i a hi (h2.rep i hi)
  have eb := h _ j b hj (h2.rep j hj)
  omega
/-! parting further -/
def sgn (fs : List (Nat → Nat)) (ms : List Nat) (x : Nat) : List Nat := at' ms x :: fs.map fun f => at' ms (f x)
def refn (n : Nat) (fs : List (Nat → Nat)) (ms : List Nat) : List Nat := fp ((List.range n).map (sgn fs ms))
theorem refn_mk (n : Nat) (fs : List (Nat → Nat)) (ms : List Nat) : Mk n (refn n fs ms) := by
  have := fp_mk ((List.range n).map (sgn fs ms))
  rwa [List.length_map, List.length_range] at this
theorem refn_eq {n : Nat} {fs : List (Nat → Nat)} {ms : List Nat} {i j : Nat} (hi : i < n) (hj : j < n) : at' (refn n fs ms) i = at' (refn n fs ms) j ↔ at' ms i = at' ms j ∧ ∀ f ∈ fs, at' ms (f i) = at' ms (f j) := by
  unfold refn
  rw [fp_eq (x := sgn fs ms i) (y := sgn fs ms j) (by rw [List.getElem?_map, List.getElem?_range hi]; rfl) (by rw [List.getElem?_map, List.getElem?_range hj]; rfl)]
  unfold sgn
  rw [List.cons.injEq]
  constructor
  · intro ⟨a, b⟩
    refine ⟨a, fun f hf => ?_⟩
    exact List.map_inj_left.mp b f hf
  · intro ⟨a, b⟩
    exact ⟨a, List.map_congr_left b⟩
def itr (n : Nat) (fs : List (Nat → Nat)) (ms : List Nat) : Nat → List Nat
  | 0 => ms
  | k + 1 => refn n fs (itr n fs ms k)
theorem itr_mk {n : Nat} {fs : List (Nat → Nat)} {ms : List Nat} (h : Mk n ms) : ∀ k, Mk n (itr n fs ms k)
  | 0 => h
  | k + 1 => refn_mk ..
theorem itr_sub {n : Nat} {fs : List (Nat → Nat)} {ms : List Nat} : ∀ k i j, i < n → j < n → at' (itr n fs ms k) i = at' (itr n fs ms k) j → at' ms i = at' ms j
  | 0, _, _, _, _, e => e
  | k + 1, i, j, hi, hj, e => itr_sub k i j hi hj ((refn_eq hi hj).mp e).1
theorem reps_le (n : Nat) (ms : List Nat) : (reps n ms).length ≤ n := by
  have := List.length_filter_le (fun i => decide (at' ms i = i)) (List.range n)
  rwa [List.length_range] at this
theorem itr_stop {n : Nat} {fs : List (Nat → Nat)} {ms : List Nat} (h : Mk n ms) (hn : 1 ≤ n) : refn n fs (itr n fs ms n) = itr n fs ms n := by
  have all : ∀ k, refn n fs (itr n fs ms k) = itr n fs ms k ∨ k + 1 ≤ (reps n (itr n fs ms k)).length := by
    intro k
    induction k with
    | zero =>
      refine .inr ?_
      have h0 : 0 ∈ reps n ms := List.mem_filter.mpr ⟨List.mem_range.mpr (by omega), decide_eq_true (by have := h.le 0 (by omega); omega)⟩
      exact List.length_pos_of_mem h0
    | succ k ih =>
      by_cases e : refn n fs (itr n fs ms k) = itr n fs ms k
      · refine .inl ?_
        show refn n fs (refn n fs (itr n fs ms k)) = refn n fs (itr n fs ms k)
        rw [e, e]
      · have := reps_grow (itr_mk h k) (itr_mk h (k + 1)) (fun i j hi hj z => ((refn_eq hi hj).mp z).1) e
        rcases ih with ih | ih
        · exact absurd ih e
        · exact .inr (by omega)
  rcases all n with h1 | h1
  · exact h1
  · have := reps_le n (itr n fs ms n)
    omega
/-- what the last marks are like -/
structure Fix (n : Nat) (ws : List Nat) (fs : List (Nat → Nat)) (M : List Nat) : Prop where
  mks : Mk n M
  wish : ∀ i j, i < n → j < n → at' M i = at' M j → (i ∈ ws ↔ j ∈ ws)
  step : ∀ i j, i < n → j < n → at' M i = at' M j → ∀ f ∈ fs, at' M (f i) = at' M (f j)
def mk0 (n : Nat) (ws : List Nat) : List Nat := fp ((List.range n).map fun i => decide (i ∈ ws))
def mkN (n : Nat) (ws : List Nat) (fs : List (Nat → Nat)) : List Nat := itr n fs (mk0 n ws) n
theorem mk0_mk (n : Nat) (ws : List Nat) : Mk n (mk0 n ws) := by
  have := fp_mk ((List.range n).map fun i => decide (i ∈ ws))
  rwa [List.length_map, List.length_range] at this
theorem mkN_fix {n : Nat} (ws : List Nat) (fs : List (Nat → Nat)) (hn : 1 ≤ n) : Fix n ws fs (mkN n ws fs) := by
  refine ⟨itr_mk (mk0_mk n ws) n, fun i j hi hj e => ?_, fun i j hi hj e f hf => ?_⟩
  · have h1 := itr_sub n i j hi hj e
    unfold mk0 at h1
    rw [fp_eq (x := decide (i ∈ ws)) (y := decide (j ∈ ws)) (by rw [List.getElem?_map, List.getElem?_range hi]; rfl) (by rw [List.getElem?_map, List.getElem?_range hj]; rfl)] at h1
    simpa using h1
  · have h1 := itr_stop (fs := fs) (mk0_mk n ws) hn
    have e' : at' (itr n fs (mk0 n ws) n) i = at' (itr n fs (mk0 n ws) n) j := e
    rw [← h1] at e'
    exact ((refn_eq hi hj).mp e').2 f hf
/-! the parts -/
end Tn


set_option Elab.async false
set_option linter.all false
set_option maxRecDepth 100000
set_option maxHeartbeats 4000000
namespace L2
open PySem PySem.Spec PyProof.Rows
/-! a comprehension one of whose own names is a cell: an inner comprehension reads it -/
section
variable {X : Cx} {N' : List Str} {ix : List (Option Nat)} {scope : Scope} {y : Str} {pins : List (Addr × Obj)} {σ : St} {H : Hp} {s : Shared} {fp : List Addr}
end
end L2

set_option Elab.async false
set_option linter.all false
namespace L2
open PySem PySem.Spec PyProof.Rows
end L2

set_option Elab.async false
set_option linter.all false
set_option maxRecDepth 100000
set_option maxHeartbeats 4000000
namespace L2
open PySem PySem.Spec PyProof.Rows PySem.W
/-! the walk over a dict's keys, whatever they are: its entries es, its age ep -/
def EAt (h : Heap) (d : Addr) (es : Array DictEntry) (ep : Nat) : Prop := ∃ o, h.get? d = some o ∧ o.ExactDict ∧ o.data = .dict es ep
theorem EAt.keep {h h' : Heap} {d : Addr} {es : Array DictEntry} {ep : Nat} (x : EAt h d es ep) (k : ∀ o, h.get? d = some o → h'.get? d = some o) : EAt h' d es ep := let ⟨o, ho, r⟩ := x; ⟨o, k o ho, r⟩
theorem EAt.ty {s : Shared} {d : Addr} {es : Array DictEntry} {ep : Nat} (x : EAt s.heap d es ep) : s.TypeIs (.ref d) "dict" := let ⟨o, ho, hc, _⟩ := x; ⟨o, ho, hc.1⟩
theorem EAt.lt {h : Heap} {d : Addr} {es : Array DictEntry} {ep : Nat} (x : EAt h d es ep) : d < h.objs.size := let ⟨_, ho, _⟩ := x; Heap.lt_size ho
section
variable {prog : Program} {w : World} {A : Around} {E : Value → Shared → Prop} {s : Shared} {d it : Addr} {es : Array DictEntry} {ep i : Nat}
theorem iter_e {Q : Value → Shared → Prop} (hd : (d == sysModules) = false) (hm : EAt s.heap d es ep)
    (hQ : Q (.ref s.heap.objs.size) { s with heap := s.heap.push { cls := .type "dict_keyiterator", data := .fields #[.ref d, .int 0 0, .int es.size 0, .int ep 0] } }) :
    wpAny (model prog w) A (pyIter (.ref d)) Q E s := by
  have hT := hm.ty
  obtain ⟨o, ho, hc, hdat⟩ := id hm
  refine wpAny_pyIter_slot hT F.slot_dict_iter (wpAny_call_entry F.slot_dict_iter hT F.entry_dict_iter ?_ (F.args_dict_iter_1 _))
  unfold Builtin.«dict.__iter__»
  refine wpAny_bind ?_
  unfold Builtin.Dict.dictSlotNone
  refine wpAny_bind (wpAny_notOrdered_dict hT (wpAny_pure ?_))
  show wpAny _ _ (Builtin.Dict.showsAll d >>= _) _ _ s
  unfold Builtin.Dict.showsAll
  rw [if_neg (by rw [hd]; exact Bool.false_ne_true)]
  refine wpAny_bind (wpAny_pure (wpAny_bind (wpAny_dictEntries ho hdat (wpAny_bind (wpAny_dictEpoch ho hdat ?_)))))
  exact wpAny_bind (wpAny_newObj_type (wpAny_pure ⟨_, rfl, "dict_keyiterator", _, ⟨_, Heap.get?_push_size _ rfl, rfl⟩, F.slot_dict_keyiterator_next.lookup, hQ⟩))
theorem next_e {Q : Option Value → Shared → Prop} (hit : s.heap.IsKeyIter it d i es.size ep) (hm : EAt s.heap d es ep) (hi : i < es.size)
    (hQ : ∀ h', h'.IsKeyIter it d (i + 1) es.size ep → Heap.SameBut it s.heap h' → Q (some es[i].key) { s with heap := h' }) :
    wpAny (model prog w) A (pyNext (.ref it)) Q E s := by
  obtain ⟨o, ho, hc, hd⟩ := id hit
  obtain ⟨od, hod, hcd, hdd⟩ := id hm
  unfold pyNext
  refine wpAny_bind (wpAny_attempt (wpAny_callSpecial?_slot (name := Str.ofString "__next__") hit.typeIs F.slot_dict_keyiterator_next
    (wpAny_call_entry F.slot_dict_keyiterator_next hit.typeIs F.entry_dict_keyiterator_next ?_ (F.args_dict_keyiterator_next_1 _))))
  refine wpAny_bind (wpAny_pure (wpAny_bind (wpAny_bind ?_)))
  first | refine wpAny_bind (wpAny_typeNameOfWhole_keyiter hit.typeIs (wpAny_pure ?_)) | refine wpAny_bind (wpAny_typeNameOf_keyiter hit.typeIs (wpAny_pure ?_))
  refine wpAny_bind (wpAny_fieldsOf ho hd ?_)
  simp only [show Builtin.Dict_items.ownsTuple "dict_keyiterator" = false by decide, Bool.false_eq_true, if_false]
  show wpAny _ _ (if (Value.ref d == Value.none) = true then _ else _) _ _ s
  rw [if_neg (show ¬ ((Value.ref d == Value.none) = true) from Bool.false_ne_true)]
  refine wpAny_bind (wpAny_pure (wpAny_bind (wpAny_dictEntries hod hdd ?_)))
  rw [if_neg (by simp)]
  refine wpAny_bind (wpAny_pure (wpAny_bind (wpAny_dictEpoch hod hdd ?_)))
  rw [if_neg (by simp)]
  refine wpAny_pure ?_
  simp only [show ¬ ((i : Int) < 0) from by omega, if_false, Int.toNat_natCast, Array.getElem?_eq_getElem hi]
  refine wpAny_bind ?_
  first | refine wpAny_bind (wpAny_typeNameOfWhole_keyiter hit.typeIs (wpAny_pure ?_)) | refine wpAny_bind (wpAny_typeNameOf_keyiter hit.typeIs (wpAny_pure ?_))
  refine wpAny_bind (wpAny_isOneOf_keyiter hit.typeIs ?_)
  show wpAny _ _ (setField (.ref it) 1 (rawInt ((i : Int) + 1)) >>= _) _ _ s
  refine wpAny_bind (wpAny_setField ho hd (by simp) ?_)
  have hit' : (s.heap.update it (Obj.mapFields (·.setIfInBounds 1 (rawInt ((i : Int) + 1))))).IsKeyIter it d (i + 1) es.size ep :=
    ⟨_, Heap.get?_update_self _ ho (Obj.isFreed_of_fields (Obj.data_mapFields hd _)), (Obj.cls_mapFields ..).trans hc, by rw [Obj.data_mapFields hd]; simp [rawInt]⟩
  refine wpAny_bind (wpAny_holding ?_)
  refine wpAny_bind (wpAny_isOneOf_keyiter (s := { s with heap := s.heap.update it (Obj.mapFields (·.setIfInBounds 1 (rawInt ((i : Int) + 1)))) }) hit'.typeIs ?_)
  show wpAny _ _ (pure es[i].key) _ _ _
  exact wpAny_pure (wpAny_pure ⟨_, rfl, wpAny_pure (hQ _ hit' (Heap.SameBut.update ..))⟩)
theorem last_e {Q : Option Value → Shared → Prop} (hh : A.handled = none) (hit : s.heap.IsKeyIter it d es.size es.size ep) (hm : EAt s.heap d es ep)
    (hQ : ∀ h', Heap.ExtBut it s.heap h' → Q none { s with heap := h' }) : wpAny (model prog w) A (pyNext (.ref it)) Q E s := by
  obtain ⟨o, ho, hc, hd⟩ := id hit
  obtain ⟨od, hod, hcd, hdd⟩ := id hm
  unfold pyNext
  refine wpAny_bind (wpAny_attempt (wpAny_callSpecial?_slot (name := Str.ofString "__next__") hit.typeIs F.slot_dict_keyiterator_next
    (wpAny_call_entry F.slot_dict_keyiterator_next hit.typeIs F.entry_dict_keyiterator_next ?_ (F.args_dict_keyiterator_next_1 _))))
  refine wpAny_bind (wpAny_pure (wpAny_bind (wpAny_bind ?_)))
  first | refine wpAny_bind (wpAny_typeNameOfWhole_keyiter hit.typeIs (wpAny_pure ?_)) | refine wpAny_bind (wpAny_typeNameOf_keyiter hit.typeIs (wpAny_pure ?_))
  refine wpAny_bind (wpAny_fieldsOf ho hd ?_)
  simp only [show Builtin.Dict_items.ownsTuple "dict_keyiterator" = false by decide, Bool.false_eq_true, if_false]
  show wpAny _ _ (if (Value.ref d == Value.none) = true then _ else _) _ _ s
  rw [if_neg (show ¬ ((Value.ref d == Value.none) = true) from Bool.false_ne_true)]
  refine wpAny_bind (wpAny_pure (wpAny_bind (wpAny_dictEntries hod hdd ?_)))
  rw [if_neg (by simp)]
  refine wpAny_bind (wpAny_pure (wpAny_bind (wpAny_dictEpoch hod hdd ?_)))
  rw [if_neg (by simp)]
  refine wpAny_pure ?_
  simp only [show ¬ ((es.size : Int) < 0) from by omega, if_false, Int.toNat_natCast, Array.getElem?_eq_none (Nat.le_refl es.size)]
  refine wpAny_bind ?_
  first | refine wpAny_bind (wpAny_typeNameOfWhole_keyiter hit.typeIs (wpAny_pure ?_)) | refine wpAny_bind (wpAny_typeNameOf_keyiter hit.typeIs (wpAny_pure ?_))
  show wpAny _ _ (setField (.ref it) 0 .none >>= _) _ _ s
  refine wpAny_bind (wpAny_setField ho hd (by simp) ?_)
  show wpAny _ _ (newExc (.type "StopIteration") [] >>= _) _ _ _
  refine wpAny_bind ?_
  simp only [newExc, newTuple]
  refine wpAny_bind (wpAny_newObj_type ?_ (by size_fits))
  refine wpAny_bind (m := firstArgMember _ _) (wpAny_of_eq (a := Value.none) (by first | rfl | (simp only [firstArgMember]; rfl)) ?_)
  refine wpAny_newObj_type ?_ (by size_fits)
  simp only [raiseNew]
  refine wpAny_bind (wpAny_handled ?_)
  rw [show A.in1.handled = none from hh]
  refine wpAny_bind (wpAny_pure (wpAny_throw ?_))
  refine wpAny_bind (wpAny_isInstance (T := "StopIteration") (b := true) ⟨_, Heap.get?_push_size _ rfl, rfl⟩ isSubtype_stop ?_)
  exact wpAny_pure (hQ _ (((Heap.SameBut.update ..).extBut.push _).push _))
theorem walks_e (hh : A.handled = none) (I : Addr) (hne : d ≠ I) : Walks prog w A I [I, d] [I] es.size (fun i v => ∃ e, es[i]? = some e ∧ v = e.key) (fun i h => h.IsKeyIter I d i es.size ep ∧ EAt h d es ep) where
  sub := fun b hb => by simp at hb; simp [hb]
  frame := fun _ _ _ st hk => ⟨st.1.at fun o e => hk I (by simp) o e, st.2.keep fun o e => hk d (by simp) o e⟩
  item := fun i s Q E hi st hQ => next_e st.1 st.2 hi fun h' hit' hs' => hQ _ h' s.toks ⟨_, Array.getElem?_eq_getElem hi, rfl⟩ ⟨hit', st.2.keep fun o e => hs'.extBut d o hne e⟩ fun b o hb e => hs'.extBut b o (fun h => hb (by simp [h])) e
  done := fun s Q E st hQ => last_e hh st.1 st.2 fun h' he' => hQ h' s.toks fun b o hb e => he' b o (fun h => hb (by simp [h])) e
  self := fun _ _ _ _ st hQ => wpAny_pyIter_keyiter st.1 hQ
theorem kdl_e (lo : (d == sysModules) = false) : KdlSrc prog w "dict" d d es.size (fun i v => ∃ e, es[i]? = some e ∧ v = e.key) (fun h => EAt h d es ep) where
  type := fun _ hm => hm.ty
  there := fun _ hm => ⟨hm.lt, hm.lt⟩
  keep := fun _ _ hm hk => hm.keep fun o e => hk d (.inl rfl) o e
  notList := by decide
  notTuple := by decide
  hint := fun _ _ _ _ hm hq => kdl_hint_dict hm.ty hq
  iter := fun _ _ hh hm => ⟨_, _, (fun _ _ hq => iter_e lo hm hq), walks_e hh _ (Nat.ne_of_lt hm.lt), ⟨⟨_, Heap.get?_push_size _ rfl, rfl, rfl⟩, hm.keep fun o e => Heap.get?_push_of_some _ e⟩⟩
end
end L2

set_option Elab.async false
set_option linter.all false
set_option maxRecDepth 100000
set_option maxHeartbeats 4000000
namespace L2
open PySem PySem.Spec PyProof.Rows PySem.W
/-! a list that rises already, sorted -/
def Lx (a b : Int × Int) : Prop := a.1 < b.1 ∨ (a.1 = b.1 ∧ a.2 < b.2)
/-- the tuples of two whole numbers behind a list's items -/
def Tw (h : Heap) (k : Int × Int) (v : Value) : Prop := ∃ b o n t u, v = .ref b ∧ h.get? b = some o ∧ o.cls = .type "tuple" ∧ o.data = .seq #[.int k.1 t, .int k.2 u] n
theorem Tw.keep {h h' : Heap} {k : Int × Int} {v : Value} (x : Tw h k v) (e : ∀ b o, h.get? b = some o → o.cls = .type "tuple" → h'.get? b = some o) : Tw h' k v := by
  obtain ⟨b, o, n, t, u, e1, e2, e3, e4⟩ := x
  exact ⟨b, o, n, t, u, e1, e b o e2 e3, e3, e4⟩
theorem minRun_le : ∀ n : Nat, n ≤ 100 → minRun' n n 0 ≤ n := by
  have h : ∀ n : Fin 101, minRun' n.val n.val 0 ≤ n.val := by decide +kernel
  exact fun n hn => h ⟨n, Nat.lt_succ_of_le hn⟩
section
variable {prog : Program} {w : World} {A : Around} {E : Value → Shared → Prop} {s : Shared}
theorem asc_run {st : SortSt} {n : Nat} {Q : Option Nat → SortSt → Prop} (h1 : 1 ≤ n) (hlt : ∀ x, 1 ≤ x → x < n → ∀ Q' : Option Bool → SortSt → Prop, Q' (some false) st → wpS (model prog w) A E s (ltAt' x (x - 1)) Q' st) (q : Q (some n) st) :
    wpS (model prog w) A E s (countRun' 0 n) Q st := by
  rw [countRun0_eq]
  refine wpS_bind ?_
  unfold ascLoop
  refine wpS_forRange (I := fun x c st' => st' = st ∧ c = (none, x)) ?step ?fin ⟨rfl, rfl⟩
  case fin =>
    rintro c st' ⟨rfl, rfl⟩
    dsimp only
    rw [show max 1 n = n by omega, if_pos (by simp)]
    exact wpS_pure q
  case step =>
    rintro x c st' hx hn ⟨rfl, rfl⟩
    dsimp only
    refine wpS_bind (hlt x hx hn _ ?_)
    simp only [Bool.false_eq_true, if_false]
    exact wpS_pure ⟨rfl, rfl⟩
theorem asc_runs {st : SortSt} {n : Nat} {Q : Unit → SortSt → Prop} (h1 : 2 ≤ n) (hn : n ≤ 100) (hz : (arrOf st).size = n) (hp : pendingOf st = #[]) (hlt : ∀ x, 1 ≤ x → x < n → ∀ Q' : Option Bool → SortSt → Prop, Q' (some false) st → wpS (model prog w) A E s (ltAt' x (x - 1)) Q' st)
    (h : ∀ st', arrOf st' = arrOf st → failedOf st' = failedOf st → Q () st') : wpS (model prog w) A E s sortRuns' Q st := by
  have hm := minRun_le n hn
  rw [sortRuns'_eq]
  refine wpS_bind (wpS_get ?_)
  dsimp only
  simp only [hz]
  refine wpS_bind (wpS_mono (wpS_forRange
    (I := fun x c st' => (x = 0 ∧ c = (none, 0) ∧ st' = st) ∨ (1 ≤ x ∧ c = (none, n) ∧ arrOf st' = arrOf st ∧ failedOf st' = failedOf st ∧ pendingOf st' = #[(0, n, 0)]))
    (Q := fun c st' => c = (none, n) ∧ arrOf st' = arrOf st ∧ failedOf st' = failedOf st ∧ pendingOf st' = #[(0, n, 0)]) ?step ?fin (.inl ⟨rfl, rfl, rfl⟩)) ?post)
  case fin =>
    rintro c st' (⟨hx, _, _⟩ | ⟨_, hc, hD⟩)
    · omega
    · exact ⟨hc, hD⟩
  case step =>
    rintro x c st' _ hx (⟨rfl, rfl, rfl⟩ | ⟨hx1, rfl, hD⟩)
    · dsimp only
      rw [if_neg (by omega)]
      simp only [Nat.sub_zero, Nat.zero_add]
      refine wpS_bind (asc_run (by omega) hlt ?_)
      dsimp only
      rw [if_neg (by omega)]
      refine wpS_bind (wpS_get ?_)
      have hb : (pendingOf st').back? = none := by rw [hp]; rfl
      rw [hb]
      dsimp only
      exact wpS_bind (wpS_modify (wpS_pure (.inr ⟨by omega, rfl, rfl, rfl, by show (pendingOf st').push _ = _; rw [hp]; rfl⟩)))
    · dsimp only
      rw [if_pos (Nat.le_refl _)]
      exact wpS_pure ⟨rfl, hD⟩
  case post =>
    rintro c st' ⟨rfl, hD⟩
    dsimp only
    refine wpS_bind (wpS_mono (wpS_forRange (I := fun _ c st'' => st'' = st' ∧ c = (none, ())) (Q := fun c st'' => st'' = st' ∧ c = (none, ())) ?_ (fun _ _ hh => hh) ⟨rfl, rfl⟩) ?_)
    · rintro x c st'' _ _ ⟨rfl, rfl⟩
      refine wpS_bind (wpS_get ?_)
      rw [if_pos (by rw [hD.2.2]; exact Nat.le_refl 1)]
      exact wpS_pure ⟨rfl, rfl⟩
    · rintro c st'' ⟨rfl, rfl⟩
      exact wpS_pure (h _ hD.1 hD.2.1)
/-- the later of two that rise is not below -/
theorem tw_lt {k l : Int × Int} {v u : Value} {Q : Bool → Shared → Prop} (hv : Tw s.heap k v) (hu : Tw s.heap l u) (hl : Lx l k) (q : Q false s) : wpAny (model prog w) A (keyLt' (tuples' true) v u) Q E s := by
  obtain ⟨b, o, n, t1, t2, rfl, e2, e3, e4⟩ := hv
  obtain ⟨b', o', n', u1, u2, rfl, f2, f3, f4⟩ := hu
  refine kat_lt e2 e4 f2 f4 ?_
  show KatLex prog w A true _ Q [(.int k.1 t1, .int l.1 u1), (.int k.2 t2, .int l.2 u2)] 0 s
  refine kat_cons (wpAny_eqBool_int ?_)
  by_cases e : k.1 = l.1
  · have h2 : l.2 < k.2 := by
      rcases hl with h | h
      · omega
      · exact h.2
    rw [show (k.1 == l.1) = true by simp [e]]
    refine kat_yes (kat_cons (wpAny_eqBool_int ?_))
    rw [show (k.2 == l.2) = false by simp; omega]
    refine kat_no (kat_one _ _ (lt_int ?_))
    rw [show decide (k.2 < l.2) = false by simp; omega]
    exact q
  · have h1 : l.1 < k.1 := by
      rcases hl with h | h
      · exact h
      · exact absurd h.1.symm e
    rw [show (k.1 == l.1) = false by simpa using e]
    refine kat_no ?_
    refine oneLt_int ?_
    rw [show decide (k.1 < l.1) = false by simp; omega]
    exact q
theorem tw_ltAt {st : SortSt} {i j : Nat} {k l : Int × Int} {v u p q : Value} {Q : Option Bool → SortSt → Prop} (hk : kindOf st = tuples' true) (hi : (arrOf st)[i]? = some (v, p)) (hj : (arrOf st)[j]? = some (u, q)) (hv : Tw s.heap k v) (hu : Tw s.heap l u) (hl : Lx l k)
    (h : Q (some false) st) : wpS (model prog w) A E s (ltAt' i j) Q st := by
  rw [ltAt'_eq]
  refine wpS_bind (wpS_get ?_)
  show wpS _ _ _ _ (do let x ← elem' (arrOf st) i; let y ← elem' (arrOf st) j; lt' x y) Q st
  rw [elem'_eq, elem'_eq, hi, hj]
  refine wpS_bind (wpS_pure (wpS_bind (wpS_pure ?_)))
  rw [lt'_eq]
  refine wpS_bind (wpS_get ?_)
  rw [hk]
  refine wpS_bind (wpS_lift (wpAny_attempt (tw_lt hv hu hl ⟨rfl, ?_⟩)))
  exact wpS_pure h
theorem tw_firsts {h : Heap} {ks : List (Int × Int)} {vs : List Value} (hp : Paired (Tw h) ks vs) : ∃ fs, KatTups h vs fs ∧ fs.length = vs.length ∧ ∀ f ∈ fs, ∃ i t, f = Value.int i t := by
  induction hp with
  | nil => exact ⟨[], .nil, rfl, fun f hf => by cases hf⟩
  | @cons k v ks vs r _ ih =>
    obtain ⟨fs, h1, h2, h3⟩ := ih
    obtain ⟨b, o, n, t, u, rfl, e2, e3, e4⟩ := r
    refine ⟨.int k.1 t :: fs, .cons e2 e3 e4 rfl h1, by rw [List.length_cons, List.length_cons, h2], fun f hf => ?_⟩
    rcases List.mem_cons.mp hf with rfl | hf
    · exact ⟨_, _, rfl⟩
    · exact h3 f hf
theorem list_sort_asc {a : Addr} {vs : List Value} {n : Nat} {ks : List (Int × Int)} {P : PySem.Fin → Shared → Prop} (ho : s.heap.get? a = some (seqObj "list" vs.toArray n)) (hp : Paired (Tw s.heap) ks vs) (asc : ks.Pairwise Lx) (hl : vs.length ≤ 100)
    (h : P (.done (.ret .none)) { s with heap := sortedHeap s.heap a vs vs.toArray }) : wpAny (model prog w) A (Builtin.«list.sort» ⟨[.ref a], []⟩) P E s := by
  rw [list_sort_plain]
  have ha : a < s.heap.objs.size := Heap.lt_size ho
  refine wpAny_bind (listItems_at ho rfl ?_)
  refine wpAny_bind (listUpdate_at ho rfl ?_ (by rw [List.size_toArray, sizeLine_eq]; omega) (Nat.zero_le _))
  obtain ⟨e1, ho1⟩ : ∃ e1, (s.heap.update a (Obj.mapSeq fun _ => #[])).get? a = some (seqObj "list" #[] e1) := ⟨_, get?_update_seq ho (fun _ => #[])⟩
  refine wpAny_bind (seqEpoch_at ho1 rfl ?_)
  refine wpAny_bind (wpAny_newTuple ?_ (by show vs.length ≤ _; rw [sizeLine_eq]; omega))
  refine wpAny_bind (wpAny_newList ?_ (Nat.zero_le _))
  refine wpAny_holding ?_
  have ho6 : (((s.heap.update a (Obj.mapSeq fun _ => #[])).push (seqObj "tuple" vs.toArray 0)).push (seqObj "list" #[] 0)).get? a = some (seqObj "list" #[] e1) := by
    rw [Heap.get?_push_ne _ _ _ (by rw [size_push', Heap.size_update]; exact Nat.ne_of_lt (Nat.lt_succ_of_lt ha)), Heap.get?_push_ne _ _ _ (by rw [Heap.size_update]; exact Nat.ne_of_lt ha)]
    exact ho1
  have hp6 : Paired (Tw (((s.heap.update a (Obj.mapSeq fun _ => #[])).push (seqObj "tuple" vs.toArray 0)).push (seqObj "list" #[] 0))) ks vs := Paired.imp' (fun k v z => z.keep fun b o e c => by
    refine Heap.get?_push_of_some _ (Heap.get?_push_of_some _ ?_)
    have ne : a ≠ b := fun z => by
      subst z
      rw [ho] at e
      cases e
      exact absurd (show Value.type "list" = Value.type "tuple" from c) (by intro z; injection z with z; revert z; decide)
    exact (Heap.get?_update_other _ _ ne).trans e) hp
  show wpAny (model prog w) A _ P E { s with heap := ((s.heap.update a (Obj.mapSeq fun _ => #[])).push (seqObj "tuple" vs.toArray 0)).push (seqObj "list" #[] 0) }
  dsimp only
  have hsz : vs.toArray.size = vs.length := by simp
  have fin : ∀ st' : SortSt, arrOf st' = vs.toArray.zip vs.toArray → P (.done (.ret .none)) { s with heap := sortedHeap s.heap a vs ((arrOf st').map (·.2)) } := fun st' e => by
    have : (arrOf st').map (·.2) = vs.toArray := by
      rw [e]
      apply Array.toList_inj.mp
      rw [Array.toList_map, Array.toList_zip]
      simp [List.map_snd_zip]
    rw [this]
    exact h
  have size2 : ∀ st' : SortSt, arrOf st' = vs.toArray.zip vs.toArray → ((arrOf st').map (·.2)).size ≤ sizeLine + 1 := fun st' e => by
    rw [Array.size_map, e, Array.size_zip, hsz, sizeLine_eq]
    omega
  by_cases h2 : vs.toArray.size < 2
  · rw [if_pos h2, if_pos h2]
    refine wpAny_bind (wpAny_pure ?_)
    rw [StateT.run_pure]
    refine wpAny_bind (wpAny_pure ?_)
    dsimp only
    refine wpAny_bind (seqEpoch_at ho6 rfl ?_)
    refine wpAny_bind (listUpdate_at ho6 rfl ?_ (hsz2 := size2 (SortSt.mk' general' (vs.toArray.zip vs.toArray) #[] 7 none) rfl))
    simp only [bne_self_eq_false, Bool.false_eq_true, if_false]
    exact wpAny_pure (fin (SortSt.mk' general' (vs.toArray.zip vs.toArray) #[] 7 none) rfl)
  · rw [if_neg h2, if_neg h2]
    obtain ⟨fs, t1, t2, t3⟩ := tw_firsts hp6
    refine wpAny_bind (kat_kind (T := .type "int") t1 (by omega) (fun f hf => by
      obtain ⟨i, t, rfl⟩ := t3 f hf
      exact .now) (by decide) ?_)
    rw [show (Value.type "int" != Value.type "tuple") = true by decide]
    have kl := Paired.length hp6
    refine wpAny_bind (wpAny_mono (asc_runs (st := SortSt.mk' (tuples' true) (vs.toArray.zip vs.toArray) #[] 7 none) (n := vs.length)
      (Q := fun _ st' => arrOf st' = vs.toArray.zip vs.toArray ∧ failedOf st' = none) (by omega) hl (by show (vs.toArray.zip vs.toArray).size = _; simp) rfl (fun x hx hxn Q' hq => ?_) fun st' a1 a2 => ⟨a1, a2⟩) ?_ fun _ _ e => e)
    · have g1 : vs[x]? = some vs[x] := List.getElem?_eq_getElem hxn
      have g2 : vs[x - 1]? = some (vs[x - 1]'(by omega)) := List.getElem?_eq_getElem (by omega)
      have k1 : ks[x]? = some (ks[x]'(by omega)) := List.getElem?_eq_getElem (by omega)
      have k2 : ks[x - 1]? = some (ks[x - 1]'(by omega)) := List.getElem?_eq_getElem (by omega)
      refine tw_ltAt (p := vs[x]) (q := vs[x - 1]'(by omega)) (v := vs[x]) (u := vs[x - 1]'(by omega)) rfl ?_ ?_ (Paired.at hp6 x _ _ k1 g1) (Paired.at hp6 (x - 1) _ _ k2 g2) (List.pairwise_iff_getElem.mp asc (x - 1) x (by omega) (by omega) (by omega)) hq
      · show (vs.toArray.zip vs.toArray)[x]? = _
        rw [← Array.getElem?_toList, Array.toList_zip, List.getElem?_zip_eq_some]
        exact ⟨g1, g1⟩
      · show (vs.toArray.zip vs.toArray)[x - 1]? = _
        rw [← Array.getElem?_toList, Array.toList_zip, List.getElem?_zip_eq_some]
        exact ⟨g2, g2⟩
    rintro ⟨⟨⟩, st'⟩ s' ⟨rfl, hA, hf⟩
    dsimp only
    refine wpAny_bind (seqEpoch_at ho6 rfl ?_)
    refine wpAny_bind (listUpdate_at ho6 rfl ?_ (hsz2 := size2 st' hA))
    rw [hf]
    simp only [bne_self_eq_false, Bool.false_eq_true, if_false]
    exact wpAny_pure (fin st' hA)
/-- sorted(d): d's keys are tuples of two whole numbers that rise -/
theorem sorted_asc {d : Addr} {es : Array DictEntry} {ep : Nat} {ks : List (Int × Int)} {Q : Value → Shared → Prop} (hh : A.handled = none) (lo : (d == sysModules) = false) (hm : EAt s.heap d es ep) (hp : Paired (fun k (e : DictEntry) => Tw s.heap k e.key) ks es.toList) (asc : ks.Pairwise Lx) (hl : ks.length ≤ 100)
    (h : ∀ (h1 h' : Heap) (tk e : Nat) (vs : List Value), (∀ b o, s.heap.get? b = some o → h1.get? b = some o) → (∀ b o, h1.get? b = some o → h'.get? b = some o) → h'.get? h1.objs.size = some (seqObj "list" vs.toArray e) → vs = es.toList.map (·.key) → Q (.ref h1.objs.size) { s with heap := h', toks := tk }) :
    wpAny (model prog w) A (call (.builtin "sorted") [.ref d]) Q E s := by
  have hsz : es.size = ks.length := by rw [← Array.length_toList, Paired.length hp]
  have h9 : es.size ≤ sizeLine := by rw [sizeLine_eq]; omega
  refine Calls.call_function_entry kind_sorted plain_sorted entry_sorted (args_sorted1 _) ?_
  unfold Builtin.«sorted»
  refine wpAny_bind (m := checkCount "sorted" 1 1 _) (wpAny_pure ?_)
  refine wpAny_bind (kdu_collect (A := A.in1) (kdl_e (d := d) (es := es) (ep := ep) lo) hh hm h9 fun h' tk acc hk hacc => ?_)
  have ev : acc.toList = es.toList.map (·.key) := by
    refine List.ext_getElem? fun i => ?_
    rw [List.getElem?_map, Array.getElem?_toList, Array.getElem?_toList]
    by_cases hi : i < es.size
    · have g : acc[i]? = some (acc[i]'(by rw [hacc.1]; exact hi)) := Array.getElem?_eq_getElem _
      obtain ⟨e, he, ee⟩ := hacc.2 i _ g
      rw [g, he, ee]
      rfl
    · rw [Array.getElem?_eq_none (by rw [hacc.1]; omega), Array.getElem?_eq_none (by omega)]
      rfl
  have hl' : acc.toList.length = es.size := by rw [Array.length_toList]; exact hacc.1
  refine wpAny_bind (wpAny_newList ?_ (by rw [hl']; exact h9))
  have hoL : (h'.push (seqObj "list" acc.toList.toArray 0)).get? h'.objs.size = some (seqObj "list" acc.toList.toArray 0) := Heap.get?_push_size _ rfl
  have hpp : Paired (Tw (h'.push (seqObj "list" acc.toList.toArray 0))) ks acc.toList := by
    have kp : ∀ b o, s.heap.get? b = some o → (h'.push (seqObj "list" acc.toList.toArray 0)).get? b = some o := fun b o e => Heap.get?_push_of_some _ (hk b o e)
    generalize h'.push (seqObj "list" acc.toList.toArray 0) = g at kp
    rw [ev]
    clear ev hl' hacc hl asc hsz h9 hm hoL
    generalize es.toList = l at hp
    induction hp with
    | nil => exact .nil
    | cons r _ ih => exact .cons (r.keep fun b o e _ => kp b o e) ih
  show wpAny _ _ _ _ _ { s with heap := h'.push (seqObj "list" acc.toList.toArray 0), toks := tk }
  refine wpAny_bind (wpAny_holding (wpAny_call_entry slot_list_sort ⟨_, hoL, rfl⟩ entry_list_sort (list_sort_asc hoL hpp asc (by omega) ⟨_, rfl, ?_⟩) (args_list_sort _)))
  obtain ⟨e, he⟩ := sortedHeap_at (vs := acc.toList) (out := acc.toList.toArray) hoL
  exact wpAny_pure ⟨_, rfl, h h' _ tk e acc.toList hk (fun b o q1 => by
    have hb := Heap.lt_size q1
    rw [sortedHeap_old (Nat.ne_of_lt hb) (by rw [Heap.size_push]; exact Nat.lt_succ_of_lt hb)]
    exact Heap.get?_push_of_some _ q1) he ev⟩
end
section
variable {X : Cx}
def kk (k : Int × Int) : List Key := [Sum.inl k.1, Sum.inl k.2]
theorem kcall_sortedT (hc : X.calm = true) : CallR X (.builtin "sorted") (fun xs H Q => ∃ (a : Addr) (kvs : List (List Key × V)) (ks : List (Int × Int)), xs = [.ref a] ∧ H a = some (.dT kvs) ∧ kvs.map Prod.fst = ks.map kk ∧ ks.Pairwise Lx ∧ ks.length ≤ 100 ∧
    ∀ (l : Addr) (bs : List V), H l = none → Paired (fun k v => ∃ b, v = .ref b ∧ H b = some (.tup [.int k.1, .int k.2])) ks bs → Q (.ref l) (upd H l (.lst bs))) := by
  intro pins s σ H xs us Q I r h
  obtain ⟨a, kvs, ks, rfl, ha, ek, asc, h100, q⟩ := h
  obtain ⟨u, rfl, rx⟩ := vals1 r
  cases rx
  obtain ⟨z, lo, xs, rp, o, es, ep, h1, h2, h3, h4, h5⟩ := (show ObjOk X.prog X.w H s.heap a (.dT kvs) from I.hok a _ ha)
  have two : ∀ (kvs : List (List Key × V)) (ks : List (Int × Int)) (xs : List (List Key × Addr × Value)), kvs.map Prod.fst = ks.map kk → Paired (fun (p : List Key × V) (q : List Key × Addr × Value) => p.1 = q.1 ∧ H q.2.1 = some (.tup (p.1.map kV)) ∧ RelV p.2 q.2.2) kvs xs →
      Paired (fun k (e : DictEntry) => Tw s.heap k e.key) ks (xs.map (entryOfKey (tupleKind (mixKind X.prog X.w)))) ∧
      Paired (fun k v => ∃ b, v = V.ref b ∧ H b = some (.tup [.int k.1, .int k.2])) ks (xs.map fun x => V.ref x.2.1) := by
    intro kvs
    induction kvs with
    | nil =>
      intro ks xs e rp
      cases rp
      cases ks with
      | nil => exact ⟨.nil, .nil⟩
      | cons k ks => cases e
    | cons p kvs ih =>
      intro ks xs e rp
      cases ks with
      | nil => cases e
      | cons k ks =>
        cases rp with
        | @cons _ x _ xs hq t =>
          obtain ⟨e1, e2⟩ := List.cons.inj e
          obtain ⟨i1, i2⟩ := ih ks xs e2 t
          obtain ⟨q1, q2, _⟩ := hq
          have hb : H x.2.1 = some (.tup [.int k.1, .int k.2]) := by
            rw [q2]
            have : p.1 = kk k := e1
            rw [this]
            rfl
          refine ⟨.cons ?_ i1, .cons ⟨_, rfl, hb⟩ i2⟩
          obtain ⟨_, its, rv, o, g1, g2, ⟨n, g3⟩, _⟩ := (show ObjOk X.prog X.w H s.heap x.2.1 (.tup [.int k.1, .int k.2]) from I.hok _ _ hb)
          cases rv with
          | cons r1 rv =>
            cases rv with
            | cons r2 rv =>
              cases rv
              obtain ⟨t, rfl⟩ := r1
              obtain ⟨u, rfl⟩ := r2
              exact ⟨_, o, n, t, u, rfl, g1, g2, g3⟩
  obtain ⟨p1, p2⟩ := two kvs ks xs ek rp
  refine sorted_asc (es := es) (ep := ep) (ks := ks) (I.ok.hd hc) lo ⟨o, h1, h2, h3⟩ (by rw [h4]; exact p1) asc h100 fun g1 g2 tk e vs k1 k2 he ev => ?_
  have I1 : Inv X pins σ H { s with heap := g1, toks := tk } := I.un (Un.kept k1) (I.hok.kept k1)
  refine ⟨.ref g1.objs.size, _, I1.laid (t' := tk) (o := .lst (xs.map fun x => V.ref x.2.1)) k2 (Nat.le_refl _) ?_, rfl, q _ _ (I1.hok.fresh (Nat.le_refl _)) p2⟩
  refine ⟨?_, vs, e, ?_, ?_⟩
  · have := Paired.length p2
    rw [sizeLine_eq]
    omega
  · rw [ev, h4, List.map_map]
    clear p1 p2 h4 ev rp two h5
    induction xs with
    | nil => exact .nil
    | cons x xs ih => exact .cons rfl ih
  · simpa [seqObj] using he
end
end L2

set_option Elab.async false
set_option linter.all false
set_option maxRecDepth 100000
set_option maxHeartbeats 4000000
namespace L2
open PySem PySem.Spec PyProof.Rows PySem.W
theorem range_bools_any : ∀ bs : List Bool, ((List.range bs.length).any fun i => bs.getD i false) = bs.any id
  | [] => rfl
  | b :: bs => by
    have ih := range_bools_any bs
    rw [List.length_cons, List.range_succ_eq_map, List.any_cons, List.any_map, List.any_cons, ← ih]
    rfl
theorem bt_any : bootBuiltins "any" = some (.builtin "any") := by decide +kernel
section
variable {X : Cx}
/-- any(a list of bools) -/
theorem kcall_any (K : PySem.W.Frag) (hc : X.calm = true) (hK : X.K = K := by rfl) : CallR X (.builtin "any") (fun xs H Q => ∃ (p : Addr) (bs : List Bool), xs = [.ref p] ∧ SqL K H p (bs.map V.bl) ∧ Q (.bl (bs.any id)) H) := by
  subst hK
  intro pins s σ H xs us Q I r h
  obtain ⟨p, bs, rfl, hq, q⟩ := h
  obtain ⟨u, rfl, ru⟩ := vals1 r
  cases ru
  obtain ⟨its, rv, pl, _⟩ := I.list hq
  have hl : s.heap.IsList p its.toArray := pl.isList
  have hlt : p < s.heap.objs.size := by obtain ⟨_, e, _⟩ := hl; exact Heap.lt_size e
  refine call_any_walk (wpAny_pyIter_list hl ⟨_, _, _, _, _, _, fun i => bs.getD i false, rfl, Walks.list (A := X.A.in1) (I.ok.hd hc) _ p (Nat.ne_of_lt hlt) its.toArray, ⟨⟨_, Heap.get?_push_size _ rfl, rfl, rfl⟩, hl.push _⟩, fun i v s' Q' E' hv hQ => ?_, fun h' tk hk => ⟨.bl _, H, I.kept (old_kept hk), rfl, ?_⟩⟩)
  · have hv' : its[i]? = some v := by simpa using hv
    rw [bools_at rv, List.getElem?_map] at hv'
    obtain ⟨b, hb, rfl⟩ := Option.map_eq_some_iff.mp hv'
    have e : bs.getD i false = b := by simp [List.getD, hb]
    have z : Q' (bs.getD i false) s' := hQ
    rw [e] at z
    exact wpAny_truthy_bool z
  · have e1 : its.toArray.size = bs.length := by
      have := rv.length
      rw [List.length_map] at this
      simp; omega
    rw [e1, range_bools_any bs]
    exact q
end
end L2

set_option Elab.async false
set_option linter.all false
namespace L2
open PySem PySem.Spec PyProof.Rows
end L2

set_option Elab.async false
set_option linter.all false
set_option maxRecDepth 100000
set_option maxHeartbeats 4000000
namespace L2
open PySem PySem.Spec PyProof.Rows
section
variable {X : Cx}
/-- a tuple in a list of tuples, all of one length -/
def rInTL (K : PySem.W.Frag) : R2 := fun x y H Q => ∃ a b xs ys cs, x = .ref a ∧ y = .ref b ∧ SqT K H a xs ∧ xs.all flatV = true ∧ SqL K H b ys ∧ TupsK K H xs.length cs ys ∧ Q (.bl (cs.any fun c => eqVs c xs)) H
theorem op_inTL (K : PySem.W.Frag) {k : Nat} (hr : Room k X.A) (hK : X.K = K := by rfl) : OpR X (compareOp .In) (rInTL K) := by
  subst hK
  intro pins s σ H x y v u Q I rx ry h
  obtain ⟨a, b, xs, ys, cs, rfl, rfl, ha, fx, hb, tk, q⟩ := h
  cases rx
  cases ry
  have hu : X.A.units + 64 < cLine := hr.units
  obtain ⟨its, r, pl, hz⟩ := I.list hb
  obtain ⟨xu, xr, xp, _⟩ := I.tuple ha
  classical
  have isT : ∀ {t : Addr} {c : List V}, SqT X.K H t c → isIn X.K H xs (.ref t) = eqVs c xs := fun {t c} ht => by
    unfold isIn
    by_cases hc : eqVs c xs = true
    · rw [hc]
      exact decide_eq_true ⟨t, c, rfl, ht, hc⟩
    · rw [decide_eq_false]
      · cases h : eqVs c xs with
        | true => exact absurd h hc
        | false => rfl
      · rintro ⟨t', c', e, ht', hc'⟩
        cases e
        rw [I.tuple_inj ht' ht] at hc'
        exact hc hc'
  have mem : ∀ {cs : List (List V)} {ys : List V} {us : List Value}, TupsK X.K H xs.length cs ys → Vals ys us → ∀ w ∈ us, SeqAt.EqAt X.A.in1 s w (.ref a) (isIn X.K H xs w) := by
    intro cs ys us tk
    unfold TupsK at tk
    induction tk generalizing us with
    | nil =>
      intro rv w hw
      cases rv
      cases hw
    | @cons c v cs ys hc t ih =>
      intro rv w hw
      cases rv with
      | @cons _ u1 _ us1 hu1 rv =>
        rcases List.mem_cons.mp hw with rfl | hw
        · obtain ⟨t1, rfl, ht1, n1, f1⟩ := hc
          cases hu1
          rw [isT ht1]
          by_cases tt : t1 = a
          · subst tt
            rw [I.tuple_inj ht1 ha, eqVs_self fx]
            exact SeqAt.EqAt.same _
          · obtain ⟨us', v1, p1, _⟩ := I.tuple ht1
            have m1 := v1.length
            have m2 := xr.length
            have z := SeqAt.RcAt.tuples (A := X.A.in1) (s := s) p1 xp (by show X.A.units + 1 < cLine; omega) (eqAt_get v1 xr f1 fx)
            have e : ((List.range (min us'.toArray.size xu.toArray.size)).all (fun j' => eqV (c.getD j' .non) (xs.getD j' .non)) && us'.toArray.size == xu.toArray.size) = eqVs c xs := by
              have z1 : us'.toArray.size = c.length := by rw [List.size_toArray]; exact m1.symm
              have z2 : xu.toArray.size = xs.length := by rw [List.size_toArray]; exact m2.symm
              have e5 : min us'.toArray.size xu.toArray.size = c.length := by rw [z1, z2, n1, Nat.min_self]
              rw [e5, range_all _ _ n1, z1, z2]
              rfl
            rw [e] at z
            exact SeqAt.EqAt.of_refs tt z
        · exact ih rv w hw
  have any : ∀ {cs : List (List V)} {ys : List V} {us : List Value}, TupsK X.K H xs.length cs ys → Vals ys us → us.any (isIn X.K H xs) = cs.any fun c => eqVs c xs := by
    intro cs ys us tk
    unfold TupsK at tk
    induction tk generalizing us with
    | nil =>
      intro rv
      cases rv
      rfl
    | @cons c v cs ys hc t ih =>
      intro rv
      cases rv with
      | @cons _ u1 _ us1 hu1 rv =>
        obtain ⟨t1, rfl, ht1, n1, f1⟩ := hc
        cases hu1
        rw [List.any_cons, List.any_cons, isT ht1, ih rv]
  refine SeqAt.in_listAt (isIn X.K H xs) pl.isList (fun w hw => mem tk r w (by simpa using hw)) ⟨.bl _, H, I, rfl, ?_⟩
  rw [show its.toArray.any (isIn X.K H xs) = its.any (isIn X.K H xs) by simp, any tk r]
  exact q
theorem kit_none_bool {K : PySem.W.Frag} : PySem.W.kitOne K (.type "NoneType") (.type "bool") = some false := by rfl
end
end L2

namespace K31
open PySem L2 L4

local macro_rules | `(tactic| walk_at "hp") => `(tactic| first | assumption | exact upd_same | (rw [upd_ne (by first | assumption | exact Ne.symm (by assumption) | exact ne_of_none (by assumption) (by assumption) | exact Ne.symm (ne_of_none (by assumption) (by assumption)))]; walk_at "hp"))
local macro_rules | `(tactic| walk_at "r1") => `(tactic| first | refine ⟨_, rfl, ?_⟩ | refine .inl ⟨_, _, _, _, rfl, rfl, SqL.of (by walk_at "hp"), rfl, ?_⟩ | refine .inr (.inl ⟨_, _, _, _, rfl, rfl, SqT.of (by walk_at "hp"), rfl, ?_⟩) | refine ⟨_, _, rfl, rfl, ?_⟩ | refine ⟨(show CMul _ _ from .inr ⟨by omega, by omega⟩), ?_⟩ | refine ⟨(show CMul _ _ from .inl ⟨by omega, by omega⟩), ?_⟩ | refine ⟨(show CDiv _ _ from ⟨by omega, by omega⟩), ?_⟩ | refine ⟨(show CPow _ _ from ⟨by decide, by decide, by decide⟩), ?_⟩ | refine ⟨(show (0 : Int) < _ by omega), ?_⟩ | refine ⟨_, _, _, _, rfl, rfl, (by walk_at "hp"), rfl, ?_⟩)
local macro_rules | `(tactic| walk_at "rd") => `(tactic| repeat walk_at "r1")

local macro_rules | `(tactic| walk_at "dc") => `(tactic| first | refine iteT ?_ | refine iteF ?_ | refine iteDT (by decide +kernel) ?_ | refine iteDF (by decide +kernel) ?_ | refine ⟨_, rfl, rfl, _, rfl, ?_⟩)
local macro_rules | `(tactic| walk_at "ds") => `(tactic| repeat walk_at "dc")

structure Cn where
  nm : Str
  pl : Nat
  cs : List Nat
structure Tb where
  m : Nat
  ws : List Nat
  cs : List Cn
def Cns (H : Hp) : List Cn → List V → Prop := Paired fun c v => ∃ t u, v = .ref t ∧ H t = some (.tup [.str c.nm, nV c.pl, .ref u]) ∧ H u = some (.tup (c.cs.map nV))
theorem Cns.same {H H' : Hp} (s : Same H H') {cs : List Cn} {vs : List V} (h : Cns H cs vs) : Cns H' cs vs := by
  unfold Cns at h ⊢
  induction h with
  | nil => exact .nil
  | cons r _ ih =>
    obtain ⟨t, u, e, h1, h2⟩ := r
    exact .cons ⟨t, u, e, s _ _ h1, s _ _ h2⟩ ih
theorem Cns.snoc {H : Hp} {cs : List Cn} {vs : List V} {c : Cn} {t u : Addr} (h : Cns H cs vs) (h1 : H t = some (.tup [.str c.nm, nV c.pl, .ref u])) (h2 : H u = some (.tup (c.cs.map nV))) : Cns H (cs ++ [c]) (vs ++ [.ref t]) := by
  unfold Cns at h ⊢
  induction h with
  | nil => exact .cons ⟨t, u, rfl, h1, h2⟩ .nil
  | cons r _ ih => exact .cons r ih
theorem Cns.len {H : Hp} {cs : List Cn} {vs : List V} (h : Cns H cs vs) : cs.length = vs.length := Paired.length h
theorem Cns.get {H : Hp} {cs : List Cn} {vs : List V} (h : Cns H cs vs) {i : Nat} {c : Cn} (hc : cs[i]? = some c) : ∃ t u, vs[i]? = some (.ref t) ∧ H t = some (.tup [.str c.nm, nV c.pl, .ref u]) ∧ H u = some (.tup (c.cs.map nV)) := by
  have hi : i < vs.length := by
    rw [← h.len]
    exact (List.getElem?_eq_some_iff.mp hc).1
  have e : vs[i]? = some vs[i] := List.getElem?_eq_getElem hi
  obtain ⟨t, u, e1, h1, h2⟩ := Paired.at h i c _ hc e
  exact ⟨t, u, by rw [e, e1], h1, h2⟩
def IsTb (H : Hp) (v : V) (T : Tb) : Prop := ∃ a w c vs, v = .ref a ∧ H a = some (.tup [nV T.m, .ref w, .ref c]) ∧ H w = some (.tup (T.ws.map nV)) ∧ H c = some (.tup vs) ∧ Cns H T.cs vs
theorem IsTb.same {H H' : Hp} (s : Same H H') {v : V} {T : Tb} (h : IsTb H v T) : IsTb H' v T := by
  obtain ⟨a, w, c, vs, e, h1, h2, h3, h4⟩ := h
  exact ⟨a, w, c, vs, e, s _ _ h1, s _ _ h2, s _ _ h3, h4.same s⟩
structure GoodT (T : Tb) : Prop where
  m1 : 1 ≤ T.m
  m9 : T.m ≤ 9
  ris : T.ws.Pairwise (· < ·)
  wlt : ∀ x ∈ T.ws, x < T.m
  cl : T.cs.length ≤ 16
  cn : ∀ c ∈ T.cs, c.nm.length ≤ 100 ∧ c.pl ≤ 2 ∧ Tn.Cs T.m c.pl c.cs
/-! as things -/
theorem pow_small {m k : Nat} (h9 : m ≤ 9) (k2 : k ≤ 2) : m ^ k ≤ 81 := by
  have h1 : m ^ k ≤ 9 ^ k := Nat.pow_le_pow_left h9 k
  have h2 : (9 : Nat) ^ k ≤ 9 ^ 2 := Nat.pow_le_pow_right (by decide) k2
  exact Nat.le_trans h1 h2
theorem Cns.tk {H H' : Hp} (s : Tk H H') {cs : List Cn} {vs : List V} (h : Cns H cs vs) : Cns H' cs vs := by
  unfold Cns at h ⊢
  induction h with
  | nil => exact .nil
  | cons r _ ih =>
    obtain ⟨t, u, e, h1, h2⟩ := r
    exact .cons ⟨t, u, e, s _ _ h1, s _ _ h2⟩ ih
theorem IsTb.tk {H H' : Hp} (s : Tk H H') {v : V} {T : Tb} (h : IsTb H v T) : IsTb H' v T := by
  obtain ⟨a, w, c, vs, e, h1, h2, h3, h4⟩ := h
  exact ⟨a, w, c, vs, e, s _ _ h1, s _ _ h2, s _ _ h3, h4.tk s⟩
theorem cut_ints (ns : List Int) (lo hi : Option Int) : ∃ ms : List Int, cutV (ns.map V.int) lo hi = ms.map V.int := by
  unfold cutV
  rw [← List.map_drop, ← List.map_take]
  exact ⟨_, rfl⟩
def signs : Str := "qwertyuiopasdfghjklzxcvbnm"
theorem sign_all : ((List.range 52).all fun k => (atI signs.cps.toList ((k : Int) - 26)).isSome) = true := by decide +kernel
theorem sign_at {i : Int} (h1 : -26 ≤ i) (h2 : i < 26) : ∃ c, atI signs.cps.toList i = some c := by
  have h := List.all_eq_true.mp sign_all (i + 26).toNat (List.mem_range.mpr (by omega))
  have e : (((i + 26).toNat : Nat) : Int) - 26 = i := by omega
  rw [e] at h
  exact Option.isSome_iff_exists.mp h
theorem at_nV {xs : List Nat} {i : Nat} (hi : i < xs.length) : atI (xs.map nV) (i : Int) = some (nV (Tn.at' xs i)) := by
  refine atI_nat ?_
  rw [List.getElem?_map, List.getElem?_eq_getElem hi]
  unfold Tn.at'
  rw [List.getD_eq_getElem?_getD, List.getElem?_eq_getElem hi]
  rfl
theorem in_nats (a : Nat) (ws : List Nat) : inV (nV a) (ws.map nV) = decide (a ∈ ws) := by
  induction ws with
  | nil => rfl
  | cons w ws ih =>
    unfold inV at ih ⊢
    rw [List.map_cons, List.any_cons, ih]
    have e : eqV (nV w) (nV a) = decide (a = w) := by
      by_cases h : a = w
      · rw [h]
        simp [eqV]
      · rw [decide_eq_false h]
        simp [eqV]
        omega
    rw [e, ← Bool.decide_or]
    exact decide_eq_decide.mpr List.mem_cons.symm
theorem flat_nats (ws : List Nat) : (ws.map nV).all flatV = true := by
  rw [List.all_map, List.all_eq_true]
  intro i _
  rfl
/-! promises -/
def spWell (K : PySem.W.Frag) : Sp := fun vs H Q _ => ∃ (a : Addr) (ns : List Int) (pl : Int), vs = [.ref a, .int pl] ∧ SqL K H a (ns.map V.int) ∧ ns.length ≤ 63 ∧ ∀ p H', H p = none → Same H H' → Wel H' p → Q (.ref p) H'
def spNames : Sp := fun vs H Q _ => ∃ (p : Addr) (k : Nat), vs = [.ref p, .int (k : Int)] ∧ Wel H p ∧ k ≤ 8 ∧ ∀ l xs H', Off p H H' → Wel H' p → H' l = some (.lst xs) → TL 16 xs → xs.Nodup → l ≠ p → Q (.ref l) H'
def spCells : Sp := fun vs H Q _ => ∃ (p : Addr) (m pl : Nat), vs = [.ref p, nV m, nV pl] ∧ Wel H p ∧ 1 ≤ m ∧ m ≤ 9 ∧ pl ≤ 2 ∧ ∀ t cs H', Off p H H' → Wel H' p → Tn.Cs m pl cs → H' t = some (.tup (cs.map nV)) → Q (.ref t) H'
def nmsOf' (T : Tb) : List Str := T.cs.map Cn.nm
def spTable : Sp := fun vs H Q _ => ∃ (p : Addr) (mo so : Nat), vs = [.ref p, nV mo, nV so] ∧ Wel H p ∧ 1 ≤ mo ∧ mo ≤ 9 ∧ so ≤ 8 ∧ ∀ v T H', Off p H H' → Wel H' p → GoodT T → (nmsOf' T).Nodup → IsTb H' v T → Q v H'
def spRight : Sp := fun vs H Q _ => ∃ (p : Addr), vs = [.ref p] ∧ Wel H p ∧ ∀ H', Off p H H' → Q (.bl true) H'
def spLaw (K : PySem.W.Frag) : Sp := fun vs H Q _ => ∃ (a : Addr) (ns : List Int), vs = [.ref a] ∧ SqL K H a (ns.map V.int) ∧ ns.length ≤ 63 ∧ ∀ H', Q (.bl true) H'
def Sh (T : Tb) : List (Str × Nat) := T.cs.map fun c => (c.nm, c.pl)

/-! names that are all unlike -/
theorem nd_cut {xs : List V} (h : xs.Nodup) (lo hi : Option Int) : (cutV xs lo hi).Nodup := by
  unfold cutV
  exact h.sublist ((List.take_sublist _ _).trans (List.drop_sublist _ _))
theorem rot8 (f : Nat) : (cutV [.str "and", .str "or", .str "not", .str "then", .str "grades", .str "wished", .str "false", .str "true"] (some ((f : Int) % 8)) none ++ cutV [.str "and", .str "or", .str "not", .str "then", .str "grades", .str "wished", .str "false", .str "true"] none (some ((f : Int) % 8))).Nodup := by
  have all : ∀ r : Nat, r < 8 → (cutV [.str "and", .str "or", .str "not", .str "then", .str "grades", .str "wished", .str "false", .str "true"] (some (r : Int)) none ++ cutV [.str "and", .str "or", .str "not", .str "then", .str "grades", .str "wished", .str "false", .str "true"] none (some (r : Int))).Nodup := by decide +kernel
  have := all (f % 8) (Nat.mod_lt _ (by decide))
  rw [Int.natCast_emod] at this
  exact this
theorem mul_len' (c n : Nat) : (Txt.mul (Str.mk #[c]) (n : Int)).length = n := by
  unfold Txt.mul
  split
  · rename_i h
    show 0 = n
    omega
  · split
    · rename_i h1 h2
      have h2 : (n : Int) = 1 := by
        rcases (Bool.or_eq_true _ _).mp h2 with h | h
        · exact eq_of_beq h
        · exact absurd h (by show ¬ ((1 : Nat) == 0) = true; decide)
      show 1 = n
      omega
    · have aux : ∀ (k : Nat) (acc : Array Nat), ((List.replicate k #[c]).foldl (· ++ ·) acc).size = acc.size + k := by
        intro k
        induction k with
        | zero => intro acc; rfl
        | succ k ih =>
          intro acc
          rw [List.replicate_succ, List.foldl_cons, ih, Array.size_append]
          show acc.size + 1 + k = _
          omega
      show ((List.replicate (n : Int).toNat #[c]).foldl (· ++ ·) #[]).size = n
      rw [aux]
      simp
theorem nd_map {α : Type} (f : α → V) (L : List α) (h : L.Nodup) (inj : ∀ a ∈ L, ∀ b ∈ L, f a = f b → a = b) : (L.map f).Nodup := by
  unfold List.Nodup
  rw [List.pairwise_map]
  exact List.Pairwise.imp_of_mem (fun {a b} ha hb hab he => hab (inj a ha b hb he)) h
def nm1 (c : Nat) (j : Nat) : V := .str (Txt.mul (Str.mk #[c]) (0 + (j : Int) + 2))
theorem nm1_nd (c n : Nat) : ((List.range n).map (nm1 c)).Nodup := by
  refine nd_map _ _ List.nodup_range fun a _ b _ h => ?_
  have h1 := congrArg Str.length (V.str.inj h)
  rw [show 0 + (a : Int) + 2 = ((a + 2 : Nat) : Int) by omega, show 0 + (b : Int) + 2 = ((b + 2 : Nat) : Int) by omega, mul_len', mul_len'] at h1
  omega
def sgAt (i : Int) : Nat := (atI signs.cps.toList i).getD 0
theorem sg_inj : ∀ a : Nat, a < 26 → ∀ b : Nat, b < 26 → sgAt (a : Int) = sgAt (b : Int) → a = b := by decide +kernel
theorem sg_of {i : Int} {c : Nat} (h : atI signs.cps.toList i = some c) : c = sgAt i := by
  unfold sgAt
  rw [h]
  rfl
def nm2 (f : Nat) (A B : Str) (j : Nat) : V := .str (A ++ Str.mk #[sgAt (((f : Int) + (0 + (j : Int))) % 26)] ++ B)
theorem mid_inj {A B : Str} {c d : Nat} (h : A ++ Str.mk #[c] ++ B = A ++ Str.mk #[d] ++ B) : c = d := by
  have h1 : A.cps ++ #[c] ++ B.cps = A.cps ++ #[d] ++ B.cps := congrArg Str.cps h
  have h2 := congrArg Array.toList h1
  simp only [Array.toList_append] at h2
  have h3 := List.append_cancel_right h2
  have h4 := List.append_cancel_left h3
  simpa using h4
theorem nm2_nd (f n : Nat) (A B : Str) (hn : n ≤ 8) : ((List.range n).map (nm2 f A B)).Nodup := by
  refine nd_map _ _ List.nodup_range fun a ha b hb h => ?_
  have a8 := List.mem_range.mp ha
  have b8 := List.mem_range.mp hb
  have h1 := mid_inj (V.str.inj h)
  rw [show ((f : Int) + (0 + (a : Int))) % 26 = (((f + a) % 26 : Nat) : Int) by omega, show ((f : Int) + (0 + (b : Int))) % 26 = (((f + b) % 26 : Nat) : Int) by omega] at h1
  have h2 := sg_inj _ (Nat.mod_lt _ (by decide)) _ (Nat.mod_lt _ (by decide)) h1
  omega
theorem nd_of_map {ts : List Str} (h : (ts.map V.str).Nodup) : ts.Nodup := by
  unfold List.Nodup at h ⊢
  rw [List.pairwise_map] at h
  exact h.imp fun hab e => hab (by rw [e])
/-! lines -/
def nmsOf (T : Tb) : List Str := T.cs.map Cn.nm
/-! gradings -/
/-! follows -/
theorem nms_sh {T U : Tb} (h : Sh T = Sh U) : nmsOf T = nmsOf U := by
  have e : ∀ X : Tb, nmsOf X = (Sh X).map Prod.fst := fun X => by
    unfold nmsOf Sh
    rw [List.map_map]
    rfl
  rw [e, e, h]
theorem at0 {x : V} {us : List V} : atI (x :: us) 0 = some x := atI_nat (j := 0) rfl
theorem catA_of {K : PySem.W.Frag} {H : Hp} {a b : Addr} {xs ys : List V} {Q : VK} (ha : H a = some (.tup xs)) (hb : H b = some (.tup ys)) (hz : xs.length + ys.length ≤ 1000) (F : ∀ t H', Same H H' → H' t = some (.tup (xs ++ ys)) → Q (.ref t) H') : rCatA K (.ref a) (.ref b) H Q :=
  ⟨a, b, xs, ys, rfl, rfl, SqT.of ha, SqT.of hb, small9 hz, fun z => F b H (Same.refl H) (by rw [z]; exact hb), fun _ z => F a H (Same.refl H) (by rw [z, List.append_nil]; exact ha), fun _ _ p hp => F p _ (same_new hp _) upd_same⟩

def d0 : Cn := ⟨"", 0, []⟩
def knOf (T : Tb) (au : Nat → Addr) (n : Nat) : List (Key × V) := (List.range n).map fun i => (Sum.inr (T.cs.getD i d0).nm, .ref (au i))
theorem kn_keys (T : Tb) (au : Nat → Addr) : (knOf T au T.cs.length).map Prod.fst = (nmsOf T).map Sum.inr := by
  unfold knOf nmsOf
  rw [List.map_map, List.map_map]
  refine List.ext_getElem? fun i => ?_
  rw [List.getElem?_map, List.getElem?_map]
  by_cases hi : i < T.cs.length
  · rw [List.getElem?_range hi, List.getElem?_eq_getElem hi]
    simp [List.getD, hi]
  · rw [List.getElem?_eq_none (by rw [List.length_range]; omega), List.getElem?_eq_none (by omega)]
    rfl
theorem kn_nd {T : Tb} {au : Nat → Addr} (h : (nmsOf T).Nodup) : ((knOf T au T.cs.length).map Prod.fst).Nodup := by
  rw [kn_keys]
  unfold List.Nodup
  rw [List.pairwise_map]
  exact h.imp fun hab e => hab (Sum.inr.inj e)
/-! steps, and the shrunk table -/
abbrev Stp : Type := Cn × Nat × Option Nat
def stpC (m : Nat) (c : Cn) : List Stp := (if c.pl = 1 then [(c, 0, none)] else []) ++ (if c.pl = 2 then (List.range m).map (fun o => (c, 0, some o)) ++ (List.range m).map (fun o => (c, 1, some o)) else [])
def stps (T : Tb) : List Stp := T.cs.flatMap (stpC T.m)
def stepV (m : Nat) (s : Stp) (x : Nat) : Nat := match s.2.2 with
  | none => Tn.at' s.1.cs x
  | some o => if s.2.1 = 0 then Tn.at' s.1.cs (x * m + o) else Tn.at' s.1.cs (o * m + x)
def fsT (T : Tb) : List (Nat → Nat) := (stps T).map (stepV T.m)
def mkT (T : Tb) : List Nat := Tn.mkN T.m T.ws (fsT T)
theorem mkT_fix {T : Tb} (g : GoodT T) : Tn.Fix T.m T.ws (fsT T) (mkT T) := Tn.mkN_fix _ _ g.m1
/-- pairs that are not parted, and lead to such ones, are alike -/
theorem pairs_alike {T : Tb} (W : Nat → Nat → Prop) (hw : ∀ a b, W a b → a < T.m ∧ b < T.m) (hp : ∀ a b, W a b → (a ∈ T.ws ↔ b ∈ T.ws)) (hs : ∀ a b, W a b → ∀ s ∈ stps T, W (stepV T.m s a) (stepV T.m s b)) {a b : Nat} (h : W a b) : Tn.at' (mkT T) a = Tn.at' (mkT T) b := by
  have all : ∀ k a b, W a b → Tn.at' (Tn.itr T.m (fsT T) (Tn.mk0 T.m T.ws) k) a = Tn.at' (Tn.itr T.m (fsT T) (Tn.mk0 T.m T.ws) k) b := by
    intro k
    induction k with
    | zero =>
      intro a b h
      obtain ⟨ha, hb⟩ := hw a b h
      show Tn.at' (Tn.mk0 T.m T.ws) a = Tn.at' (Tn.mk0 T.m T.ws) b
      unfold Tn.mk0
      rw [Tn.fp_eq (x := decide (a ∈ T.ws)) (y := decide (b ∈ T.ws)) (by rw [List.getElem?_map, List.getElem?_range ha]; rfl) (by rw [List.getElem?_map, List.getElem?_range hb]; rfl)]
      simpa using hp a b h
    | succ k ih =>
      intro a b h
      obtain ⟨ha, hb⟩ := hw a b h
      show Tn.at' (Tn.refn _ _ _) a = Tn.at' (Tn.refn _ _ _) b
      rw [Tn.refn_eq ha hb]
      refine ⟨ih a b h, fun f hf => ?_⟩
      obtain ⟨s, hs', rfl⟩ := List.mem_map.mp hf
      exact ih _ _ (hs a b h s hs')
  exact all T.m a b h
theorem step_lt {T : Tb} (g : GoodT T) {s : Stp} (hs : s ∈ stps T) {x : Nat} (hx : x < T.m) : stepV T.m s x < T.m := by
  obtain ⟨c, hc, h⟩ := List.mem_flatMap.mp hs
  obtain ⟨_, _, h3⟩ := g.cn c hc
  have two : ∀ a b, a < T.m → b < T.m → c.pl = 2 → Tn.at' c.cs (a * T.m + b) < T.m := fun a b ha hb e => by
    refine h3.at_lt ?_
    rw [e]
    have : (a + 1) * T.m ≤ T.m * T.m := Nat.mul_le_mul_right _ ha
    rw [Nat.add_mul] at this
    show _ < T.m ^ 2
    rw [Nat.pow_succ, Nat.pow_one]
    omega
  rcases List.mem_append.mp h with h | h
  · split at h
    · rename_i e
      rw [List.mem_singleton.mp h]
      show Tn.at' c.cs x < T.m
      refine h3.at_lt ?_
      rw [e, Nat.pow_one]
      exact hx
    · cases h
  · split at h
    · rename_i e
      rcases List.mem_append.mp h with h | h
      · obtain ⟨o, ho, rfl⟩ := List.mem_map.mp h
        show (if 0 = 0 then Tn.at' c.cs (x * T.m + o) else Tn.at' c.cs (o * T.m + x)) < T.m
        rw [if_pos rfl]
        exact two x o hx (List.mem_range.mp ho) e
      · obtain ⟨o, ho, rfl⟩ := List.mem_map.mp h
        show (if 1 = 0 then Tn.at' c.cs (x * T.m + o) else Tn.at' c.cs (o * T.m + x)) < T.m
        rw [if_neg (by decide)]
        exact two o x (List.mem_range.mp ho) hx e
    · cases h
theorem step_alike {T : Tb} (g : GoodT T) {s : Stp} (hs : s ∈ stps T) {a b : Nat} (ha : a < T.m) (hb : b < T.m) (h : Tn.at' (mkT T) a = Tn.at' (mkT T) b) : Tn.at' (mkT T) (stepV T.m s a) = Tn.at' (mkT T) (stepV T.m s b) :=
  (mkT_fix g).step a b ha hb h _ (List.mem_map.mpr ⟨s, hs, rfl⟩)
theorem wish_alike {T : Tb} (g : GoodT T) {a b : Nat} (ha : a < T.m) (hb : b < T.m) (h : Tn.at' (mkT T) a = Tn.at' (mkT T) b) : a ∈ T.ws ↔ b ∈ T.ws := (mkT_fix g).wish a b ha hb h

theorem nV_ne {n k : Nat} (h : n ≠ k) : ¬ nV n = V.int (k : Int) := fun e => by
  have : ((n : Nat) : Int) = (k : Int) := V.int.inj e
  omega
theorem nVV_ne {n k : Nat} (h : n ≠ k) : ¬ nV n = nV k := nV_ne h
/-! steps in the heap -/
def nO : Option Nat → V
  | none => .non
  | some o => nV o
def stV (s : Stp) : List V := [.str s.1.nm, nV s.2.1, nO s.2.2]
def IsSt (H : Hp) (s : Stp) (v : V) : Prop := ∃ t, v = .ref t ∧ H t = some (.tup (stV s))
abbrev Sts (H : Hp) : List Stp → List V → Prop := Paired (IsSt H)
theorem IsSt.tk {H H' : Hp} (k : Tk H H') {s : Stp} {v : V} (h : IsSt H s v) : IsSt H' s v := by
  obtain ⟨t, e, h⟩ := h
  exact ⟨t, e, k _ _ h⟩
theorem Sts.tk {H H' : Hp} (k : Tk H H') {ss : List Stp} {vs : List V} (h : Sts H ss vs) : Sts H' ss vs := Paired.imp' (fun _ _ z => z.tk k) h
theorem Sts.app {H : Hp} {as bs : List Stp} {xs ys : List V} (h : Sts H as xs) (k : Sts H bs ys) : Sts H (as ++ bs) (xs ++ ys) := by
  induction h with
  | nil => exact k
  | cons r _ ih => exact .cons r ih
theorem stpC_len {m : Nat} (h : m ≤ 9) (c : Cn) : (stpC m c).length ≤ 18 := by
  unfold stpC
  rw [List.length_append]
  by_cases e : c.pl = 1
  · rw [if_pos e, if_neg (by omega)]
    show 1 + 0 ≤ 18
    decide
  · rw [if_neg e]
    by_cases e2 : c.pl = 2
    · rw [if_pos e2, List.length_append, List.length_map, List.length_map, List.length_range]
      show 0 + (m + m) ≤ 18
      omega
    · rw [if_neg e2]
      show 0 + 0 ≤ 18
      decide
theorem stps_len {m : Nat} (h : m ≤ 9) : ∀ cs : List Cn, (cs.flatMap (stpC m)).length ≤ 18 * cs.length
  | [] => Nat.le_refl _
  | c :: cs => by
    have h1 := stps_len h cs
    have h2 := stpC_len h c
    rw [List.flatMap_cons, List.length_append, List.length_cons]
    omega
theorem stp_cases {T : Tb} {s : Stp} (h : s ∈ stps T) : ∃ c ∈ T.cs, (c.pl = 1 ∧ s = (c, 0, none)) ∨ (c.pl = 2 ∧ ∃ o, o < T.m ∧ (s = (c, 0, some o) ∨ s = (c, 1, some o))) := by
  obtain ⟨c, hc, h⟩ := List.mem_flatMap.mp h
  refine ⟨c, hc, ?_⟩
  rcases List.mem_append.mp h with h | h
  · split at h
    · exact .inl ⟨by assumption, List.mem_singleton.mp h⟩
    · cases h
  · split at h
    · refine .inr ⟨by assumption, ?_⟩
      rcases List.mem_append.mp h with h | h
      · obtain ⟨o, ho, e⟩ := List.mem_map.mp h
        exact ⟨o, List.mem_range.mp ho, .inl e.symm⟩
      · obtain ⟨o, ho, e⟩ := List.mem_map.mp h
        exact ⟨o, List.mem_range.mp ho, .inr e.symm⟩
    · cases h
/-- the dict of the cells -/
def cKey (c : Cn) : List Key := [Sum.inr c.nm, Sum.inl (c.pl : Int)]
def IsCd (H : Hp) (d : Addr) (T : Tb) : Prop := ∃ kvs, H d = some (.dT kvs) ∧ ∀ c ∈ T.cs, ∃ u, valV kvs (cKey c) = some (.ref u) ∧ H u = some (.tup (c.cs.map nV))
theorem IsCd.same {H H' : Hp} {d : Addr} {T : Tb} (h : IsCd H d T) (s : Same H H') : IsCd H' d T := by
  obtain ⟨kvs, h1, h2⟩ := h
  refine ⟨kvs, s _ _ h1, fun c hc => ?_⟩
  obtain ⟨u, e1, e2⟩ := h2 c hc
  exact ⟨u, e1, s _ _ e2⟩
def ctOf (T : Tb) (au : Nat → Addr) (n : Nat) : List (List Key × V) := (List.range n).map fun i => (cKey (T.cs.getD i d0), .ref (au i))
theorem ct_snoc (T : Tb) (au : Nat → Addr) (n : Nat) : ctOf T au (n + 1) = ctOf T au n ++ [(cKey (T.cs.getD n d0), .ref (au n))] := by
  unfold ctOf
  rw [List.range_succ, List.map_append]
  rfl
theorem ct_nd {T : Tb} {au : Nat → Addr} (h : (nmsOf T).Nodup) : ((ctOf T au T.cs.length).map Prod.fst).Nodup := by
  have h2 := kn_nd (au := au) h
  unfold ctOf
  unfold knOf at h2
  rw [List.map_map] at h2 ⊢
  unfold List.Nodup at h2 ⊢
  rw [List.pairwise_map] at h2 ⊢
  exact h2.imp fun hab e => hab (by
    have e' : cKey _ = cKey _ := e
    unfold cKey at e'
    exact (List.cons.inj e').1)
/-- lists of numbers, none of them at D -/
def Lld (D : Addr) (H : Hp) : List (List Nat) → List V → Prop := Paired fun ns v => ∃ a, v = .ref a ∧ a ≠ D ∧ H a = some (.lst (ns.map nV))
theorem Lld.same {D : Addr} {H H' : Hp} (s : Same H H') {ns : List (List Nat)} {vs : List V} (h : Lld D H ns vs) : Lld D H' ns vs := Paired.imp' (fun _ _ z => by obtain ⟨a, e, n, h⟩ := z; exact ⟨a, e, n, s _ _ h⟩) h
theorem Lld.put {D : Addr} {H : Hp} {o : HO} {ns : List (List Nat)} {vs : List V} (h : Lld D H ns vs) : Lld D (upd H D o) ns vs := Paired.imp' (fun _ _ z => by obtain ⟨a, e, n, h⟩ := z; exact ⟨a, e, n, by rw [upd_ne n]; exact h⟩) h
theorem Lld.snoc {D : Addr} {H : Hp} {ns : List (List Nat)} {vs : List V} {n : List Nat} {a : Addr} (h : Lld D H ns vs) (ne : a ≠ D) (k : H a = some (.lst (n.map nV))) : Lld D H (ns ++ [n]) (vs ++ [.ref a]) := by
  unfold Lld at h ⊢
  induction h with
  | nil => exact .cons ⟨a, rfl, ne, k⟩ .nil
  | cons r _ ih => exact .cons r ih
theorem Lld.at {D : Addr} {H : Hp} {ns : List (List Nat)} {vs : List V} (h : Lld D H ns vs) {i : Nat} {n : List Nat} (e : ns[i]? = some n) : ∃ a, vs[i]? = some (.ref a) ∧ H a = some (.lst (n.map nV)) := by
  obtain ⟨v, e1, a, rfl, _, k⟩ := paired_get h e
  exact ⟨a, e1, k⟩
theorem Lld.len {D : Addr} {H : Hp} {ns : List (List Nat)} {vs : List V} (h : Lld D H ns vs) : vs.length = ns.length := (Paired.length h).symm
def spCbn : Sp := fun vs H Q _ => ∃ (v : V) (T : Tb), vs = [v] ∧ IsTb H v T ∧ GoodT T ∧ (nmsOf T).Nodup ∧ ∀ e H', Same H H' → IsCd H' e T → Q (.ref e) H'
def spSteps : Sp := fun vs H Q _ => ∃ (v : V) (T : Tb), vs = [v] ∧ IsTb H v T ∧ GoodT T ∧ ∀ l xs H', H l = none → Same H H' → H' l = some (.lst xs) → Sts H' (stps T) xs → Q (.ref l) H'
def spStepped : Sp := fun vs H Q _ => ∃ (e t : Addr) (T : Tb) (s : Stp) (x : Nat), vs = [.ref e, nV T.m, .ref t, nV x] ∧ IsCd H e T ∧ GoodT T ∧ s ∈ stps T ∧ H t = some (.tup (stV s)) ∧ x < T.m ∧ ∀ H', Same H H' → Q (nV (stepV T.m s x)) H'
def spEven : Sp := fun vs H Q _ => ∃ (p : Addr) (v : V) (T : Tb), vs = [.ref p, v] ∧ Wel H p ∧ IsTb H v T ∧ GoodT T ∧ ∀ u U H', Off p H H' → Wel H' p → GoodT U → Sh T = Sh U → IsTb H' u U → Q u H'
def spDrawn : Sp := fun vs H Q _ => ∃ (p : Addr) (mo so : Nat), vs = [.ref p, nV mo, nV so] ∧ Wel H p ∧ 1 ≤ mo ∧ mo ≤ 9 ∧ so ≤ 8 ∧ ∀ v T H', Off p H H' → Wel H' p → GoodT T → (nmsOf T).Nodup → IsTb H' v T → Q v H'

/-! pairs of grades, and the ways to them -/
abbrev Pr : Type := Nat × Nat
def pk (z : Pr) : List Key := [Sum.inl (z.1 : Int), Sum.inl (z.2 : Int)]
theorem pk_inj {y z : Pr} (h : pk y = pk z) : y = z := by
  unfold pk at h
  obtain ⟨h1, h2⟩ := List.cons.inj h
  obtain ⟨h3, _⟩ := List.cons.inj h2
  have e1 : (y.1 : Int) = z.1 := Sum.inl.inj h1
  have e2 : (y.2 : Int) = z.2 := Sum.inl.inj h3
  exact Prod.ext (by omega) (by omega)
def Pr2 (H : Hp) : List Pr → List V → Prop := Paired fun z v => ∃ t, v = .ref t ∧ H t = some (.tup [nV z.1, nV z.2])
theorem Pr2.tk {H H' : Hp} (k : Tk H H') {ps : List Pr} {vs : List V} (h : Pr2 H ps vs) : Pr2 H' ps vs := Paired.imp' (fun _ _ z => by obtain ⟨a, e, h⟩ := z; exact ⟨a, e, k _ _ h⟩) h
theorem Pr2.snoc {H : Hp} {ps : List Pr} {vs : List V} {z : Pr} {t : Addr} (h : Pr2 H ps vs) (k : H t = some (.tup [nV z.1, nV z.2])) : Pr2 H (ps ++ [z]) (vs ++ [.ref t]) := by
  unfold Pr2 at h ⊢
  induction h with
  | nil => exact .cons ⟨t, rfl, k⟩ .nil
  | cons r _ ih => exact .cons r ih
def nxt (m : Nat) (s : Stp) (z : Pr) : Pr := (stepV m s z.1, stepV m s z.2)
def wlk (m : Nat) (ss : List Stp) (o : Pr) : Pr := ss.foldl (fun z s => nxt m s z) o
structure Wy (H : Hp) (X : Tb × Pr) (kvs : List (List Key × V)) (W : List Pr) : Prop where
  keys : kvs.map Prod.fst = W.map pk
  nd : W.Nodup
  lt : ∀ z ∈ W, z.1 < X.1.m ∧ z.2 < X.1.m
  val : ∀ z ∈ W, ∃ t xs ss, valV kvs (pk z) = some (.ref t) ∧ H t = some (.tup xs) ∧ xs.length < W.length ∧ Sts H ss xs ∧ (∀ s ∈ ss, s ∈ stps X.1) ∧ wlk X.1.m ss X.2 = z
theorem Wy.tk {H H' : Hp} {X : Tb × Pr} {kvs : List (List Key × V)} {W : List Pr} (h : Wy H X kvs W) (k : Tk H H') : Wy H' X kvs W := by
  refine ⟨h.keys, h.nd, h.lt, fun z hz => ?_⟩
  obtain ⟨t, xs, ss, e1, e2, e3, e4, e5, e6⟩ := h.val z hz
  exact ⟨t, xs, ss, e1, k _ _ e2, e3, Sts.tk k e4, e5, e6⟩
theorem Wy.mem {H : Hp} {X : Tb × Pr} {kvs : List (List Key × V)} {W : List Pr} (h : Wy H X kvs W) (z : Pr) : (kvs.any fun kv => decide (kv.1 = pk z)) = decide (z ∈ W) := by
  rw [Bool.eq_iff_iff, List.any_eq_true, decide_eq_true_iff]
  constructor
  · rintro ⟨kv, hkv, e⟩
    have e := of_decide_eq_true e
    have : pk z ∈ kvs.map Prod.fst := e ▸ List.mem_map.mpr ⟨kv, hkv, rfl⟩
    rw [h.keys] at this
    obtain ⟨y, hy, e2⟩ := List.mem_map.mp this
    rw [← pk_inj e2]
    exact hy
  · intro hz
    have : pk z ∈ kvs.map Prod.fst := by rw [h.keys]; exact List.mem_map.mpr ⟨z, hz, rfl⟩
    obtain ⟨kv, hkv, e⟩ := List.mem_map.mp this
    exact ⟨kv, hkv, decide_eq_true e⟩
theorem Wy.some_iff {H : Hp} {X : Tb × Pr} {kvs : List (List Key × V)} {W : List Pr} (h : Wy H X kvs W) (z : Pr) : (valV kvs (pk z)).isSome = decide (z ∈ W) := by
  rw [← h.mem z, valV_any]
theorem Wy.add {H : Hp} {X : Tb × Pr} {kvs : List (List Key × V)} {W : List Pr} (h : Wy H X kvs W) {z : Pr} (hz : z ∉ W) (hl : z.1 < X.1.m ∧ z.2 < X.1.m) {t : Addr} {xs : List V} (ht : H t = some (.tup xs)) (hx : xs.length ≤ W.length) {ss : List Stp} (hss : Sts H ss xs) (hsm : ∀ s ∈ ss, s ∈ stps X.1) (hw : wlk X.1.m ss X.2 = z) : Wy H X (putK kvs (pk z) (.ref t)) (W ++ [z]) := by
  refine ⟨?_, ?_, fun y hy => ?_, fun y hy => ?_⟩
  · unfold putK
    rw [h.mem z, if_neg (by rw [decide_eq_false hz]; exact Bool.false_ne_true), List.map_append, h.keys, List.map_append]
    rfl
  · rw [List.nodup_append]
    refine ⟨h.nd, by simp, fun a ha b hb e => ?_⟩
    rw [List.mem_singleton.mp hb] at e
    exact hz (e ▸ ha)
  · rcases List.mem_append.mp hy with hy | hy
    · exact h.lt y hy
    · rw [List.mem_singleton.mp hy]
      exact hl
  · rw [List.length_append, List.length_singleton, valV_put]
    rcases List.mem_append.mp hy with hy | hy
    · obtain ⟨t', xs', ss', e1, e2, e3, e4⟩ := h.val y hy
      rw [if_neg (fun e => hz (by rw [← pk_inj e]; exact hy))]
      exact ⟨t', xs', ss', e1, e2, by omega, e4⟩
    · rw [List.mem_singleton.mp hy, if_pos rfl]
      exact ⟨t, xs, ss, rfl, ht, by omega, hss, hsm, hw⟩
theorem Wy.count {H : Hp} {X : Tb × Pr} {kvs : List (List Key × V)} {W : List Pr} (h : Wy H X kvs W) : W.length ≤ X.1.m * X.1.m := by
  have nd : (W.map fun z => z.1 * X.1.m + z.2).Nodup := by
    unfold List.Nodup
    rw [List.pairwise_map]
    refine List.Pairwise.imp_of_mem (fun {a b} ha hb hab e => hab ?_) h.nd
    obtain ⟨a1, a2⟩ := h.lt a ha
    obtain ⟨b1, b2⟩ := h.lt b hb
    have m0 : 0 < X.1.m := by omega
    have e1 : (a.1 * X.1.m + a.2) / X.1.m = a.1 := by rw [Nat.mul_comm, Nat.mul_add_div m0, Nat.div_eq_of_lt a2, Nat.add_zero]
    have e2 : (b.1 * X.1.m + b.2) / X.1.m = b.1 := by rw [Nat.mul_comm, Nat.mul_add_div m0, Nat.div_eq_of_lt b2, Nat.add_zero]
    have e3 : (a.1 * X.1.m + a.2) % X.1.m = a.2 := by rw [Nat.mul_comm, Nat.mul_add_mod, Nat.mod_eq_of_lt a2]
    have e4 : (b.1 * X.1.m + b.2) % X.1.m = b.2 := by rw [Nat.mul_comm, Nat.mul_add_mod, Nat.mod_eq_of_lt b2]
    refine Prod.ext ?_ ?_
    · rw [← e1, ← e2, e]
    · rw [← e3, ← e4, e]
  have := Tn.nodup_len (X.1.m * X.1.m) _ nd fun x hx => by
    obtain ⟨z, hz, rfl⟩ := List.mem_map.mp hx
    obtain ⟨z1, z2⟩ := h.lt z hz
    have h3 : (z.1 + 1) * X.1.m ≤ X.1.m * X.1.m := Nat.mul_le_mul_right _ z1
    rw [Nat.add_mul] at h3
    omega
  rwa [List.length_map] at this
theorem Wy.len {H : Hp} {X : Tb × Pr} {kvs : List (List Key × V)} {W : List Pr} (h : Wy H X kvs W) : kvs.length = W.length := by
  have := congrArg List.length h.keys
  rwa [List.length_map, List.length_map] at this
theorem wish_dec (a b : Nat) (ws : List Nat) : decide (V.bl (decide (a ∈ ws)) = V.bl (decide (b ∈ ws))) = decide (a ∈ ws ↔ b ∈ ws) := by
  rw [Bool.eq_iff_iff, decide_eq_true_iff, decide_eq_true_iff, V.bl.injEq, Bool.eq_iff_iff, decide_eq_true_iff, decide_eq_true_iff]
theorem sq81 {m : Nat} (h : m ≤ 9) : m * m ≤ 81 := Nat.mul_le_mul h h
def Of2 (a b : Addr) (H H' : Hp) : Prop := ∀ c o, c ≠ a → c ≠ b → H c = some o → H' c = some o
theorem Of2.of {a b : Addr} {H H' : Hp} (s : Same H H') : Of2 a b H H' := fun c o _ _ h => s c o h
theorem Of2.trans {a b : Addr} {H H1 H2 : Hp} (x : Of2 a b H H1) (y : Of2 a b H1 H2) : Of2 a b H H2 := fun c o n1 n2 h => y c o n1 n2 (x c o n1 n2 h)
theorem Of2.putA {a b : Addr} {H : Hp} {o : HO} : Of2 a b H (upd H a o) := fun c u n1 _ h => by rw [upd_ne n1]; exact h
theorem Of2.putB {a b : Addr} {H : Hp} {o : HO} : Of2 a b H (upd H b o) := fun c u _ n2 h => by rw [upd_ne n2]; exact h
theorem Of2.tk {a b : Addr} {H H' : Hp} (x : Of2 a b H H') (ha : ∀ xs, H a ≠ some (.tup xs)) (hb : ∀ xs, H b ≠ some (.tup xs)) : Tk H H' := fun c xs h => x c _ (fun z => ha xs (z ▸ h)) (fun z => hb xs (z ▸ h)) h
theorem IsCd.of2 {a b e : Addr} {H H' : Hp} {T : Tb} (h : IsCd H e T) (o : Of2 a b H H') (n1 : e ≠ a) (n2 : e ≠ b) (k : Tk H H') : IsCd H' e T := by
  obtain ⟨kvs, h1, h2⟩ := h
  refine ⟨kvs, o _ _ n1 n2 h1, fun c hc => ?_⟩
  obtain ⟨u, e1, e2⟩ := h2 c hc
  exact ⟨u, e1, k _ _ e2⟩
theorem Tk.putD {t : Addr} {H : Hp} {kvs : List (List Key × V)} {o : HO} (h : H t = some (.dT kvs)) : Tk H (upd H t o) := fun c u q => by rw [upd_ne (ne_of q h (by intro z; cases z))]; exact q
def spNextP : Sp := fun vs H Q _ => ∃ (v : V) (e wy pl : Addr) (T : Tb) (kvs : List (List Key × V)) (us : List V) (W P : List Pr) (o : Pr), vs = [v, .ref e, .ref wy, .ref pl] ∧ IsTb H v T ∧ GoodT T ∧ IsCd H e T ∧ e ≠ wy ∧ H wy = some (.dT kvs) ∧ Wy H (T, o) kvs W ∧ H pl = some (.lst us) ∧ Pr2 H P us ∧ (∀ z ∈ P, z ∈ W) ∧
  ∀ l us' R kvs' H', Off wy H H' → H' wy = some (.dT kvs') → Wy H' (T, o) kvs' (W ++ R) → H' l = some (.lst us') → Pr2 H' R us' → (∀ z ∈ R, ∃ p ∈ P, ∃ s ∈ stps T, z = nxt T.m s p) → (∀ p ∈ P, ∀ s ∈ stps T, nxt T.m s p ∈ W ++ R) → Q (.ref l) H'
def spParting : Sp := fun vs H Q _ => ∃ (v : V) (T : Tb) (x y : Nat), vs = [v, nV x, nV y] ∧ IsTb H v T ∧ GoodT T ∧ (nmsOf T).Nodup ∧ x < T.m ∧ y < T.m ∧ (Tn.at' (mkT T) x = Tn.at' (mkT T) y → ∀ H', Same H H' → Q .non H') ∧ (¬ Tn.at' (mkT T) x = Tn.at' (mkT T) y → ∀ t xs ss H', Same H H' → H' t = some (.tup xs) → Sts H' ss xs → (∀ s ∈ ss, s ∈ stps T) → ss.length ≤ 100 → ¬ ((wlk T.m ss (x, y)).1 ∈ T.ws ↔ (wlk T.m ss (x, y)).2 ∈ T.ws) → Q (.ref t) H')

theorem at_div {hs : List Nat} {m j : Nat} (h : j / m < hs.length) : atI (hs.map nV) ((0 + (j : Int)) / (m : Int)) = some (nV (Tn.at' hs (j / m))) := by
  rw [Int.zero_add, ← Int.natCast_ediv]
  exact at_nV h
theorem at_mod {hs : List Nat} {m j : Nat} (h : j % m < hs.length) : atI (hs.map nV) ((0 + (j : Int)) % (m : Int)) = some (nV (Tn.at' hs (j % m))) := by
  rw [Int.zero_add, ← Int.natCast_emod]
  exact at_nV h
theorem at_lt' {hs : List Nat} {b i : Nat} (h : ∀ x ∈ hs, x < b) (hi : i < hs.length) : Tn.at' hs i < b := h _ (List.mem_of_getElem? (Tn.at_map hi))
theorem pow_sq {m k j : Nat} (h1 : 1 ≤ m) (hk : k ≤ 2) (hj : j < m ^ k) : j < m * m := by
  have e : k = 0 ∨ k = 1 ∨ k = 2 := by omega
  have h2 : m * 1 ≤ m * m := Nat.mul_le_mul_left m h1
  rcases e with rfl | rfl | rfl
  · rw [Nat.pow_zero] at hj
    omega
  · rw [Nat.pow_one] at hj
    omega
  · rwa [Nat.pow_two] at hj

/-! steps in another order; the dict of the pairs that are unlike -/
def stpC2 (m : Nat) (c : Cn) : List Stp := (if c.pl = 1 then [(c, 0, none)] else []) ++ (List.range (if c.pl = 2 then m else 0)).flatMap fun o => [(c, 0, some o), (c, 1, some o)]
def stps2 (T : Tb) : List Stp := T.cs.flatMap (stpC2 T.m)
theorem stp2_mem {T : Tb} {s : Stp} : s ∈ stps2 T ↔ s ∈ stps T := by
  have one : ∀ c, s ∈ stpC2 T.m c ↔ s ∈ stpC T.m c := fun c => by
    unfold stpC2 stpC
    rw [List.mem_append, List.mem_append]
    refine or_congr Iff.rfl ?_
    by_cases e : c.pl = 2
    · rw [if_pos e, if_pos e, List.mem_flatMap, List.mem_append, List.mem_map, List.mem_map]
      constructor
      · rintro ⟨o, ho, h⟩
        rcases List.mem_cons.mp h with rfl | h
        · exact .inl ⟨o, ho, rfl⟩
        · rw [List.mem_singleton.mp h]
          exact .inr ⟨o, ho, rfl⟩
      · rintro (⟨o, ho, rfl⟩ | ⟨o, ho, rfl⟩)
        · exact ⟨o, ho, List.mem_cons_self⟩
        · exact ⟨o, ho, List.mem_cons_of_mem _ (List.mem_singleton.mpr rfl)⟩
    · rw [if_neg e, if_neg e]
      simp
  unfold stps2 stps
  rw [List.mem_flatMap, List.mem_flatMap]
  exact ⟨fun ⟨c, hc, h⟩ => ⟨c, hc, (one c).mp h⟩, fun ⟨c, hc, h⟩ => ⟨c, hc, (one c).mpr h⟩⟩
theorem stpC2_len {m : Nat} (h : m ≤ 9) (c : Cn) : (stpC2 m c).length ≤ 18 := by
  have two : ∀ (n : Nat), ((List.range n).flatMap fun o => ([(c, 0, some o), (c, 1, some o)] : List Stp)).length = 2 * n := fun n => by
    induction n with
    | zero => rfl
    | succ n ih =>
      rw [List.range_succ, List.flatMap_append, List.length_append, ih, List.flatMap_singleton]
      show 2 * n + 2 = _
      omega
  unfold stpC2
  rw [List.length_append, two]
  by_cases e : c.pl = 1
  · rw [if_pos e, if_neg (by omega)]
    show 1 + 2 * 0 ≤ 18
    decide
  · rw [if_neg e]
    split
    · show 0 + 2 * m ≤ 18
      omega
    · show 0 + 2 * 0 ≤ 18
      decide
theorem stps2_len {m : Nat} (h : m ≤ 9) : ∀ cs : List Cn, (cs.flatMap (stpC2 m)).length ≤ 18 * cs.length
  | [] => Nat.le_refl _
  | c :: cs => by
    have h1 := stps2_len h cs
    have h2 := stpC2_len h c
    rw [List.flatMap_cons, List.length_append, List.length_cons]
    omega
def prs (m n : Nat) : List Pr := (List.range n).map fun p => (p / m, p % m)
theorem prs_mem {m x y : Nat} (hx : x < m) (hy : y < m) : (x, y) ∈ prs m (m * m) := by
  refine List.mem_map.mpr ⟨x * m + y, List.mem_range.mpr ?_, ?_⟩
  · have h3 : (x + 1) * m ≤ m * m := Nat.mul_le_mul_right _ hx
    rw [Nat.add_mul] at h3
    omega
  · have m0 : 0 < m := by omega
    refine Prod.ext ?_ ?_
    · show (x * m + y) / m = x
      rw [Nat.mul_comm, Nat.mul_add_div m0, Nat.div_eq_of_lt hy, Nat.add_zero]
    · show (x * m + y) % m = y
      rw [Nat.mul_comm, Nat.mul_add_mod, Nat.mod_eq_of_lt hy]
theorem prs_lt {m : Nat} {z : Pr} (h : z ∈ prs m (m * m)) : z.1 < m ∧ z.2 < m := by
  obtain ⟨p, hp, rfl⟩ := List.mem_map.mp h
  have hp := List.mem_range.mp hp
  have m0 : 0 < m := Nat.pos_of_ne_zero fun e => by subst e; omega
  exact ⟨Nat.div_lt_of_lt_mul hp, Nat.mod_lt _ m0⟩
theorem prs_asc (m n : Nat) : ((prs m n).map fun z => ((z.1 : Int), (z.2 : Int))).Pairwise Lx := by
  unfold prs
  rw [List.map_map, List.pairwise_map]
  refine List.pairwise_lt_range.imp fun {a b} h => ?_
  show (((a / m : Nat) : Int) < ((b / m : Nat) : Int)) ∨ (((a / m : Nat) : Int) = ((b / m : Nat) : Int) ∧ ((a % m : Nat) : Int) < ((b % m : Nat) : Int))
  have h1 : a / m ≤ b / m := Nat.div_le_div_right (Nat.le_of_lt h)
  have e1 := Nat.div_add_mod a m
  have e2 := Nat.div_add_mod b m
  by_cases e : a / m = b / m
  · right
    rw [e] at e1
    exact ⟨by rw [e], by omega⟩
  · left
    omega
structure Fd (m n : Nat) (kvs : List (List Key × V)) (f : Nat → Nat → Bool) : Prop where
  keys : kvs.map Prod.fst = (prs m n).map pk
  val : ∀ z ∈ prs m n, valV kvs (pk z) = some (.bl (f z.1 z.2))
theorem Fd.len {m n : Nat} {kvs : List (List Key × V)} {f : Nat → Nat → Bool} (h : Fd m n kvs f) : kvs.length = n := by
  have := congrArg List.length h.keys
  rw [List.length_map, List.length_map] at this
  rw [this]
  unfold prs
  rw [List.length_map, List.length_range]
theorem Fd.new {m n : Nat} {kvs : List (List Key × V)} {f : Nat → Nat → Bool} (h : Fd m n kvs f) : Fd m (n + 1) (putK kvs (pk (n / m, n % m)) (.bl (f (n / m) (n % m)))) f := by
  have no : valV kvs (pk (n / m, n % m)) = none := by
    cases e : valV kvs (pk (n / m, n % m)) with
    | none => rfl
    | some v =>
      have ha : (kvs.any fun kv => decide (kv.1 = pk (n / m, n % m))) = true := by rw [valV_any, e]; rfl
      obtain ⟨kv, hkv, ek⟩ := List.any_eq_true.mp ha
      have : kv.1 ∈ kvs.map Prod.fst := List.mem_map.mpr ⟨kv, hkv, rfl⟩
      rw [h.keys, of_decide_eq_true ek] at this
      obtain ⟨z, hz, e2⟩ := List.mem_map.mp this
      have e3 := pk_inj e2
      obtain ⟨p, hp, rfl⟩ := List.mem_map.mp hz
      have hp := List.mem_range.mp hp
      have a1 : p / m = n / m := congrArg Prod.fst e3
      have a2 : p % m = n % m := congrArg Prod.snd e3
      have e1 := Nat.div_add_mod p m
      have e2 := Nat.div_add_mod n m
      rw [a1, a2, e2] at e1
      omega
  have ep : prs m (n + 1) = prs m n ++ [(n / m, n % m)] := by
    unfold prs
    rw [List.range_succ, List.map_append]
    rfl
  refine ⟨?_, fun z hz => ?_⟩
  · rw [putK_new _ no, List.map_append, h.keys, ep, List.map_append]
    rfl
  · rw [valV_put]
    by_cases e : z = (n / m, n % m)
    · rw [if_pos (by rw [e]), e]
    · rw [if_neg (fun w => e (pk_inj w))]
      rw [ep] at hz
      rcases List.mem_append.mp hz with hz | hz
      · exact h.val z hz
      · exact absurd (List.mem_singleton.mp hz) e
def setF (f : Nat → Nat → Bool) (z : Pr) : Nat → Nat → Bool := fun a b => if (a, b) = z then true else f a b
theorem Fd.put {m n : Nat} {kvs : List (List Key × V)} {f : Nat → Nat → Bool} (h : Fd m n kvs f) {z : Pr} (hz : z ∈ prs m n) : Fd m n (putK kvs (pk z) (.bl true)) (setF f z) := by
  refine ⟨?_, fun y hy => ?_⟩
  · have ha : (kvs.any fun kv => decide (kv.1 = pk z)) = true := by rw [valV_any, h.val z hz]; rfl
    unfold putK
    rw [if_pos ha, List.map_map, ← h.keys]
    refine List.map_congr_left fun kv _ => ?_
    show (if kv.1 = pk z then (kv.1, V.bl true) else kv).1 = kv.1
    split <;> rfl
  · rw [valV_put]
    unfold setF
    by_cases e : y = z
    · rw [if_pos (by rw [e]), if_pos (by rw [← e])]
    · rw [if_neg (fun w => e (pk_inj w)), if_neg (fun w => e w)]
      exact h.val y hy
theorem cnt_lt {α : Type} {p q : α → Bool} : ∀ {l : List α}, (∀ x ∈ l, p x = true → q x = true) → (∃ x ∈ l, q x = true ∧ p x = false) → (l.filter p).length < (l.filter q).length
  | [], _, h => by obtain ⟨x, hx, _⟩ := h; cases hx
  | a :: l, hpq, h => by
    have le : (l.filter p).length ≤ (l.filter q).length := by
      clear h
      induction l with
      | nil => exact Nat.le_refl _
      | cons b l ih =>
        have := ih fun x hx => hpq x (by
          rcases List.mem_cons.mp hx with h | h
          · rw [h]; exact List.mem_cons_self
          · exact List.mem_cons_of_mem _ (List.mem_cons_of_mem _ h))
        rw [List.filter_cons, List.filter_cons]
        have hb := hpq b (List.mem_cons_of_mem _ List.mem_cons_self)
        cases hp : p b with
        | true => rw [hb hp]; simpa using this
        | false =>
          cases hq : q b with
          | true => simp; omega
          | false => simpa using this
    rw [List.filter_cons, List.filter_cons]
    have ha := hpq a List.mem_cons_self
    obtain ⟨x, hx, h1, h2⟩ := h
    rcases List.mem_cons.mp hx with rfl | hx
    · rw [h1, h2]
      simp
      omega
    · have lt := cnt_lt (fun y hy => hpq y (List.mem_cons_of_mem _ hy)) ⟨x, hx, h1, h2⟩
      cases hp : p a with
      | true => rw [ha hp]; simpa using lt
      | false =>
        cases hq : q a with
        | true => simp; omega
        | false => simpa using lt
def cnt (m : Nat) (f : Nat → Nat → Bool) : Nat := ((prs m (m * m)).filter fun z => !f z.1 z.2).length
theorem cnt_put {m : Nat} {f : Nat → Nat → Bool} {z : Pr} (hz : z ∈ prs m (m * m)) (h : f z.1 z.2 = false) : cnt m (setF f z) < cnt m f := by
  refine cnt_lt (fun y _ hy => ?_) ⟨z, hz, by rw [h]; rfl, ?_⟩
  · have : setF f z y.1 y.2 = false := by simpa using hy
    unfold setF at this
    split at this
    · cases this
    · rw [this]; rfl
  · show (!setF f z z.1 z.2) = false
    unfold setF
    rw [if_pos rfl]
    rfl
/-- what the dict of unlike pairs tells -/
def unB (T : Tb) (x y : Nat) : Bool := !decide (Tn.at' (mkT T) x = Tn.at' (mkT T) y)
theorem un_of {T : Tb} (g : GoodT T) {f : Nat → Nat → Bool} (so : ∀ x y, x < T.m → y < T.m → f x y = true → Tn.at' (mkT T) x ≠ Tn.at' (mkT T) y) (ba : ∀ x y, x < T.m → y < T.m → ¬ (x ∈ T.ws ↔ y ∈ T.ws) → f x y = true)
    (cl : ∀ x y, x < T.m → y < T.m → f x y = false → ∀ s ∈ stps T, f (stepV T.m s x) (stepV T.m s y) = false) : ∀ x y, x < T.m → y < T.m → f x y = unB T x y := fun x y hx hy => by
  unfold unB
  cases e : f x y with
  | true => rw [decide_eq_false (so x y hx hy e)]; rfl
  | false =>
    have := pairs_alike (T := T) (fun a b => a < T.m ∧ b < T.m ∧ f a b = false) (fun a b h => ⟨h.1, h.2.1⟩) (fun a b h => by
      by_cases w : (a ∈ T.ws ↔ b ∈ T.ws)
      · exact w
      · have := ba a b h.1 h.2.1 w
        rw [h.2.2] at this
        cases this) (fun a b h s hs => ⟨step_lt g hs h.1, step_lt g hs h.2.1, cl a b h.1 h.2.1 h.2.2 s hs⟩) ⟨hx, hy, e⟩
    rw [decide_eq_true this]
    rfl
theorem paired_map {α β γ : Type} {R : β → γ → Prop} {f : α → β} : ∀ {l : List α} {bs : List γ}, Paired R (l.map f) bs → Paired (fun a b => R (f a) b) l bs
  | [], bs, h => by cases h; exact .nil
  | a :: l, bs, h => by
    cases h with
    | cons r t => exact .cons r (paired_map t)
def imgs (T : Tb) : List (List Nat) := (stps2 T).map fun s => (List.range T.m).map (stepV T.m s)
def spOne : Sp := fun vs H Q _ => ∃ (v : V) (T : Tb), vs = [v] ∧ IsTb H v T ∧ GoodT T ∧ ∀ l xs H', H l = none → Same H H' → H' l = some (.lst xs) → Sts H' (stps2 T) xs → Q (.ref l) H'
def spLStep : Sp := fun vs H Q _ => ∃ (v : V) (t : Addr) (T : Tb) (s : Stp) (x : Nat), vs = [v, .ref t, nV x] ∧ IsTb H v T ∧ GoodT T ∧ (nmsOf T).Nodup ∧ s ∈ stps T ∧ H t = some (.tup (stV s)) ∧ x < T.m ∧ ∀ H', Same H H' → Q (nV (stepV T.m s x)) H'
def spUnlike : Sp := fun vs H Q _ => ∃ (v : V) (T : Tb), vs = [v] ∧ IsTb H v T ∧ GoodT T ∧ (nmsOf T).Nodup ∧ ∀ fd kvs f H', Same H H' → H' fd = some (.dT kvs) → Fd T.m (T.m * T.m) kvs f → (∀ x y, x < T.m → y < T.m → f x y = unB T x y) → Q (.ref fd) H'

theorem Lld.re {D E : Addr} {H : Hp} {ns : List (List Nat)} {vs : List V} (h : Lld D H ns vs) (e : H E = none) : Lld E H ns vs := Paired.imp' (fun _ _ z => by obtain ⟨a, e1, n, h⟩ := z; exact ⟨a, e1, ne_of_none h e, h⟩) h
theorem Lld.off {D : Addr} {H H' : Hp} {ns : List (List Nat)} {vs : List V} (h : Lld D H ns vs) (o : Off D H H') : Lld D H' ns vs := Paired.imp' (fun _ _ z => by obtain ⟨a, e1, n, h⟩ := z; exact ⟨a, e1, n, o a _ n h⟩) h
def f0 (ws : List Nat) (x y : Nat) : Bool := !decide (x ∈ ws ↔ y ∈ ws)
/-- one sweep: from f₁ on, i pairs done -/
structure Swp (T : Tb) (f₁ f : Nat → Nat → Bool) (ch : Bool) (i : Nat) : Prop where
  so : ∀ x y, x < T.m → y < T.m → f x y = true → Tn.at' (mkT T) x ≠ Tn.at' (mkT T) y
  up : ∀ x y, f₁ x y = true → f x y = true
  ct : ch = true → cnt T.m f < cnt T.m f₁
  st : ch = false → f = f₁ ∧ ∀ z ∈ (prs T.m (T.m * T.m)).take i, f₁ z.1 z.2 = false → ∀ s ∈ stps T, f₁ (stepV T.m s z.1) (stepV T.m s z.2) = false

theorem cut_mem {xs : List V} {lo hi : Option Int} {v : V} (h : v ∈ cutV xs lo hi) : v ∈ xs := by
  unfold cutV at h
  exact ((List.take_sublist _ _).trans (List.drop_sublist _ _)).subset h
theorem sg_un : ∀ f : Nat, f < 26 → ¬ Txt.mul (Str.mk #[sgAt (f : Int)]) 2 = Txt.mul (Str.mk #[sgAt ((f : Int) - 1)]) 2 := by decide +kernel
theorem nm1_z {f : Nat} (hf : f < 26) (j : Nat) : ¬ nm1 (sgAt (f : Int)) j = .str (Txt.mul (Str.mk #[sgAt ((f : Int) - 1)]) 2) := fun e => by
  have e0 := V.str.inj e
  have h1 := congrArg Str.length e0
  rw [show 0 + (j : Int) + 2 = ((j + 2 : Nat) : Int) by omega, show (2 : Int) = ((2 : Nat) : Int) from rfl, mul_len', mul_len'] at h1
  have : j = 0 := by omega
  subst this
  exact sg_un f hf e0
def walk1 (m : Nat) (ss : List Stp) (x : Nat) : Nat := ss.foldl (fun y s => stepV m s y) x
theorem walk_eq (m : Nat) : ∀ (ss : List Stp) (z : Pr), wlk m ss z = (walk1 m ss z.1, walk1 m ss z.2)
  | [], z => rfl
  | s :: ss, z => by
    show wlk m ss (nxt m s z) = _
    rw [walk_eq m ss]
    rfl
theorem walk1_lt {T : Tb} (g : GoodT T) : ∀ (ss : List Stp) {x : Nat}, (∀ s ∈ ss, s ∈ stps T) → x < T.m → walk1 T.m ss x < T.m
  | [], x, _, hx => hx
  | s :: ss, x, h, hx => walk1_lt g ss (fun s' hs' => h s' (List.mem_cons_of_mem _ hs')) (step_lt g (h s List.mem_cons_self) hx)
theorem walk1_snoc (m : Nat) (ss : List Stp) (s : Stp) (x : Nat) : walk1 m (ss ++ [s]) x = stepV m s (walk1 m ss x) := by
  unfold walk1
  rw [List.foldl_append]
  rfl
theorem stV_flat {T : Tb} {s : Stp} (h : s ∈ stps T) : (stV s).all flatV = true ∧ (stV s).length = 3 := by
  obtain ⟨c, _, h⟩ := stp_cases h
  rcases h with ⟨_, rfl⟩ | ⟨_, o, _, rfl | rfl⟩ <;> exact ⟨rfl, rfl⟩
def spLed : Sp := fun vs H Q _ => ∃ (v : V) (st : Addr) (T : Tb) (xs : List V) (ss : List Stp) (x : Nat), vs = [v, .ref st, nV x] ∧ IsTb H v T ∧ GoodT T ∧ (nmsOf T).Nodup ∧ H st = some (.tup xs) ∧ Sts H ss xs ∧ (∀ s ∈ ss, s ∈ stps T) ∧ x < T.m ∧ ∀ H', Same H H' → Q (nV (walk1 T.m ss x)) H'
def spSRight : Sp := fun vs H Q _ => ∃ (v : V) (st : Addr) (T : Tb) (xs : List V) (ss : List Stp) (x y : Nat), vs = [v, .ref st, nV x, nV y] ∧ IsTb H v T ∧ GoodT T ∧ (nmsOf T).Nodup ∧ H st = some (.tup xs) ∧ Sts H ss xs ∧ (∀ s ∈ ss, s ∈ stps T) ∧ ss.length ≤ 100 ∧ x < T.m ∧ y < T.m ∧ ¬ (walk1 T.m ss x ∈ T.ws ↔ walk1 T.m ss y ∈ T.ws) ∧ ∀ H', Same H H' → Q (.bl true) H'
def top (i : Nat) : Stmt := PySem.Challenge.pw_truthgrades_k31_steps_that_part.main.body.getD i (.Pass ⟨0, 0, 0, 0⟩)
/-- the built-in names that the text asks: none is a name of its own -/
structure Gb (mg : Str → Option Value) : Prop where
  «abs» : mg "abs" = none
  «range» : mg "range" = none
  «tuple» : mg "tuple" = none
  «list» : mg "list" = none
  «isinstance» : mg "isinstance" = none
  «int» : mg "int" = none
  «bool» : mg "bool" = none
  «str» : mg "str" = none
  «len» : mg "len" = none
  «min» : mg "min" = none
  «max» : mg "max" = none
  «all» : mg "all" = none
  «any» : mg "any" = none
  «divmod» : mg "divmod" = none
  «dict» : mg "dict" = none
  «set» : mg "set" = none
  «sorted» : mg "sorted" = none
abbrev s_cells_by_name : Stmt := top 1
theorem sc_cells_by_name : FnScope ["H"] ["H"] (defScope s_cells_by_name) := ⟨rfl, rfl, rfl, by decide +kernel, rfl, by decide +kernel, by decide +kernel⟩
theorem ok_cells_by_name {P : Program} {w : World} {K : PySem.W.Frag} {mg : Str → Option Value} {base : Heap} {f : Addr} {fd : FuncData} (F : Fun K "cells_by_name" "cells_by_name" s_cells_by_name f fd) (gb : Gb mg) : FnOk P w K mg base CX0 1 f fd ["H"] spCbn := by
  refine F.ok sc_cells_by_name (fun vs H Q E h => ?_) (fun cdv A outer s H vs Q E hr h => ?_)
  · obtain ⟨v, T, rfl, _⟩ := h
    rfl
  obtain ⟨v, T, rfl, ia, gT, nT, q⟩ := h
  have nd0 : (["name", "places", "cells"] : List Str).Nodup := by decide +kernel
  refine ⟨_, (@pss_one _ _ _ (@ps_ret _ _ _ _ (@pe_dictPT _ _ hr _ _ _ _ rfl gb.dict (@pa_cons _ _ _ _ _ (@pe_comp _ ["name", "places", "cells"] [none, none, none] _ _ _ _ _ _ _ _ _ _ (by exact (show CompOk ["H"] (defScope s_cells_by_name) ["name", "places", "cells"] [none, none, none] _ from ⟨rfl, by decide +kernel, by decide +kernel, by decide +kernel, by decide +kernel, rfl, by decide +kernel⟩)) rfl (@kpi_tup _ K _ _ _ (@pe_ix _ _ _ _ _ _ _ (@kix_seq _ K (by rfl)) (@pv _ 0 _ _ (by rfl) (by first | exact Or.inl rfl | exact Or.inr (Or.inl rfl) | exact Or.inr (Or.inr rfl)) (by decide) (by decide)) (@pe_int _ _ _ _) (fun _ _ => rfl)) (by rfl)) (fun _ _ _ _ => (@kpg_tup _ K _ _ _ _ 3 rfl (@pgs_cons _ _ _ _ _ (@pg_name _ _ 0 _ nd0 rfl (Or.inl rfl) (by first | exact .inl rfl | exact .inr rfl | assumption)) (@pgs_cons _ _ _ _ _ (@pg_name _ _ 1 _ nd0 rfl (Or.inl rfl) (by first | exact .inl rfl | exact .inr rfl | assumption)) (@pgs_cons _ _ _ _ _ (@pg_name _ _ 2 _ nd0 rfl (Or.inl rfl) (by first | exact .inl rfl | exact .inr rfl | assumption)) (@pgs_nil _) (by rfl)) (by rfl)) (by rfl)) (by rfl) (by rfl) (by rfl))) (fun _ _ _ _ => (@pf_nil _)) (fun _ _ _ _ => (@pe_tup _ _ _ _ _ (@pa_cons _ _ _ _ _ (@pe_tup _ _ _ _ _ (@pa_cons _ _ _ _ _ (@pv _ 0 _ _ (by rfl) (by first | exact Or.inl rfl | exact Or.inr (Or.inl rfl) | exact Or.inr (Or.inr rfl)) (by decide) (by decide)) (@pa_cons _ _ _ _ _ (@pv _ 1 _ _ (by rfl) (by first | exact Or.inl rfl | exact Or.inr (Or.inl rfl) | exact Or.inr (Or.inr rfl)) (by decide) (by decide)) (@pa_nil _) (by rfl)) (by rfl))) (@pa_cons _ _ _ _ _ (@pv _ 2 _ _ (by rfl) (by first | exact Or.inl rfl | exact Or.inr (Or.inl rfl) | exact Or.inr (Or.inr rfl)) (by decide) (by decide)) (@pa_nil _) (by rfl)) (by rfl)))) (by intro _; rfl)) (@pa_nil _) (by rfl)) (by rfl) (by rfl)))), ?_⟩
  obtain ⟨a, w0, c, vs, rfl, h1, h2, h3, h4⟩ := id ia
  have gcl := gT.cl
  have gx : ∀ i, ∃ t u : Addr, i < T.cs.length → vs[i]? = some (.ref t) ∧ H t = some (.tup [.str (T.cs.getD i d0).nm, nV (T.cs.getD i d0).pl, .ref u]) ∧ H u = some (.tup ((T.cs.getD i d0).cs.map nV)) := fun i => by
    by_cases hi : i < T.cs.length
    · have hc : T.cs[i]? = some (T.cs.getD i d0) := by simp [List.getD, hi]
      obtain ⟨t, u, h⟩ := h4.get hc
      exact ⟨t, u, fun _ => h⟩
    · exact ⟨0, 0, fun h => absurd h hi⟩
  obtain ⟨ad, gx⟩ := Classical.axiomOfChoice gx
  obtain ⟨au, gx⟩ := Classical.axiomOfChoice gx
  have ge : ∀ i, i < T.cs.length → T.cs[i]? = some (T.cs.getD i d0) := fun i hi => by simp [List.getD, hi]
  refine ⟨_, rfl, .inr (.inl ⟨a, _, 2, _, rfl, rfl, SqT.of h1, rfl, c, rfl, ⟨_, SqT.of h3⟩, fun D hD => ?_⟩)⟩
  refine comp_tt3m (n := T.cs.length) (ad := ad) (v1 := fun i => .str (T.cs.getD i d0).nm) (v2 := fun i => nV (T.cs.getD i d0).pl) (v3 := fun i => .ref (au i)) (more := []) (fun i ys H' => Same H H' ∧ ys.length = i ∧ PrsT H' ys (ctOf T au i)) ⟨same_new hD _, rfl, .nil⟩ h4.len.symm (fun i hi => (gx i hi).1) (fun i ys H' h _ => SqT.of (h.1 _ _ h3)) (fun i ys H' hi h => SqT.of (h.1 _ _ (gx i hi).2.1)) ?_ ?_
  · rintro i ys H1 hi ⟨s1, yl, hP⟩ hD1
    refine yes ⟨_, rfl, _, rfl, small9 (by show 2 ≤ 1000; decide), fun t1 ht1 => ?_⟩
    have n1 := same_new ht1 (.tup [.str (T.cs.getD i d0).nm, nV (T.cs.getD i d0).pl])
    refine ⟨_, rfl, small9 (by show 2 ≤ 1000; decide), fun t2 ht2 => ?_⟩
    have n2 := same_new ht2 (.tup [.ref t1, .ref (au i)])
    have hD2 := n2 _ _ (n1 _ _ hD1)
    refine cyes hi ⟨_, _, _, rfl⟩ hD2 (small1000 (by omega)) ⟨(s1.trans (n1.trans n2)).put hD, by rw [List.length_append, yl]; rfl, ?_⟩
    rw [ct_snoc]
    exact PrsT.snoc (p := (cKey (T.cs.getD i d0), .ref (au i))) (PrsT.tk (Tk.put hD2) (PrsT.tk (Tk.of (n1.trans n2)) hP)) (Tk.put hD2 _ _ upd_same) (Tk.put hD2 _ _ (n2 _ _ upd_same))
  · rintro ys H1 ⟨s1, yl, hP⟩ hD1
    refine ⟨D, ys, _, rfl, hD1, hP, fun e he => q e _ (s1.trans (same_new he _)) ⟨_, upd_same, fun cc hcc => ?_⟩⟩
    obtain ⟨i, hi⟩ := List.mem_iff_getElem?.mp hcc
    have hil := (List.getElem?_eq_some_iff.mp hi).1
    have en : T.cs.getD i d0 = cc := by
      have := ge i hil
      rw [hi] at this
      exact (Option.some.inj this).symm
    refine ⟨au i, ?_, ?_⟩
    · rw [← en]
      exact putT_at (ctOf T au T.cs.length) [] (cKey (T.cs.getD i d0), .ref (au i)) (ct_nd nT) (List.mem_map.mpr ⟨i, List.mem_range.mpr hil, rfl⟩)
    · rw [← en]
      exact (s1.trans (same_new he _)) _ _ (gx i hil).2.2

abbrev s_steps_of : Stmt := top 3
theorem sc_steps_of : FnScope ["T", "steps", "name", "places", "cells"] ["T"] (defScope s_steps_of) := ⟨rfl, rfl, rfl, by decide +kernel, rfl, by decide +kernel, by decide +kernel⟩
theorem ok_steps_of {P : Program} {w : World} {K : PySem.W.Frag} {mg : Str → Option Value} {base : Heap} {f : Addr} {fd : FuncData} (F : Fun K "steps_of" "steps_of" s_steps_of f fd) (gb : Gb mg) : FnOk P w K mg base CX0 1 f fd ["T"] spSteps := by
  refine F.ok sc_steps_of (fun vs H Q E h => ?_) (fun cdv A outer s H vs Q E hr h => ?_)
  · obtain ⟨v, T, rfl, _⟩ := h
    rfl
  obtain ⟨v, T, rfl, ia, gT, q⟩ := h
  have nd0 : (["other", "name"] : List Str).Nodup := by decide +kernel
  have nd1 : (["other", "name"] : List Str).Nodup := by decide +kernel
  refine ⟨_, (@pss_cons _ _ _ _ _ (@ps_set _ _ 1 _ _ _ _ sc_steps_of.nd rfl (Or.inl rfl) (@pe_lst _ _ _ _ (@pa_nil _)) (by rfl) (by first | exact .inl rfl | exact .inr rfl | assumption)) (@pss_cons _ _ _ _ _ (@ps_for _ _ _ _ _ _ _ _ PassesOwn.never rfl (@kpi_tup _ K _ _ _ (@pe_ix _ _ _ _ _ _ _ (@kix_seq _ K (by rfl)) (@pv _ 0 _ _ (by rfl) (by first | exact Or.inl rfl | exact Or.inr (Or.inl rfl) | exact Or.inr (Or.inr rfl)) (by decide) (by decide)) (@pe_int _ _ _ _) (fun _ _ => rfl)) (by rfl)) (@kpg_tup _ K _ _ _ _ 3 rfl (@pgs_cons _ _ _ _ _ (@pg_name _ _ 2 _ sc_steps_of.nd rfl (Or.inr rfl) (by first | exact .inl rfl | exact .inr rfl | assumption)) (@pgs_cons _ _ _ _ _ (@pg_name _ _ 3 _ sc_steps_of.nd rfl (Or.inl rfl) (by first | exact .inl rfl | exact .inr rfl | assumption)) (@pgs_cons _ _ _ _ _ (@pg_name _ _ 4 _ sc_steps_of.nd rfl (Or.inl rfl) (by first | exact .inl rfl | exact .inr rfl | assumption)) (@pgs_nil _) (by rfl)) (by rfl)) (by rfl)) (by rfl) (by rfl) (by rfl)) (@pss_cons _ _ _ _ _ (@ps_if _ _ _ _ _ _ _ _ (@pt_cmpR _ _ _ _ _ _ _ _ (@op_eq _) (@pv _ 3 _ _ (by rfl) (by first | exact Or.inl rfl | exact Or.inr (Or.inl rfl) | exact Or.inr (Or.inr rfl)) (by decide) (by decide)) (@pe_int _ _ _ _) (@nomark _ _ (by decide) (by decide))) (@pss_one _ _ _ (@ps_expr _ _ _ _ (@kpe_bm _ K _ _ _ _ _ _ _ _ _ _ _ PySem.F.plainAttrs_list PySem.F.slot_list_append PySem.F.type_list_append (@mt_append _) (@pv _ 1 _ _ (by rfl) (by first | exact Or.inl rfl | exact Or.inr (Or.inl rfl) | exact Or.inr (Or.inr rfl)) (by decide) (by decide)) (@pa_cons _ _ _ _ _ (@pe_tup _ _ _ _ _ (@pa_cons _ _ _ _ _ (@pv _ 2 _ _ (by rfl) (by first | exact Or.inl rfl | exact Or.inr (Or.inl rfl) | exact Or.inr (Or.inr rfl)) (by decide) (by decide)) (@pa_cons _ _ _ _ _ (@pe_int _ _ _ _) (@pa_cons _ _ _ _ _ (@pe_non _ _ _) (@pa_nil _) (by rfl)) (by rfl)) (by rfl))) (@pa_nil _) (by rfl)) (by rfl) (by rfl) (by rfl) (by rfl) (by rfl) (by rfl)) (by rfl))) (@pss_nil _)) (@pss_one _ _ _ (@ps_if _ _ _ _ _ _ _ _ (@pt_cmpR _ _ _ _ _ _ _ _ (@op_eq _) (@pv _ 3 _ _ (by rfl) (by first | exact Or.inl rfl | exact Or.inr (Or.inl rfl) | exact Or.inr (Or.inr rfl)) (by decide) (by decide)) (@pe_int _ _ _ _) (@nomark _ _ (by decide) (by decide))) (@pss_cons _ _ _ _ _ (@ps_expr _ _ _ _ (@kpe_bm _ K _ _ _ _ _ _ _ _ _ _ _ PySem.F.plainAttrs_list PySem.F.slot_list_extend PySem.F.type_list_extend (@mt_extend _) (@pv _ 1 _ _ (by rfl) (by first | exact Or.inl rfl | exact Or.inr (Or.inl rfl) | exact Or.inr (Or.inr rfl)) (by decide) (by decide)) (@pa_cons _ _ _ _ _ (@pe_comp _ ["other", "name"] [none, some 2] _ _ _ _ _ _ _ _ _ _ (by exact (show CompOk ["T", "steps", "name", "places", "cells"] (defScope s_steps_of) ["other", "name"] [none, some 2] _ from ⟨rfl, by decide +kernel, by decide +kernel, by decide +kernel, by decide +kernel, rfl, by decide +kernel⟩)) rfl (@pi_range1 _ _ _ _ _ _ rfl gb.range (@pa_cons _ _ _ _ _ (@pe_ix _ _ _ _ _ _ _ (@kix_seq _ K (by rfl)) (@pv _ 0 _ _ (by rfl) (by first | exact Or.inl rfl | exact Or.inr (Or.inl rfl) | exact Or.inr (Or.inr rfl)) (by decide) (by decide)) (@pe_int _ _ _ _) (fun _ _ => rfl)) (@pa_nil _) (by rfl)) (by rfl)) (fun _ _ _ _ => (@pg_name _ _ 0 _ nd0 rfl (Or.inl rfl) (by first | exact .inl rfl | exact .inr rfl | assumption))) (fun _ _ _ _ => (@pf_nil _)) (fun _ _ _ _ => (@pe_tup _ _ _ _ _ (@pa_cons _ _ _ _ _ (@pv _ 1 _ _ (by rfl) (by first | exact Or.inl rfl | exact Or.inr (Or.inl rfl) | exact Or.inr (Or.inr rfl)) (by decide) (by decide)) (@pa_cons _ _ _ _ _ (@pe_int _ _ _ _) (@pa_cons _ _ _ _ _ (@pv _ 0 _ _ (by rfl) (by first | exact Or.inl rfl | exact Or.inr (Or.inl rfl) | exact Or.inr (Or.inr rfl)) (by decide) (by decide)) (@pa_nil _) (by rfl)) (by rfl)) (by rfl)))) (by intro _; rfl)) (@pa_nil _) (by rfl)) (by rfl) (by rfl) (by rfl) (by rfl) (by rfl) (by rfl)) (by rfl)) (@pss_one _ _ _ (@ps_expr _ _ _ _ (@kpe_bm _ K _ _ _ _ _ _ _ _ _ _ _ PySem.F.plainAttrs_list PySem.F.slot_list_extend PySem.F.type_list_extend (@mt_extend _) (@pv _ 1 _ _ (by rfl) (by first | exact Or.inl rfl | exact Or.inr (Or.inl rfl) | exact Or.inr (Or.inr rfl)) (by decide) (by decide)) (@pa_cons _ _ _ _ _ (@pe_comp _ ["other", "name"] [none, some 2] _ _ _ _ _ _ _ _ _ _ (by exact (show CompOk ["T", "steps", "name", "places", "cells"] (defScope s_steps_of) ["other", "name"] [none, some 2] _ from ⟨rfl, by decide +kernel, by decide +kernel, by decide +kernel, by decide +kernel, rfl, by decide +kernel⟩)) rfl (@pi_range1 _ _ _ _ _ _ rfl gb.range (@pa_cons _ _ _ _ _ (@pe_ix _ _ _ _ _ _ _ (@kix_seq _ K (by rfl)) (@pv _ 0 _ _ (by rfl) (by first | exact Or.inl rfl | exact Or.inr (Or.inl rfl) | exact Or.inr (Or.inr rfl)) (by decide) (by decide)) (@pe_int _ _ _ _) (fun _ _ => rfl)) (@pa_nil _) (by rfl)) (by rfl)) (fun _ _ _ _ => (@pg_name _ _ 0 _ nd1 rfl (Or.inl rfl) (by first | exact .inl rfl | exact .inr rfl | assumption))) (fun _ _ _ _ => (@pf_nil _)) (fun _ _ _ _ => (@pe_tup _ _ _ _ _ (@pa_cons _ _ _ _ _ (@pv _ 1 _ _ (by rfl) (by first | exact Or.inl rfl | exact Or.inr (Or.inl rfl) | exact Or.inr (Or.inr rfl)) (by decide) (by decide)) (@pa_cons _ _ _ _ _ (@pe_int _ _ _ _) (@pa_cons _ _ _ _ _ (@pv _ 0 _ _ (by rfl) (by first | exact Or.inl rfl | exact Or.inr (Or.inl rfl) | exact Or.inr (Or.inr rfl)) (by decide) (by decide)) (@pa_nil _) (by rfl)) (by rfl)) (by rfl)))) (by intro _; rfl)) (@pa_nil _) (by rfl)) (by rfl) (by rfl) (by rfl) (by rfl) (by rfl) (by rfl)) (by rfl)))) (@pss_nil _)))) (by intro _; rfl)) (@pss_one _ _ _ (@ps_ret _ _ _ _ (@pv _ 1 _ _ (by rfl) (by first | exact Or.inl rfl | exact Or.inr (Or.inl rfl) | exact Or.inr (Or.inr rfl)) (by decide) (by decide)))))), ?_⟩
  obtain ⟨a, w0, c, vs, rfl, h1, h2, h3, h4⟩ := id ia
  have m9 := gT.m9
  have gcl := gT.cl
  refine ⟨small9 (by show 0 ≤ 1000; decide), fun sl hsl => ?_⟩
  have n0 := same_new hsl (.lst [])
  refine ⟨_, rfl, .inr (.inl ⟨a, _, 2, _, rfl, rfl, SqT.of (n0 _ _ h1), rfl, c, rfl, ⟨_, SqT.of (n0 _ _ h3)⟩, ?_⟩)⟩
  refine for_tup (xs := vs) (fun i σ H' => (∃ x2 x3 x4, σ = [some (.ref a), some (.ref sl), x2, x3, x4]) ∧ Same H H' ∧ ∃ xs, H' sl = some (.lst xs) ∧ Sts H' ((T.cs.take i).flatMap (stpC T.m)) xs) ⟨⟨_, _, _, rfl⟩, n0, [], upd_same, .nil⟩ (fun i σ H' _ h => SqT.of (h.2.1 _ _ h3)) ?_ ?_
  · rintro i x σ H1 hx ⟨⟨x2, x3, x4, rfl⟩, s1, xs, hs, hS⟩
    have hi : i < T.cs.length := by
      rw [h4.len]
      exact (List.getElem?_eq_some_iff.mp hx).1
    have hcc : T.cs[i]? = some T.cs[i] := List.getElem?_eq_getElem hi
    generalize T.cs[i] = cc at hcc
    obtain ⟨nl, p2, cs3⟩ := gT.cn cc (List.mem_of_getElem? hcc)
    obtain ⟨t, u, e1, k1, k2⟩ := h4.get hcc
    rw [hx] at e1
    cases e1
    have xl : xs.length ≤ 18 * 16 := by
      have l1 := Paired.length hS
      have l2 := stps_len m9 (T.cs.take i)
      rw [List.length_take] at l2
      omega
    refine ⟨t, _, rfl, SqT.of (s1 _ _ k1), rfl, _, _, rfl, _, _, rfl, _, _, rfl, rfl, ?_⟩
    refine ⟨_, rfl, rfl, _, rfl, ?_⟩
    by_cases p1 : cc.pl = 1
    · refine ite2 (fun _ => ?_) (fun z => absurd (decide_eq_true (by rw [p1]; rfl)) z)
      refine ⟨_, rfl, .inl ⟨rfl, _, SqL.of hs⟩, _, rfl, small9 (by show 3 ≤ 1000; decide), fun t1 ht1 => ?_⟩
      have n1 := same_new ht1 (.tup [.str cc.nm, .int 0, .non])
      have hs1 := n1 _ _ hs
      refine ⟨sl, _, _, rfl, rfl, hs1, small1000 (by omega), ?_⟩
      refine ⟨_, rfl, rfl, _, rfl, ?_⟩
      refine ite2 (fun z => absurd (of_decide_eq_true z) (nV_ne (k := 2) (by omega))) (fun _ => ?_)
      refine ⟨⟨_, _, _, rfl⟩, (s1.trans n1).put hsl, _, upd_same, ?_⟩
      rw [take_snoc hcc, List.flatMap_append]
      have e : [cc].flatMap (stpC T.m) = [(cc, 0, none)] := by
        rw [List.flatMap_singleton]
        unfold stpC
        rw [if_pos p1, if_neg (by omega), List.append_nil]
      rw [e]
      exact Sts.app (Sts.tk ((Tk.of n1).trans (Tk.put hs1)) hS) (.cons ⟨t1, rfl, Tk.put hs1 _ _ upd_same⟩ .nil)
    refine ite2 (fun z => absurd (of_decide_eq_true z) (nV_ne (k := 1) p1)) (fun _ => ?_)
    refine ⟨_, rfl, rfl, _, rfl, ?_⟩
    by_cases p2' : cc.pl = 2
    · refine ite2 (fun _ => ?_) (fun z => absurd (decide_eq_true (by rw [p2']; rfl)) z)
      have half : ∀ (k : Nat) (H2 : Hp) (D : Addr) (Q : VK), H2 D = none → (∀ ys H3, Same H2 H3 → H3 D = some (.lst ys) → ys.length = T.m → Sts H3 ((List.range T.m).map fun o => (cc, k, some o)) ys → Q (.ref D) H3) →
          CompGo (Itr 0 T.m) (gName 0) tYes (tTup (tCons (tVar 1) (tCons (tC (nV k)) (tCons (tVar 0) tNil)))) [none, some (.str cc.nm)] H2 Q D := fun k H2 D Q hD q2 => by
        refine comp_range (fun j ys H' => Same H2 H' ∧ ys.length = j ∧ Sts H' ((List.range j).map fun o => (cc, k, some o)) ys) ⟨same_new hD _, rfl, .nil⟩ ?_ ?_
        · rintro j ys H3 hj ⟨s3, yl, hY⟩ hD3
          refine yes ⟨_, rfl, _, rfl, small9 (by show 3 ≤ 1000; decide), fun t1 ht1 => ?_⟩
          have n1 := same_new ht1 (.tup [.str cc.nm, nV k, .int (0 + (j : Int))])
          have hD4 := n1 _ _ hD3
          refine cyes hj rset1 hD4 (small1000 (by omega)) ⟨(s3.trans n1).put hD, by rw [List.length_append, yl]; rfl, ?_⟩
          rw [List.range_succ, List.map_append]
          refine Sts.app (Sts.tk ((Tk.of n1).trans (Tk.put hD4)) hY) (.cons ⟨t1, rfl, Tk.put hD4 _ _ ?_⟩ .nil)
          rw [upd_same, Int.zero_add]
          rfl
        · rintro ys H3 ⟨s3, yl, hY⟩ hD3
          exact q2 ys H3 s3 hD3 yl hY
      refine ⟨_, rfl, .inl ⟨rfl, _, SqL.of hs⟩, ?_⟩
      refine ⟨_, rfl, .inr (.inl ⟨a, _, 0, _, rfl, rfl, SqT.of (s1 _ _ h1), rfl, (T.m : Int), rfl, by omega, by omega, fun D hD => ?_⟩)⟩
      rw [Int.toNat_natCast]
      refine half 0 H1 D _ hD fun ys H2 s2 hD2 yl hY => ?_
      have hs2 := s2 _ _ hs
      refine ⟨sl, D, _, _, rfl, rfl, hs2, hD2, small9 (by omega), ?_⟩
      have Dsl : D ≠ sl := fun z => by rw [z, hs] at hD; cases hD
      have s02 : Same H (upd H2 sl (.lst (xs ++ ys))) := (s1.trans s2).put hsl
      have hs2' : (upd H2 sl (.lst (xs ++ ys))) sl = some (.lst (xs ++ ys)) := upd_same
      have hS2 : Sts (upd H2 sl (.lst (xs ++ ys))) ((T.cs.take i).flatMap (stpC T.m) ++ (List.range T.m).map fun o => (cc, 0, some o)) (xs ++ ys) := Sts.tk (Tk.put hs2) (Sts.app (Sts.tk (Tk.of s2) hS) hY)
      generalize upd H2 sl (.lst (xs ++ ys)) = H3 at *
      refine ⟨_, rfl, .inl ⟨rfl, _, SqL.of hs2'⟩, ?_⟩
      refine ⟨_, rfl, .inr (.inl ⟨a, _, 0, _, rfl, rfl, SqT.of (s02 _ _ h1), rfl, (T.m : Int), rfl, by omega, by omega, fun D3 hD3 => ?_⟩)⟩
      rw [Int.toNat_natCast]
      refine half 1 H3 D3 _ hD3 fun zs H4 s4 hD4 zl hZ => ?_
      have hs4 := s4 _ _ hs2'
      refine ⟨sl, D3, _, _, rfl, rfl, hs4, hD4, small9 (by rw [List.length_append]; omega), ?_⟩
      refine ⟨⟨_, _, _, rfl⟩, (s02.trans s4).put hsl, _, upd_same, ?_⟩
      rw [take_snoc hcc, List.flatMap_append]
      have e : [cc].flatMap (stpC T.m) = (List.range T.m).map (fun o => (cc, 0, some o)) ++ (List.range T.m).map (fun o => (cc, 1, some o)) := by
        rw [List.flatMap_singleton]
        unfold stpC
        rw [if_pos p2', if_neg p1, List.nil_append]
      rw [e, ← List.append_assoc]
      exact Sts.tk (Tk.put hs4) (Sts.app (Sts.tk (Tk.of s4) hS2) hZ)
    refine ite2 (fun z => absurd (of_decide_eq_true z) (nV_ne (k := 2) p2')) (fun _ => ?_)
    refine ⟨⟨_, _, _, rfl⟩, s1, _, hs, ?_⟩
    rw [take_snoc hcc, List.flatMap_append]
    have e : [cc].flatMap (stpC T.m) = [] := by
      rw [List.flatMap_singleton]
      unfold stpC
      rw [if_neg p1, if_neg p2', List.nil_append]
    rw [e, List.append_nil]
    exact hS
  · rintro σ H1 ⟨⟨x2, x3, x4, rfl⟩, s1, xs, hs, hS⟩
    rw [show T.cs.take vs.length = T.cs by rw [← h4.len, List.take_length]] at hS
    exact ⟨_, rfl, q sl xs H1 hsl s1 hs hS⟩

abbrev s_stepped : Stmt := top 4
theorem sc_stepped : FnScope ["cells", "many", "step", "x"] ["cells", "many", "step", "x"] (defScope s_stepped) := ⟨rfl, rfl, rfl, by decide +kernel, rfl, by decide +kernel, by decide +kernel⟩
theorem ok_stepped {P : Program} {w : World} {K : PySem.W.Frag} {mg : Str → Option Value} {base : Heap} {f : Addr} {fd : FuncData} (F : Fun K "stepped" "stepped" s_stepped f fd) (gb : Gb mg) : FnOk P w K mg base CX0 1 f fd ["cells", "many", "step", "x"] spStepped := by
  refine F.ok sc_stepped (fun vs H Q E h => ?_) (fun cdv A outer s H vs Q E hr h => ?_)
  · obtain ⟨e', t, T, s, x, rfl, _⟩ := h
    rfl
  obtain ⟨e', t, T, s, x, rfl, hc, gT, hs, ht, hx, q⟩ := h
  refine ⟨_, (@pss_cons _ _ _ _ _ (@ps_if _ _ _ _ _ _ _ _ (@pt_cmpR _ _ _ _ _ _ _ _ (@op_isN _) (@pe_ix _ _ _ _ _ _ _ (@kix_seq _ K (by rfl)) (@pv _ 2 _ _ (by rfl) (by first | exact Or.inl rfl | exact Or.inr (Or.inl rfl) | exact Or.inr (Or.inr rfl)) (by decide) (by decide)) (@pe_int _ _ _ _) (fun _ _ => rfl)) (@pe_non _ _ _) (@nomark _ _ (by decide) (by decide))) (@pss_one _ _ _ (@ps_ret _ _ _ _ (@pe_ix _ _ _ _ _ _ _ (@kix_seq _ K (by rfl)) (@pe_dget _ _ _ _ _ _ (@hu1 _ _ hr) (@pv _ 0 _ _ (by rfl) (by first | exact Or.inl rfl | exact Or.inr (Or.inl rfl) | exact Or.inr (Or.inr rfl)) (by decide) (by decide)) (@pe_tup _ _ _ _ _ (@pa_cons _ _ _ _ _ (@pe_ix _ _ _ _ _ _ _ (@kix_seq _ K (by rfl)) (@pv _ 2 _ _ (by rfl) (by first | exact Or.inl rfl | exact Or.inr (Or.inl rfl) | exact Or.inr (Or.inr rfl)) (by decide) (by decide)) (@pe_int _ _ _ _) (fun _ _ => rfl)) (@pa_cons _ _ _ _ _ (@pe_int _ _ _ _) (@pa_nil _) (by rfl)) (by rfl))) (fun _ _ => rfl)) (@pv _ 3 _ _ (by rfl) (by first | exact Or.inl rfl | exact Or.inr (Or.inl rfl) | exact Or.inr (Or.inr rfl)) (by decide) (by decide)) (fun _ _ => rfl)))) (@pss_nil _)) (@pss_cons _ _ _ _ _ (@ps_if _ _ _ _ _ _ _ _ (@pt_cmpR _ _ _ _ _ _ _ _ (@op_eq _) (@pe_ix _ _ _ _ _ _ _ (@kix_seq _ K (by rfl)) (@pv _ 2 _ _ (by rfl) (by first | exact Or.inl rfl | exact Or.inr (Or.inl rfl) | exact Or.inr (Or.inr rfl)) (by decide) (by decide)) (@pe_int _ _ _ _) (fun _ _ => rfl)) (@pe_int _ _ _ _) (@nomark _ _ (by decide) (by decide))) (@pss_one _ _ _ (@ps_ret _ _ _ _ (@pe_ix _ _ _ _ _ _ _ (@kix_seq _ K (by rfl)) (@pe_dget _ _ _ _ _ _ (@hu1 _ _ hr) (@pv _ 0 _ _ (by rfl) (by first | exact Or.inl rfl | exact Or.inr (Or.inl rfl) | exact Or.inr (Or.inr rfl)) (by decide) (by decide)) (@pe_tup _ _ _ _ _ (@pa_cons _ _ _ _ _ (@pe_ix _ _ _ _ _ _ _ (@kix_seq _ K (by rfl)) (@pv _ 2 _ _ (by rfl) (by first | exact Or.inl rfl | exact Or.inr (Or.inl rfl) | exact Or.inr (Or.inr rfl)) (by decide) (by decide)) (@pe_int _ _ _ _) (fun _ _ => rfl)) (@pa_cons _ _ _ _ _ (@pe_int _ _ _ _) (@pa_nil _) (by rfl)) (by rfl))) (fun _ _ => rfl)) (@pe_op _ _ _ _ _ _ _ _ (@op_add _) (@pe_op _ _ _ _ _ _ _ _ (@op_mul _) (@pv _ 3 _ _ (by rfl) (by first | exact Or.inl rfl | exact Or.inr (Or.inl rfl) | exact Or.inr (Or.inr rfl)) (by decide) (by decide)) (@pv _ 1 _ _ (by rfl) (by first | exact Or.inl rfl | exact Or.inr (Or.inl rfl) | exact Or.inr (Or.inr rfl)) (by decide) (by decide))) (@pe_ix _ _ _ _ _ _ _ (@kix_seq _ K (by rfl)) (@pv _ 2 _ _ (by rfl) (by first | exact Or.inl rfl | exact Or.inr (Or.inl rfl) | exact Or.inr (Or.inr rfl)) (by decide) (by decide)) (@pe_int _ _ _ _) (fun _ _ => rfl))) (fun _ _ => rfl)))) (@pss_nil _)) (@pss_one _ _ _ (@ps_ret _ _ _ _ (@pe_ix _ _ _ _ _ _ _ (@kix_seq _ K (by rfl)) (@pe_dget _ _ _ _ _ _ (@hu1 _ _ hr) (@pv _ 0 _ _ (by rfl) (by first | exact Or.inl rfl | exact Or.inr (Or.inl rfl) | exact Or.inr (Or.inr rfl)) (by decide) (by decide)) (@pe_tup _ _ _ _ _ (@pa_cons _ _ _ _ _ (@pe_ix _ _ _ _ _ _ _ (@kix_seq _ K (by rfl)) (@pv _ 2 _ _ (by rfl) (by first | exact Or.inl rfl | exact Or.inr (Or.inl rfl) | exact Or.inr (Or.inr rfl)) (by decide) (by decide)) (@pe_int _ _ _ _) (fun _ _ => rfl)) (@pa_cons _ _ _ _ _ (@pe_int _ _ _ _) (@pa_nil _) (by rfl)) (by rfl))) (fun _ _ => rfl)) (@pe_op _ _ _ _ _ _ _ _ (@op_add _) (@pe_op _ _ _ _ _ _ _ _ (@op_mul _) (@pe_ix _ _ _ _ _ _ _ (@kix_seq _ K (by rfl)) (@pv _ 2 _ _ (by rfl) (by first | exact Or.inl rfl | exact Or.inr (Or.inl rfl) | exact Or.inr (Or.inr rfl)) (by decide) (by decide)) (@pe_int _ _ _ _) (fun _ _ => rfl)) (@pv _ 1 _ _ (by rfl) (by first | exact Or.inl rfl | exact Or.inr (Or.inl rfl) | exact Or.inr (Or.inr rfl)) (by decide) (by decide))) (@pv _ 3 _ _ (by rfl) (by first | exact Or.inl rfl | exact Or.inr (Or.inl rfl) | exact Or.inr (Or.inr rfl)) (by decide) (by decide))) (fun _ _ => rfl)))))), ?_⟩
  obtain ⟨kvs, he, hv⟩ := id hc
  obtain ⟨c, hcm, hcs⟩ := stp_cases hs
  obtain ⟨u, hu1, hu2⟩ := hv c hcm
  obtain ⟨_, _, cs3⟩ := gT.cn c hcm
  have m9 := gT.m9
  refine ⟨_, rfl, .inr (.inl ⟨t, _, 2, _, rfl, rfl, SqT.of ht, rfl, rfl, _, rfl, ?_⟩)⟩
  rcases hcs with ⟨p1, rfl⟩ | ⟨p2, o, ho, hs2⟩
  · refine ite2 (fun _ => ?_) (fun z => absurd (decide_eq_true rfl) z)
    refine ⟨_, rfl, _, rfl, .inr (.inl ⟨t, _, 0, _, rfl, rfl, SqT.of ht, rfl, small9 (by show 2 ≤ 1000; decide), fun kt hkt => ?_⟩)⟩
    have n1 := same_new hkt (.tup [.str c.nm, .int 1])
    have hg : DGet (upd H kt (.tup [.str c.nm, .int 1])) e' (.ref kt) (valV kvs (cKey c)) := DGet.t (n1 _ _ he) (by rw [upd_same]; unfold cKey; rw [p1]; rfl)
    rw [hu1] at hg
    refine ⟨e', _, rfl, hg, ?_⟩
    refine ⟨_, rfl, .inr (.inl ⟨u, _, _, _, rfl, rfl, SqT.of (n1 _ _ hu2), at_nV (by rw [cs3.len, p1, Nat.pow_one]; exact hx), q _ n1⟩)⟩
  have two : ∀ a b, a < T.m → b < T.m → a * T.m + b < c.cs.length := fun a b ha hb => by
    rw [cs3.len, p2]
    have : (a + 1) * T.m ≤ T.m * T.m := Nat.mul_le_mul_right _ ha
    rw [Nat.add_mul] at this
    show _ < T.m ^ 2
    rw [Nat.pow_succ, Nat.pow_one]
    omega
  have ix : ∀ a b : Nat, a < T.m → b < T.m → atI (c.cs.map nV) ((a : Int) * (T.m : Int) + (b : Int)) = some (nV (Tn.at' c.cs (a * T.m + b))) := fun a b ha hb => by
    rw [← Int.natCast_mul, ← Int.natCast_add]
    exact at_nV (two a b ha hb)
  have go : ∀ k : Nat, s = (c, k, some o) → nO s.2.2 = nV o ∧ stV s = [.str c.nm, nV k, nV o] := fun k e => by rw [e]; exact ⟨rfl, rfl⟩
  rcases hs2 with e | e
  · obtain ⟨g1, g2⟩ := go 0 e
    rw [g2] at ht
    rw [g1]
    refine ite2 (fun z => absurd (of_decide_eq_true z) (by intro h; cases h)) (fun _ => ?_)
    refine ⟨_, rfl, .inr (.inl ⟨t, _, 1, _, rfl, rfl, SqT.of ht, rfl, rfl, _, rfl, ?_⟩)⟩
    refine ite2 (fun _ => ?_) (fun z => absurd (decide_eq_true rfl) z)
    refine ⟨_, rfl, _, rfl, .inr (.inl ⟨t, _, 0, _, rfl, rfl, SqT.of ht, rfl, small9 (by show 2 ≤ 1000; decide), fun kt hkt => ?_⟩)⟩
    have n1 := same_new hkt (.tup [.str c.nm, .int 2])
    have hg : DGet (upd H kt (.tup [.str c.nm, .int 2])) e' (.ref kt) (valV kvs (cKey c)) := DGet.t (n1 _ _ he) (by rw [upd_same]; unfold cKey; rw [p2]; rfl)
    rw [hu1] at hg
    refine ⟨e', _, rfl, hg, ?_⟩
    refine ⟨_, rfl, _, rfl, _, _, rfl, rfl, .inr ⟨by omega, by omega⟩, _, rfl, .inr (.inl ⟨t, _, 2, _, rfl, rfl, SqT.of (n1 _ _ ht), rfl, _, _, rfl, rfl, ?_⟩)⟩
    have q1 := q _ n1
    rw [e] at q1
    exact .inr (.inl ⟨u, _, _, _, rfl, rfl, SqT.of (n1 _ _ hu2), ix x o hx ho, q1⟩)
  · obtain ⟨g1, g2⟩ := go 1 e
    rw [g2] at ht
    rw [g1]
    refine ite2 (fun z => absurd (of_decide_eq_true z) (by intro h; cases h)) (fun _ => ?_)
    refine ⟨_, rfl, .inr (.inl ⟨t, _, 1, _, rfl, rfl, SqT.of ht, rfl, rfl, _, rfl, ?_⟩)⟩
    refine ite2 (fun z => absurd (of_decide_eq_true z) (nV_ne (n := 1) (k := 0) (by decide))) (fun _ => ?_)
    refine ⟨_, rfl, _, rfl, .inr (.inl ⟨t, _, 0, _, rfl, rfl, SqT.of ht, rfl, small9 (by show 2 ≤ 1000; decide), fun kt hkt => ?_⟩)⟩
    have n1 := same_new hkt (.tup [.str c.nm, .int 2])
    have hg : DGet (upd H kt (.tup [.str c.nm, .int 2])) e' (.ref kt) (valV kvs (cKey c)) := DGet.t (n1 _ _ he) (by rw [upd_same]; unfold cKey; rw [p2]; rfl)
    rw [hu1] at hg
    refine ⟨e', _, rfl, hg, ?_⟩
    refine ⟨_, rfl, .inr (.inl ⟨t, _, 2, _, rfl, rfl, SqT.of (n1 _ _ ht), rfl, _, rfl, _, _, rfl, rfl, .inr ⟨by omega, by omega⟩, _, rfl, _, _, rfl, rfl, ?_⟩)⟩
    have q1 := q _ n1
    rw [e] at q1
    exact .inr (.inl ⟨u, _, _, _, rfl, rfl, SqT.of (n1 _ _ hu2), ix o x ho hx, q1⟩)

abbrev s_led : Stmt := top 5
theorem sc_led : FnScope ["T", "steps", "x", "cells", "reached", "step"] ["T", "steps", "x"] (defScope s_led) := ⟨rfl, rfl, rfl, by decide +kernel, rfl, by decide +kernel, by decide +kernel⟩
theorem ok_led {P : Program} {w : World} {K : PySem.W.Frag} {mg : Str → Option Value} {base : Heap} {f : Addr} {fd : FuncData} (F : Fun K "led" "led" s_led f fd) (gb : Gb mg) (d_cells_by_name : Def P w K mg base 1 "cells_by_name" ["H"] spCbn) (d_stepped : Def P w K mg base 1 "stepped" ["cells", "many", "step", "x"] spStepped) : FnOk P w K mg base CX0 2 f fd ["T", "steps", "x"] spLed := by
  refine F.ok sc_led (fun vs H Q E h => ?_) (fun cdv A outer s H vs Q E hr h => ?_)
  · obtain ⟨v, st, T, xs, ss, x, rfl, _⟩ := h
    rfl
  obtain ⟨v, st, T, xs, ss, x, rfl, ia, gT, nT, hst, hS, hsm, hx, q⟩ := h
  refine ⟨_, (@pss_cons _ _ _ _ _ (@ps_set _ _ 3 _ _ _ _ sc_led.nd rfl (Or.inl rfl) (@pe_def _ _ _ _ _ _ _ _ _ _ _ d_cells_by_name hr (by omega) rfl (@pa_cons _ _ _ _ _ (@pv _ 0 _ _ (by rfl) (by first | exact Or.inl rfl | exact Or.inr (Or.inl rfl) | exact Or.inr (Or.inr rfl)) (by decide) (by decide)) (@pa_nil _) (by rfl)) (by decide) (by rfl) (by rfl)) (by rfl) (by first | exact .inl rfl | exact .inr rfl | assumption)) (@pss_cons _ _ _ _ _ (@ps_set _ _ 4 _ _ _ _ sc_led.nd rfl (Or.inl rfl) (@pv _ 2 _ _ (by rfl) (by first | exact Or.inl rfl | exact Or.inr (Or.inl rfl) | exact Or.inr (Or.inr rfl)) (by decide) (by decide)) (by rfl) (by first | exact .inl rfl | exact .inr rfl | assumption)) (@pss_cons _ _ _ _ _ (@ps_for _ _ _ _ _ _ _ _ PassesOwn.never rfl (@kpi_tup _ K _ _ _ (@pv _ 1 _ _ (by rfl) (by first | exact Or.inl rfl | exact Or.inr (Or.inl rfl) | exact Or.inr (Or.inr rfl)) (by decide) (by decide)) (by rfl)) (@pg_name _ _ 5 _ sc_led.nd rfl (Or.inl rfl) (by first | exact .inl rfl | exact .inr rfl | assumption)) (@pss_one _ _ _ (@ps_set _ _ 4 _ _ _ _ sc_led.nd rfl (Or.inl rfl) (@pe_def _ _ _ _ _ _ _ _ _ _ _ d_stepped hr (by omega) rfl (@pa_cons _ _ _ _ _ (@pv _ 3 _ _ (by rfl) (by first | exact Or.inl rfl | exact Or.inr (Or.inl rfl) | exact Or.inr (Or.inr rfl)) (by decide) (by decide)) (@pa_cons _ _ _ _ _ (@pe_ix _ _ _ _ _ _ _ (@kix_seq _ K (by rfl)) (@pv _ 0 _ _ (by rfl) (by first | exact Or.inl rfl | exact Or.inr (Or.inl rfl) | exact Or.inr (Or.inr rfl)) (by decide) (by decide)) (@pe_int _ _ _ _) (fun _ _ => rfl)) (@pa_cons _ _ _ _ _ (@pv _ 5 _ _ (by rfl) (by first | exact Or.inl rfl | exact Or.inr (Or.inl rfl) | exact Or.inr (Or.inr rfl)) (by decide) (by decide)) (@pa_cons _ _ _ _ _ (@pv _ 4 _ _ (by rfl) (by first | exact Or.inl rfl | exact Or.inr (Or.inl rfl) | exact Or.inr (Or.inr rfl)) (by decide) (by decide)) (@pa_nil _) (by rfl)) (by rfl)) (by rfl)) (by rfl)) (by decide) (by rfl) (by rfl)) (by rfl) (by first | exact .inl rfl | exact .inr rfl | assumption))) (by intro _; rfl)) (@pss_one _ _ _ (@ps_ret _ _ _ _ (@pv _ 4 _ _ (by rfl) (by first | exact Or.inl rfl | exact Or.inr (Or.inl rfl) | exact Or.inr (Or.inr rfl)) (by decide) (by decide))))))), ?_⟩
  obtain ⟨a, w0, c, vs, rfl, h1, h2, h3, h4⟩ := id ia
  refine ⟨_, rfl, .ref a, T, rfl, ia, gT, nT, fun e H1 s1 hcd => ?_⟩
  refine ⟨_, rfl, _, rfl, st, rfl, ⟨_, SqT.of (s1 _ _ hst)⟩, ?_⟩
  refine for_tup (xs := xs) (fun i σ H' => (∃ x5, σ = [some (.ref a), some (.ref st), some (nV x), some (.ref e), some (nV (walk1 T.m (ss.take i) x)), x5]) ∧ Same H1 H') ⟨⟨_, rfl⟩, Same.rfl'⟩ (fun i σ H' _ h => SqT.of ((s1.trans h.2) _ _ hst)) ?_ ?_
  · rintro i v σ H2 hv ⟨⟨x5, rfl⟩, s2⟩
    have hi : i < xs.length := (List.getElem?_eq_some_iff.mp hv).1
    have hul := Paired.length hS
    have hsi : ss[i]? = some ss[i] := List.getElem?_eq_getElem (by omega)
    generalize ss[i] = s at hsi
    obtain ⟨v', e1, ts, rfl, hts⟩ := paired_get hS hsi
    rw [hv] at e1
    cases e1
    have hsm' := hsm s (List.mem_of_getElem? hsi)
    have hyl := walk1_lt gT (ss.take i) (fun s' hs' => hsm s' (List.mem_of_mem_take hs')) hx
    have ew : walk1 T.m (ss.take (i + 1)) x = stepV T.m s (walk1 T.m (ss.take i) x) := by rw [take_snoc hsi, walk1_snoc]
    have S2 := s1.trans s2
    refine ⟨_, rfl, _, rfl, .inr (.inl ⟨a, _, 0, _, rfl, rfl, SqT.of (S2 _ _ h1), rfl, _, rfl, _, rfl, e, ts, T, s, _, rfl, hcd.same s2, gT, hsm', S2 _ _ hts, hyl, fun H3 s3 => ?_⟩)⟩
    refine ⟨⟨some (.ref ts), ?_⟩, s2.trans s3⟩
    rw [ew]
    rfl
  · rintro σ H2 ⟨⟨x5, rfl⟩, s2⟩
    rw [show ss.take xs.length = ss by rw [← Paired.length hS, List.take_length]]
    exact ⟨_, rfl, q H2 (s1.trans s2)⟩

abbrev s_next_pairs : Stmt := top 7
theorem sc_next_pairs : FnScope ["T", "cells", "ways", "pairs", "reached", "pair", "step", "led_to"] ["T", "cells", "ways", "pairs"] (defScope s_next_pairs) := ⟨rfl, rfl, rfl, by decide +kernel, rfl, by decide +kernel, by decide +kernel⟩
theorem ok_next_pairs {P : Program} {w : World} {K : PySem.W.Frag} {mg : Str → Option Value} {base : Heap} {f : Addr} {fd : FuncData} (F : Fun K "next_pairs" "next_pairs" s_next_pairs f fd) (gb : Gb mg) (d_steps_of : Def P w K mg base 1 "steps_of" ["T"] spSteps) (d_stepped : Def P w K mg base 1 "stepped" ["cells", "many", "step", "x"] spStepped) : FnOk P w K mg base CX0 3 f fd ["T", "cells", "ways", "pairs"] spNextP := by
  refine F.ok sc_next_pairs (fun vs H Q E h => ?_) (fun cdv A outer s H vs Q E hr h => ?_)
  · obtain ⟨v, e, wy, pl, T, kvs, us, W, P, o, rfl, _⟩ := h
    rfl
  obtain ⟨v, e, wy, pl, T, kvs, us, W, P, o, rfl, ia, gT, hcd, ew, hw, hW, hp, hP, hPW, q⟩ := h
  refine ⟨_, (@pss_cons _ _ _ _ _ (@ps_set _ _ 4 _ _ _ _ sc_next_pairs.nd rfl (Or.inl rfl) (@pe_lst _ _ _ _ (@pa_nil _)) (by rfl) (by first | exact .inl rfl | exact .inr rfl | assumption)) (@pss_cons _ _ _ _ _ (@ps_for _ _ _ _ _ _ _ _ PassesOwn.never rfl (@kpi_list _ K _ _ _ (@pv _ 3 _ _ (by rfl) (by first | exact Or.inl rfl | exact Or.inr (Or.inl rfl) | exact Or.inr (Or.inr rfl)) (by decide) (by decide)) (by rfl)) (@pg_name _ _ 5 _ sc_next_pairs.nd rfl (Or.inl rfl) (by first | exact .inl rfl | exact .inr rfl | assumption)) (@pss_one _ _ _ (@ps_for _ _ _ _ _ _ _ _ PassesOwn.never rfl (@kpi_list _ K _ _ _ (@pe_def _ _ _ _ _ _ _ _ _ _ _ d_steps_of hr (by omega) rfl (@pa_cons _ _ _ _ _ (@pv _ 0 _ _ (by rfl) (by first | exact Or.inl rfl | exact Or.inr (Or.inl rfl) | exact Or.inr (Or.inr rfl)) (by decide) (by decide)) (@pa_nil _) (by rfl)) (by decide) (by rfl) (by rfl)) (by rfl)) (@pg_name _ _ 6 _ sc_next_pairs.nd rfl (Or.inl rfl) (by first | exact .inl rfl | exact .inr rfl | assumption)) (@pss_cons _ _ _ _ _ (@ps_set _ _ 7 _ _ _ _ sc_next_pairs.nd rfl (Or.inl rfl) (@pe_tup _ _ _ _ _ (@pa_cons _ _ _ _ _ (@pe_def _ _ _ _ _ _ _ _ _ _ _ d_stepped hr (by omega) rfl (@pa_cons _ _ _ _ _ (@pv _ 1 _ _ (by rfl) (by first | exact Or.inl rfl | exact Or.inr (Or.inl rfl) | exact Or.inr (Or.inr rfl)) (by decide) (by decide)) (@pa_cons _ _ _ _ _ (@pe_ix _ _ _ _ _ _ _ (@kix_seq _ K (by rfl)) (@pv _ 0 _ _ (by rfl) (by first | exact Or.inl rfl | exact Or.inr (Or.inl rfl) | exact Or.inr (Or.inr rfl)) (by decide) (by decide)) (@pe_int _ _ _ _) (fun _ _ => rfl)) (@pa_cons _ _ _ _ _ (@pv _ 6 _ _ (by rfl) (by first | exact Or.inl rfl | exact Or.inr (Or.inl rfl) | exact Or.inr (Or.inr rfl)) (by decide) (by decide)) (@pa_cons _ _ _ _ _ (@pe_ix _ _ _ _ _ _ _ (@kix_seq _ K (by rfl)) (@pv _ 5 _ _ (by rfl) (by first | exact Or.inl rfl | exact Or.inr (Or.inl rfl) | exact Or.inr (Or.inr rfl)) (by decide) (by decide)) (@pe_int _ _ _ _) (fun _ _ => rfl)) (@pa_nil _) (by rfl)) (by rfl)) (by rfl)) (by rfl)) (by decide) (by rfl) (by rfl)) (@pa_cons _ _ _ _ _ (@pe_def _ _ _ _ _ _ _ _ _ _ _ d_stepped hr (by omega) rfl (@pa_cons _ _ _ _ _ (@pv _ 1 _ _ (by rfl) (by first | exact Or.inl rfl | exact Or.inr (Or.inl rfl) | exact Or.inr (Or.inr rfl)) (by decide) (by decide)) (@pa_cons _ _ _ _ _ (@pe_ix _ _ _ _ _ _ _ (@kix_seq _ K (by rfl)) (@pv _ 0 _ _ (by rfl) (by first | exact Or.inl rfl | exact Or.inr (Or.inl rfl) | exact Or.inr (Or.inr rfl)) (by decide) (by decide)) (@pe_int _ _ _ _) (fun _ _ => rfl)) (@pa_cons _ _ _ _ _ (@pv _ 6 _ _ (by rfl) (by first | exact Or.inl rfl | exact Or.inr (Or.inl rfl) | exact Or.inr (Or.inr rfl)) (by decide) (by decide)) (@pa_cons _ _ _ _ _ (@pe_ix _ _ _ _ _ _ _ (@kix_seq _ K (by rfl)) (@pv _ 5 _ _ (by rfl) (by first | exact Or.inl rfl | exact Or.inr (Or.inl rfl) | exact Or.inr (Or.inr rfl)) (by decide) (by decide)) (@pe_int _ _ _ _) (fun _ _ => rfl)) (@pa_nil _) (by rfl)) (by rfl)) (by rfl)) (by rfl)) (by decide) (by rfl) (by rfl)) (@pa_nil _) (by rfl)) (by rfl))) (by rfl) (by first | exact .inl rfl | exact .inr rfl | assumption)) (@pss_one _ _ _ (@ps_if _ _ _ _ _ _ _ _ (@pt_cmpR _ _ _ _ _ _ _ _ (@op_tNotIn _ _ hr) (@pv _ 7 _ _ (by rfl) (by first | exact Or.inl rfl | exact Or.inr (Or.inl rfl) | exact Or.inr (Or.inr rfl)) (by decide) (by decide)) (@pv _ 2 _ _ (by rfl) (by first | exact Or.inl rfl | exact Or.inr (Or.inl rfl) | exact Or.inr (Or.inr rfl)) (by decide) (by decide)) (by with_unfolding_all rfl)) (@pss_cons _ _ _ _ _ (@ps_dput _ _ _ _ _ _ _ _ _ (@hu1 _ _ hr) (@pv _ 2 _ _ (by rfl) (by first | exact Or.inl rfl | exact Or.inr (Or.inl rfl) | exact Or.inr (Or.inr rfl)) (by decide) (by decide)) (@pv _ 7 _ _ (by rfl) (by first | exact Or.inl rfl | exact Or.inr (Or.inl rfl) | exact Or.inr (Or.inr rfl)) (by decide) (by decide)) (@pe_op _ _ _ _ _ _ _ _ (@op_catA _ K (by rfl)) (@pe_dget _ _ _ _ _ _ (@hu1 _ _ hr) (@pv _ 2 _ _ (by rfl) (by first | exact Or.inl rfl | exact Or.inr (Or.inl rfl) | exact Or.inr (Or.inr rfl)) (by decide) (by decide)) (@pv _ 5 _ _ (by rfl) (by first | exact Or.inl rfl | exact Or.inr (Or.inl rfl) | exact Or.inr (Or.inr rfl)) (by decide) (by decide)) (fun _ _ => rfl)) (@pe_tup _ _ _ _ _ (@pa_cons _ _ _ _ _ (@pv _ 6 _ _ (by rfl) (by first | exact Or.inl rfl | exact Or.inr (Or.inl rfl) | exact Or.inr (Or.inr rfl)) (by decide) (by decide)) (@pa_nil _) (by rfl)))) rfl) (@pss_one _ _ _ (@ps_expr _ _ _ _ (@kpe_bm _ K _ _ _ _ _ _ _ _ _ _ _ PySem.F.plainAttrs_list PySem.F.slot_list_append PySem.F.type_list_append (@mt_append _) (@pv _ 4 _ _ (by rfl) (by first | exact Or.inl rfl | exact Or.inr (Or.inl rfl) | exact Or.inr (Or.inr rfl)) (by decide) (by decide)) (@pa_cons _ _ _ _ _ (@pv _ 7 _ _ (by rfl) (by first | exact Or.inl rfl | exact Or.inr (Or.inl rfl) | exact Or.inr (Or.inr rfl)) (by decide) (by decide)) (@pa_nil _) (by rfl)) (by rfl) (by rfl) (by rfl) (by rfl) (by rfl) (by rfl)) (by rfl)))) (@pss_nil _)))) (by intro _; rfl))) (by intro _; rfl)) (@pss_one _ _ _ (@ps_ret _ _ _ _ (@pv _ 4 _ _ (by rfl) (by first | exact Or.inl rfl | exact Or.inr (Or.inl rfl) | exact Or.inr (Or.inr rfl)) (by decide) (by decide)))))), ?_⟩
  obtain ⟨a, w0, c, vs, rfl, h1, h2, h3, h4⟩ := id ia
  have m9 := gT.m9
  refine ⟨small9 (by show 0 ≤ 1000; decide), fun rl hrl => ?_⟩
  have n0 := same_new hrl (.lst [])
  have plw : pl ≠ wy := ne_of hp hw (by intro z; cases z)
  have plr : pl ≠ rl := ne_of_none hp hrl
  have er : e ≠ rl := by
    obtain ⟨kv0, he0, _⟩ := hcd
    exact ne_of_none he0 hrl
  have hul := Paired.length hP
  refine ⟨_, rfl, pl, rfl, ⟨_, SqL.of (n0 _ _ hp)⟩, ?_⟩
  refine for_list (xs := us) (fun i σ H' => ∃ x5 x6 x7 kvs' us' R, σ = [some (.ref a), some (.ref e), some (.ref wy), some (.ref pl), some (.ref rl), x5, x6, x7] ∧ Of2 wy rl H H' ∧ H' wy = some (.dT kvs') ∧ Wy H' (T, o) kvs' (W ++ R) ∧ H' rl = some (.lst us') ∧ Pr2 H' R us' ∧ (∀ z ∈ R, ∃ p ∈ P, ∃ s ∈ stps T, z = nxt T.m s p) ∧ (∀ p ∈ P.take i, ∀ s ∈ stps T, nxt T.m s p ∈ W ++ R)) ⟨none, none, none, kvs, [], [], rfl, Of2.of n0, n0 _ _ hw, by rw [List.append_nil]; exact hW.tk (Tk.of n0), upd_same, .nil, (fun z h => by cases h), (fun z h => by cases h)⟩ (fun i σ H' _ h => by obtain ⟨_, _, _, _, _, _, _, o, _⟩ := h; exact SqL.of (o _ _ plw plr hp)) ?_ ?_
  · rintro i x σ H1 hx ⟨x5, x6, x7, kvs1, us1, R, rfl, o1, hw1, hW1, hr1, hR1, hF, hN⟩
    have hi : i < us.length := (List.getElem?_eq_some_iff.mp hx).1
    have hpi : P[i]? = some P[i] := List.getElem?_eq_getElem (by omega)
    generalize P[i] = p at hpi
    obtain ⟨v', e1, tp, rfl, htp⟩ := paired_get hP hpi
    rw [hx] at e1
    cases e1
    have hpm := List.mem_of_getElem? hpi
    have k1 : Tk H H1 := o1.tk (by rw [hw]; intro _ z; cases z) (by rw [hrl]; intro _ z; cases z)
    have pW : p ∈ W := hPW p hpm
    obtain ⟨p1, p2⟩ := hW.lt p pW
    refine ⟨_, rfl, .ref a, T, rfl, ia.tk k1, gT, fun st ss H2 fst s2 hst hS => ?_⟩
    have str : st ≠ rl := fun z => by rw [z, hr1] at fst; cases fst
    have stw : st ≠ wy := fun z => by rw [z, hw1] at fst; cases fst
    have hul2 := Paired.length hS
    have hw2 := s2 _ _ hw1
    have hr2 := s2 _ _ hr1
    refine ⟨st, rfl, ⟨_, SqL.of hst⟩, ?_⟩
    refine for_list (xs := ss) (fun j σ H' => ∃ x6 x7 kvs' us' R', σ = [some (.ref a), some (.ref e), some (.ref wy), some (.ref pl), some (.ref rl), some (.ref tp), x6, x7] ∧ Of2 wy rl H2 H' ∧ H' wy = some (.dT kvs') ∧ Wy H' (T, o) kvs' (W ++ R') ∧ H' rl = some (.lst us') ∧ Pr2 H' R' us' ∧ (∀ z ∈ R', ∃ p ∈ P, ∃ s ∈ stps T, z = nxt T.m s p) ∧ (∀ z ∈ R, z ∈ R') ∧ (∀ s ∈ (stps T).take j, nxt T.m s p ∈ W ++ R')) ⟨x6, x7, kvs1, us1, R, rfl, Of2.of Same.rfl', hw2, hW1.tk (Tk.of s2), hr2, hR1.tk (Tk.of s2), hF, fun z h => h, (fun s h => by cases h)⟩ (fun j σ H' _ h => by obtain ⟨_, _, _, _, _, _, o, _⟩ := h; exact SqL.of (o _ _ stw str hst)) ?_ ?_
    · rintro j x σ H3 hx3 ⟨x6, x7, kvs3, us3, R3, rfl, o3, hw3, hW3, hr3, hR3, hF3, hM3, hN3⟩
      have hj : j < ss.length := (List.getElem?_eq_some_iff.mp hx3).1
      have hsj : (stps T)[j]? = some (stps T)[j] := List.getElem?_eq_getElem (by omega)
      generalize (stps T)[j] = s at hsj
      obtain ⟨v', e3, ts, rfl, hts⟩ := paired_get hS hsj
      rw [hx3] at e3
      cases e3
      have hsm := List.mem_of_getElem? hsj
      have k23 : Tk H2 H3 := o3.tk (by rw [hw2]; intro _ z; cases z) (by rw [hr2]; intro _ z; cases z)
      have kH2 : Tk H H2 := k1.trans (Tk.of s2)
      have kH3 : Tk H H3 := kH2.trans k23
      have cd3 : IsCd H3 e T := ((hcd.of2 o1 ew er k1).same s2).of2 o3 ew er k23
      refine ⟨_, rfl, _, rfl, .inr (.inl ⟨a, _, 0, _, rfl, rfl, SqT.of (kH3 _ _ h1), rfl, _, rfl, _, rfl, .inr (.inl ⟨tp, _, 0, _, rfl, rfl, SqT.of (kH3 _ _ htp), rfl, e, ts, T, s, p.1, rfl, cd3, gT, hsm, k23 _ _ hts, p1, fun H4 s4 => ?_⟩)⟩)⟩
      refine ⟨_, rfl, _, rfl, .inr (.inl ⟨a, _, 0, _, rfl, rfl, SqT.of (s4 _ _ (kH3 _ _ h1)), rfl, _, rfl, _, rfl, .inr (.inl ⟨tp, _, 1, _, rfl, rfl, SqT.of (s4 _ _ (kH3 _ _ htp)), rfl, e, ts, T, s, p.2, rfl, cd3.same s4, gT, hsm, s4 _ _ (k23 _ _ hts), p2, fun H5 s5 => ?_⟩)⟩)⟩
      refine ⟨small9 (by show 2 ≤ 1000; decide), fun lt hlt => ?_⟩
      have n6 := same_new hlt (.tup [nV (stepV T.m s p.1), nV (stepV T.m s p.2)])
      have S36 := s4.trans (s5.trans n6)
      have hlt6 : (upd H5 lt (.tup [nV (stepV T.m s p.1), nV (stepV T.m s p.2)])) lt = some (.tup ((pk (nxt T.m s p)).map kV)) := upd_same
      generalize upd H5 lt (.tup [nV (stepV T.m s p.1), nV (stepV T.m s p.2)]) = H6 at *
      have hw6 := S36 _ _ hw3
      have hr6 := S36 _ _ hr3
      have hW6 := hW3.tk (Tk.of S36)
      have hR6 := hR3.tk (Tk.of S36)
      have zl : (nxt T.m s p).1 < T.m ∧ (nxt T.m s p).2 < T.m := ⟨step_lt gT hsm p1, step_lt gT hsm p2⟩
      have cnt : (W ++ R3).length ≤ T.m * T.m := hW6.count
      have c81 := sq81 m9
      refine ⟨_, rfl, _, rfl, wy, lt, kvs3, pk (nxt T.m s p), rfl, rfl, hw6, hlt6, _, rfl, ?_⟩
      rw [hW6.some_iff]
      by_cases hz : nxt T.m s p ∈ W ++ R3
      · rw [decide_eq_true hz]
        refine iteF ⟨_, _, kvs3, us3, R3, rfl, o3.trans (Of2.of S36), hw6, hW6, hr6, hR6, hF3, hM3, fun s' hs' => ?_⟩
        rw [take_snoc hsj] at hs'
        rcases List.mem_append.mp hs' with h | h
        · exact hN3 s' h
        · rw [List.mem_singleton.mp h]
          exact hz
      rw [decide_eq_false hz]
      refine iteT ?_
      obtain ⟨tw, ws', ss', hval, htw, hxl, hss, hsm', hwk⟩ := hW6.val p (List.mem_append_left _ pW)
      have hg : DGet H6 wy (.ref tp) (valV kvs3 (pk p)) := DGet.t hw6 (S36 _ _ (kH3 _ _ htp))
      rw [hval] at hg
      refine ⟨_, rfl, _, rfl, wy, _, rfl, hg, _, rfl, small9 (by show 1 ≤ 1000; decide), fun t1 ht1 => ?_⟩
      have n7 := same_new ht1 (.tup [.ref ts])
      refine catA_of (n7 _ _ htw) upd_same (by show ws'.length + 1 ≤ 1000; omega) fun t2 H8 s8 ht2 => ?_
      have S68 := n7.trans s8
      have hw8 := S68 _ _ hw6
      have hr8 := S68 _ _ hr6
      have kl := hW6.len
      refine ⟨_, rfl, _, rfl, wy, _, rfl, DPut.t hw8 (S68 _ _ hlt6) (small1000 (by omega)), ?_⟩
      have rlw : rl ≠ wy := fun z => by rw [z, hw8] at hr8; cases hr8
      have hr9 : (upd H8 wy (.dT (putK kvs3 (pk (nxt T.m s p)) (.ref t2)))) rl = some (.lst us3) := by rw [upd_ne rlw]; exact hr8
      have hr3l := Paired.length hR6
      refine ⟨_, rfl, .inl ⟨rfl, _, SqL.of hr9⟩, _, rfl, rl, us3, _, rfl, rfl, hr9, small1000 (by rw [List.length_append] at cnt; omega), ?_⟩
      have k8 : Tk H6 (upd (upd H8 wy (.dT (putK kvs3 (pk (nxt T.m s p)) (.ref t2)))) rl (.lst (us3 ++ [.ref lt]))) := (Tk.of S68).trans ((Tk.putD hw8).trans (Tk.put hr9))
      have k9 : Tk H8 (upd (upd H8 wy (.dT (putK kvs3 (pk (nxt T.m s p)) (.ref t2)))) rl (.lst (us3 ++ [.ref lt]))) := (Tk.putD hw8).trans (Tk.put hr9)
      refine ⟨_, _, putK kvs3 (pk (nxt T.m s p)) (.ref t2), us3 ++ [.ref lt], R3 ++ [nxt T.m s p], rfl, ?_, by rw [upd_ne (Ne.symm rlw)]; exact upd_same, ?_, upd_same, Pr2.snoc (hR6.tk k8) (k8 _ _ hlt6), fun z hz' => ?_, fun z h => List.mem_append_left _ (hM3 z h), fun s' hs' => ?_⟩
      · exact (o3.trans (Of2.of (S36.trans S68))).trans (Of2.putA.trans Of2.putB)
      · rw [← List.append_assoc]
        exact ((hW6.tk (Tk.of S68)).add hz zl ht2 (by rw [List.length_append, List.length_append]; rw [List.length_append] at hxl; show ws'.length + 1 ≤ _; omega) (ss := ss' ++ [s]) (Sts.app (Sts.tk (Tk.of S68) hss) (.cons ⟨ts, rfl, S68 _ _ (S36 _ _ (k23 _ _ hts))⟩ .nil)) (fun s' hs' => by
          rcases List.mem_append.mp hs' with h | h
          · exact hsm' s' h
          · rw [List.mem_singleton.mp h]; exact hsm) (by unfold wlk; rw [List.foldl_append]; unfold wlk at hwk; rw [hwk]; rfl)).tk k9
      · rcases List.mem_append.mp hz' with h | h
        · exact hF3 z h
        · exact ⟨p, hpm, s, hsm, List.mem_singleton.mp h⟩
      · rw [take_snoc hsj] at hs'
        rw [← List.append_assoc]
        rcases List.mem_append.mp hs' with h | h
        · exact List.mem_append_left _ (hN3 s' h)
        · rw [List.mem_singleton.mp h]
          exact List.mem_append_right _ (List.mem_singleton.mpr rfl)
    · rintro σ H3 ⟨x6, x7, kvs3, us3, R3, rfl, o3, hw3, hW3, hr3, hR3, hF3, hM3, hN3⟩
      rw [← hul2, List.take_length] at hN3
      refine ⟨_, _, _, kvs3, us3, R3, rfl, o1.trans ((Of2.of s2).trans o3), hw3, hW3, hr3, hR3, hF3, fun p' hp' s' hs' => ?_⟩
      rw [take_snoc hpi] at hp'
      rcases List.mem_append.mp hp' with h | h
      · rcases List.mem_append.mp (hN p' h s' hs') with h | h
        · exact List.mem_append_left _ h
        · exact List.mem_append_right _ (hM3 _ h)
      · rw [List.mem_singleton.mp h]
        exact hN3 s' hs'
  · rintro σ H1 ⟨x5, x6, x7, kvs1, us1, R, rfl, o1, hw1, hW1, hr1, hR1, hF, hN⟩
    rw [← hul, List.take_length] at hN
    exact ⟨_, rfl, q rl us1 R kvs1 H1 (fun b o nb hb => o1 b o nb (ne_of_none hb hrl) hb) hw1 hW1 hr1 hR1 hF hN⟩

abbrev s_parting : Stmt := top 6
theorem sc_parting : FnScope ["T", "x", "y", "cells", "ways", "pairs", "parted"] ["T", "x", "y"] (defScope s_parting) := ⟨rfl, rfl, rfl, by decide +kernel, rfl, by decide +kernel, by decide +kernel⟩
theorem ok_parting {P : Program} {w : World} {K : PySem.W.Frag} {mg : Str → Option Value} {base : Heap} {f : Addr} {fd : FuncData} (F : Fun K "parting" "parting" s_parting f fd) (gb : Gb mg) (d_cells_by_name : Def P w K mg base 1 "cells_by_name" ["H"] spCbn) (d_next_pairs : Def P w K mg base 3 "next_pairs" ["T", "cells", "ways", "pairs"] spNextP) : FnOk P w K mg base CX0 4 f fd ["T", "x", "y"] spParting := by
  refine F.ok sc_parting (fun vs H Q E h => ?_) (fun cdv A outer s H vs Q E hr h => ?_)
  · obtain ⟨v, T, x, y, rfl, _⟩ := h
    rfl
  obtain ⟨v, T, x, y, rfl, ia, gT, nT, hx, hy, q0, q1⟩ := h
  have nd0 : (["pair", "T"] : List Str).Nodup := by decide +kernel
  refine ⟨_, (@pss_cons _ _ _ _ _ (@ps_set _ _ 3 _ _ _ _ sc_parting.nd rfl (Or.inl rfl) (@pe_def _ _ _ _ _ _ _ _ _ _ _ d_cells_by_name hr (by omega) rfl (@pa_cons _ _ _ _ _ (@pv _ 0 _ _ (by rfl) (by first | exact Or.inl rfl | exact Or.inr (Or.inl rfl) | exact Or.inr (Or.inr rfl)) (by decide) (by decide)) (@pa_nil _) (by rfl)) (by decide) (by rfl) (by rfl)) (by rfl) (by first | exact .inl rfl | exact .inr rfl | assumption)) (@pss_cons _ _ _ _ _ (@ps_set _ _ 4 _ _ _ _ sc_parting.nd rfl (Or.inl rfl) (@pe_dispT _ _ _ _ _ _ _ hr (@pe_tup _ _ _ _ _ (@pa_cons _ _ _ _ _ (@pv _ 1 _ _ (by rfl) (by first | exact Or.inl rfl | exact Or.inr (Or.inl rfl) | exact Or.inr (Or.inr rfl)) (by decide) (by decide)) (@pa_cons _ _ _ _ _ (@pv _ 2 _ _ (by rfl) (by first | exact Or.inl rfl | exact Or.inr (Or.inl rfl) | exact Or.inr (Or.inr rfl)) (by decide) (by decide)) (@pa_nil _) (by rfl)) (by rfl))) (@pe_tup _ _ _ _ _ (@pa_nil _))) (by rfl) (by first | exact .inl rfl | exact .inr rfl | assumption)) (@pss_cons _ _ _ _ _ (@ps_set _ _ 5 _ _ _ _ sc_parting.nd rfl (Or.inl rfl) (@pe_lst _ _ _ _ (@pa_cons _ _ _ _ _ (@pe_tup _ _ _ _ _ (@pa_cons _ _ _ _ _ (@pv _ 1 _ _ (by rfl) (by first | exact Or.inl rfl | exact Or.inr (Or.inl rfl) | exact Or.inr (Or.inr rfl)) (by decide) (by decide)) (@pa_cons _ _ _ _ _ (@pv _ 2 _ _ (by rfl) (by first | exact Or.inl rfl | exact Or.inr (Or.inl rfl) | exact Or.inr (Or.inr rfl)) (by decide) (by decide)) (@pa_nil _) (by rfl)) (by rfl))) (@pa_nil _) (by rfl))) (by rfl) (by first | exact .inl rfl | exact .inr rfl | assumption)) (@pss_cons _ _ _ _ _ (@ps_while _ _ _ _ _ _ PassesOwn.never (@pt_cmpR _ _ _ _ _ _ _ _ (@op_gt _) (@pe_callB _ _ _ _ _ _ _ _ _ (@kcall_len _ K (by rfl)) rfl gb.len bt_len (@pa_cons _ _ _ _ _ (@pv _ 5 _ _ (by rfl) (by first | exact Or.inl rfl | exact Or.inr (Or.inl rfl) | exact Or.inr (Or.inr rfl)) (by decide) (by decide)) (@pa_nil _) (by rfl)) (by decide) (by decide) (by rfl) (by rfl)) (@pe_int _ _ _ _) (@nomark _ _ (by decide) (by decide))) (@pss_cons _ _ _ _ _ (@ps_setComp _ ["pair", "T"] [none, some 0] _ 6 _ _ _ _ _ _ _ _ _ _ _ _ (by exact (show CompOk ["T", "x", "y", "cells", "ways", "pairs", "parted"] (defScope s_parting) ["pair", "T"] [none, some 0] _ from ⟨rfl, by decide +kernel, by decide +kernel, by decide +kernel, by decide +kernel, rfl, by decide +kernel⟩)) rfl (@kpi_list _ K _ _ _ (@pv _ 5 _ _ (by rfl) (by first | exact Or.inl rfl | exact Or.inr (Or.inl rfl) | exact Or.inr (Or.inr rfl)) (by decide) (by decide)) (by rfl)) (fun _ _ _ _ => (@pg_name _ _ 0 _ nd0 rfl (Or.inl rfl) (by first | exact .inl rfl | exact .inr rfl | assumption))) (fun _ _ _ _ => (@pf_one _ _ _ (@pt_cmpR _ _ _ _ _ _ _ _ (@op_ne _) (@pe_cmpR _ _ _ _ _ _ _ _ (@kop_in_seq _ K (by rfl)) (@pe_ix _ _ _ _ _ _ _ (@kix_seq _ K (by rfl)) (@pv _ 0 _ _ (by rfl) (by first | exact Or.inl rfl | exact Or.inr (Or.inl rfl) | exact Or.inr (Or.inr rfl)) (by decide) (by decide)) (@pe_int _ _ _ _) (fun _ _ => rfl)) (@pe_ix _ _ _ _ _ _ _ (@kix_seq _ K (by rfl)) (@pv _ 1 _ _ (by rfl) (by first | exact Or.inl rfl | exact Or.inr (Or.inl rfl) | exact Or.inr (Or.inr rfl)) (by decide) (by decide)) (@pe_int _ _ _ _) (fun _ _ => rfl)) (by with_unfolding_all rfl)) (@pe_cmpR _ _ _ _ _ _ _ _ (@kop_in_seq _ K (by rfl)) (@pe_ix _ _ _ _ _ _ _ (@kix_seq _ K (by rfl)) (@pv _ 0 _ _ (by rfl) (by first | exact Or.inl rfl | exact Or.inr (Or.inl rfl) | exact Or.inr (Or.inr rfl)) (by decide) (by decide)) (@pe_int _ _ _ _) (fun _ _ => rfl)) (@pe_ix _ _ _ _ _ _ _ (@kix_seq _ K (by rfl)) (@pv _ 1 _ _ (by rfl) (by first | exact Or.inl rfl | exact Or.inr (Or.inl rfl) | exact Or.inr (Or.inr rfl)) (by decide) (by decide)) (@pe_int _ _ _ _) (fun _ _ => rfl)) (by with_unfolding_all rfl)) (@nomark _ _ (by decide) (by decide))))) (fun _ _ _ _ => (@pv _ 0 _ _ (by rfl) (by first | exact Or.inl rfl | exact Or.inr (Or.inl rfl) | exact Or.inr (Or.inr rfl)) (by decide) (by decide))) sc_parting.nd rfl rfl rfl (by intro _; rfl)) (@pss_cons _ _ _ _ _ (@ps_if _ _ _ _ _ _ _ _ (@pt_cmpR _ _ _ _ _ _ _ _ (@op_gt _) (@pe_callB _ _ _ _ _ _ _ _ _ (@kcall_len _ K (by rfl)) rfl gb.len bt_len (@pa_cons _ _ _ _ _ (@pv _ 6 _ _ (by rfl) (by first | exact Or.inl rfl | exact Or.inr (Or.inl rfl) | exact Or.inr (Or.inr rfl)) (by decide) (by decide)) (@pa_nil _) (by rfl)) (by decide) (by decide) (by rfl) (by rfl)) (@pe_int _ _ _ _) (@nomark _ _ (by decide) (by decide))) (@pss_one _ _ _ (@ps_ret _ _ _ _ (@pe_dget _ _ _ _ _ _ (@hu1 _ _ hr) (@pv _ 4 _ _ (by rfl) (by first | exact Or.inl rfl | exact Or.inr (Or.inl rfl) | exact Or.inr (Or.inr rfl)) (by decide) (by decide)) (@pe_ix _ _ _ _ _ _ _ (@kix_seq _ K (by rfl)) (@pv _ 6 _ _ (by rfl) (by first | exact Or.inl rfl | exact Or.inr (Or.inl rfl) | exact Or.inr (Or.inr rfl)) (by decide) (by decide)) (@pe_int _ _ _ _) (fun _ _ => rfl)) (fun _ _ => rfl)))) (@pss_nil _)) (@pss_one _ _ _ (@ps_set _ _ 5 _ _ _ _ sc_parting.nd rfl (Or.inl rfl) (@pe_def _ _ _ _ _ _ _ _ _ _ _ d_next_pairs hr (by omega) rfl (@pa_cons _ _ _ _ _ (@pv _ 0 _ _ (by rfl) (by first | exact Or.inl rfl | exact Or.inr (Or.inl rfl) | exact Or.inr (Or.inr rfl)) (by decide) (by decide)) (@pa_cons _ _ _ _ _ (@pv _ 3 _ _ (by rfl) (by first | exact Or.inl rfl | exact Or.inr (Or.inl rfl) | exact Or.inr (Or.inr rfl)) (by decide) (by decide)) (@pa_cons _ _ _ _ _ (@pv _ 4 _ _ (by rfl) (by first | exact Or.inl rfl | exact Or.inr (Or.inl rfl) | exact Or.inr (Or.inr rfl)) (by decide) (by decide)) (@pa_cons _ _ _ _ _ (@pv _ 5 _ _ (by rfl) (by first | exact Or.inl rfl | exact Or.inr (Or.inl rfl) | exact Or.inr (Or.inr rfl)) (by decide) (by decide)) (@pa_nil _) (by rfl)) (by rfl)) (by rfl)) (by rfl)) (by decide) (by rfl) (by rfl)) (by rfl) (by first | exact .inl rfl | exact .inr rfl | assumption)))))) (@pss_one _ _ _ (@ps_ret _ _ _ _ (@pe_non _ _ _))))))), ?_⟩
  obtain ⟨a, w0, c, vs, rfl, h1, h2, h3, h4⟩ := id ia
  have m9 := gT.m9
  refine ⟨_, rfl, _, T, rfl, ia, gT, nT, fun e H1 s1 hcd => ?_⟩
  refine fun wy hwy => ⟨_, rfl, _, rfl, small9 (by show 2 ≤ 1000; decide), fun t1 ht1 => ?_⟩
  have n2 := same_new hwy (.dT [])
  have n3 := same_new ht1 (.tup [nV x, nV y])
  refine ⟨Nat.zero_le _, fun t2 ht2 => ?_⟩
  have n4 := same_new ht2 (.tup [])
  have hw4 := n4 _ _ (n3 _ _ (upd_same (H := H1) (a := wy) (o := .dT [])))
  refine ⟨hw4, t1, pk (x, y), rfl, n4 _ _ upd_same, ?_⟩
  have ew : e ≠ wy := by
    obtain ⟨kv0, he0, _⟩ := hcd
    exact ne_of_none he0 hwy
  have S5 : Same H1 (upd (upd (upd (upd H1 wy (.dT [])) t1 (.tup [nV x, nV y])) t2 (.tup [])) wy (.dT [(pk (x, y), .ref t2)])) := (n2.trans (n3.trans n4)).put hwy
  have hw5 : (upd (upd (upd (upd H1 wy (.dT [])) t1 (.tup [nV x, nV y])) t2 (.tup [])) wy (.dT [(pk (x, y), .ref t2)])) wy = some (.dT [(pk (x, y), .ref t2)]) := upd_same
  have ht5 : (upd (upd (upd (upd H1 wy (.dT [])) t1 (.tup [nV x, nV y])) t2 (.tup [])) wy (.dT [(pk (x, y), .ref t2)])) t2 = some (.tup []) := Tk.putD hw4 _ _ upd_same
  generalize upd (upd (upd (upd H1 wy (.dT [])) t1 (.tup [nV x, nV y])) t2 (.tup [])) wy (.dT [(pk (x, y), .ref t2)]) = H5 at *
  have hW5 : Wy H5 (T, (x, y)) [(pk (x, y), .ref t2)] [(x, y)] := by
    refine ⟨rfl, by simp, fun z hz => ?_, fun z hz => ?_⟩
    · rw [List.mem_singleton.mp hz]
      exact ⟨hx, hy⟩
    · rw [List.mem_singleton.mp hz]
      exact ⟨t2, [], [], valV_pos rfl, ht5, by show 0 < 1; decide, .nil, (fun s h => by cases h), rfl⟩
  refine ⟨_, rfl, _, rfl, small9 (by show 2 ≤ 1000; decide), fun t3 ht3 => ?_⟩
  have n6 := same_new ht3 (.tup [nV x, nV y])
  refine ⟨small9 (by show 1 ≤ 1000; decide), fun pl hpl => ?_⟩
  have n7 := same_new hpl (.lst [.ref t3])
  have S7 := S5.trans (n6.trans n7)
  have hw7 := n7 _ _ (n6 _ _ hw5)
  have hW7 := hW5.tk (Tk.of (n6.trans n7))
  have hp7 : (upd (upd H5 t3 (.tup [nV x, nV y])) pl (.lst [.ref t3])) pl = some (.lst [.ref t3]) := upd_same
  have hP7 : Pr2 (upd (upd H5 t3 (.tup [nV x, nV y])) pl (.lst [.ref t3])) [(x, y)] [.ref t3] := .cons ⟨t3, rfl, n7 _ _ upd_same⟩ .nil
  generalize upd (upd H5 t3 (.tup [nV x, nV y])) pl (.lst [.ref t3]) = H7 at *
  refine ⟨fun n σ H' => ∃ (pl : Addr) (x6 : Option V) (kvs : List (List Key × V)) (us : List V) (Wl P : List Pr), n = 2 * (82 - Wl.length) + (if P = [] then 0 else 1) ∧ σ = [some (.ref a), some (nV x), some (nV y), some (.ref e), some (.ref wy), some (.ref pl), x6] ∧ Off wy H1 H' ∧ IsCd H' e T ∧ H' wy = some (.dT kvs) ∧ Wy H' (T, (x, y)) kvs Wl ∧ H' pl = some (.lst us) ∧ Pr2 H' P us ∧ P.length ≤ 81 ∧ (∀ z ∈ P, z ∈ Wl) ∧ (x, y) ∈ Wl ∧ (Tn.at' (mkT T) x = Tn.at' (mkT T) y → ∀ z ∈ Wl, Tn.at' (mkT T) z.1 = Tn.at' (mkT T) z.2) ∧ (∀ z ∈ Wl, z ∉ P → (z.1 ∈ T.ws ↔ z.2 ∈ T.ws) ∧ ∀ s ∈ stps T, nxt T.m s z ∈ Wl), ⟨_, pl, none, _, _, [(x, y)], [(x, y)], rfl, rfl, Off.of S7, hcd.same S7, hw7, hW7, hp7, hP7, by show 1 ≤ 81; decide, fun z h => h, List.mem_singleton.mpr rfl, fun h z hz => by rw [List.mem_singleton.mp hz]; exact h, fun z hz hn => absurd hz hn⟩, ?_⟩
  rintro n σ H8 ⟨pl, x6, kvs, us, Wl, P, rfl, rfl, o8, cd8, hw8, hW8, hp8, hP8, p81, hPW, hxy, hE, hC⟩
  have k8 : Tk H1 H8 := fun b xs hb => o8 b _ (fun z => by rw [z, hwy] at hb; cases hb) hb
  have S8 : Same H H8 := fun b o hb => o8 b o (fun z => by
    have := s1 _ _ hb
    rw [z, hwy] at this
    cases this) (s1 _ _ hb)
  have hul := Paired.length hP8
  have cnt : Wl.length ≤ T.m * T.m := hW8.count
  have c81 := sq81 m9
  have pln : P.length ≤ us.length := by omega
  refine ⟨_, rfl, _, us.length, rfl, .inl ⟨_, SqL.of hp8, rfl⟩, _, _, rfl, rfl, _, rfl, ?_⟩
  by_cases hP0 : P = []
  · subst hP0
    have hu0 : us.length = 0 := hul.symm
    refine ite2 (fun z => absurd (of_decide_eq_true z) (by rw [hu0]; decide)) (fun _ => ?_)
    refine q0 (pairs_alike (T := T) (fun a b => (a, b) ∈ Wl) (fun a b h => hW8.lt _ h) (fun a b h => (hC _ h (by intro z; cases z)).1) (fun a b h s hs => (hC _ h (by intro z; cases z)).2 s hs) hxy) H8 S8
  have hu0 : 0 < us.length := by
    cases P with
    | nil => exact absurd rfl hP0
    | cons z r => rw [← hul]; exact Nat.succ_pos _
  refine ite2 (fun _ => ?_) (fun z => absurd (decide_eq_true (by show (0 : Int) < (us.length : Int); omega)) z)
  refine ⟨fun σ' H' => ∃ m', m' < 2 * (82 - Wl.length) + (if P = [] then 0 else 1) ∧ (∃ (pl : Addr) (x6 : Option V) (kvs : List (List Key × V)) (us : List V) (Wl P : List Pr), m' = 2 * (82 - Wl.length) + (if P = [] then 0 else 1) ∧ σ' = [some (.ref a), some (nV x), some (nV y), some (.ref e), some (.ref wy), some (.ref pl), x6] ∧ Off wy H1 H' ∧ IsCd H' e T ∧ H' wy = some (.dT kvs) ∧ Wy H' (T, (x, y)) kvs Wl ∧ H' pl = some (.lst us) ∧ Pr2 H' P us ∧ P.length ≤ 81 ∧ (∀ z ∈ P, z ∈ Wl) ∧ (x, y) ∈ Wl ∧ (Tn.at' (mkT T) x = Tn.at' (mkT T) y → ∀ z ∈ Wl, Tn.at' (mkT T) z.1 = Tn.at' (mkT T) z.2) ∧ (∀ z ∈ Wl, z ∉ P → (z.1 ∈ T.ws ↔ z.2 ∈ T.ws) ∧ ∀ s ∈ stps T, nxt T.m s z ∈ Wl)), fun _ _ h => h, ?_⟩
  refine ⟨_, rfl, pl, rfl, ⟨_, SqL.of hp8⟩, fun D hD => ?_⟩
  refine comp_list (xs := us) (fun i ys H' => Same H8 H' ∧ ys.length ≤ i ∧ (ys = [] → ∀ p ∈ P.take i, (p.1 ∈ T.ws ↔ p.2 ∈ T.ws)) ∧ ∀ v ∈ ys, ∃ p ∈ P, ¬ (p.1 ∈ T.ws ↔ p.2 ∈ T.ws) ∧ ∃ t, v = .ref t ∧ H8 t = some (.tup [nV p.1, nV p.2])) ⟨same_new hD _, Nat.le_refl _, fun _ p hp => (by cases hp), fun v hv => (by cases hv)⟩ (fun i ys H' h _ => SqL.of (h.1 _ _ hp8)) ?_ ?_
  · rintro i ys H9 v hv ⟨s9, yl, hn, hq⟩ hD9
    have hi : i < us.length := (List.getElem?_eq_some_iff.mp hv).1
    have hpi : P[i]? = some P[i] := List.getElem?_eq_getElem (by omega)
    generalize P[i] = p at hpi
    obtain ⟨v', e1, t, rfl, ht⟩ := paired_get hP8 hpi
    rw [hv] at e1
    cases e1
    have hpm := List.mem_of_getElem? hpi
    have h19 := s9 _ _ (k8 _ _ (s1 _ _ h1))
    have h29 := s9 _ _ (k8 _ _ (s1 _ _ h2))
    refine ⟨_, rfl, .inr (.inl ⟨t, _, 0, _, rfl, rfl, SqT.of (s9 _ _ ht), rfl, _, rfl, .inr (.inl ⟨a, _, 1, _, rfl, rfl, SqT.of h19, rfl, w0, _, rfl, .inr (SqT.of h29), rfl, flat_nats _, ?_⟩)⟩)⟩
    try dsimp only
    rw [if_neg Bool.false_ne_true, in_nats]
    refine ⟨_, rfl, .inr (.inl ⟨t, _, 1, _, rfl, rfl, SqT.of (s9 _ _ ht), rfl, _, rfl, .inr (.inl ⟨a, _, 1, _, rfl, rfl, SqT.of h19, rfl, w0, _, rfl, .inr (SqT.of h29), rfl, flat_nats _, ?_⟩)⟩)⟩
    try dsimp only
    rw [if_neg Bool.false_ne_true, in_nats]
    refine ⟨rfl, _, rfl, ?_⟩
    rw [wish_dec]
    by_cases hw' : (p.1 ∈ T.ws ↔ p.2 ∈ T.ws)
    · rw [decide_eq_true hw']
      refine iteF ?_
      refine cno hi rset1 hD9 ⟨s9, Nat.le_succ_of_le yl, fun h0 p' hp' => ?_, hq⟩
      rw [take_snoc hpi] at hp'
      rcases List.mem_append.mp hp' with h | h
      · exact hn h0 p' h
      · rw [List.mem_singleton.mp h]
        exact hw'
    · rw [decide_eq_false hw']
      refine iteT ?_
      refine ⟨_, rfl, cyes hi rset1 hD9 (small1000 (by omega)) ⟨s9.put hD, by rw [List.length_append]; exact Nat.succ_le_succ yl, fun h0 => by simp at h0, fun v hv' => ?_⟩⟩
      rcases List.mem_append.mp hv' with h | h
      · exact hq v h
      · exact ⟨p, hpm, hw', t, List.mem_singleton.mp h, ht⟩
  rintro ys H9 ⟨s9, yl, hn, hq⟩ hD9
  rw [← hul, List.take_length] at hn
  have hw9 := s9 _ _ hw8
  refine ⟨_, rfl, _, ys.length, rfl, .inl ⟨_, SqL.of hD9, rfl⟩, _, _, rfl, rfl, _, rfl, ?_⟩
  cases ys with
  | cons v0 yr =>
    refine ite2 (fun _ => ?_) (fun z => absurd (decide_eq_true (by show (0 : Int) < (((v0 :: yr).length : Nat) : Int); rw [List.length_cons]; omega)) z)
    obtain ⟨p, hpm, hnw, t, rfl, ht⟩ := hq v0 (List.mem_cons_self ..)
    obtain ⟨tw, xs', ss', hval, htw, hxl', hss', hsm', hwk'⟩ := hW8.val p (hPW p hpm)
    have hg : DGet H9 wy (.ref t) (valV kvs (pk p)) := DGet.t hw9 (s9 _ _ ht)
    rw [hval] at hg
    refine ⟨_, rfl, _, rfl, .inl ⟨D, _, 0, _, rfl, rfl, SqL.of hD9, atI_nat (j := 0) rfl, wy, _, rfl, hg, ?_⟩⟩
    refine q1 (fun h => hnw ?_) tw xs' ss' H9 (S8.trans s9) (s9 _ _ htw) (Sts.tk (Tk.of s9) hss') hsm' (by have := Paired.length hss'; omega) (by rw [show wlk T.m ss' (x, y) = p from hwk']; exact hnw)
    obtain ⟨l1, l2⟩ := hW8.lt p (hPW p hpm)
    exact wish_alike gT l1 l2 (hE h p (hPW p hpm))
  | nil =>
    refine ite2 (fun z => absurd (of_decide_eq_true z) (by show ¬ (0 : Int) < ((0 : Nat) : Int); decide)) (fun _ => ?_)
    refine ⟨_, rfl, _, rfl, _, rfl, _, rfl, .ref a, e, wy, pl, T, kvs, us, Wl, P, (x, y), rfl, ia.tk ((Tk.of s1).trans (k8.trans (Tk.of s9))), gT, cd8.same s9, ew, hw9, hW8.tk (Tk.of s9), s9 _ _ hp8, hP8.tk (Tk.of s9), hPW, fun l us' R kvs' H10 o10 hw10 hW10 hl10 hR10 hF hN => ?_⟩
    have cnt2 : (Wl ++ R).length ≤ T.m * T.m := hW10.count
    rw [List.length_append] at cnt2
    have k10 : Tk H9 H10 := fun b xs hb => o10 b _ (ne_of hb hw9 (by intro z; cases z)) hb
    refine ⟨_, ?_, l, _, kvs', us', Wl ++ R, R, rfl, rfl, fun b o nb hb => o10 b o nb (s9 _ _ (o8 b o nb hb)), ?_, hw10, hW10, hl10, hR10, by omega, fun z h => List.mem_append_right _ h, List.mem_append_left _ hxy, fun h z hz => ?_, fun z hz hn' => ?_⟩
    · rw [if_neg hP0, List.length_append]
      by_cases hR : R = []
      · rw [if_pos hR, hR]
        show 2 * (82 - (Wl.length + 0)) + 0 < _
        omega
      · rw [if_neg hR]
        have : 0 < R.length := List.length_pos_iff.mpr hR
        omega
    · obtain ⟨kv0, he0, hc0⟩ := cd8
      refine ⟨kv0, o10 _ _ ew (s9 _ _ he0), fun c hc => ?_⟩
      obtain ⟨u, u1, u2⟩ := hc0 c hc
      exact ⟨u, u1, k10 _ _ (s9 _ _ u2)⟩
    · rcases List.mem_append.mp hz with hz | hz
      · exact hE h z hz
      · obtain ⟨p, hp, s, hs, rfl⟩ := hF z hz
        obtain ⟨l1, l2⟩ := hW8.lt p (hPW p hp)
        exact step_alike gT hs l1 l2 (hE h p (hPW p hp))
    · rcases List.mem_append.mp hz with hz | hz
      · by_cases hp : z ∈ P
        · exact ⟨hn rfl z hp, fun s hs => hN z hp s hs⟩
        · obtain ⟨c1, c2⟩ := hC z hz hp
          exact ⟨c1, fun s hs => List.mem_append_left _ (c2 s hs)⟩
      · exact absurd hz hn'

abbrev s_law_well : Stmt := top 9
theorem sc_law_well : FnScope ["_law_script", "_law_place", "_law_cell", "_law_one"] ["_law_script", "_law_place"] (defScope s_law_well) := ⟨rfl, rfl, rfl, by decide +kernel, rfl, by decide +kernel, by decide +kernel⟩
theorem ok_law_well {P : Program} {w : World} {K : PySem.W.Frag} {mg : Str → Option Value} {base : Heap} {f : Addr} {fd : FuncData} (F : Fun K "_law_well" "_law_well" s_law_well f fd) (gb : Gb mg) : FnOk P w K mg base CX0 1 f fd ["_law_script", "_law_place"] (spWell K) := by
  refine F.ok sc_law_well (fun vs H Q E h => ?_) (fun cdv A outer s H vs Q E hr h => ?_)
  · obtain ⟨a, ns, pl, rfl, _⟩ := h
    rfl
  obtain ⟨a, ns, pl, rfl, hS, hn, q⟩ := h
  refine ⟨_, (@pss_cons _ _ _ _ _ (@ps_set _ _ 2 _ _ _ _ sc_law_well.nd rfl (Or.inl rfl) (@pe_int _ _ _ _) (by rfl) (by first | exact .inl rfl | exact .inr rfl | assumption)) (@pss_cons _ _ _ _ _ (@ps_for _ _ _ _ _ _ _ _ PassesOwn.never rfl (@kpi_list _ K _ _ _ (@pe_slice _ _ _ _ _ _ _ _ _ _ (@ksl_any _ K (by rfl)) (@pv _ 0 _ _ (by rfl) (by first | exact Or.inl rfl | exact Or.inr (Or.inl rfl) | exact Or.inr (Or.inr rfl)) (by decide) (by decide)) (@po_some _ _ _ (@pv _ 1 _ _ (by rfl) (by first | exact Or.inl rfl | exact Or.inr (Or.inl rfl) | exact Or.inr (Or.inr rfl)) (by decide) (by decide))) (@po_some _ _ _ (@pe_op _ _ _ _ _ _ _ _ (@op_add _) (@pv _ 1 _ _ (by rfl) (by first | exact Or.inl rfl | exact Or.inr (Or.inl rfl) | exact Or.inr (Or.inr rfl)) (by decide) (by decide)) (@pe_int _ _ _ _)))) (by rfl)) (@pg_name _ _ 3 _ sc_law_well.nd rfl (Or.inl rfl) (by first | exact .inl rfl | exact .inr rfl | assumption)) (@pss_one _ _ _ (@ps_set _ _ 2 _ _ _ _ sc_law_well.nd rfl (Or.inl rfl) (@pv _ 3 _ _ (by rfl) (by first | exact Or.inl rfl | exact Or.inr (Or.inl rfl) | exact Or.inr (Or.inr rfl)) (by decide) (by decide)) (by rfl) (by first | exact .inl rfl | exact .inr rfl | assumption))) (by intro _; rfl)) (@pss_cons _ _ _ _ _ (@ps_if _ _ _ _ _ _ _ _ (@PW.pt _ _ _ (@pw_or _ _ _ _ _ _ _ (@pt_cmpR _ _ _ _ _ _ _ _ (@op_lt _) (@pv _ 2 _ _ (by rfl) (by first | exact Or.inl rfl | exact Or.inr (Or.inl rfl) | exact Or.inr (Or.inr rfl)) (by decide) (by decide)) (@pe_int _ _ _ _) (@nomark _ _ (by decide) (by decide))) (@pw_or1 _ _ _ _ (@pt_cmpR _ _ _ _ _ _ _ _ (@op_ge _) (@pv _ 2 _ _ (by rfl) (by first | exact Or.inl rfl | exact Or.inr (Or.inl rfl) | exact Or.inr (Or.inr rfl)) (by decide) (by decide)) (@pe_op _ _ _ _ _ _ _ _ (@op_pow _) (@pe_int _ _ _ _) (@pe_int _ _ _ _)) (@nomark _ _ (by decide) (by decide)))))) (@pss_one _ _ _ (@ps_ret _ _ _ _ (@pe_lst _ _ _ _ (@pa_cons _ _ _ _ _ (@pe_int _ _ _ _) (@pa_cons _ _ _ _ _ (@pe_callB _ _ _ _ _ _ _ _ _ (@call_abs _) rfl gb.abs bt_abs (@pa_cons _ _ _ _ _ (@pv _ 2 _ _ (by rfl) (by first | exact Or.inl rfl | exact Or.inr (Or.inl rfl) | exact Or.inr (Or.inr rfl)) (by decide) (by decide)) (@pa_nil _) (by rfl)) (by decide) (by decide) (by rfl) (by rfl)) (@pa_nil _) (by rfl)) (by rfl))))) (@pss_nil _)) (@pss_one _ _ _ (@ps_ret _ _ _ _ (@pe_lst _ _ _ _ (@pa_cons _ _ _ _ _ (@pe_int _ _ _ _) (@pa_cons _ _ _ _ _ (@pe_op _ _ _ _ _ _ _ _ (@op_add _) (@pe_op _ _ _ _ _ _ _ _ (@op_mod _) (@pe_op _ _ _ _ _ _ _ _ (@op_add _) (@pe_op _ _ _ _ _ _ _ _ (@op_mod _) (@pv _ 2 _ _ (by rfl) (by first | exact Or.inl rfl | exact Or.inr (Or.inl rfl) | exact Or.inr (Or.inr rfl)) (by decide) (by decide)) (@pe_int _ _ _ _)) (@pe_op _ _ _ _ _ _ _ _ (@op_mul _) (@pe_int _ _ _ _) (@pv _ 1 _ _ (by rfl) (by first | exact Or.inl rfl | exact Or.inr (Or.inl rfl) | exact Or.inr (Or.inr rfl)) (by decide) (by decide)))) (@pe_int _ _ _ _)) (@pe_int _ _ _ _)) (@pa_nil _) (by rfl)) (by rfl)))))))), ?_⟩
  refine ⟨_, rfl, _, rfl, _, rfl, _, rfl, _, _, rfl, rfl, _, rfl, .inl ⟨a, _, rfl, hS, fun y hy => ?_⟩⟩
  obtain ⟨ms, em⟩ := cut_ints ns (some pl) (some (pl + 1))
  rw [em] at *
  refine ⟨y, rfl, ⟨_, SqL.of upd_same⟩, ?_⟩
  refine for_list (xs := ms.map V.int) (fun _ σ H' => (∃ (c : Int) (x : Option V), σ = [some (.ref a), some (.int pl), some (.int c), x]) ∧ Same H H' ∧ H' y = some (.lst (ms.map V.int))) ⟨⟨_, _, rfl⟩, same_new hy _, upd_same⟩ (fun i σ H' _ h => SqL.of h.2.2) ?_ ?_
  · rintro i x σ H1 hx ⟨⟨c, x', rfl⟩, s1, h1⟩
    rw [List.getElem?_map] at hx
    obtain ⟨cv, _, rfl⟩ := Option.map_eq_some_iff.mp hx
    exact ⟨_, rfl, ⟨_, _, rfl⟩, s1, h1⟩
  · rintro σ H1 ⟨⟨c, x', rfl⟩, s1, h1⟩
    walk_at "rd"
    refine ite2 (fun c1 => ?_) (fun c1 => ?_)
    · walk_at "rd"
      exact ⟨small9 (by show 2 ≤ 1000; decide), fun p hp => q p _ (s1.free hp) (s1.trans (same_new hp _)) Wel.put⟩
    · walk_at "rd"
      refine ite2 (fun c2 => ?_) (fun c2 => ?_)
      · walk_at "rd"
        exact ⟨small9 (by show 2 ≤ 1000; decide), fun p hp => q p _ (s1.free hp) (s1.trans (same_new hp _)) Wel.put⟩
      · walk_at "rd"
        exact ⟨small9 (by show 2 ≤ 1000; decide), fun p hp => q p _ (s1.free hp) (s1.trans (same_new hp _)) Wel.put⟩

abbrev s_law_draw : Stmt := top 10
theorem sc_law_draw : FnScope ["_law_well_here", "_law_many", "_law_found", "_law_turn", "_law_upper", "_law_lower"] ["_law_well_here", "_law_many"] (defScope s_law_draw) := ⟨rfl, rfl, rfl, by decide +kernel, rfl, by decide +kernel, by decide +kernel⟩
theorem ok_law_draw {P : Program} {w : World} {K : PySem.W.Frag} {mg : Str → Option Value} {base : Heap} {f : Addr} {fd : FuncData} (F : Fun K "_law_draw" "_law_draw" s_law_draw f fd) (gb : Gb mg) : FnOk P w K mg base CX0 1 f fd ["_law_well_here", "_law_many"] spDrawW := by
  refine F.ok sc_law_draw (fun vs H Q E h => ?_) (fun cdv A outer s H vs Q E hr h => ?_)
  · obtain ⟨p, m, rfl, _⟩ := h
    rfl
  obtain ⟨p, m, rfl, w, m0, m1, q⟩ := h
  refine ⟨_, (@pss_cons _ _ _ _ _ (@ps_if _ _ _ _ _ _ _ _ (@pt_cmpR _ _ _ _ _ _ _ _ (@op_eq _) (@pe_ix _ _ _ _ _ _ _ (@kix_seq _ K (by rfl)) (@pv _ 0 _ _ (by rfl) (by first | exact Or.inl rfl | exact Or.inr (Or.inl rfl) | exact Or.inr (Or.inr rfl)) (by decide) (by decide)) (@pe_int _ _ _ _) (fun _ _ => rfl)) (@pe_int _ _ _ _) (@nomark _ _ (by decide) (by decide))) (@pss_cons _ _ _ _ _ (@ps_set _ _ 2 _ _ _ _ sc_law_draw.nd rfl (Or.inl rfl) (@pe_op _ _ _ _ _ _ _ _ (@op_mod _) (@pe_ix _ _ _ _ _ _ _ (@kix_seq _ K (by rfl)) (@pv _ 0 _ _ (by rfl) (by first | exact Or.inl rfl | exact Or.inr (Or.inl rfl) | exact Or.inr (Or.inr rfl)) (by decide) (by decide)) (@pe_int _ _ _ _) (fun _ _ => rfl)) (@pv _ 1 _ _ (by rfl) (by first | exact Or.inl rfl | exact Or.inr (Or.inl rfl) | exact Or.inr (Or.inr rfl)) (by decide) (by decide))) (by rfl) (by first | exact .inl rfl | exact .inr rfl | assumption)) (@pss_cons _ _ _ _ _ (@ps_asg _ _ _ _ _ _ (@pe_op _ _ _ _ _ _ _ _ (@op_fdiv _) (@pe_ix _ _ _ _ _ _ _ (@kix_seq _ K (by rfl)) (@pv _ 0 _ _ (by rfl) (by first | exact Or.inl rfl | exact Or.inr (Or.inl rfl) | exact Or.inr (Or.inr rfl)) (by decide) (by decide)) (@pe_int _ _ _ _) (fun _ _ => rfl)) (@pv _ 1 _ _ (by rfl) (by first | exact Or.inl rfl | exact Or.inr (Or.inl rfl) | exact Or.inr (Or.inr rfl)) (by decide) (by decide))) (@pg_sub _ _ _ _ _ _ _ (@pv _ 0 _ _ (by rfl) (by first | exact Or.inl rfl | exact Or.inr (Or.inl rfl) | exact Or.inr (Or.inr rfl)) (by decide) (by decide)) (@pe_int _ _ _ _) (@set_list _) (by intro _; rfl)) (by rfl) (by rfl) (by rfl)) (@pss_one _ _ _ (@ps_ret _ _ _ _ (@pv _ 2 _ _ (by rfl) (by first | exact Or.inl rfl | exact Or.inr (Or.inl rfl) | exact Or.inr (Or.inr rfl)) (by decide) (by decide)))))) (@pss_nil _)) (@pss_cons _ _ _ _ _ (@ps_for _ _ _ _ _ _ _ _ PassesOwn.never rfl (@pi_range1 _ _ _ _ _ _ rfl gb.range (@pa_cons _ _ _ _ _ (@pe_int _ _ _ _) (@pa_nil _) (by rfl)) (by rfl)) (@pg_name _ _ 3 _ sc_law_draw.nd rfl (Or.inl rfl) (by first | exact .inl rfl | exact .inr rfl | assumption)) (@pss_cons _ _ _ _ _ (@ps_asg _ _ _ _ _ _ (@pe_callB _ _ _ _ _ _ _ _ _ (@call_divmod _) rfl gb.divmod bt_divmod (@pa_cons _ _ _ _ _ (@pe_ix _ _ _ _ _ _ _ (@kix_seq _ K (by rfl)) (@pv _ 0 _ _ (by rfl) (by first | exact Or.inl rfl | exact Or.inr (Or.inl rfl) | exact Or.inr (Or.inr rfl)) (by decide) (by decide)) (@pe_int _ _ _ _) (fun _ _ => rfl)) (@pa_cons _ _ _ _ _ (@pe_int _ _ _ _) (@pa_nil _) (by rfl)) (by rfl)) (by decide) (by decide) (by rfl) (by rfl)) (@kpg_tup _ K _ _ _ _ 2 rfl (@pgs_cons _ _ _ _ _ (@pg_name _ _ 4 _ sc_law_draw.nd rfl (Or.inl rfl) (by first | exact .inl rfl | exact .inr rfl | assumption)) (@pgs_cons _ _ _ _ _ (@pg_name _ _ 5 _ sc_law_draw.nd rfl (Or.inl rfl) (by first | exact .inl rfl | exact .inr rfl | assumption)) (@pgs_nil _) (by rfl)) (by rfl)) (by rfl) (by rfl) (by rfl)) (by rfl) (by rfl) (by rfl)) (@pss_one _ _ _ (@ps_asg _ _ _ _ _ _ (@pe_op _ _ _ _ _ _ _ _ (@op_mod _) (@pe_op _ _ _ _ _ _ _ _ (@op_add _) (@pe_op _ _ _ _ _ _ _ _ (@op_add _) (@pe_op _ _ _ _ _ _ _ _ (@op_mul _) (@pv _ 5 _ _ (by rfl) (by first | exact Or.inl rfl | exact Or.inr (Or.inl rfl) | exact Or.inr (Or.inr rfl)) (by decide) (by decide)) (@pe_int _ _ _ _)) (@pe_op _ _ _ _ _ _ _ _ (@op_mul _) (@pv _ 4 _ _ (by rfl) (by first | exact Or.inl rfl | exact Or.inr (Or.inl rfl) | exact Or.inr (Or.inr rfl)) (by decide) (by decide)) (@pe_int _ _ _ _))) (@pe_int _ _ _ _)) (@pe_int _ _ _ _)) (@pg_sub _ _ _ _ _ _ _ (@pv _ 0 _ _ (by rfl) (by first | exact Or.inl rfl | exact Or.inr (Or.inl rfl) | exact Or.inr (Or.inr rfl)) (by decide) (by decide)) (@pe_int _ _ _ _) (@set_list _) (by intro _; rfl)) (by rfl) (by rfl) (by rfl)))) (by intro _; rfl)) (@pss_one _ _ _ (@ps_ret _ _ _ _ (@pe_op _ _ _ _ _ _ _ _ (@op_mod _) (@pe_op _ _ _ _ _ _ _ _ (@op_fdiv _) (@pe_ix _ _ _ _ _ _ _ (@kix_seq _ K (by rfl)) (@pv _ 0 _ _ (by rfl) (by first | exact Or.inl rfl | exact Or.inr (Or.inl rfl) | exact Or.inr (Or.inr rfl)) (by decide) (by decide)) (@pe_int _ _ _ _) (fun _ _ => rfl)) (@pe_int _ _ _ _)) (@pv _ 1 _ _ (by rfl) (by first | exact Or.inl rfl | exact Or.inr (Or.inl rfl) | exact Or.inr (Or.inr rfl)) (by decide) (by decide))))))), ?_⟩
  obtain ⟨x, y, hp⟩ := id w
  refine ⟨_, rfl, .inl ⟨p, _, 0, _, rfl, rfl, SqL.of hp, rfl, rfl, _, rfl, ite2 (fun c => ?_) (fun c => ?_)⟩⟩
  · walk_at "rd"
    have e := Int.emod_nonneg y (show (m : Int) ≠ 0 by omega)
    have l := Int.emod_lt_of_pos y (show (0 : Int) < m by omega)
    have q1 := q (y % (m : Int)).toNat _ (by omega) (Off.put (o := .lst [.int x, .int (y / (m : Int))])) ⟨_, _, upd_same⟩
    rw [show nV (y % (m : Int)).toNat = V.int (y % (m : Int)) by show V.int _ = _; rw [Int.toNat_of_nonneg e]] at q1
    exact q1
  · refine ⟨2, rfl, by decide, by decide, ?_⟩
    refine for_range (fun _ σ H' => (∃ x2 x3 x4 x5, σ = [some (.ref p), some (.int (m : Int)), x2, x3, x4, x5]) ∧ Off p H H' ∧ Wel H' p) ⟨⟨_, _, _, _, rfl⟩, Off.refl, w⟩ ?_ ?_
    · rintro i σ H1 hi ⟨⟨x2, x3, x4, x5, rfl⟩, o1, ⟨a, b, h1⟩⟩
      refine ⟨_, rfl, .inl ⟨p, _, 1, _, rfl, rfl, SqL.of h1, rfl, _, _, rfl, ⟨by decide, by decide⟩, fun t ht => ?_⟩⟩
      refine ⟨t, _, rfl, SqT.of upd_same, rfl, _, _, rfl, _, _, rfl, rfl, ?_⟩
      have h2 := same_new ht (.tup [.int (b / 4099), .int (b % 4099)]) _ _ h1
      walk_at "rd"
      exact ⟨⟨_, _, _, _, rfl⟩, (o1.trans (Off.of (same_new ht _))).trans Off.put, Wel.put⟩
    · rintro σ H1 ⟨⟨x2, x3, x4, x5, rfl⟩, o1, ⟨a, b, h1⟩⟩
      walk_at "rd"
      have e := Int.emod_nonneg (b / 5) (show (m : Int) ≠ 0 by omega)
      have l := Int.emod_lt_of_pos (b / 5) (show (0 : Int) < m by omega)
      have q1 := q (b / 5 % (m : Int)).toNat _ (by omega) o1 ⟨a, b, h1⟩
      rw [show nV (b / 5 % (m : Int)).toNat = V.int (b / 5 % (m : Int)) by show V.int _ = _; rw [Int.toNat_of_nonneg e]] at q1
      exact q1

abbrev s_law_names : Stmt := top 11
theorem sc_law_names : FnScope ["_law_well_here", "_law_many", "_law_signs", "_law_first", "_law_pick", "_law_some", "_law_size", "_law_at"] ["_law_well_here", "_law_many"] (defScope s_law_names) := ⟨rfl, rfl, rfl, by decide +kernel, rfl, by decide +kernel, by decide +kernel⟩
theorem ok_law_names {P : Program} {w : World} {K : PySem.W.Frag} {mg : Str → Option Value} {base : Heap} {f : Addr} {fd : FuncData} (F : Fun K "_law_names" "_law_names" s_law_names f fd) (gb : Gb mg) (d_law_draw : Def P w K mg base 1 "_law_draw" ["_law_well_here", "_law_many"] spDrawW) : FnOk P w K mg base CX0 2 f fd ["_law_well_here", "_law_many"] spNames := by
  refine F.ok sc_law_names (fun vs H Q E h => ?_) (fun cdv A outer s H vs Q E hr h => ?_)
  · obtain ⟨p, k, rfl, _⟩ := h
    rfl
  obtain ⟨p, k, rfl, w, k8, q⟩ := h
  have nd0 : (["_law_k", "_law_signs", "_law_first"] : List Str).Nodup := by decide +kernel
  have nd1 : (["_law_k", "_law_at", "_law_signs", "_law_first", "_law_size"] : List Str).Nodup := by decide +kernel
  refine ⟨_, (@pss_cons _ _ _ _ _ (@ps_set _ _ 2 _ _ _ _ sc_law_names.nd rfl (Or.inr rfl) (@pe_str _ _ _ _) (by rfl) (by first | exact .inl rfl | exact .inr rfl | assumption)) (@pss_cons _ _ _ _ _ (@ps_set _ _ 3 _ _ _ _ sc_law_names.nd rfl (Or.inr rfl) (@pe_def _ _ _ _ _ _ _ _ _ _ _ d_law_draw hr (by omega) rfl (@pa_cons _ _ _ _ _ (@pv _ 0 _ _ (by rfl) (by first | exact Or.inl rfl | exact Or.inr (Or.inl rfl) | exact Or.inr (Or.inr rfl)) (by decide) (by decide)) (@pa_cons _ _ _ _ _ (@pe_int _ _ _ _) (@pa_nil _) (by rfl)) (by rfl)) (by decide) (by rfl) (by rfl)) (by rfl) (by first | exact .inl rfl | exact .inr rfl | assumption)) (@pss_cons _ _ _ _ _ (@ps_set _ _ 4 _ _ _ _ sc_law_names.nd rfl (Or.inl rfl) (@pe_def _ _ _ _ _ _ _ _ _ _ _ d_law_draw hr (by omega) rfl (@pa_cons _ _ _ _ _ (@pv _ 0 _ _ (by rfl) (by first | exact Or.inl rfl | exact Or.inr (Or.inl rfl) | exact Or.inr (Or.inr rfl)) (by decide) (by decide)) (@pa_cons _ _ _ _ _ (@pe_int _ _ _ _) (@pa_nil _) (by rfl)) (by rfl)) (by decide) (by rfl) (by rfl)) (by rfl) (by first | exact .inl rfl | exact .inr rfl | assumption)) (@pss_cons _ _ _ _ _ (@ps_if _ _ _ _ _ _ _ _ (@pt_cmpR _ _ _ _ _ _ _ _ (@op_eq _) (@pv _ 4 _ _ (by rfl) (by first | exact Or.inl rfl | exact Or.inr (Or.inl rfl) | exact Or.inr (Or.inr rfl)) (by decide) (by decide)) (@pe_int _ _ _ _) (@nomark _ _ (by decide) (by decide))) (@pss_cons _ _ _ _ _ (@ps_set _ _ 5 _ _ _ _ sc_law_names.nd rfl (Or.inl rfl) (@pe_lst _ _ _ _ (@pa_cons _ _ _ _ _ (@pe_str _ _ _ _) (@pa_cons _ _ _ _ _ (@pe_str _ _ _ _) (@pa_cons _ _ _ _ _ (@pe_str _ _ _ _) (@pa_cons _ _ _ _ _ (@pe_str _ _ _ _) (@pa_cons _ _ _ _ _ (@pe_str _ _ _ _) (@pa_cons _ _ _ _ _ (@pe_str _ _ _ _) (@pa_cons _ _ _ _ _ (@pe_str _ _ _ _) (@pa_cons _ _ _ _ _ (@pe_str _ _ _ _) (@pa_nil _) (by rfl)) (by rfl)) (by rfl)) (by rfl)) (by rfl)) (by rfl)) (by rfl)) (by rfl))) (by rfl) (by first | exact .inl rfl | exact .inr rfl | assumption)) (@pss_one _ _ _ (@ps_ret _ _ _ _ (@pe_slice _ _ _ _ _ _ _ _ _ _ (@ksl_any _ K (by rfl)) (@pe_op _ _ _ _ _ _ _ _ (@op_cat _) (@pe_slice _ _ _ _ _ _ _ _ _ _ (@ksl_any _ K (by rfl)) (@pv _ 5 _ _ (by rfl) (by first | exact Or.inl rfl | exact Or.inr (Or.inl rfl) | exact Or.inr (Or.inr rfl)) (by decide) (by decide)) (@po_some _ _ _ (@pe_op _ _ _ _ _ _ _ _ (@op_mod _) (@pv _ 3 _ _ (by rfl) (by first | exact Or.inl rfl | exact Or.inr (Or.inl rfl) | exact Or.inr (Or.inr rfl)) (by decide) (by decide)) (@pe_int _ _ _ _))) (@po_none _)) (@pe_slice _ _ _ _ _ _ _ _ _ _ (@ksl_any _ K (by rfl)) (@pv _ 5 _ _ (by rfl) (by first | exact Or.inl rfl | exact Or.inr (Or.inl rfl) | exact Or.inr (Or.inr rfl)) (by decide) (by decide)) (@po_none _) (@po_some _ _ _ (@pe_op _ _ _ _ _ _ _ _ (@op_mod _) (@pv _ 3 _ _ (by rfl) (by first | exact Or.inl rfl | exact Or.inr (Or.inl rfl) | exact Or.inr (Or.inr rfl)) (by decide) (by decide)) (@pe_int _ _ _ _))))) (@po_none _) (@po_some _ _ _ (@pv _ 1 _ _ (by rfl) (by first | exact Or.inl rfl | exact Or.inr (Or.inl rfl) | exact Or.inr (Or.inr rfl)) (by decide) (by decide))))))) (@pss_nil _)) (@pss_cons _ _ _ _ _ (@ps_if _ _ _ _ _ _ _ _ (@pt_cmpR _ _ _ _ _ _ _ _ (@op_eq _) (@pv _ 4 _ _ (by rfl) (by first | exact Or.inl rfl | exact Or.inr (Or.inl rfl) | exact Or.inr (Or.inr rfl)) (by decide) (by decide)) (@pe_int _ _ _ _) (@nomark _ _ (by decide) (by decide))) (@pss_one _ _ _ (@ps_ret _ _ _ _ (@pe_op _ _ _ _ _ _ _ _ (@op_cat _) (@pe_slice _ _ _ _ _ _ _ _ _ _ (@ksl_any _ K (by rfl)) (@pe_comp _ ["_law_k", "_law_signs", "_law_first"] [none, some 2, some 3] _ _ _ _ _ _ _ _ _ _ (by exact (show CompOk ["_law_well_here", "_law_many", "_law_signs", "_law_first", "_law_pick", "_law_some", "_law_size", "_law_at"] (defScope s_law_names) ["_law_k", "_law_signs", "_law_first"] [none, some 2, some 3] _ from ⟨rfl, by decide +kernel, by decide +kernel, by decide +kernel, by decide +kernel, rfl, by decide +kernel⟩)) rfl (@pi_range1 _ _ _ _ _ _ rfl gb.range (@pa_cons _ _ _ _ _ (@pe_int _ _ _ _) (@pa_nil _) (by rfl)) (by rfl)) (fun _ _ _ _ => (@pg_name _ _ 0 _ nd0 rfl (Or.inl rfl) (by first | exact .inl rfl | exact .inr rfl | assumption))) (fun _ _ _ _ => (@pf_nil _)) (fun _ _ _ _ => (@pe_op _ _ _ _ _ _ _ _ (@op_mulS _) (@pe_ix _ _ _ _ _ _ _ (@kix_seq _ K (by rfl)) (@pv _ 1 _ _ (by rfl) (by first | exact Or.inl rfl | exact Or.inr (Or.inl rfl) | exact Or.inr (Or.inr rfl)) (by decide) (by decide)) (@pv _ 2 _ _ (by rfl) (by first | exact Or.inl rfl | exact Or.inr (Or.inl rfl) | exact Or.inr (Or.inr rfl)) (by decide) (by decide)) (fun _ _ => rfl)) (@pe_op _ _ _ _ _ _ _ _ (@op_add _) (@pv _ 0 _ _ (by rfl) (by first | exact Or.inl rfl | exact Or.inr (Or.inl rfl) | exact Or.inr (Or.inr rfl)) (by decide) (by decide)) (@pe_int _ _ _ _)))) (by intro _; rfl)) (@po_none _) (@po_some _ _ _ (@pv _ 1 _ _ (by rfl) (by first | exact Or.inl rfl | exact Or.inr (Or.inl rfl) | exact Or.inr (Or.inr rfl)) (by decide) (by decide)))) (@pe_op _ _ _ _ _ _ _ _ (@op_repL _ K) (@pe_lst _ _ _ _ (@pa_cons _ _ _ _ _ (@pe_op _ _ _ _ _ _ _ _ (@op_mulS _) (@pe_ix _ _ _ _ _ _ _ (@kix_seq _ K (by rfl)) (@pv _ 2 _ _ (by rfl) (by first | exact Or.inl rfl | exact Or.inr (Or.inl rfl) | exact Or.inr (Or.inr rfl)) (by decide) (by decide)) (@pe_op _ _ _ _ _ _ _ _ (@op_sub _) (@pv _ 3 _ _ (by rfl) (by first | exact Or.inl rfl | exact Or.inr (Or.inl rfl) | exact Or.inr (Or.inr rfl)) (by decide) (by decide)) (@pe_int _ _ _ _)) (fun _ _ => rfl)) (@pe_int _ _ _ _)) (@pa_nil _) (by rfl))) (@pe_callTy _ _ _ _ _ _ _ _ _ (@call_int1 _) rfl gb.int bt_int (@pa_cons _ _ _ _ _ (@pe_cmpR _ _ _ _ _ _ _ _ (@op_eq _) (@pv _ 1 _ _ (by rfl) (by first | exact Or.inl rfl | exact Or.inr (Or.inl rfl) | exact Or.inr (Or.inr rfl)) (by decide) (by decide)) (@pe_int _ _ _ _) (@nomark _ _ (by decide) (by decide))) (@pa_nil _) (by rfl)) (by decide) (by decide) (by rfl) (by rfl)))))) (@pss_nil _)) (@pss_cons _ _ _ _ _ (@ps_set _ _ 6 _ _ _ _ sc_law_names.nd rfl (Or.inr rfl) (@pe_op _ _ _ _ _ _ _ _ (@op_add _) (@pe_int _ _ _ _) (@pe_def _ _ _ _ _ _ _ _ _ _ _ d_law_draw hr (by omega) rfl (@pa_cons _ _ _ _ _ (@pv _ 0 _ _ (by rfl) (by first | exact Or.inl rfl | exact Or.inr (Or.inl rfl) | exact Or.inr (Or.inr rfl)) (by decide) (by decide)) (@pa_cons _ _ _ _ _ (@pe_int _ _ _ _) (@pa_nil _) (by rfl)) (by rfl)) (by decide) (by rfl) (by rfl))) (by rfl) (by first | exact .inl rfl | exact .inr rfl | assumption)) (@pss_cons _ _ _ _ _ (@ps_set _ _ 7 _ _ _ _ sc_law_names.nd rfl (Or.inr rfl) (@pe_def _ _ _ _ _ _ _ _ _ _ _ d_law_draw hr (by omega) rfl (@pa_cons _ _ _ _ _ (@pv _ 0 _ _ (by rfl) (by first | exact Or.inl rfl | exact Or.inr (Or.inl rfl) | exact Or.inr (Or.inr rfl)) (by decide) (by decide)) (@pa_cons _ _ _ _ _ (@pe_op _ _ _ _ _ _ _ _ (@op_add _) (@pv _ 6 _ _ (by rfl) (by first | exact Or.inl rfl | exact Or.inr (Or.inl rfl) | exact Or.inr (Or.inr rfl)) (by decide) (by decide)) (@pe_int _ _ _ _)) (@pa_nil _) (by rfl)) (by rfl)) (by decide) (by rfl) (by rfl)) (by rfl) (by first | exact .inl rfl | exact .inr rfl | assumption)) (@pss_one _ _ _ (@ps_ret _ _ _ _ (@pe_comp _ ["_law_k", "_law_at", "_law_signs", "_law_first", "_law_size"] [none, some 7, some 2, some 3, some 6] _ _ _ _ _ _ _ _ _ _ (by exact (show CompOk ["_law_well_here", "_law_many", "_law_signs", "_law_first", "_law_pick", "_law_some", "_law_size", "_law_at"] (defScope s_law_names) ["_law_k", "_law_at", "_law_signs", "_law_first", "_law_size"] [none, some 7, some 2, some 3, some 6] _ from ⟨rfl, by decide +kernel, by decide +kernel, by decide +kernel, by decide +kernel, rfl, by decide +kernel⟩)) rfl (@pi_range1 _ _ _ _ _ _ rfl gb.range (@pa_cons _ _ _ _ _ (@pv _ 1 _ _ (by rfl) (by first | exact Or.inl rfl | exact Or.inr (Or.inl rfl) | exact Or.inr (Or.inr rfl)) (by decide) (by decide)) (@pa_nil _) (by rfl)) (by rfl)) (fun _ _ _ _ => (@pg_name _ _ 0 _ nd1 rfl (Or.inl rfl) (by first | exact .inl rfl | exact .inr rfl | assumption))) (fun _ _ _ _ => (@pf_nil _)) (fun _ _ _ _ => (@pe_op _ _ _ _ _ _ _ _ (@op_add_str _) (@pe_op _ _ _ _ _ _ _ _ (@op_add_str _) (@pe_op _ _ _ _ _ _ _ _ (@op_mulS _) (@pe_str _ _ _ _) (@pv _ 1 _ _ (by rfl) (by first | exact Or.inl rfl | exact Or.inr (Or.inl rfl) | exact Or.inr (Or.inr rfl)) (by decide) (by decide))) (@pe_ix _ _ _ _ _ _ _ (@kix_seq _ K (by rfl)) (@pv _ 2 _ _ (by rfl) (by first | exact Or.inl rfl | exact Or.inr (Or.inl rfl) | exact Or.inr (Or.inr rfl)) (by decide) (by decide)) (@pe_op _ _ _ _ _ _ _ _ (@op_mod _) (@pe_op _ _ _ _ _ _ _ _ (@op_add _) (@pv _ 3 _ _ (by rfl) (by first | exact Or.inl rfl | exact Or.inr (Or.inl rfl) | exact Or.inr (Or.inr rfl)) (by decide) (by decide)) (@pv _ 0 _ _ (by rfl) (by first | exact Or.inl rfl | exact Or.inr (Or.inl rfl) | exact Or.inr (Or.inr rfl)) (by decide) (by decide))) (@pe_int _ _ _ _)) (fun _ _ => rfl))) (@pe_op _ _ _ _ _ _ _ _ (@op_mulS _) (@pe_str _ _ _ _) (@pe_op _ _ _ _ _ _ _ _ (@op_sub _) (@pv _ 4 _ _ (by rfl) (by first | exact Or.inl rfl | exact Or.inr (Or.inl rfl) | exact Or.inr (Or.inr rfl)) (by decide) (by decide)) (@pv _ 1 _ _ (by rfl) (by first | exact Or.inl rfl | exact Or.inr (Or.inl rfl) | exact Or.inr (Or.inr rfl)) (by decide) (by decide)))))) (by intro _; rfl))))))))))), ?_⟩
  refine ⟨_, rfl, p, 26, rfl, w, by decide, by decide, fun f H1 f1 o1 w1 => ?_⟩
  refine ⟨_, rfl, p, 3, rfl, w1, by decide, by decide, fun g H2 g1 o2 w2 => ?_⟩
  have o12 := o1.trans o2
  refine ⟨_, rfl, rfl, _, rfl, ite2 (fun c => ?_) (fun c => ?_)⟩
  · refine ⟨small9 (by show 8 ≤ 1000; decide), fun L hL => ?_⟩
    have hN := rot8 f
    have hT : TL 8 [.str "and", .str "or", .str "not", .str "then", .str "grades", .str "wished", .str "false", .str "true"] := ⟨["and", "or", "not", "then", "grades", "wished", "false", "true"], rfl, by decide, by decide +kernel⟩
    generalize ([.str "and", .str "or", .str "not", .str "then", .str "grades", .str "wished", .str "false", .str "true"] : List V) = xs at *
    have n1 := same_new hL (.lst xs)
    refine ⟨_, rfl, _, rfl, _, _, rfl, rfl, (show (0 : Int) < 8 by decide), _, rfl, .inl ⟨L, _, rfl, SqL.of upd_same, fun y hy => ?_⟩⟩
    have n2 := same_new hy (.lst (cutV xs (some ((f : Int) % 8)) none))
    refine ⟨_, rfl, _, rfl, _, _, rfl, rfl, (show (0 : Int) < 8 by decide), _, rfl, .inl ⟨L, _, rfl, SqL.of (n2 _ _ upd_same), fun z hz => ?_⟩⟩
    have n3 := same_new hz (.lst (cutV xs none (some ((f : Int) % 8))))
    have t1 := hT.cut (some ((f : Int) % 8)) none
    have t2 := hT.cut none (some ((f : Int) % 8))
    have l1 := t1.len
    have l2 := t2.len
    refine ⟨y, z, _, _, rfl, rfl, n3 _ _ upd_same, upd_same, small9 (by omega), fun v hv => ?_⟩
    have n4 := same_new hv (.lst (cutV xs (some ((f : Int) % 8)) none ++ cutV xs none (some ((f : Int) % 8))))
    refine ⟨_, rfl, _, rfl, .inl ⟨v, _, rfl, SqL.of upd_same, fun r hr' => ?_⟩⟩
    have n5 := same_new hr' (.lst (cutV (cutV xs (some ((f : Int) % 8)) none ++ cutV xs none (some ((f : Int) % 8))) none (some (k : Int))))
    have sN := n1.trans (n2.trans (n3.trans (n4.trans n5)))
    exact q r _ _ (o12.trans (Off.of sN)) (w2.same sN) upd_same ((t1.app t2).cut _ _) (nd_cut hN _ _) (Ne.symm ((w2.same (n1.trans (n2.trans (n3.trans n4)))).ne hr'))
  refine ⟨_, rfl, rfl, _, rfl, ite2 (fun c => ?_) (fun c => ?_)⟩
  · refine ⟨7, rfl, by decide, by decide, fun D hD => ?_⟩
    obtain ⟨cc, ec⟩ := sign_at (i := (f : Int)) (by omega) (by omega)
    refine comp_range (fun i ys H' => Same H2 H' ∧ TL i ys ∧ ys = (List.range i).map (nm1 cc)) ⟨same_new hD _, ⟨[], rfl, Nat.le_refl _, fun y h => by cases h⟩, rfl⟩ ?_ ?_
    · rintro i ys H3 hi ⟨s3, t3, ey⟩ hD3
      have i7 : i < 7 := hi
      refine yes ⟨_, rfl, _, rfl, .inr (.inr ⟨signs, _, cc, rfl, rfl, small9 (by decide +kernel), ec, _, rfl, _, _, rfl, rfl, _, _, rfl, rfl, by omega, by omega, (show (Str.mk #[cc]).length ≤ 10 from (show 1 ≤ 10 by decide)), ?_⟩)⟩
      have l3 := t3.len
      refine cyes hi rset1 hD3 (small1000 (by omega)) ⟨s3.put hD, ?_, by rw [ey, List.range_succ, List.map_append]; rfl⟩
      refine t3.app ⟨[_], rfl, Nat.le_refl _, fun y hy => ?_⟩
      rw [List.mem_singleton.mp hy]
      refine Nat.le_trans (mul_len _ _) ?_
      show 1 * _ ≤ 100
      omega
    · rintro ys H3 ⟨s3, t3, ey⟩ hD3
      have hN : ys.Nodup := by rw [ey]; exact nm1_nd _ _
      refine ⟨_, rfl, _, rfl, .inl ⟨D, _, rfl, SqL.of hD3, fun y hy => ?_⟩⟩
      have n1 := same_new hy (.lst (cutV ys none (some (k : Int))))
      obtain ⟨cd, ed⟩ := sign_at (i := (f : Int) - 1) (by omega) (by omega)
      refine ⟨_, rfl, _, rfl, _, _, rfl, rfl, .inr (.inr ⟨signs, _, cd, rfl, rfl, small9 (by decide +kernel), ed, _, _, rfl, rfl, by decide, by decide, (show (Str.mk #[cd]).length ≤ 10 from (show 1 ≤ 10 by decide)), small9 (by show 1 ≤ 1000; decide), fun z hz => ?_⟩)⟩
      have n2 := same_new hz (.lst [.str (Txt.mul (Str.mk #[cd]) 2)])
      have tz : TL 1 [.str (Txt.mul (Str.mk #[cd]) 2)] := ⟨[_], rfl, Nat.le_refl _, fun y hy => by rw [List.mem_singleton.mp hy]; exact Nat.le_trans (mul_len _ _) (by show 1 * 2 ≤ 100; decide)⟩
      refine ⟨_, rfl, rfl, .inr ⟨_, rfl, z, _, _, rfl, rfl, upd_same, by split <;> decide, by split <;> decide, by (show 1 * _ ≤ 1000; split <;> decide), fun v hv => ?_⟩⟩
      dsimp only at hv ⊢
      have trep : TL 1 (List.replicate (if decide (V.int (k : Int) = V.int 8) = true then (1 : Int) else 0).toNat [V.str (Txt.mul (Str.mk #[cd]) 2)]).flatten := by
        split
        · exact tz
        · exact ⟨[], rfl, by decide, fun y h => by cases h⟩
      have hNz : (cutV ys none (some (k : Int)) ++ (List.replicate (if decide (V.int (k : Int) = V.int 8) = true then (1 : Int) else 0).toNat [V.str (Txt.mul (Str.mk #[cd]) 2)]).flatten).Nodup := by
        rw [List.nodup_append]
        refine ⟨nd_cut hN _ _, ?_, fun x hx z hz e => ?_⟩
        · split
          · show ([V.str (Txt.mul (Str.mk #[cd]) 2)] : List V).Nodup
            simp
          · exact List.nodup_nil
        · have hz' : z = V.str (Txt.mul (Str.mk #[cd]) 2) := by
            revert hz
            split
            · intro hz
              exact List.mem_singleton.mp hz
            · intro hz
              cases hz
          have hx' := cut_mem hx
          rw [ey] at hx'
          obtain ⟨jj, _, rfl⟩ := List.mem_map.mp hx'
          rw [hz', sg_of ec, sg_of ed] at e
          exact nm1_z (by omega) jj e
      generalize (List.replicate (if decide (V.int (k : Int) = V.int 8) = true then (1 : Int) else 0).toNat [V.str (Txt.mul (Str.mk #[cd]) 2)]).flatten = zs at *
      have n3 := same_new hv (.lst zs)
      have t1 := t3.cut none (some (k : Int))
      have l1 := t1.len
      have l2 := trep.len
      refine ⟨y, v, _, _, rfl, rfl, n3 _ _ (n2 _ _ upd_same), upd_same, small9 (by show _ ≤ 1000; have : (7 : Int).toNat = 7 := rfl; omega), fun r hr' => ?_⟩
      have n4 := same_new hr' (.lst (cutV ys none (some (k : Int)) ++ zs))
      have sN := s3.trans (n1.trans (n2.trans (n3.trans n4)))
      exact q r _ _ (o12.trans (Off.of sN)) (w2.same sN) upd_same ((t1.app trep).mono (by decide)) hNz (Ne.symm ((w2.same (s3.trans (n1.trans (n2.trans n3)))).ne hr'))
  refine ⟨_, rfl, p, 7, rfl, w2, by decide, by decide, fun sz H3 z1 o3 w3 => ?_⟩
  refine ⟨_, _, rfl, rfl, ?_⟩
  dsimp only
  refine ⟨_, rfl, _, rfl, _, _, rfl, rfl, p, sz + 2, by (show [V.ref p, V.int (1 + (sz : Int) + 1)] = _; rw [show (1 + (sz : Int) + 1) = ((sz + 2 : Nat) : Int) by omega]), w3, by omega, by omega, fun at_ H4 a1 o4 w4 => ?_⟩
  have o14 := o12.trans (o3.trans o4)
  refine ⟨_, rfl, (k : Int), rfl, by omega, by omega, fun D hD => ?_⟩
  rw [Int.toNat_natCast]
  refine comp_range (fun i ys H' => Same H4 H' ∧ TL i ys ∧ ys = (List.range i).map (nm2 f (Txt.mul (Str.ofString "a") (at_ : Int)) (Txt.mul (Str.ofString "b") (1 + (sz : Int) - (at_ : Int))))) ⟨same_new hD _, ⟨[], rfl, Nat.le_refl _, fun y h => by cases h⟩, rfl⟩ ?_ ?_
  · rintro i ys H5 hi ⟨s5, t5, ey⟩ hD5
    obtain ⟨cc, ec⟩ := sign_at (i := ((f : Int) + (0 + (i : Int))) % 26) (by omega) (by omega)
    have la := mul_len (Str.ofString "a") (at_ : Int)
    have lb := mul_len (Str.ofString "b") (1 + (sz : Int) - (at_ : Int))
    rw [show (Str.ofString "a").length = 1 by decide +kernel] at la
    rw [show (Str.ofString "b").length = 1 by decide +kernel] at lb
    refine yes ⟨_, rfl, _, _, rfl, rfl, by omega, by omega, by decide +kernel, ?_⟩
    refine ⟨_, rfl, _, rfl, _, rfl, _, _, rfl, rfl, _, _, rfl, rfl, (show (0 : Int) < 26 by decide), .inr (.inr ⟨signs, _, cc, rfl, rfl, small9 (by decide +kernel), ec, _, _, rfl, rfl, ?_, ?_⟩)⟩
    · show _ + 1 ≤ _
      exact small9 (by omega)
    refine ⟨_, rfl, _, rfl, _, _, rfl, rfl, _, _, rfl, rfl, by omega, by omega, by decide +kernel, _, _, rfl, rfl, ?_, ?_⟩
    · rw [cat_len]
      show _ + 1 + _ ≤ _
      exact small9 (by omega)
    have l5 := t5.len
    refine cyes hi rset1 hD5 (small1000 (by omega)) ⟨s5.put hD, ?_, by rw [ey, List.range_succ, List.map_append, sg_of ec]; rfl⟩
    refine t5.app ⟨[_], rfl, Nat.le_refl _, fun y hy => ?_⟩
    rw [List.mem_singleton.mp hy, cat_len, cat_len]
    show _ + 1 + _ ≤ 100
    omega
  · rintro ys H5 ⟨s5, t5, ey⟩ hD5
    exact q D _ _ (o14.trans (Off.of s5)) (w4.same s5) hD5 (t5.mono (by omega)) (by rw [ey]; exact nm2_nd _ _ _ _ (by omega)) (Ne.symm (w4.ne hD))

abbrev s_law_cells : Stmt := top 12
theorem sc_law_cells : FnScope ["_law_well_here", "_law_many", "_law_places", "_law_size", "_law_kept", "_law_found"] ["_law_well_here", "_law_many", "_law_places"] (defScope s_law_cells) := ⟨rfl, rfl, rfl, by decide +kernel, rfl, by decide +kernel, by decide +kernel⟩
theorem ok_law_cells {P : Program} {w : World} {K : PySem.W.Frag} {mg : Str → Option Value} {base : Heap} {f : Addr} {fd : FuncData} (F : Fun K "_law_cells" "_law_cells" s_law_cells f fd) (gb : Gb mg) (d_law_draw : Def P w K mg base 1 "_law_draw" ["_law_well_here", "_law_many"] spDrawW) : FnOk P w K mg base CX0 2 f fd ["_law_well_here", "_law_many", "_law_places"] spCells := by
  refine F.ok sc_law_cells (fun vs H Q E h => ?_) (fun cdv A outer s H vs Q E hr h => ?_)
  · obtain ⟨p, m, pl, rfl, _⟩ := h
    rfl
  obtain ⟨p, m, pl, rfl, w, m1, m9, pl2, q⟩ := h
  have nd0 : (["_law_k", "_law_well_here", "_law_many"] : List Str).Nodup := by decide +kernel
  have nd1 : (["_law_k", "_law_well_here", "_law_many"] : List Str).Nodup := by decide +kernel
  have nd2 : (["_law_mark", "_law_kept"] : List Str).Nodup := by decide +kernel
  refine ⟨_, (@pss_cons _ _ _ _ _ (@ps_set _ _ 3 _ _ _ _ sc_law_cells.nd rfl (Or.inl rfl) (@pe_ix _ _ _ _ _ _ _ (@kix_seq _ K (by rfl)) (@pe_lst _ _ _ _ (@pa_cons _ _ _ _ _ (@pe_int _ _ _ _) (@pa_cons _ _ _ _ _ (@pv _ 1 _ _ (by rfl) (by first | exact Or.inl rfl | exact Or.inr (Or.inl rfl) | exact Or.inr (Or.inr rfl)) (by decide) (by decide)) (@pa_cons _ _ _ _ _ (@pe_op _ _ _ _ _ _ _ _ (@op_mul _) (@pv _ 1 _ _ (by rfl) (by first | exact Or.inl rfl | exact Or.inr (Or.inl rfl) | exact Or.inr (Or.inr rfl)) (by decide) (by decide)) (@pv _ 1 _ _ (by rfl) (by first | exact Or.inl rfl | exact Or.inr (Or.inl rfl) | exact Or.inr (Or.inr rfl)) (by decide) (by decide))) (@pa_nil _) (by rfl)) (by rfl)) (by rfl))) (@pv _ 2 _ _ (by rfl) (by first | exact Or.inl rfl | exact Or.inr (Or.inl rfl) | exact Or.inr (Or.inr rfl)) (by decide) (by decide)) (fun _ _ => rfl)) (by rfl) (by first | exact .inl rfl | exact .inr rfl | assumption)) (@pss_cons _ _ _ _ _ (@ps_set _ _ 4 _ _ _ _ sc_law_cells.nd rfl (Or.inr rfl) (@pe_comp _ ["_law_k", "_law_well_here", "_law_many"] [none, some 0, some 1] _ _ _ _ _ _ _ _ _ _ (by exact (show CompOk ["_law_well_here", "_law_many", "_law_places", "_law_size", "_law_kept", "_law_found"] (defScope s_law_cells) ["_law_k", "_law_well_here", "_law_many"] [none, some 0, some 1] _ from ⟨rfl, by decide +kernel, by decide +kernel, by decide +kernel, by decide +kernel, rfl, by decide +kernel⟩)) rfl (@pi_range1 _ _ _ _ _ _ rfl gb.range (@pa_cons _ _ _ _ _ (@pe_op _ _ _ _ _ _ _ _ (@op_add _) (@pe_int _ _ _ _) (@pe_def _ _ _ _ _ _ _ _ _ _ _ d_law_draw hr (by omega) rfl (@pa_cons _ _ _ _ _ (@pv _ 0 _ _ (by rfl) (by first | exact Or.inl rfl | exact Or.inr (Or.inl rfl) | exact Or.inr (Or.inr rfl)) (by decide) (by decide)) (@pa_cons _ _ _ _ _ (@pe_int _ _ _ _) (@pa_nil _) (by rfl)) (by rfl)) (by decide) (by rfl) (by rfl))) (@pa_nil _) (by rfl)) (by rfl)) (fun _ _ _ _ => (@pg_name _ _ 0 _ nd0 rfl (Or.inl rfl) (by first | exact .inl rfl | exact .inr rfl | assumption))) (fun _ _ _ _ => (@pf_nil _)) (fun _ _ _ _ => (@pe_def _ _ _ _ _ _ _ _ _ _ _ d_law_draw hr (by omega) rfl (@pa_cons _ _ _ _ _ (@pv _ 1 _ _ (by rfl) (by first | exact Or.inl rfl | exact Or.inr (Or.inl rfl) | exact Or.inr (Or.inr rfl)) (by decide) (by decide)) (@pa_cons _ _ _ _ _ (@pv _ 2 _ _ (by rfl) (by first | exact Or.inl rfl | exact Or.inr (Or.inl rfl) | exact Or.inr (Or.inr rfl)) (by decide) (by decide)) (@pa_nil _) (by rfl)) (by rfl)) (by decide) (by rfl) (by rfl))) (by intro _; rfl)) (by rfl) (by first | exact .inl rfl | exact .inr rfl | assumption)) (@pss_cons _ _ _ _ _ (@ps_setComp _ ["_law_k", "_law_well_here", "_law_many"] [none, some 0, some 1] _ 5 _ _ _ _ _ _ _ _ _ _ _ _ (by exact (show CompOk ["_law_well_here", "_law_many", "_law_places", "_law_size", "_law_kept", "_law_found"] (defScope s_law_cells) ["_law_k", "_law_well_here", "_law_many"] [none, some 0, some 1] _ from ⟨rfl, by decide +kernel, by decide +kernel, by decide +kernel, by decide +kernel, rfl, by decide +kernel⟩)) rfl (@pi_range1 _ _ _ _ _ _ rfl gb.range (@pa_cons _ _ _ _ _ (@pv _ 3 _ _ (by rfl) (by first | exact Or.inl rfl | exact Or.inr (Or.inl rfl) | exact Or.inr (Or.inr rfl)) (by decide) (by decide)) (@pa_nil _) (by rfl)) (by rfl)) (fun _ _ _ _ => (@pg_name _ _ 0 _ nd1 rfl (Or.inl rfl) (by first | exact .inl rfl | exact .inr rfl | assumption))) (fun _ _ _ _ => (@pf_nil _)) (fun _ _ _ _ => (@pe_def _ _ _ _ _ _ _ _ _ _ _ d_law_draw hr (by omega) rfl (@pa_cons _ _ _ _ _ (@pv _ 1 _ _ (by rfl) (by first | exact Or.inl rfl | exact Or.inr (Or.inl rfl) | exact Or.inr (Or.inr rfl)) (by decide) (by decide)) (@pa_cons _ _ _ _ _ (@pv _ 2 _ _ (by rfl) (by first | exact Or.inl rfl | exact Or.inr (Or.inl rfl) | exact Or.inr (Or.inr rfl)) (by decide) (by decide)) (@pa_nil _) (by rfl)) (by rfl)) (by decide) (by rfl) (by rfl))) sc_law_cells.nd rfl rfl rfl (by intro _; rfl)) (@pss_cons _ _ _ _ _ (@ps_if _ _ _ _ _ _ _ _ (@pt_cmpR _ _ _ _ _ _ _ _ (@op_eq _) (@pe_def _ _ _ _ _ _ _ _ _ _ _ d_law_draw hr (by omega) rfl (@pa_cons _ _ _ _ _ (@pv _ 0 _ _ (by rfl) (by first | exact Or.inl rfl | exact Or.inr (Or.inl rfl) | exact Or.inr (Or.inr rfl)) (by decide) (by decide)) (@pa_cons _ _ _ _ _ (@pe_int _ _ _ _) (@pa_nil _) (by rfl)) (by rfl)) (by decide) (by rfl) (by rfl)) (@pe_int _ _ _ _) (@nomark _ _ (by decide) (by decide))) (@pss_one _ _ _ (@ps_setComp _ ["_law_mark", "_law_kept"] [none, some 4] _ 5 _ _ _ _ _ _ _ _ _ _ _ _ (by exact (show CompOk ["_law_well_here", "_law_many", "_law_places", "_law_size", "_law_kept", "_law_found"] (defScope s_law_cells) ["_law_mark", "_law_kept"] [none, some 4] _ from ⟨rfl, by decide +kernel, by decide +kernel, by decide +kernel, by decide +kernel, rfl, by decide +kernel⟩)) rfl (@kpi_list _ K _ _ _ (@pv _ 5 _ _ (by rfl) (by first | exact Or.inl rfl | exact Or.inr (Or.inl rfl) | exact Or.inr (Or.inr rfl)) (by decide) (by decide)) (by rfl)) (fun _ _ _ _ => (@pg_name _ _ 0 _ nd2 rfl (Or.inl rfl) (by first | exact .inl rfl | exact .inr rfl | assumption))) (fun _ _ _ _ => (@pf_nil _)) (fun _ _ _ _ => (@pe_ix _ _ _ _ _ _ _ (@kix_seq _ K (by rfl)) (@pv _ 1 _ _ (by rfl) (by first | exact Or.inl rfl | exact Or.inr (Or.inl rfl) | exact Or.inr (Or.inr rfl)) (by decide) (by decide)) (@pe_op _ _ _ _ _ _ _ _ (@op_mod _) (@pv _ 0 _ _ (by rfl) (by first | exact Or.inl rfl | exact Or.inr (Or.inl rfl) | exact Or.inr (Or.inr rfl)) (by decide) (by decide)) (@pe_callB _ _ _ _ _ _ _ _ _ (@kcall_len _ K (by rfl)) rfl gb.len bt_len (@pa_cons _ _ _ _ _ (@pv _ 1 _ _ (by rfl) (by first | exact Or.inl rfl | exact Or.inr (Or.inl rfl) | exact Or.inr (Or.inr rfl)) (by decide) (by decide)) (@pa_nil _) (by rfl)) (by decide) (by decide) (by rfl) (by rfl))) (fun _ _ => rfl))) sc_law_cells.nd rfl rfl rfl (by intro _; rfl))) (@pss_nil _)) (@pss_one _ _ _ (@ps_ret _ _ _ _ (@pe_callTy _ _ _ _ _ _ _ _ _ (@kcall_tuple_of _ K (by rfl)) rfl gb.tuple bt_tuple (@pa_cons _ _ _ _ _ (@pv _ 5 _ _ (by rfl) (by first | exact Or.inl rfl | exact Or.inr (Or.inl rfl) | exact Or.inr (Or.inr rfl)) (by decide) (by decide)) (@pa_nil _) (by rfl)) (by decide) (by decide) (by rfl) (by rfl)))))))), ?_⟩
  have mp := pow_small m9 pl2
  refine ⟨_, rfl, _, rfl, _, rfl, _, _, rfl, rfl, .inr ⟨by omega, by omega⟩, small9 (by show 3 ≤ 1000; decide), fun L hL => ?_⟩
  have nL := same_new hL (.lst [.int 1, nV m, .int ((m : Int) * (m : Int))])
  refine ⟨_, rfl, .inl ⟨L, _, _, nV (m ^ pl), rfl, rfl, SqL.of upd_same, ?_, ?_⟩⟩
  · have h : pl = 0 ∨ pl = 1 ∨ pl = 2 := by omega
    rcases h with rfl | rfl | rfl
    · exact atI_nat (by rw [Nat.pow_zero]; rfl)
    · exact atI_nat (by rw [Nat.pow_one]; rfl)
    · exact atI_nat (by rw [Nat.pow_two, show nV (m * m) = V.int ((m : Int) * (m : Int)) by show V.int _ = _; rw [Int.natCast_mul]]; rfl)
  refine ⟨_, rfl, p, 3, rfl, w.same nL, by decide, by decide, fun kc H1 kc1 o1 w1 => ?_⟩
  refine ⟨_, _, rfl, rfl, _, rfl, by omega, by omega, fun D hD => ?_⟩
  rw [show (1 + (kc : Int)).toNat = kc + 1 by omega]
  have oA := (Off.of (p := p) nL).trans o1
  refine comp_draws (m := m) w1 hD (by omega) (fun i H' Q' hi w' k' => ⟨_, rfl, _, rfl, p, m, rfl, w', by omega, by omega, k'⟩) (fun ks H2 kl kv o2 w2 hD2 => ?_)
  have pD := w1.ne hD
  refine ⟨_, rfl, _, rfl, by omega, by omega, fun D2 hD3 => ?_⟩
  rw [Int.toNat_natCast]
  refine comp_draws (m := m) w2 hD3 (by omega) (fun i H' Q' hi w' k' => ⟨_, rfl, _, rfl, p, m, rfl, w', by omega, by omega, k'⟩) (fun fs H3 fl fv o3 w3 hD4 => ?_)
  have pD2 := w2.ne hD3
  refine ⟨_, rfl, p, 3, rfl, w3, by decide, by decide, fun dd H4 d1 o4 w4 => ⟨rfl, _, rfl, ?_⟩⟩
  have hk4 := o4 D _ (Ne.symm pD) (o3 D _ (Ne.symm pD) hD2)
  have hf4 := o4 D2 _ (Ne.symm pD2) hD4
  have oB := oA.trans (o2.trans (o3.trans o4))
  refine ite2 (fun c => ?_) (fun c => ?_)
  · refine ⟨_, rfl, D2, rfl, ⟨_, SqL.of hf4⟩, fun D3 hD5 => ?_⟩
    have kpos : 0 < ks.length := by omega
    refine map_list fs nV (fun x => nV (Tn.at' ks (x % ks.length))) hf4 (by omega) hD5 (fun z hz H' Q' s5 q' => ?_) (fun H5 s5 hD6 => ?_)
    · have hlen : ((ks.map nV).length : Int) = (ks.length : Int) := by rw [List.length_map]
      have e : atI (ks.map nV) ((z : Int) % ((ks.map nV).length : Int)) = some (nV (Tn.at' ks (z % ks.length))) := by
        rw [hlen, ← Int.natCast_emod]
        exact at_nV (Nat.mod_lt _ kpos)
      exact ⟨_, rfl, _, rfl, _, rfl, _, _, rfl, .inl ⟨_, SqL.of (s5 _ _ hk4), rfl⟩, _, _, rfl, rfl, (by rw [hlen]; omega), .inl ⟨D, _, _, _, rfl, rfl, SqL.of (s5 _ _ hk4), e, q' H' Same.rfl'⟩⟩
    · refine ⟨_, rfl, D3, _, rfl, .inl ⟨SqL.of hD6, fun t ht => ?_⟩⟩
      have n6 := same_new ht (.tup (fs.map fun x => nV (Tn.at' ks (x % ks.length))))
      refine q t (fs.map fun x => Tn.at' ks (x % ks.length)) _ (oB.trans (Off.of (s5.trans n6))) (w4.same (s5.trans n6)) ⟨by rw [List.length_map]; exact fl, fun x hx => ?_⟩ (by rw [List.map_map]; exact upd_same)
      obtain ⟨y, hy, rfl⟩ := List.mem_map.mp hx
      have hl := Nat.mod_lt y kpos
      unfold Tn.at'
      rw [List.getD_eq_getElem?_getD, List.getElem?_eq_getElem hl]
      exact kv _ (List.getElem_mem _)
  · refine ⟨_, rfl, D2, _, rfl, .inl ⟨SqL.of hf4, fun t ht => ?_⟩⟩
    have n6 := same_new ht (.tup (fs.map nV))
    exact q t fs _ (oB.trans (Off.of n6)) (w4.same n6) ⟨fl, fv⟩ upd_same

abbrev s_law_table : Stmt := top 13
theorem sc_law_table : FnScope ["_law_well_here", "_law_most", "_law_some", "_law_many", "_law_wished", "_law_names_here", "_law_connectives", "_law_name", "_law_places"] ["_law_well_here", "_law_most", "_law_some"] (defScope s_law_table) := ⟨rfl, rfl, rfl, by decide +kernel, rfl, by decide +kernel, by decide +kernel⟩
theorem ok_law_table {P : Program} {w : World} {K : PySem.W.Frag} {mg : Str → Option Value} {base : Heap} {f : Addr} {fd : FuncData} (F : Fun K "_law_table" "_law_table" s_law_table f fd) (gb : Gb mg) (d_law_draw : Def P w K mg base 1 "_law_draw" ["_law_well_here", "_law_many"] spDrawW) (d_law_names : Def P w K mg base 2 "_law_names" ["_law_well_here", "_law_many"] spNames) (d_law_cells : Def P w K mg base 2 "_law_cells" ["_law_well_here", "_law_many", "_law_places"] spCells) : FnOk P w K mg base CX0 3 f fd ["_law_well_here", "_law_most", "_law_some"] spTable := by
  refine F.ok sc_law_table (fun vs H Q E h => ?_) (fun cdv A outer s H vs Q E hr h => ?_)
  · obtain ⟨p, mo, so, rfl, _⟩ := h
    rfl
  obtain ⟨p, mo, so, rfl, w, mo1, mo9, so8, q⟩ := h
  have nd0 : (["_law_mark", "_law_well_here"] : List Str).Nodup := by decide +kernel
  refine ⟨_, (@pss_cons _ _ _ _ _ (@ps_set _ _ 3 _ _ _ _ sc_law_table.nd rfl (Or.inl rfl) (@pe_op _ _ _ _ _ _ _ _ (@op_add _) (@pe_int _ _ _ _) (@pe_def _ _ _ _ _ _ _ _ _ _ _ d_law_draw hr (by omega) rfl (@pa_cons _ _ _ _ _ (@pv _ 0 _ _ (by rfl) (by first | exact Or.inl rfl | exact Or.inr (Or.inl rfl) | exact Or.inr (Or.inr rfl)) (by decide) (by decide)) (@pa_cons _ _ _ _ _ (@pv _ 1 _ _ (by rfl) (by first | exact Or.inl rfl | exact Or.inr (Or.inl rfl) | exact Or.inr (Or.inr rfl)) (by decide) (by decide)) (@pa_nil _) (by rfl)) (by rfl)) (by decide) (by rfl) (by rfl))) (by rfl) (by first | exact .inl rfl | exact .inr rfl | assumption)) (@pss_cons _ _ _ _ _ (@ps_set _ _ 4 _ _ _ _ sc_law_table.nd rfl (Or.inl rfl) (@pe_callTy _ _ _ _ _ _ _ _ _ (@kcall_tuple_of _ K (by rfl)) rfl gb.tuple bt_tuple (@pa_cons _ _ _ _ _ (@pe_comp _ ["_law_mark", "_law_well_here"] [none, some 0] _ _ _ _ _ _ _ _ _ _ (by exact (show CompOk ["_law_well_here", "_law_most", "_law_some", "_law_many", "_law_wished", "_law_names_here", "_law_connectives", "_law_name", "_law_places"] (defScope s_law_table) ["_law_mark", "_law_well_here"] [none, some 0] _ from ⟨rfl, by decide +kernel, by decide +kernel, by decide +kernel, by decide +kernel, rfl, by decide +kernel⟩)) rfl (@pi_range1 _ _ _ _ _ _ rfl gb.range (@pa_cons _ _ _ _ _ (@pv _ 3 _ _ (by rfl) (by first | exact Or.inl rfl | exact Or.inr (Or.inl rfl) | exact Or.inr (Or.inr rfl)) (by decide) (by decide)) (@pa_nil _) (by rfl)) (by rfl)) (fun _ _ _ _ => (@pg_name _ _ 0 _ nd0 rfl (Or.inl rfl) (by first | exact .inl rfl | exact .inr rfl | assumption))) (fun _ _ _ _ => (@pf_one _ _ _ (@pt_cmpR _ _ _ _ _ _ _ _ (@op_eq _) (@pe_def _ _ _ _ _ _ _ _ _ _ _ d_law_draw hr (by omega) rfl (@pa_cons _ _ _ _ _ (@pv _ 1 _ _ (by rfl) (by first | exact Or.inl rfl | exact Or.inr (Or.inl rfl) | exact Or.inr (Or.inr rfl)) (by decide) (by decide)) (@pa_cons _ _ _ _ _ (@pe_int _ _ _ _) (@pa_nil _) (by rfl)) (by rfl)) (by decide) (by rfl) (by rfl)) (@pe_int _ _ _ _) (@nomark _ _ (by decide) (by decide))))) (fun _ _ _ _ => (@pv _ 0 _ _ (by rfl) (by first | exact Or.inl rfl | exact Or.inr (Or.inl rfl) | exact Or.inr (Or.inr rfl)) (by decide) (by decide))) (by intro _; rfl)) (@pa_nil _) (by rfl)) (by decide) (by decide) (by rfl) (by rfl)) (by rfl) (by first | exact .inl rfl | exact .inr rfl | assumption)) (@pss_cons _ _ _ _ _ (@ps_set _ _ 5 _ _ _ _ sc_law_table.nd rfl (Or.inl rfl) (@pe_def _ _ _ _ _ _ _ _ _ _ _ d_law_names hr (by omega) rfl (@pa_cons _ _ _ _ _ (@pv _ 0 _ _ (by rfl) (by first | exact Or.inl rfl | exact Or.inr (Or.inl rfl) | exact Or.inr (Or.inr rfl)) (by decide) (by decide)) (@pa_cons _ _ _ _ _ (@pe_def _ _ _ _ _ _ _ _ _ _ _ d_law_draw hr (by omega) rfl (@pa_cons _ _ _ _ _ (@pv _ 0 _ _ (by rfl) (by first | exact Or.inl rfl | exact Or.inr (Or.inl rfl) | exact Or.inr (Or.inr rfl)) (by decide) (by decide)) (@pa_cons _ _ _ _ _ (@pe_op _ _ _ _ _ _ _ _ (@op_add _) (@pv _ 2 _ _ (by rfl) (by first | exact Or.inl rfl | exact Or.inr (Or.inl rfl) | exact Or.inr (Or.inr rfl)) (by decide) (by decide)) (@pe_int _ _ _ _)) (@pa_nil _) (by rfl)) (by rfl)) (by decide) (by rfl) (by rfl)) (@pa_nil _) (by rfl)) (by rfl)) (by decide) (by rfl) (by rfl)) (by rfl) (by first | exact .inl rfl | exact .inr rfl | assumption)) (@pss_cons _ _ _ _ _ (@ps_set _ _ 6 _ _ _ _ sc_law_table.nd rfl (Or.inl rfl) (@pe_lst _ _ _ _ (@pa_nil _)) (by rfl) (by first | exact .inl rfl | exact .inr rfl | assumption)) (@pss_cons _ _ _ _ _ (@ps_for _ _ _ _ _ _ _ _ PassesOwn.never rfl (@kpi_list _ K _ _ _ (@pv _ 5 _ _ (by rfl) (by first | exact Or.inl rfl | exact Or.inr (Or.inl rfl) | exact Or.inr (Or.inr rfl)) (by decide) (by decide)) (by rfl)) (@pg_name _ _ 7 _ sc_law_table.nd rfl (Or.inl rfl) (by first | exact .inl rfl | exact .inr rfl | assumption)) (@pss_cons _ _ _ _ _ (@ps_set _ _ 8 _ _ _ _ sc_law_table.nd rfl (Or.inl rfl) (@pe_ix _ _ _ _ _ _ _ (@kix_seq _ K (by rfl)) (@pe_lst _ _ _ _ (@pa_cons _ _ _ _ _ (@pe_int _ _ _ _) (@pa_cons _ _ _ _ _ (@pe_int _ _ _ _) (@pa_cons _ _ _ _ _ (@pe_int _ _ _ _) (@pa_cons _ _ _ _ _ (@pe_int _ _ _ _) (@pa_cons _ _ _ _ _ (@pe_int _ _ _ _) (@pa_nil _) (by rfl)) (by rfl)) (by rfl)) (by rfl)) (by rfl))) (@pe_def _ _ _ _ _ _ _ _ _ _ _ d_law_draw hr (by omega) rfl (@pa_cons _ _ _ _ _ (@pv _ 0 _ _ (by rfl) (by first | exact Or.inl rfl | exact Or.inr (Or.inl rfl) | exact Or.inr (Or.inr rfl)) (by decide) (by decide)) (@pa_cons _ _ _ _ _ (@pe_int _ _ _ _) (@pa_nil _) (by rfl)) (by rfl)) (by decide) (by rfl) (by rfl)) (fun _ _ => rfl)) (by rfl) (by first | exact .inl rfl | exact .inr rfl | assumption)) (@pss_one _ _ _ (@ps_expr _ _ _ _ (@kpe_bm _ K _ _ _ _ _ _ _ _ _ _ _ PySem.F.plainAttrs_list PySem.F.slot_list_append PySem.F.type_list_append (@mt_append _) (@pv _ 6 _ _ (by rfl) (by first | exact Or.inl rfl | exact Or.inr (Or.inl rfl) | exact Or.inr (Or.inr rfl)) (by decide) (by decide)) (@pa_cons _ _ _ _ _ (@pe_tup _ _ _ _ _ (@pa_cons _ _ _ _ _ (@pv _ 7 _ _ (by rfl) (by first | exact Or.inl rfl | exact Or.inr (Or.inl rfl) | exact Or.inr (Or.inr rfl)) (by decide) (by decide)) (@pa_cons _ _ _ _ _ (@pv _ 8 _ _ (by rfl) (by first | exact Or.inl rfl | exact Or.inr (Or.inl rfl) | exact Or.inr (Or.inr rfl)) (by decide) (by decide)) (@pa_cons _ _ _ _ _ (@pe_def _ _ _ _ _ _ _ _ _ _ _ d_law_cells hr (by omega) rfl (@pa_cons _ _ _ _ _ (@pv _ 0 _ _ (by rfl) (by first | exact Or.inl rfl | exact Or.inr (Or.inl rfl) | exact Or.inr (Or.inr rfl)) (by decide) (by decide)) (@pa_cons _ _ _ _ _ (@pv _ 3 _ _ (by rfl) (by first | exact Or.inl rfl | exact Or.inr (Or.inl rfl) | exact Or.inr (Or.inr rfl)) (by decide) (by decide)) (@pa_cons _ _ _ _ _ (@pv _ 8 _ _ (by rfl) (by first | exact Or.inl rfl | exact Or.inr (Or.inl rfl) | exact Or.inr (Or.inr rfl)) (by decide) (by decide)) (@pa_nil _) (by rfl)) (by rfl)) (by rfl)) (by decide) (by rfl) (by rfl)) (@pa_nil _) (by rfl)) (by rfl)) (by rfl))) (@pa_nil _) (by rfl)) (by rfl) (by rfl) (by rfl) (by rfl) (by rfl) (by rfl)) (by rfl)))) (by intro _; rfl)) (@pss_one _ _ _ (@ps_ret _ _ _ _ (@pe_tup _ _ _ _ _ (@pa_cons _ _ _ _ _ (@pv _ 3 _ _ (by rfl) (by first | exact Or.inl rfl | exact Or.inr (Or.inl rfl) | exact Or.inr (Or.inr rfl)) (by decide) (by decide)) (@pa_cons _ _ _ _ _ (@pv _ 4 _ _ (by rfl) (by first | exact Or.inl rfl | exact Or.inr (Or.inl rfl) | exact Or.inr (Or.inr rfl)) (by decide) (by decide)) (@pa_cons _ _ _ _ _ (@pe_callTy _ _ _ _ _ _ _ _ _ (@kcall_tuple_of _ K (by rfl)) rfl gb.tuple bt_tuple (@pa_cons _ _ _ _ _ (@pv _ 6 _ _ (by rfl) (by first | exact Or.inl rfl | exact Or.inr (Or.inl rfl) | exact Or.inr (Or.inr rfl)) (by decide) (by decide)) (@pa_nil _) (by rfl)) (by decide) (by decide) (by rfl) (by rfl)) (@pa_nil _) (by rfl)) (by rfl)) (by rfl)))))))))), ?_⟩
  refine ⟨_, rfl, _, rfl, p, mo, rfl, w, by omega, by omega, fun mm H1 mm1 o1 w1 => ?_⟩
  refine ⟨_, _, rfl, rfl, ?_⟩
  dsimp only
  rw [show (1 + (mm : Int)) = ((mm + 1 : Nat) : Int) by omega]
  refine ⟨_, rfl, ((mm + 1 : Nat) : Int), rfl, by omega, by omega, fun D hD => ?_⟩
  rw [Int.toNat_natCast]
  have pD := w1.ne hD
  refine comp_range (fun i ys H' => ∃ ws : List Nat, ys = ws.map nV ∧ ws.Pairwise (· < ·) ∧ (∀ x ∈ ws, x < i) ∧ ws.length ≤ i ∧ Off p H1 H' ∧ Wel H' p) ⟨[], rfl, .nil, (fun x h => by cases h), Nat.le_refl _, Off.new hD, w1.off pD⟩ ?_ ?_
  · rintro i ys H2 hi ⟨ws, rfl, wr, wl, wn, o2, w2⟩ hD2
    refine ⟨_, rfl, p, 2, rfl, w2, by decide, by decide, fun v H3 v1 o3 w3 => ⟨rfl, _, rfl, ?_⟩⟩
    have hD3 := o3 D _ (Ne.symm pD) hD2
    refine ite2 (fun c => ?_) (fun c => ?_)
    · refine ⟨_, rfl, cyes hi rset1 hD3 (by rw [List.length_map]; exact small1000 (by omega)) ⟨ws ++ [i], by rw [List.map_append, Int.zero_add]; rfl, ?_, fun x hx => ?_, by rw [List.length_append]; exact Nat.succ_le_succ wn, (o2.trans o3).fresh hD, w3.off pD⟩⟩
      · rw [List.pairwise_append]
        exact ⟨wr, List.pairwise_singleton _ _, fun a ha b hb => by rw [List.mem_singleton.mp hb]; exact wl a ha⟩
      · rcases List.mem_append.mp hx with h | h
        · have := wl x h
          omega
        · rw [List.mem_singleton.mp h]
          omega
    · exact cno hi rset1 hD3 ⟨ws, rfl, wr, fun x hx => Nat.lt_succ_of_lt (wl x hx), Nat.le_succ_of_le wn, o2.trans o3, w3⟩
  rintro ys H2 ⟨ws, rfl, wr, wl, wn, o2, w2⟩ hD2
  refine ⟨D, _, rfl, .inl ⟨SqL.of hD2, fun tw htw => ?_⟩⟩
  have n3 := same_new htw (.tup (ws.map nV))
  refine ⟨_, rfl, _, rfl, _, rfl, _, _, rfl, rfl, p, so + 1, rfl, w2.same n3, by omega, by omega, fun kk H3 kk1 o3 w3 => ?_⟩
  refine ⟨p, kk, rfl, w3, by omega, fun l xs H4 o4 w4 hl hT hN lp => ?_⟩
  have oA := o1.trans (o2.trans ((Off.of (p := p) n3).trans (o3.trans o4)))
  have htw4 : H4 tw = some (.tup (ws.map nV)) := (w3.tk o4) _ _ (((w2.same n3).tk o3) _ _ upd_same)
  refine ⟨small9 (by show 0 ≤ 1000; decide), fun cn hcn => ?_⟩
  have pcn := w4.ne hcn
  have n5 := same_new hcn (.lst [])
  refine ⟨_, rfl, l, rfl, ⟨_, SqL.of (n5 _ _ hl)⟩, ?_⟩
  have hTl := hT.len
  refine for_list (xs := xs) (fun i σ H' => (∃ x7 x8, σ = [some (.ref p), some (nV mo), some (nV so), some (nV (mm + 1)), some (.ref tw), some (.ref l), some (.ref cn), x7, x8]) ∧ Off p H4 H' ∧ Wel H' p ∧ ∃ cs ys, H' cn = some (.lst ys) ∧ Cns H' cs ys ∧ cs.length = i ∧ (∀ c ∈ cs, c.nm.length ≤ 100 ∧ c.pl ≤ 2 ∧ Tn.Cs (mm + 1) c.pl c.cs) ∧ (cs.map fun c => V.str c.nm) = xs.take i) ⟨⟨_, _, rfl⟩, Off.of n5, w4.same n5, [], [], upd_same, .nil, rfl, (fun c h => by cases h), rfl⟩ (fun i σ H' _ h => SqL.of (h.2.1 _ _ lp hl)) ?_ ?_
  · rintro i x σ H5 hx ⟨⟨x7, x8, rfl⟩, o5, w5, cs, ys, hy, hC, cl, hg, en⟩
    obtain ⟨ts, rfl, tl, tb⟩ := id hT
    have hil : i < (ts.map V.str).length := (List.getElem?_eq_some_iff.mp hx).1
    have hx0 := hx
    rw [List.getElem?_map] at hx
    obtain ⟨nm, hnm, rfl⟩ := Option.map_eq_some_iff.mp hx
    refine ⟨small9 (by show 5 ≤ 1000; decide), fun L hL => ?_⟩
    have nL := same_new hL (.lst [.int 0, .int 1, .int 1, .int 2, .int 2])
    have pL := w5.ne hL
    refine ⟨_, rfl, p, 5, rfl, w5.same nL, by decide, by decide, fun v H7 v1 o7 w7 => ?_⟩
    obtain ⟨pl, e, p2⟩ : ∃ pl : Nat, atI [V.int 0, .int 1, .int 1, .int 2, .int 2] (v : Int) = some (nV pl) ∧ pl ≤ 2 := by
      match v, v1 with
      | 0, _ => exact ⟨0, atI_nat rfl, by decide⟩
      | 1, _ => exact ⟨1, atI_nat rfl, by decide⟩
      | 2, _ => exact ⟨1, atI_nat rfl, by decide⟩
      | 3, _ => exact ⟨2, atI_nat rfl, by decide⟩
      | 4, _ => exact ⟨2, atI_nat rfl, by decide⟩
    refine .inl ⟨L, _, _, _, rfl, rfl, SqL.of (o7 L _ (Ne.symm pL) upd_same), e, ?_⟩
    have hy7 := o7 cn _ (Ne.symm pcn) (nL _ _ hy)
    refine ⟨_, rfl, .inl ⟨rfl, _, SqL.of hy7⟩, _, rfl, _, rfl, _, rfl, _, rfl, _, rfl, p, mm + 1, pl, rfl, w7, by omega, by omega, p2, fun t cs8 H8 o8 w8 hcs ht => ?_⟩
    refine ⟨small9 (by show 3 ≤ 1000; decide), fun t3 ht3 => ?_⟩
    have n9 := same_new ht3 (.tup [.str nm, nV pl, .ref t])
    have hy9 := n9 _ _ (o8 cn _ (Ne.symm pcn) hy7)
    have hyl := hC.len
    have oN := (o5.trans (Off.of nL)).trans (o7.trans (o8.trans (Off.of n9)))
    have tN : Tk H5 (upd H8 t3 (.tup [.str nm, nV pl, .ref t])) := ((Tk.of nL).trans ((w5.same nL).tk o7)).trans ((w7.tk o8).trans (Tk.of n9))
    refine ⟨cn, _, _, rfl, rfl, hy9, small1000 (by omega), ⟨⟨_, _, rfl⟩, oN.fresh hcn, (w8.same n9).off pcn, cs ++ [⟨nm, pl, cs8⟩], _, upd_same, ?_, by rw [List.length_append, cl]; rfl, fun c hc => ?_, by rw [List.map_append, en, take_snoc hx0]; rfl⟩⟩
    · exact (Cns.snoc (c := ⟨nm, pl, cs8⟩) (hC.tk tN) upd_same (n9 _ _ ht)).tk (Tk.put hy9)
    · rcases List.mem_append.mp hc with h | h
      · exact hg c h
      · rw [List.mem_singleton.mp h]
        exact ⟨tb nm (List.mem_of_getElem? hnm), p2, hcs⟩
  · rintro σ H5 ⟨⟨x7, x8, rfl⟩, o5, w5, cs, ys, hy, hC, cl, hg, en⟩
    refine ⟨_, rfl, _, rfl, _, rfl, cn, _, rfl, .inl ⟨SqL.of hy, fun tc htc => ?_⟩⟩
    have n6 := same_new htc (.tup ys)
    refine ⟨small9 (by show 3 ≤ 1000; decide), fun t ht => ?_⟩
    have n7 := same_new ht (.tup [nV (mm + 1), .ref tw, .ref tc])
    have n67 := n6.trans n7
    refine q _ ⟨mm + 1, ws, cs⟩ _ ((oA.trans o5).trans (Off.of n67)) (w5.same n67) ⟨by show 1 ≤ mm + 1; omega, by show mm + 1 ≤ 9; omega, wr, wl, by show cs.length ≤ 16; omega, hg⟩ ?_ ⟨t, tw, tc, ys, rfl, upd_same, n67 _ _ ((w4.tk o5) _ _ htw4), n7 _ _ upd_same, hC.same n67⟩
    rw [List.take_length] at en
    rw [← en] at hN
    refine nd_of_map ?_
    unfold nmsOf'
    rw [List.map_map]
    exact hN

abbrev s_law_even : Stmt := top 14
theorem sc_law_even : FnScope ["_law_well_here", "_law_table_here", "_law_size", "_law_home", "_law_connectives", "_law_name", "_law_places", "_law_cells_here", "_law_found", "_law_place", "_law_first", "_law_same", "_law_mark", "_law_near", "_law_wished"] ["_law_well_here", "_law_table_here"] (defScope s_law_even) := ⟨rfl, rfl, rfl, by decide +kernel, rfl, by decide +kernel, by decide +kernel⟩
theorem ok_law_even {P : Program} {w : World} {K : PySem.W.Frag} {mg : Str → Option Value} {base : Heap} {f : Addr} {fd : FuncData} (F : Fun K "_law_even" "_law_even" s_law_even f fd) (gb : Gb mg) (d_law_draw : Def P w K mg base 1 "_law_draw" ["_law_well_here", "_law_many"] spDrawW) : FnOk P w K mg base CX0 2 f fd ["_law_well_here", "_law_table_here"] spEven := by
  refine F.ok sc_law_even (fun vs H Q E h => ?_) (fun cdv A outer s H vs Q E hr h => ?_)
  · obtain ⟨p, v, T, rfl, _⟩ := h
    rfl
  obtain ⟨p, v, T, rfl, w, ia, gT, q⟩ := h
  have nd0 : (["_law_mark", "_law_well_here", "_law_size"] : List Str).Nodup := by decide +kernel
  have nd1 : (["_law_number", "_law_home", "_law_table_here", "_law_first"] : List Str).Nodup := by decide +kernel
  have nd2 : (["_law_one", "_law_home", "_law_found", "_law_same"] : List Str).Nodup := by decide +kernel
  have nd3 : (["_law_mark", "_law_home"] : List Str).Nodup := by decide +kernel
  refine ⟨_, (@pss_cons _ _ _ _ _ (@ps_set _ _ 2 _ _ _ _ sc_law_even.nd rfl (Or.inr rfl) (@pe_op _ _ _ _ _ _ _ _ (@op_add _) (@pe_int _ _ _ _) (@pe_def _ _ _ _ _ _ _ _ _ _ _ d_law_draw hr (by omega) rfl (@pa_cons _ _ _ _ _ (@pv _ 0 _ _ (by rfl) (by first | exact Or.inl rfl | exact Or.inr (Or.inl rfl) | exact Or.inr (Or.inr rfl)) (by decide) (by decide)) (@pa_cons _ _ _ _ _ (@pe_ix _ _ _ _ _ _ _ (@kix_seq _ K (by rfl)) (@pv _ 1 _ _ (by rfl) (by first | exact Or.inl rfl | exact Or.inr (Or.inl rfl) | exact Or.inr (Or.inr rfl)) (by decide) (by decide)) (@pe_int _ _ _ _) (fun _ _ => rfl)) (@pa_nil _) (by rfl)) (by rfl)) (by decide) (by rfl) (by rfl))) (by rfl) (by first | exact .inl rfl | exact .inr rfl | assumption)) (@pss_cons _ _ _ _ _ (@ps_set _ _ 3 _ _ _ _ sc_law_even.nd rfl (Or.inr rfl) (@pe_comp _ ["_law_mark", "_law_well_here", "_law_size"] [none, some 0, some 2] _ _ _ _ _ _ _ _ _ _ (by exact (show CompOk ["_law_well_here", "_law_table_here", "_law_size", "_law_home", "_law_connectives", "_law_name", "_law_places", "_law_cells_here", "_law_found", "_law_place", "_law_first", "_law_same", "_law_mark", "_law_near", "_law_wished"] (defScope s_law_even) ["_law_mark", "_law_well_here", "_law_size"] [none, some 0, some 2] _ from ⟨rfl, by decide +kernel, by decide +kernel, by decide +kernel, by decide +kernel, rfl, by decide +kernel⟩)) rfl (@pi_range1 _ _ _ _ _ _ rfl gb.range (@pa_cons _ _ _ _ _ (@pe_ix _ _ _ _ _ _ _ (@kix_seq _ K (by rfl)) (@pv _ 1 _ _ (by rfl) (by first | exact Or.inl rfl | exact Or.inr (Or.inl rfl) | exact Or.inr (Or.inr rfl)) (by decide) (by decide)) (@pe_int _ _ _ _) (fun _ _ => rfl)) (@pa_nil _) (by rfl)) (by rfl)) (fun _ _ _ _ => (@pg_name _ _ 0 _ nd0 rfl (Or.inl rfl) (by first | exact .inl rfl | exact .inr rfl | assumption))) (fun _ _ _ _ => (@pf_nil _)) (fun _ _ _ _ => (@pe_def _ _ _ _ _ _ _ _ _ _ _ d_law_draw hr (by omega) rfl (@pa_cons _ _ _ _ _ (@pv _ 1 _ _ (by rfl) (by first | exact Or.inl rfl | exact Or.inr (Or.inl rfl) | exact Or.inr (Or.inr rfl)) (by decide) (by decide)) (@pa_cons _ _ _ _ _ (@pv _ 2 _ _ (by rfl) (by first | exact Or.inl rfl | exact Or.inr (Or.inl rfl) | exact Or.inr (Or.inr rfl)) (by decide) (by decide)) (@pa_nil _) (by rfl)) (by rfl)) (by decide) (by rfl) (by rfl))) (by intro _; rfl)) (by rfl) (by first | exact .inl rfl | exact .inr rfl | assumption)) (@pss_cons _ _ _ _ _ (@ps_set _ _ 4 _ _ _ _ sc_law_even.nd rfl (Or.inl rfl) (@pe_lst _ _ _ _ (@pa_nil _)) (by rfl) (by first | exact .inl rfl | exact .inr rfl | assumption)) (@pss_cons _ _ _ _ _ (@ps_for _ _ _ _ _ _ _ _ PassesOwn.never rfl (@kpi_tup _ K _ _ _ (@pe_ix _ _ _ _ _ _ _ (@kix_seq _ K (by rfl)) (@pv _ 1 _ _ (by rfl) (by first | exact Or.inl rfl | exact Or.inr (Or.inl rfl) | exact Or.inr (Or.inr rfl)) (by decide) (by decide)) (@pe_int _ _ _ _) (fun _ _ => rfl)) (by rfl)) (@kpg_tup _ K _ _ _ _ 3 rfl (@pgs_cons _ _ _ _ _ (@pg_name _ _ 5 _ sc_law_even.nd rfl (Or.inl rfl) (by first | exact .inl rfl | exact .inr rfl | assumption)) (@pgs_cons _ _ _ _ _ (@pg_name _ _ 6 _ sc_law_even.nd rfl (Or.inl rfl) (by first | exact .inl rfl | exact .inr rfl | assumption)) (@pgs_cons _ _ _ _ _ (@pg_name _ _ 7 _ sc_law_even.nd rfl (Or.inl rfl) (by first | exact .inl rfl | exact .inr rfl | assumption)) (@pgs_nil _) (by rfl)) (by rfl)) (by rfl)) (by rfl) (by rfl) (by rfl)) (@pss_cons _ _ _ _ _ (@ps_set _ _ 8 _ _ _ _ sc_law_even.nd rfl (Or.inr rfl) (@pe_lst _ _ _ _ (@pa_nil _)) (by rfl) (by first | exact .inl rfl | exact .inr rfl | assumption)) (@pss_cons _ _ _ _ _ (@ps_for _ _ _ _ _ _ _ _ PassesOwn.never rfl (@pi_range1 _ _ _ _ _ _ rfl gb.range (@pa_cons _ _ _ _ _ (@pe_callB _ _ _ _ _ _ _ _ _ (@kcall_len _ K (by rfl)) rfl gb.len bt_len (@pa_cons _ _ _ _ _ (@pv _ 7 _ _ (by rfl) (by first | exact Or.inl rfl | exact Or.inr (Or.inl rfl) | exact Or.inr (Or.inr rfl)) (by decide) (by decide)) (@pa_nil _) (by rfl)) (by decide) (by decide) (by rfl) (by rfl)) (@pa_nil _) (by rfl)) (by rfl)) (@pg_name _ _ 9 _ sc_law_even.nd rfl (Or.inl rfl) (by first | exact .inl rfl | exact .inr rfl | assumption)) (@pss_cons _ _ _ _ _ (@ps_set _ _ 10 _ _ _ _ sc_law_even.nd rfl (Or.inr rfl) (@pe_lst _ _ _ _ (@pa_cons _ _ _ _ _ (@pe_ix _ _ _ _ _ _ _ (@kix_seq _ K (by rfl)) (@pv _ 3 _ _ (by rfl) (by first | exact Or.inl rfl | exact Or.inr (Or.inl rfl) | exact Or.inr (Or.inr rfl)) (by decide) (by decide)) (@pe_op _ _ _ _ _ _ _ _ (@op_fdiv _) (@pv _ 9 _ _ (by rfl) (by first | exact Or.inl rfl | exact Or.inr (Or.inl rfl) | exact Or.inr (Or.inr rfl)) (by decide) (by decide)) (@pe_ix _ _ _ _ _ _ _ (@kix_seq _ K (by rfl)) (@pv _ 1 _ _ (by rfl) (by first | exact Or.inl rfl | exact Or.inr (Or.inl rfl) | exact Or.inr (Or.inr rfl)) (by decide) (by decide)) (@pe_int _ _ _ _) (fun _ _ => rfl))) (fun _ _ => rfl)) (@pa_cons _ _ _ _ _ (@pe_ix _ _ _ _ _ _ _ (@kix_seq _ K (by rfl)) (@pv _ 3 _ _ (by rfl) (by first | exact Or.inl rfl | exact Or.inr (Or.inl rfl) | exact Or.inr (Or.inr rfl)) (by decide) (by decide)) (@pe_op _ _ _ _ _ _ _ _ (@op_mod _) (@pv _ 9 _ _ (by rfl) (by first | exact Or.inl rfl | exact Or.inr (Or.inl rfl) | exact Or.inr (Or.inr rfl)) (by decide) (by decide)) (@pe_ix _ _ _ _ _ _ _ (@kix_seq _ K (by rfl)) (@pv _ 1 _ _ (by rfl) (by first | exact Or.inl rfl | exact Or.inr (Or.inl rfl) | exact Or.inr (Or.inr rfl)) (by decide) (by decide)) (@pe_int _ _ _ _) (fun _ _ => rfl))) (fun _ _ => rfl)) (@pa_nil _) (by rfl)) (by rfl))) (by rfl) (by first | exact .inl rfl | exact .inr rfl | assumption)) (@pss_cons _ _ _ _ _ (@ps_set _ _ 11 _ _ _ _ sc_law_even.nd rfl (Or.inr rfl) (@pe_comp _ ["_law_number", "_law_home", "_law_table_here", "_law_first"] [none, some 3, some 1, some 10] _ _ _ _ _ _ _ _ _ _ (by exact (show CompOk ["_law_well_here", "_law_table_here", "_law_size", "_law_home", "_law_connectives", "_law_name", "_law_places", "_law_cells_here", "_law_found", "_law_place", "_law_first", "_law_same", "_law_mark", "_law_near", "_law_wished"] (defScope s_law_even) ["_law_number", "_law_home", "_law_table_here", "_law_first"] [none, some 3, some 1, some 10] _ from ⟨rfl, by decide +kernel, by decide +kernel, by decide +kernel, by decide +kernel, rfl, by decide +kernel⟩)) rfl (@pi_range1 _ _ _ _ _ _ rfl gb.range (@pa_cons _ _ _ _ _ (@pv _ 9 _ _ (by rfl) (by first | exact Or.inl rfl | exact Or.inr (Or.inl rfl) | exact Or.inr (Or.inr rfl)) (by decide) (by decide)) (@pa_nil _) (by rfl)) (by rfl)) (fun _ _ _ _ => (@pg_name _ _ 0 _ nd1 rfl (Or.inl rfl) (by first | exact .inl rfl | exact .inr rfl | assumption))) (fun _ _ _ _ => (@pf_one _ _ _ (@pt_cmpR _ _ _ _ _ _ _ _ (@op_eqL _ K _ hr (by rfl)) (@pe_lst _ _ _ _ (@pa_cons _ _ _ _ _ (@pe_ix _ _ _ _ _ _ _ (@kix_seq _ K (by rfl)) (@pv _ 1 _ _ (by rfl) (by first | exact Or.inl rfl | exact Or.inr (Or.inl rfl) | exact Or.inr (Or.inr rfl)) (by decide) (by decide)) (@pe_op _ _ _ _ _ _ _ _ (@op_fdiv _) (@pv _ 0 _ _ (by rfl) (by first | exact Or.inl rfl | exact Or.inr (Or.inl rfl) | exact Or.inr (Or.inr rfl)) (by decide) (by decide)) (@pe_ix _ _ _ _ _ _ _ (@kix_seq _ K (by rfl)) (@pv _ 2 _ _ (by rfl) (by first | exact Or.inl rfl | exact Or.inr (Or.inl rfl) | exact Or.inr (Or.inr rfl)) (by decide) (by decide)) (@pe_int _ _ _ _) (fun _ _ => rfl))) (fun _ _ => rfl)) (@pa_cons _ _ _ _ _ (@pe_ix _ _ _ _ _ _ _ (@kix_seq _ K (by rfl)) (@pv _ 1 _ _ (by rfl) (by first | exact Or.inl rfl | exact Or.inr (Or.inl rfl) | exact Or.inr (Or.inr rfl)) (by decide) (by decide)) (@pe_op _ _ _ _ _ _ _ _ (@op_mod _) (@pv _ 0 _ _ (by rfl) (by first | exact Or.inl rfl | exact Or.inr (Or.inl rfl) | exact Or.inr (Or.inr rfl)) (by decide) (by decide)) (@pe_ix _ _ _ _ _ _ _ (@kix_seq _ K (by rfl)) (@pv _ 2 _ _ (by rfl) (by first | exact Or.inl rfl | exact Or.inr (Or.inl rfl) | exact Or.inr (Or.inr rfl)) (by decide) (by decide)) (@pe_int _ _ _ _) (fun _ _ => rfl))) (fun _ _ => rfl)) (@pa_nil _) (by rfl)) (by rfl))) (@pv _ 3 _ _ (by rfl) (by first | exact Or.inl rfl | exact Or.inr (Or.inl rfl) | exact Or.inr (Or.inr rfl)) (by decide) (by decide)) (@nomark _ _ (by decide) (by decide))))) (fun _ _ _ _ => (@pv _ 0 _ _ (by rfl) (by first | exact Or.inl rfl | exact Or.inr (Or.inl rfl) | exact Or.inr (Or.inr rfl)) (by decide) (by decide))) (by intro _; rfl)) (by rfl) (by first | exact .inl rfl | exact .inr rfl | assumption)) (@pss_cons _ _ _ _ _ (@ps_set _ _ 12 _ _ _ _ sc_law_even.nd rfl (Or.inl rfl) (@pe_ix _ _ _ _ _ _ _ (@kix_seq _ K (by rfl)) (@pv _ 7 _ _ (by rfl) (by first | exact Or.inl rfl | exact Or.inr (Or.inl rfl) | exact Or.inr (Or.inr rfl)) (by decide) (by decide)) (@pv _ 9 _ _ (by rfl) (by first | exact Or.inl rfl | exact Or.inr (Or.inl rfl) | exact Or.inr (Or.inr rfl)) (by decide) (by decide)) (fun _ _ => rfl)) (by rfl) (by first | exact .inl rfl | exact .inr rfl | assumption)) (@pss_cons _ _ _ _ _ (@ps_if _ _ _ _ _ _ _ _ (@pt_cmpR _ _ _ _ _ _ _ _ (@op_neNil _ K _ hr (by rfl)) (@pv _ 11 _ _ (by rfl) (by first | exact Or.inl rfl | exact Or.inr (Or.inl rfl) | exact Or.inr (Or.inr rfl)) (by decide) (by decide)) (@pe_lst _ _ _ _ (@pa_nil _)) (@nomark _ _ (by decide) (by decide))) (@pss_cons _ _ _ _ _ (@ps_setComp _ ["_law_one", "_law_home", "_law_found", "_law_same"] [none, some 3, some 8, some 11] _ 13 _ _ _ _ _ _ _ _ _ _ _ _ (by exact (show CompOk ["_law_well_here", "_law_table_here", "_law_size", "_law_home", "_law_connectives", "_law_name", "_law_places", "_law_cells_here", "_law_found", "_law_place", "_law_first", "_law_same", "_law_mark", "_law_near", "_law_wished"] (defScope s_law_even) ["_law_one", "_law_home", "_law_found", "_law_same"] [none, some 3, some 8, some 11] _ from ⟨rfl, by decide +kernel, by decide +kernel, by decide +kernel, by decide +kernel, rfl, by decide +kernel⟩)) rfl (@pi_range1 _ _ _ _ _ _ rfl gb.range (@pa_cons _ _ _ _ _ (@pe_ix _ _ _ _ _ _ _ (@kix_seq _ K (by rfl)) (@pv _ 1 _ _ (by rfl) (by first | exact Or.inl rfl | exact Or.inr (Or.inl rfl) | exact Or.inr (Or.inr rfl)) (by decide) (by decide)) (@pe_int _ _ _ _) (fun _ _ => rfl)) (@pa_nil _) (by rfl)) (by rfl)) (fun _ _ _ _ => (@pg_name _ _ 0 _ nd2 rfl (Or.inl rfl) (by first | exact .inl rfl | exact .inr rfl | assumption))) (fun _ _ _ _ => (@pf_one _ _ _ (@pt_cmpR _ _ _ _ _ _ _ _ (@op_eq _) (@pe_ix _ _ _ _ _ _ _ (@kix_seq _ K (by rfl)) (@pv _ 1 _ _ (by rfl) (by first | exact Or.inl rfl | exact Or.inr (Or.inl rfl) | exact Or.inr (Or.inr rfl)) (by decide) (by decide)) (@pv _ 0 _ _ (by rfl) (by first | exact Or.inl rfl | exact Or.inr (Or.inl rfl) | exact Or.inr (Or.inr rfl)) (by decide) (by decide)) (fun _ _ => rfl)) (@pe_ix _ _ _ _ _ _ _ (@kix_seq _ K (by rfl)) (@pv _ 1 _ _ (by rfl) (by first | exact Or.inl rfl | exact Or.inr (Or.inl rfl) | exact Or.inr (Or.inr rfl)) (by decide) (by decide)) (@pe_ix _ _ _ _ _ _ _ (@kix_seq _ K (by rfl)) (@pv _ 2 _ _ (by rfl) (by first | exact Or.inl rfl | exact Or.inr (Or.inl rfl) | exact Or.inr (Or.inr rfl)) (by decide) (by decide)) (@pe_ix _ _ _ _ _ _ _ (@kix_seq _ K (by rfl)) (@pv _ 3 _ _ (by rfl) (by first | exact Or.inl rfl | exact Or.inr (Or.inl rfl) | exact Or.inr (Or.inr rfl)) (by decide) (by decide)) (@pe_int _ _ _ _) (fun _ _ => rfl)) (fun _ _ => rfl)) (fun _ _ => rfl)) (@nomark _ _ (by decide) (by decide))))) (fun _ _ _ _ => (@pv _ 0 _ _ (by rfl) (by first | exact Or.inl rfl | exact Or.inr (Or.inl rfl) | exact Or.inr (Or.inr rfl)) (by decide) (by decide))) sc_law_even.nd rfl rfl rfl (by intro _; rfl)) (@pss_one _ _ _ (@ps_set _ _ 12 _ _ _ _ sc_law_even.nd rfl (Or.inl rfl) (@pe_ix _ _ _ _ _ _ _ (@kix_seq _ K (by rfl)) (@pv _ 13 _ _ (by rfl) (by first | exact Or.inl rfl | exact Or.inr (Or.inl rfl) | exact Or.inr (Or.inr rfl)) (by decide) (by decide)) (@pe_op _ _ _ _ _ _ _ _ (@op_mod _) (@pe_ix _ _ _ _ _ _ _ (@kix_seq _ K (by rfl)) (@pv _ 7 _ _ (by rfl) (by first | exact Or.inl rfl | exact Or.inr (Or.inl rfl) | exact Or.inr (Or.inr rfl)) (by decide) (by decide)) (@pv _ 9 _ _ (by rfl) (by first | exact Or.inl rfl | exact Or.inr (Or.inl rfl) | exact Or.inr (Or.inr rfl)) (by decide) (by decide)) (fun _ _ => rfl)) (@pe_callB _ _ _ _ _ _ _ _ _ (@kcall_len _ K (by rfl)) rfl gb.len bt_len (@pa_cons _ _ _ _ _ (@pv _ 13 _ _ (by rfl) (by first | exact Or.inl rfl | exact Or.inr (Or.inl rfl) | exact Or.inr (Or.inr rfl)) (by decide) (by decide)) (@pa_nil _) (by rfl)) (by decide) (by decide) (by rfl) (by rfl))) (fun _ _ => rfl)) (by rfl) (by first | exact .inl rfl | exact .inr rfl | assumption)))) (@pss_nil _)) (@pss_one _ _ _ (@ps_expr _ _ _ _ (@kpe_bm _ K _ _ _ _ _ _ _ _ _ _ _ PySem.F.plainAttrs_list PySem.F.slot_list_append PySem.F.type_list_append (@mt_append _) (@pv _ 8 _ _ (by rfl) (by first | exact Or.inl rfl | exact Or.inr (Or.inl rfl) | exact Or.inr (Or.inr rfl)) (by decide) (by decide)) (@pa_cons _ _ _ _ _ (@pv _ 12 _ _ (by rfl) (by first | exact Or.inl rfl | exact Or.inr (Or.inl rfl) | exact Or.inr (Or.inr rfl)) (by decide) (by decide)) (@pa_nil _) (by rfl)) (by rfl) (by rfl) (by rfl) (by rfl) (by rfl) (by rfl)) (by rfl))))))) (by intro _; rfl)) (@pss_one _ _ _ (@ps_expr _ _ _ _ (@kpe_bm _ K _ _ _ _ _ _ _ _ _ _ _ PySem.F.plainAttrs_list PySem.F.slot_list_append PySem.F.type_list_append (@mt_append _) (@pv _ 4 _ _ (by rfl) (by first | exact Or.inl rfl | exact Or.inr (Or.inl rfl) | exact Or.inr (Or.inr rfl)) (by decide) (by decide)) (@pa_cons _ _ _ _ _ (@pe_tup _ _ _ _ _ (@pa_cons _ _ _ _ _ (@pv _ 5 _ _ (by rfl) (by first | exact Or.inl rfl | exact Or.inr (Or.inl rfl) | exact Or.inr (Or.inr rfl)) (by decide) (by decide)) (@pa_cons _ _ _ _ _ (@pv _ 6 _ _ (by rfl) (by first | exact Or.inl rfl | exact Or.inr (Or.inl rfl) | exact Or.inr (Or.inr rfl)) (by decide) (by decide)) (@pa_cons _ _ _ _ _ (@pe_callTy _ _ _ _ _ _ _ _ _ (@kcall_tuple_of _ K (by rfl)) rfl gb.tuple bt_tuple (@pa_cons _ _ _ _ _ (@pv _ 8 _ _ (by rfl) (by first | exact Or.inl rfl | exact Or.inr (Or.inl rfl) | exact Or.inr (Or.inr rfl)) (by decide) (by decide)) (@pa_nil _) (by rfl)) (by decide) (by decide) (by rfl) (by rfl)) (@pa_nil _) (by rfl)) (by rfl)) (by rfl))) (@pa_nil _) (by rfl)) (by rfl) (by rfl) (by rfl) (by rfl) (by rfl) (by rfl)) (by rfl))))) (by intro _; rfl)) (@pss_cons _ _ _ _ _ (@ps_set _ _ 14 _ _ _ _ sc_law_even.nd rfl (Or.inl rfl) (@pe_callTy _ _ _ _ _ _ _ _ _ (@kcall_tuple_of _ K (by rfl)) rfl gb.tuple bt_tuple (@pa_cons _ _ _ _ _ (@pe_comp _ ["_law_mark", "_law_home"] [none, some 3] _ _ _ _ _ _ _ _ _ _ (by exact (show CompOk ["_law_well_here", "_law_table_here", "_law_size", "_law_home", "_law_connectives", "_law_name", "_law_places", "_law_cells_here", "_law_found", "_law_place", "_law_first", "_law_same", "_law_mark", "_law_near", "_law_wished"] (defScope s_law_even) ["_law_mark", "_law_home"] [none, some 3] _ from ⟨rfl, by decide +kernel, by decide +kernel, by decide +kernel, by decide +kernel, rfl, by decide +kernel⟩)) rfl (@pi_range1 _ _ _ _ _ _ rfl gb.range (@pa_cons _ _ _ _ _ (@pe_ix _ _ _ _ _ _ _ (@kix_seq _ K (by rfl)) (@pv _ 1 _ _ (by rfl) (by first | exact Or.inl rfl | exact Or.inr (Or.inl rfl) | exact Or.inr (Or.inr rfl)) (by decide) (by decide)) (@pe_int _ _ _ _) (fun _ _ => rfl)) (@pa_nil _) (by rfl)) (by rfl)) (fun _ _ _ _ => (@pg_name _ _ 0 _ nd3 rfl (Or.inl rfl) (by first | exact .inl rfl | exact .inr rfl | assumption))) (fun _ _ _ _ => (@pf_one _ _ _ (@pt_cmpR _ _ _ _ _ _ _ _ (@op_eq _) (@pe_op _ _ _ _ _ _ _ _ (@op_mod _) (@pe_ix _ _ _ _ _ _ _ (@kix_seq _ K (by rfl)) (@pv _ 1 _ _ (by rfl) (by first | exact Or.inl rfl | exact Or.inr (Or.inl rfl) | exact Or.inr (Or.inr rfl)) (by decide) (by decide)) (@pv _ 0 _ _ (by rfl) (by first | exact Or.inl rfl | exact Or.inr (Or.inl rfl) | exact Or.inr (Or.inr rfl)) (by decide) (by decide)) (fun _ _ => rfl)) (@pe_int _ _ _ _)) (@pe_int _ _ _ _) (@nomark _ _ (by decide) (by decide))))) (fun _ _ _ _ => (@pv _ 0 _ _ (by rfl) (by first | exact Or.inl rfl | exact Or.inr (Or.inl rfl) | exact Or.inr (Or.inr rfl)) (by decide) (by decide))) (by intro _; rfl)) (@pa_nil _) (by rfl)) (by decide) (by decide) (by rfl) (by rfl)) (by rfl) (by first | exact .inl rfl | exact .inr rfl | assumption)) (@pss_one _ _ _ (@ps_ret _ _ _ _ (@pe_tup _ _ _ _ _ (@pa_cons _ _ _ _ _ (@pe_ix _ _ _ _ _ _ _ (@kix_seq _ K (by rfl)) (@pv _ 1 _ _ (by rfl) (by first | exact Or.inl rfl | exact Or.inr (Or.inl rfl) | exact Or.inr (Or.inr rfl)) (by decide) (by decide)) (@pe_int _ _ _ _) (fun _ _ => rfl)) (@pa_cons _ _ _ _ _ (@pv _ 14 _ _ (by rfl) (by first | exact Or.inl rfl | exact Or.inr (Or.inl rfl) | exact Or.inr (Or.inr rfl)) (by decide) (by decide)) (@pa_cons _ _ _ _ _ (@pe_callTy _ _ _ _ _ _ _ _ _ (@kcall_tuple_of _ K (by rfl)) rfl gb.tuple bt_tuple (@pa_cons _ _ _ _ _ (@pv _ 4 _ _ (by rfl) (by first | exact Or.inl rfl | exact Or.inr (Or.inl rfl) | exact Or.inr (Or.inr rfl)) (by decide) (by decide)) (@pa_nil _) (by rfl)) (by decide) (by decide) (by rfl) (by rfl)) (@pa_nil _) (by rfl)) (by rfl)) (by rfl)))))))))), ?_⟩
  obtain ⟨a, w0, c, vs, rfl, h1, h2, h3, h4⟩ := id ia
  have m9 := gT.m9
  have m1 := gT.m1
  have gcl := gT.cl
  refine ⟨_, rfl, _, rfl, .inr (.inl ⟨a, _, 0, _, rfl, rfl, SqT.of h1, rfl, p, T.m, rfl, w, by omega, by omega, fun sz H1 sz1 o1 w1 => ?_⟩)⟩
  refine ⟨_, _, rfl, rfl, ?_⟩
  try dsimp only
  rw [show (1 + (sz : Int)) = ((sz + 1 : Nat) : Int) by omega]
  have k1 := w.tk o1
  refine ⟨_, rfl, .inr (.inl ⟨a, _, 0, _, rfl, rfl, SqT.of (k1 _ _ h1), rfl, (T.m : Int), rfl, by omega, by omega, fun D hD => ?_⟩)⟩
  rw [Int.toNat_natCast]
  have pD := w1.ne hD
  refine comp_draws (m := sz + 1) w1 hD (by omega) (fun i H' Q' hi w' k' => ⟨_, rfl, _, rfl, p, sz + 1, rfl, w', by omega, by omega, k'⟩) (fun hs H2 hl hv o2 w2 hD2 => ?_)
  have k2 : Tk H H2 := k1.trans (w1.tk o2)
  have o02 := o1.trans o2
  refine ⟨small9 (by show 0 ≤ 1000; decide), fun cn hcn => ?_⟩
  have n3 := same_new hcn (.lst [])
  have h12 := k2 _ _ h1
  have h32 := k2 _ _ h3
  refine ⟨_, rfl, .inr (.inl ⟨a, _, 2, _, rfl, rfl, SqT.of (n3 _ _ h12), rfl, c, rfl, ⟨_, SqT.of (n3 _ _ h32)⟩, ?_⟩)⟩
  refine for_tup (xs := vs) (fun i σ H' => (∃ x5 x6 x7 x8 x9 x10 x11 x12 x13 x14, σ = [some (.ref p), some (.ref a), some (nV (sz + 1)), some (.ref D), some (.ref cn), x5, x6, x7, x8, x9, x10, x11, x12, x13, x14]) ∧ Same H2 H' ∧ ∃ cs ys, H' cn = some (.lst ys) ∧ Cns H' cs ys ∧ cs.length = i ∧ cs.map (fun c => (c.nm, c.pl)) = (T.cs.take i).map (fun c => (c.nm, c.pl)) ∧ ∀ c ∈ cs, c.nm.length ≤ 100 ∧ c.pl ≤ 2 ∧ Tn.Cs T.m c.pl c.cs) ⟨⟨_, _, _, _, _, _, _, _, _, _, rfl⟩, n3, [], [], upd_same, .nil, rfl, rfl, fun c h => by cases h⟩ (fun i σ H' _ h => SqT.of (h.2.1 _ _ h32)) ?_ ?_
  · rintro i x σ H3 hx ⟨⟨x5, x6, x7, x8, x9, x10, x11, x12, x13, x14, rfl⟩, s3, cs, ys, hy, hC, cl, hsh, hg⟩
    have hi : i < T.cs.length := by
      rw [h4.len]
      exact (List.getElem?_eq_some_iff.mp hx).1
    have hcc : T.cs[i]? = some T.cs[i] := List.getElem?_eq_getElem hi
    generalize T.cs[i] = cc at hcc
    obtain ⟨nl, p2, cs3⟩ := gT.cn cc (List.mem_of_getElem? hcc)
    obtain ⟨t, u, e1, t1, u1⟩ := h4.get hcc
    rw [hx] at e1
    cases e1
    have k3 : Tk H H3 := k2.trans (Tk.of s3)
    have c81 : cc.cs.length ≤ 81 := by rw [cs3.len]; exact pow_small m9 p2
    refine ⟨t, _, rfl, SqT.of (k3 _ _ t1), rfl, _, _, rfl, _, _, rfl, _, _, rfl, rfl, ?_⟩
    refine ⟨small9 (by show 0 ≤ 1000; decide), fun fd hfd => ?_⟩
    have n4 := same_new hfd (.lst [])
    have hu3 := k3 _ _ u1
    have h13 := s3 _ _ h12
    have hD3 := s3 _ _ hD2
    refine ⟨_, rfl, _, cc.cs.length, rfl, .inr ⟨_, SqT.of (n4 _ _ hu3), by rw [List.length_map]⟩, (cc.cs.length : Int), rfl, by omega, by omega, ?_⟩
    rw [Int.toNat_natCast]
    refine for_range (fun j σ H' => (∃ x9 x10 x11 x12 x13 x14, σ = [some (.ref p), some (.ref a), some (nV (sz + 1)), some (.ref D), some (.ref cn), some (.str cc.nm), some (nV cc.pl), some (.ref u), some (.ref fd), x9, x10, x11, x12, x13, x14]) ∧ Same H3 H' ∧ ∃ fs : List Nat, H' fd = some (.lst (fs.map nV)) ∧ fs.length = j ∧ ∀ x ∈ fs, x < T.m) ⟨⟨_, _, _, _, _, _, rfl⟩, n4, [], upd_same, rfl, fun x h => by cases h⟩ ?_ ?_
    · rintro j σ H4 hj ⟨⟨x9, x10, x11, x12, x13, x14, rfl⟩, s4, fs, hf, fl, fv⟩
      have jm : j < T.m * T.m := pow_sq m1 p2 (by rw [← cs3.len]; exact hj)
      have d1 : ∀ k, k ≤ j → k / T.m < hs.length ∧ k % T.m < hs.length := fun k hk => by
        rw [hl]
        exact ⟨(Nat.div_lt_iff_lt_mul m1).mpr (by omega), Nat.mod_lt _ m1⟩
      have cd : CDiv (0 + (j : Int)) (T.m : Int) := ⟨by omega, by omega⟩
      have h14 := s4 _ _ h13
      have hD4 := s4 _ _ hD3
      refine ⟨_, rfl, _, rfl, _, rfl, .inr (.inl ⟨a, _, 0, _, rfl, rfl, SqT.of h14, rfl, _, _, rfl, rfl, ⟨by omega, by omega⟩, .inl ⟨D, _, _, _, rfl, rfl, SqL.of hD4, at_div (d1 j (Nat.le_refl _)).1, ?_⟩⟩)⟩
      refine ⟨_, rfl, _, rfl, _, rfl, .inr (.inl ⟨a, _, 0, _, rfl, rfl, SqT.of h14, rfl, _, _, rfl, rfl, (by show (0 : Int) < (T.m : Int); omega), .inl ⟨D, _, _, _, rfl, rfl, SqL.of hD4, at_mod (d1 j (Nat.le_refl _)).2, ?_⟩⟩)⟩
      refine ⟨small9 (by show 2 ≤ 1000; decide), fun fi hfi => ?_⟩
      have n5 := same_new hfi (.lst [nV (Tn.at' hs (j / T.m)), nV (Tn.at' hs (j % T.m))])
      have hfi5 : (upd H4 fi (.lst [nV (Tn.at' hs (j / T.m)), nV (Tn.at' hs (j % T.m))])) fi = some (.lst ([Tn.at' hs (j / T.m), Tn.at' hs (j % T.m)].map nV)) := upd_same
      generalize upd H4 fi (.lst [nV (Tn.at' hs (j / T.m)), nV (Tn.at' hs (j % T.m))]) = H5 at *
      have s45 : Same H4 H5 := n5
      refine ⟨_, rfl, (0 + (j : Int)), rfl, by omega, by omega, fun D2 hD5 => ?_⟩
      rw [show (0 + (j : Int)).toNat = j by omega]
      refine comp_range (fun k ys H' => Same H5 H' ∧ ∃ ns : List Nat, ys = ns.map nV ∧ ns.length ≤ k ∧ ∀ n ∈ ns, n < k) ⟨same_new hD5 _, [], rfl, Nat.le_refl _, fun n h => by cases h⟩ ?_ ?_
      · rintro k ys H6 hk ⟨s6, ns, rfl, nl', nb⟩ hD6
        have h16 := s6 _ _ (s45 _ _ h14)
        have hD46 := s6 _ _ (s45 _ _ hD4)
        refine ⟨_, rfl, _, rfl, _, rfl, .inr (.inl ⟨a, _, 0, _, rfl, rfl, SqT.of h16, rfl, _, _, rfl, rfl, ⟨by omega, by omega⟩, .inl ⟨D, _, _, _, rfl, rfl, SqL.of hD46, at_div (d1 k (by omega)).1, ?_⟩⟩)⟩
        refine ⟨_, rfl, _, rfl, _, rfl, .inr (.inl ⟨a, _, 0, _, rfl, rfl, SqT.of h16, rfl, _, _, rfl, rfl, (by show (0 : Int) < (T.m : Int); omega), .inl ⟨D, _, _, _, rfl, rfl, SqL.of hD46, at_mod (d1 k (by omega)).2, ?_⟩⟩)⟩
        refine ⟨small9 (by show 2 ≤ 1000; decide), fun g hg' => ?_⟩
        have n7 := same_new hg' (.lst [nV (Tn.at' hs (k / T.m)), nV (Tn.at' hs (k % T.m))])
        refine ⟨_, rfl, g, fi, _, _, rfl, rfl, SqL.of upd_same, SqL.of (n7 _ _ (s6 _ _ hfi5)), rfl, flat_nats _, _, rfl, ?_⟩
        have hD7 := n7 _ _ hD6
        refine ite2 (fun _ => ?_) (fun _ => ?_)
        · refine ⟨_, rfl, cyes hk rset1 hD7 (by rw [List.length_map]; exact small1000 (by omega)) ⟨(s6.trans n7).put hD5, ns ++ [k], by rw [List.map_append, Int.zero_add]; rfl, by rw [List.length_append]; exact Nat.succ_le_succ nl', fun n hn => ?_⟩⟩
          rcases List.mem_append.mp hn with h | h
          · exact Nat.lt_succ_of_lt (nb n h)
          · rw [List.mem_singleton.mp h]
            exact Nat.lt_succ_self _
        · exact cno hk rset1 hD7 ⟨s6.trans n7, ns, rfl, Nat.le_succ_of_le nl', fun n hn => Nat.lt_succ_of_lt (nb n hn)⟩
      rintro ys' H6 ⟨s6, ns, rfl, nl', nb⟩ hD6
      have s46 := s45.trans s6
      have s36 := s4.trans s46
      have hu6 := s36 _ _ hu3
      have hf6 := s46 _ _ hf
      have aj : atI (cc.cs.map nV) (0 + (j : Int)) = some (nV (Tn.at' cc.cs j)) := by rw [Int.zero_add]; exact at_nV hj
      have jl := cs3.at_lt (p := j) (by rw [← cs3.len]; exact hj)
      refine ⟨_, rfl, _, rfl, .inr (.inl ⟨u, _, _, _, rfl, rfl, SqT.of hu6, aj, ?_⟩)⟩
      refine ⟨_, rfl, small9 (by show 0 ≤ 1000; decide), fun em hem => ?_⟩
      have n7 := same_new hem (.lst [])
      refine ⟨D2, em, ns.map nV, rfl, rfl, SqL.of (n7 _ _ hD6), SqL.of upd_same, _, rfl, ?_⟩
      have fin : ∀ (mk : Nat) (y11 y13 y14 : Option V) (H8 : Hp), Same H6 H8 → mk < T.m → ∃ p_1 xs y, V.ref fd = V.ref p_1 ∧ [nV mk] = [y] ∧ H8 p_1 = some (.lst xs) ∧ xs.length < sizeLine ∧ ((∃ x9 x10 x11 x12 x13 x14, [some (V.ref p), some (.ref a), some (nV (sz + 1)), some (.ref D), some (.ref cn), some (.str cc.nm), some (nV cc.pl), some (.ref u), some (.ref fd), some (V.int (0 + (j : Int))), some (.ref fi), y11, some (nV mk), y13, y14] = [some (.ref p), some (.ref a), some (nV (sz + 1)), some (.ref D), some (.ref cn), some (.str cc.nm), some (nV cc.pl), some (.ref u), some (.ref fd), x9, x10, x11, x12, x13, x14]) ∧ Same H3 (upd H8 p_1 (.lst (xs ++ [y]))) ∧ ∃ fs : List Nat, (upd H8 p_1 (.lst (xs ++ [y]))) fd = some (.lst (fs.map nV)) ∧ fs.length = j + 1 ∧ ∀ x ∈ fs, x < T.m) := fun mk y11 y13 y14 H8 s8 hmk => by
        refine ⟨fd, fs.map nV, _, rfl, rfl, s8 _ _ hf6, by rw [List.length_map]; exact small1000 (by omega), ⟨_, _, _, _, _, _, rfl⟩, (s36.trans s8).put hfd, fs ++ [mk], by rw [upd_same, List.map_append]; rfl, by rw [List.length_append, fl]; rfl, fun x hx => ?_⟩
        rcases List.mem_append.mp hx with h | h
        · exact fv x h
        · rw [List.mem_singleton.mp h]
          exact hmk
      cases ns with
      | nil =>
        refine iteF ?_
        exact ⟨_, rfl, .inl ⟨rfl, _, SqL.of (n7 _ _ hf6)⟩, _, rfl, fin (Tn.at' cc.cs j) _ _ _ _ n7 jl⟩
      | cons n0 nr =>
        refine iteT ?_
        have hn0 : n0 < fs.length := by rw [fl]; exact nb n0 (List.mem_cons_self ..)
        have x0l := at_lt' fv hn0
        have h17 := n7 _ _ (s36 _ _ h13)
        refine ⟨_, rfl, .inr (.inl ⟨a, _, 0, _, rfl, rfl, SqT.of h17, rfl, (T.m : Int), rfl, by omega, by omega, fun D3 hD8 => ?_⟩)⟩
        rw [Int.toNat_natCast]
        have hD47 := n7 _ _ (s46 _ _ hD4)
        have hf7 := n7 _ _ hf6
        have hD67 := n7 _ _ hD6
        generalize upd H6 em (.lst []) = H7 at *
        refine comp_range (fun k ys H' => Same H7 H' ∧ ∃ qs : List Nat, ys = qs.map nV ∧ qs.length ≤ k ∧ (∀ n ∈ qs, n < k) ∧ (Tn.at' fs n0 < k → Tn.at' fs n0 ∈ qs)) ⟨same_new hD8 _, [], rfl, Nat.le_refl _, (fun n h => by cases h), fun h => absurd h (Nat.not_lt_zero _)⟩ ?_ ?_
        · rintro k ys H9 hk ⟨s9, qs, rfl, ql, qb, qm⟩ hD9
          refine ⟨_, rfl, _, rfl, .inl ⟨D, _, _, _, rfl, rfl, SqL.of (s9 _ _ hD47), by rw [Int.zero_add]; exact at_nV (by rw [hl]; exact hk), ?_⟩⟩
          refine ⟨_, rfl, _, rfl, _, rfl, .inl ⟨D2, _, 0, _, rfl, rfl, SqL.of (s9 _ _ hD67), atI_nat (j := 0) rfl, .inl ⟨fd, _, _, _, rfl, rfl, SqL.of (s9 _ _ hf7), at_nV hn0, .inl ⟨D, _, _, _, rfl, rfl, SqL.of (s9 _ _ hD47), at_nV (by rw [hl]; exact x0l), rfl, _, rfl, ?_⟩⟩⟩⟩
          by_cases hm : Tn.at' hs k = Tn.at' hs (Tn.at' fs n0)
          · refine ite2 (fun _ => ?_) (fun z => absurd (decide_eq_true (by rw [hm])) z)
            refine ⟨_, rfl, cyes hk rset1 hD9 (by rw [List.length_map]; exact small1000 (by omega)) ⟨s9.put hD8, qs ++ [k], by rw [List.map_append, Int.zero_add]; rfl, by rw [List.length_append]; exact Nat.succ_le_succ ql, fun n hn => ?_, fun h => ?_⟩⟩
            · rcases List.mem_append.mp hn with h | h
              · exact Nat.lt_succ_of_lt (qb n h)
              · rw [List.mem_singleton.mp h]
                exact Nat.lt_succ_self _
            · by_cases e : Tn.at' fs n0 = k
              · rw [e]
                exact List.mem_append_right _ (List.mem_singleton.mpr rfl)
              · exact List.mem_append_left _ (qm (by omega))
          · refine ite2 (fun z => absurd (of_decide_eq_true z) (nVV_ne hm)) (fun _ => ?_)
            refine cno hk rset1 hD9 ⟨s9, qs, rfl, Nat.le_succ_of_le ql, fun n hn => Nat.lt_succ_of_lt (qb n hn), fun h => qm ?_⟩
            have : Tn.at' fs n0 ≠ k := fun e => hm (by rw [e])
            omega
        rintro ys H9 ⟨s9, qs, rfl, ql, qb, qm⟩ hD9
        have qne : 0 < qs.length := List.length_pos_of_mem (qm x0l)
        have hu9 := s9 _ _ (n7 _ _ hu6)
        have el : ((qs.map nV).length : Int) = (qs.length : Int) := by rw [List.length_map]
        have er : atI (qs.map nV) (((Tn.at' cc.cs j : Nat) : Int) % ((qs.map nV).length : Int)) = some (nV (Tn.at' qs (Tn.at' cc.cs j % qs.length))) := by
          rw [el, ← Int.natCast_emod]
          exact at_nV (Nat.mod_lt _ qne)
        refine ⟨_, rfl, _, rfl, _, rfl, .inr (.inl ⟨u, _, _, _, rfl, rfl, SqT.of hu9, aj, _, rfl, _, _, rfl, .inl ⟨_, SqL.of hD9, rfl⟩, _, _, rfl, rfl, (by rw [el]; omega), .inl ⟨D3, _, _, _, rfl, rfl, SqL.of hD9, er, ?_⟩⟩)⟩
        have ml : Tn.at' qs (Tn.at' cc.cs j % qs.length) < T.m := at_lt' qb (Nat.mod_lt _ qne)
        exact ⟨_, rfl, .inl ⟨rfl, _, SqL.of (s9 _ _ hf7)⟩, _, rfl, fin _ _ _ _ _ (n7.trans s9) ml⟩
    · rintro σ H4 ⟨⟨x9, x10, x11, x12, x13, x14, rfl⟩, s4, fs, hf, fl, fv⟩
      have hy4 := s4 _ _ hy
      refine ⟨_, rfl, .inl ⟨rfl, _, SqL.of hy4⟩, _, rfl, _, rfl, _, rfl, fd, _, rfl, .inl ⟨SqL.of hf, fun t2 ht2 => ?_⟩⟩
      have n5 := same_new ht2 (.tup (fs.map nV))
      refine ⟨small9 (by show 3 ≤ 1000; decide), fun t3 ht3 => ?_⟩
      have n6 := same_new ht3 (.tup [.str cc.nm, nV cc.pl, .ref t2])
      have s46 := s4.trans (n5.trans n6)
      have hy6 := s46 _ _ hy
      have hyl := hC.len
      refine ⟨cn, _, _, rfl, rfl, hy6, small1000 (by omega), ⟨⟨_, _, _, _, _, _, _, _, _, _, rfl⟩, (s3.trans s46).put hcn, cs ++ [⟨cc.nm, cc.pl, fs⟩], _, upd_same, ?_, by rw [List.length_append, cl]; rfl, ?_, fun c hc => ?_⟩⟩
      · exact (Cns.snoc (c := ⟨cc.nm, cc.pl, fs⟩) (hC.same s46) upd_same (n6 _ _ upd_same)).tk (Tk.put hy6)
      · rw [List.map_append, hsh, take_snoc hcc, List.map_append]
        rfl
      · rcases List.mem_append.mp hc with h | h
        · exact hg c h
        · rw [List.mem_singleton.mp h]
          exact ⟨nl, p2, by rw [← cs3.len]; exact fl, fv⟩
  · rintro σ H3 ⟨⟨x5, x6, x7, x8, x9, x10, x11, x12, x13, x14, rfl⟩, s3, cs, ys, hy, hC, cl, hsh, hg⟩
    rw [show T.cs.take vs.length = T.cs by rw [← h4.len, List.take_length]] at hsh
    have h13 := s3 _ _ h12
    have hD3 := s3 _ _ hD2
    refine ⟨_, rfl, .inr (.inl ⟨a, _, 0, _, rfl, rfl, SqT.of h13, rfl, (T.m : Int), rfl, by omega, by omega, fun D4 hD4 => ?_⟩)⟩
    rw [Int.toNat_natCast]
    refine comp_range (fun k ys H' => Same H3 H' ∧ ∃ ws : List Nat, ys = ws.map nV ∧ ws.Pairwise (· < ·) ∧ (∀ x ∈ ws, x < k) ∧ ws.length ≤ k) ⟨same_new hD4 _, [], rfl, .nil, (fun x h => by cases h), Nat.le_refl _⟩ ?_ ?_
    · rintro k ys' H4 hk ⟨s4, ws, rfl, wr, wl, wn⟩ hD5
      refine ⟨_, rfl, _, rfl, .inl ⟨D, _, _, _, rfl, rfl, SqL.of (s4 _ _ hD3), by rw [Int.zero_add]; exact at_nV (by rw [hl]; exact hk), _, _, rfl, rfl, (by show (0 : Int) < 2; decide), rfl, _, rfl, ?_⟩⟩
      refine ite2 (fun _ => ?_) (fun _ => ?_)
      · refine ⟨_, rfl, cyes hk rset1 hD5 (by rw [List.length_map]; exact small1000 (by omega)) ⟨s4.put hD4, ws ++ [k], by rw [List.map_append, Int.zero_add]; rfl, ?_, fun x hx => ?_, by rw [List.length_append]; exact Nat.succ_le_succ wn⟩⟩
        · rw [List.pairwise_append]
          exact ⟨wr, List.pairwise_singleton _ _, fun a ha b hb => by rw [List.mem_singleton.mp hb]; exact wl a ha⟩
        · rcases List.mem_append.mp hx with h | h
          · exact Nat.lt_succ_of_lt (wl x h)
          · rw [List.mem_singleton.mp h]
            exact Nat.lt_succ_self _
      · exact cno hk rset1 hD5 ⟨s4, ws, rfl, wr, fun x hx => Nat.lt_succ_of_lt (wl x hx), Nat.le_succ_of_le wn⟩
    rintro ys' H4 ⟨s4, ws, rfl, wr, wl, wn⟩ hD5
    refine ⟨D4, _, rfl, .inl ⟨SqL.of hD5, fun tw htw => ?_⟩⟩
    have n5 := same_new htw (.tup (ws.map nV))
    have S5 := s3.trans (s4.trans n5)
    refine ⟨_, rfl, .inr (.inl ⟨a, _, 0, _, rfl, rfl, SqT.of (S5 _ _ h12), rfl, _, rfl, _, rfl, cn, _, rfl, .inl ⟨SqL.of ((s4.trans n5) _ _ hy), fun tc htc => ?_⟩⟩)⟩
    have n6 := same_new htc (.tup ys)
    refine ⟨small9 (by show 3 ≤ 1000; decide), fun tt htt => ?_⟩
    have n7 := same_new htt (.tup [nV T.m, .ref tw, .ref tc])
    have S7 := S5.trans (n6.trans n7)
    refine q _ ⟨T.m, ws, cs⟩ _ (o02.trans (Off.of S7)) (w2.same S7) ⟨m1, m9, wr, wl, by show cs.length ≤ 16; rw [cl, ← h4.len]; exact gcl, hg⟩ (by unfold Sh; exact hsh.symm) ⟨tt, tw, tc, ys, rfl, upd_same, (n6.trans n7) _ _ upd_same, n7 _ _ upd_same, hC.same (s4.trans (n5.trans (n6.trans n7)))⟩

abbrev s_law_one_steps : Stmt := top 15
theorem sc_law_one_steps : FnScope ["_law_table_here", "_law_found", "_law_name", "_law_places", "_law_cells_here", "_law_other"] ["_law_table_here"] (defScope s_law_one_steps) := ⟨rfl, rfl, rfl, by decide +kernel, rfl, by decide +kernel, by decide +kernel⟩
theorem ok_law_one_steps {P : Program} {w : World} {K : PySem.W.Frag} {mg : Str → Option Value} {base : Heap} {f : Addr} {fd : FuncData} (F : Fun K "_law_one_steps" "_law_one_steps" s_law_one_steps f fd) (gb : Gb mg) : FnOk P w K mg base CX0 1 f fd ["_law_table_here"] spOne := by
  refine F.ok sc_law_one_steps (fun vs H Q E h => ?_) (fun cdv A outer s H vs Q E hr h => ?_)
  · obtain ⟨v, T, rfl, _⟩ := h
    rfl
  obtain ⟨v, T, rfl, ia, gT, q⟩ := h
  refine ⟨_, (@pss_cons _ _ _ _ _ (@ps_set _ _ 1 _ _ _ _ sc_law_one_steps.nd rfl (Or.inl rfl) (@pe_lst _ _ _ _ (@pa_nil _)) (by rfl) (by first | exact .inl rfl | exact .inr rfl | assumption)) (@pss_cons _ _ _ _ _ (@ps_for _ _ _ _ _ _ _ _ PassesOwn.never rfl (@kpi_tup _ K _ _ _ (@pe_ix _ _ _ _ _ _ _ (@kix_seq _ K (by rfl)) (@pv _ 0 _ _ (by rfl) (by first | exact Or.inl rfl | exact Or.inr (Or.inl rfl) | exact Or.inr (Or.inr rfl)) (by decide) (by decide)) (@pe_int _ _ _ _) (fun _ _ => rfl)) (by rfl)) (@kpg_tup _ K _ _ _ _ 3 rfl (@pgs_cons _ _ _ _ _ (@pg_name _ _ 2 _ sc_law_one_steps.nd rfl (Or.inl rfl) (by first | exact .inl rfl | exact .inr rfl | assumption)) (@pgs_cons _ _ _ _ _ (@pg_name _ _ 3 _ sc_law_one_steps.nd rfl (Or.inl rfl) (by first | exact .inl rfl | exact .inr rfl | assumption)) (@pgs_cons _ _ _ _ _ (@pg_name _ _ 4 _ sc_law_one_steps.nd rfl (Or.inl rfl) (by first | exact .inl rfl | exact .inr rfl | assumption)) (@pgs_nil _) (by rfl)) (by rfl)) (by rfl)) (by rfl) (by rfl) (by rfl)) (@pss_cons _ _ _ _ _ (@ps_if _ _ _ _ _ _ _ _ (@pt_cmpR _ _ _ _ _ _ _ _ (@op_eq _) (@pv _ 3 _ _ (by rfl) (by first | exact Or.inl rfl | exact Or.inr (Or.inl rfl) | exact Or.inr (Or.inr rfl)) (by decide) (by decide)) (@pe_int _ _ _ _) (@nomark _ _ (by decide) (by decide))) (@pss_one _ _ _ (@ps_expr _ _ _ _ (@kpe_bm _ K _ _ _ _ _ _ _ _ _ _ _ PySem.F.plainAttrs_list PySem.F.slot_list_append PySem.F.type_list_append (@mt_append _) (@pv _ 1 _ _ (by rfl) (by first | exact Or.inl rfl | exact Or.inr (Or.inl rfl) | exact Or.inr (Or.inr rfl)) (by decide) (by decide)) (@pa_cons _ _ _ _ _ (@pe_tup _ _ _ _ _ (@pa_cons _ _ _ _ _ (@pv _ 2 _ _ (by rfl) (by first | exact Or.inl rfl | exact Or.inr (Or.inl rfl) | exact Or.inr (Or.inr rfl)) (by decide) (by decide)) (@pa_cons _ _ _ _ _ (@pe_int _ _ _ _) (@pa_cons _ _ _ _ _ (@pe_non _ _ _) (@pa_nil _) (by rfl)) (by rfl)) (by rfl))) (@pa_nil _) (by rfl)) (by rfl) (by rfl) (by rfl) (by rfl) (by rfl) (by rfl)) (by rfl))) (@pss_nil _)) (@pss_one _ _ _ (@ps_for _ _ _ _ _ _ _ _ PassesOwn.never rfl (@pi_range1 _ _ _ _ _ _ rfl gb.range (@pa_cons _ _ _ _ _ (@pe_op _ _ _ _ _ _ _ _ (@op_mul _) (@pe_ix _ _ _ _ _ _ _ (@kix_seq _ K (by rfl)) (@pv _ 0 _ _ (by rfl) (by first | exact Or.inl rfl | exact Or.inr (Or.inl rfl) | exact Or.inr (Or.inr rfl)) (by decide) (by decide)) (@pe_int _ _ _ _) (fun _ _ => rfl)) (@pe_callTy _ _ _ _ _ _ _ _ _ (@call_int1 _) rfl gb.int bt_int (@pa_cons _ _ _ _ _ (@pe_cmpR _ _ _ _ _ _ _ _ (@op_eq _) (@pv _ 3 _ _ (by rfl) (by first | exact Or.inl rfl | exact Or.inr (Or.inl rfl) | exact Or.inr (Or.inr rfl)) (by decide) (by decide)) (@pe_int _ _ _ _) (@nomark _ _ (by decide) (by decide))) (@pa_nil _) (by rfl)) (by decide) (by decide) (by rfl) (by rfl))) (@pa_nil _) (by rfl)) (by rfl)) (@pg_name _ _ 5 _ sc_law_one_steps.nd rfl (Or.inl rfl) (by first | exact .inl rfl | exact .inr rfl | assumption)) (@pss_one _ _ _ (@ps_expr _ _ _ _ (@kpe_bm _ K _ _ _ _ _ _ _ _ _ _ _ PySem.F.plainAttrs_list PySem.F.slot_list_extend PySem.F.type_list_extend (@mt_extend _) (@pv _ 1 _ _ (by rfl) (by first | exact Or.inl rfl | exact Or.inr (Or.inl rfl) | exact Or.inr (Or.inr rfl)) (by decide) (by decide)) (@pa_cons _ _ _ _ _ (@pe_lst _ _ _ _ (@pa_cons _ _ _ _ _ (@pe_tup _ _ _ _ _ (@pa_cons _ _ _ _ _ (@pv _ 2 _ _ (by rfl) (by first | exact Or.inl rfl | exact Or.inr (Or.inl rfl) | exact Or.inr (Or.inr rfl)) (by decide) (by decide)) (@pa_cons _ _ _ _ _ (@pe_int _ _ _ _) (@pa_cons _ _ _ _ _ (@pv _ 5 _ _ (by rfl) (by first | exact Or.inl rfl | exact Or.inr (Or.inl rfl) | exact Or.inr (Or.inr rfl)) (by decide) (by decide)) (@pa_nil _) (by rfl)) (by rfl)) (by rfl))) (@pa_cons _ _ _ _ _ (@pe_tup _ _ _ _ _ (@pa_cons _ _ _ _ _ (@pv _ 2 _ _ (by rfl) (by first | exact Or.inl rfl | exact Or.inr (Or.inl rfl) | exact Or.inr (Or.inr rfl)) (by decide) (by decide)) (@pa_cons _ _ _ _ _ (@pe_int _ _ _ _) (@pa_cons _ _ _ _ _ (@pv _ 5 _ _ (by rfl) (by first | exact Or.inl rfl | exact Or.inr (Or.inl rfl) | exact Or.inr (Or.inr rfl)) (by decide) (by decide)) (@pa_nil _) (by rfl)) (by rfl)) (by rfl))) (@pa_nil _) (by rfl)) (by rfl))) (@pa_nil _) (by rfl)) (by rfl) (by rfl) (by rfl) (by rfl) (by rfl) (by rfl)) (by rfl))) (by intro _; rfl)))) (by intro _; rfl)) (@pss_one _ _ _ (@ps_ret _ _ _ _ (@pv _ 1 _ _ (by rfl) (by first | exact Or.inl rfl | exact Or.inr (Or.inl rfl) | exact Or.inr (Or.inr rfl)) (by decide) (by decide)))))), ?_⟩
  obtain ⟨a, w0, c, vs, rfl, h1, h2, h3, h4⟩ := id ia
  have m9 := gT.m9
  have gcl := gT.cl
  refine ⟨small9 (by show 0 ≤ 1000; decide), fun sl hsl => ?_⟩
  have n0 := same_new hsl (.lst [])
  refine ⟨_, rfl, .inr (.inl ⟨a, _, 2, _, rfl, rfl, SqT.of (n0 _ _ h1), rfl, c, rfl, ⟨_, SqT.of (n0 _ _ h3)⟩, ?_⟩)⟩
  refine for_tup (xs := vs) (fun i σ H' => (∃ x2 x3 x4 x5, σ = [some (.ref a), some (.ref sl), x2, x3, x4, x5]) ∧ Same H H' ∧ ∃ xs, H' sl = some (.lst xs) ∧ Sts H' ((T.cs.take i).flatMap (stpC2 T.m)) xs) ⟨⟨_, _, _, _, rfl⟩, n0, [], upd_same, .nil⟩ (fun i σ H' _ h => SqT.of (h.2.1 _ _ h3)) ?_ ?_
  · rintro i x σ H1 hx ⟨⟨x2, x3, x4, x5, rfl⟩, s1, xs, hs, hS⟩
    have hi : i < T.cs.length := by
      rw [h4.len]
      exact (List.getElem?_eq_some_iff.mp hx).1
    have hcc : T.cs[i]? = some T.cs[i] := List.getElem?_eq_getElem hi
    generalize T.cs[i] = cc at hcc
    obtain ⟨nl, p2, cs3⟩ := gT.cn cc (List.mem_of_getElem? hcc)
    obtain ⟨t, u, e1, k1, k2⟩ := h4.get hcc
    rw [hx] at e1
    cases e1
    have xl : xs.length ≤ 18 * 16 := by
      have l1 := Paired.length hS
      have l2 := stps2_len m9 (T.cs.take i)
      rw [List.length_take] at l2
      omega
    have fmE : (T.cs.take (i + 1)).flatMap (stpC2 T.m) = (T.cs.take i).flatMap (stpC2 T.m) ++ stpC2 T.m cc := by
      rw [take_snoc hcc, List.flatMap_append, List.flatMap_singleton]
    refine ⟨t, _, rfl, SqT.of (s1 _ _ k1), rfl, _, _, rfl, _, _, rfl, _, _, rfl, rfl, ?_⟩
    refine ⟨_, rfl, rfl, _, rfl, ?_⟩
    by_cases p1 : cc.pl = 1
    · refine ite2 (fun _ => ?_) (fun z => absurd (decide_eq_true (by rw [p1]; rfl)) z)
      refine ⟨_, rfl, .inl ⟨rfl, _, SqL.of hs⟩, _, rfl, small9 (by show 3 ≤ 1000; decide), fun t1 ht1 => ?_⟩
      have n1 := same_new ht1 (.tup [.str cc.nm, .int 0, .non])
      have hs1 := n1 _ _ hs
      refine ⟨sl, _, _, rfl, rfl, hs1, small1000 (by omega), ?_⟩
      have S1 : Same H (upd (upd H1 t1 (.tup [.str cc.nm, .int 0, .non])) sl (.lst (xs ++ [.ref t1]))) := (s1.trans n1).put hsl
      refine ⟨_, rfl, .inr (.inl ⟨a, _, 0, _, rfl, rfl, SqT.of (S1 _ _ h1), rfl, ?_⟩)⟩
      refine ⟨_, rfl, rfl, .inr ⟨_, rfl, ?_⟩⟩
      have e0 : (T.m : Int) * (if decide (nV cc.pl = V.int 2) = true then 1 else 0) = 0 := by
        rw [if_neg (show ¬ decide (nV cc.pl = V.int 2) = true from fun z => nV_ne (k := 2) (by omega) (of_decide_eq_true z))]
        omega
      refine ⟨_, _, rfl, rfl, .inl ⟨by omega, by omega⟩, 0, by (show [V.int _] = _; rw [e0]), by decide, by decide, ?_⟩
      refine for_range (fun j σ H' => j = 0 → (∃ x2 x3 x4 x5, σ = [some (.ref a), some (.ref sl), x2, x3, x4, x5]) ∧ Same H H' ∧ ∃ xs, H' sl = some (.lst xs) ∧ Sts H' ((T.cs.take (i + 1)).flatMap (stpC2 T.m)) xs) (fun _ => ⟨⟨_, _, _, _, rfl⟩, S1, _, upd_same, ?_⟩) ?_ ?_
      · rw [fmE]
        have e : stpC2 T.m cc = [(cc, 0, none)] := by
          unfold stpC2
          rw [if_pos p1, if_neg (by omega)]
          rfl
        rw [e]
        exact Sts.app (Sts.tk ((Tk.of n1).trans (Tk.put hs1)) hS) (.cons ⟨t1, rfl, Tk.put hs1 _ _ upd_same⟩ .nil)
      · intro j σ H' hj
        exact absurd hj (Nat.not_lt_zero _)
      · intro σ H' h
        exact h rfl
    refine ite2 (fun z => absurd (of_decide_eq_true z) (nV_ne (k := 1) p1)) (fun _ => ?_)
    refine ⟨_, rfl, .inr (.inl ⟨a, _, 0, _, rfl, rfl, SqT.of (s1 _ _ h1), rfl, ?_⟩)⟩
    refine ⟨_, rfl, rfl, .inr ⟨_, rfl, ?_⟩⟩
    by_cases p2' : cc.pl = 2
    · have e0 : (T.m : Int) * (if decide (nV cc.pl = V.int 2) = true then 1 else 0) = (T.m : Int) := by
        rw [if_pos (decide_eq_true (by rw [p2']; rfl))]
        omega
      refine ⟨_, _, rfl, rfl, .inl ⟨by omega, by omega⟩, (T.m : Int), by (show [V.int _] = _; rw [e0]), by omega, by omega, ?_⟩
      rw [Int.toNat_natCast]
      refine for_range (fun j σ H' => (∃ x5, σ = [some (.ref a), some (.ref sl), some (.str cc.nm), some (nV cc.pl), some (.ref u), x5]) ∧ Same H H' ∧ ∃ ys, H' sl = some (.lst (xs ++ ys)) ∧ Sts H' ((T.cs.take i).flatMap (stpC2 T.m) ++ (List.range j).flatMap fun o => [(cc, 0, some o), (cc, 1, some o)]) (xs ++ ys) ∧ ys.length = 2 * j) ⟨⟨_, rfl⟩, s1, [], by rw [List.append_nil]; exact hs, by rw [List.append_nil]; show Sts H1 (_ ++ []) xs; rw [List.append_nil]; exact hS, rfl⟩ ?_ ?_
      · rintro j σ H2 hj ⟨⟨x5, rfl⟩, s2, ys, hs2, hS2, yl⟩
        refine ⟨_, rfl, .inl ⟨rfl, _, SqL.of hs2⟩, ?_⟩
        refine ⟨_, rfl, _, rfl, small9 (by show 3 ≤ 1000; decide), fun t1 ht1 => ?_⟩
        have n1 := same_new ht1 (.tup [.str cc.nm, .int 0, .int (0 + (j : Int))])
        refine ⟨_, rfl, _, rfl, small9 (by show 3 ≤ 1000; decide), fun t2 ht2 => ?_⟩
        have n2 := same_new ht2 (.tup [.str cc.nm, .int 1, .int (0 + (j : Int))])
        refine ⟨small9 (by show 2 ≤ 1000; decide), fun D hD => ?_⟩
        have n3 := same_new hD (.lst [.ref t1, .ref t2])
        have S3 := n1.trans (n2.trans n3)
        have hs3 := S3 _ _ hs2
        refine ⟨sl, D, _, _, rfl, rfl, hs3, upd_same, small9 (by rw [List.length_append]; show xs.length + ys.length + 2 ≤ 1000; omega), ?_⟩
        refine ⟨⟨_, rfl⟩, (s2.trans S3).put hsl, ys ++ [.ref t1, .ref t2], by rw [upd_same, List.append_assoc], ?_, by rw [List.length_append, yl]; show 2 * j + 2 = _; omega⟩
        rw [List.range_succ, List.flatMap_append, List.flatMap_singleton, ← List.append_assoc, ← List.append_assoc]
        refine Sts.app (Sts.tk ((Tk.of S3).trans (Tk.put hs3)) hS2) (.cons ⟨t1, rfl, Tk.put hs3 _ _ ?_⟩ (.cons ⟨t2, rfl, Tk.put hs3 _ _ ?_⟩ .nil))
        · refine (n2.trans n3) _ _ ?_
          rw [upd_same, Int.zero_add]
          rfl
        · refine n3 _ _ ?_
          rw [upd_same, Int.zero_add]
          rfl
      · rintro σ H2 ⟨⟨x5, rfl⟩, s2, ys, hs2, hS2, yl⟩
        refine ⟨⟨_, _, _, _, rfl⟩, s2, _, hs2, ?_⟩
        rw [fmE]
        have e : stpC2 T.m cc = (List.range T.m).flatMap fun o => [(cc, 0, some o), (cc, 1, some o)] := by
          unfold stpC2
          rw [if_neg p1, if_pos p2', List.nil_append]
        rw [e]
        exact hS2
    have e0 : (T.m : Int) * (if decide (nV cc.pl = V.int 2) = true then 1 else 0) = 0 := by
      rw [if_neg (show ¬ decide (nV cc.pl = V.int 2) = true from fun z => nV_ne (k := 2) p2' (of_decide_eq_true z))]
      omega
    refine ⟨_, _, rfl, rfl, .inl ⟨by omega, by omega⟩, 0, by (show [V.int _] = _; rw [e0]), by decide, by decide, ?_⟩
    refine for_range (fun j σ H' => j = 0 → (∃ x2 x3 x4 x5, σ = [some (.ref a), some (.ref sl), x2, x3, x4, x5]) ∧ Same H H' ∧ ∃ xs, H' sl = some (.lst xs) ∧ Sts H' ((T.cs.take (i + 1)).flatMap (stpC2 T.m)) xs) (fun _ => ⟨⟨_, _, _, _, rfl⟩, s1, _, hs, ?_⟩) ?_ ?_
    · rw [fmE]
      have e : stpC2 T.m cc = [] := by
        unfold stpC2
        rw [if_neg p1, if_neg p2']
        rfl
      rw [e, List.append_nil]
      exact hS
    · intro j σ H' hj
      exact absurd hj (Nat.not_lt_zero _)
    · intro σ H' h
      exact h rfl
  · rintro σ H1 ⟨⟨x2, x3, x4, x5, rfl⟩, s1, xs, hs, hS⟩
    rw [show T.cs.take vs.length = T.cs by rw [← h4.len, List.take_length]] at hS
    exact ⟨_, rfl, q sl xs H1 hsl s1 hs hS⟩

abbrev s_law_stepped : Stmt := top 16
theorem sc_law_stepped : FnScope ["_law_table_here", "_law_step", "_law_mark", "_law_cells_here"] ["_law_table_here", "_law_step", "_law_mark"] (defScope s_law_stepped) := ⟨rfl, rfl, rfl, by decide +kernel, rfl, by decide +kernel, by decide +kernel⟩
theorem ok_law_stepped {P : Program} {w : World} {K : PySem.W.Frag} {mg : Str → Option Value} {base : Heap} {f : Addr} {fd : FuncData} (F : Fun K "_law_stepped" "_law_stepped" s_law_stepped f fd) (gb : Gb mg) : FnOk P w K mg base CX0 1 f fd ["_law_table_here", "_law_step", "_law_mark"] spLStep := by
  refine F.ok sc_law_stepped (fun vs H Q E h => ?_) (fun cdv A outer s H vs Q E hr h => ?_)
  · obtain ⟨v, t, T, s, x, rfl, _⟩ := h
    rfl
  obtain ⟨v, t, T, s, x, rfl, ia, gT, nT, hs, ht, hx, q⟩ := h
  have nd0 : (["_law_name", "_law_places", "_law_some", "_law_step"] : List Str).Nodup := by decide +kernel
  refine ⟨_, (@pss_cons _ _ _ _ _ (@ps_set _ _ 3 _ _ _ _ sc_law_stepped.nd rfl (Or.inl rfl) (@pe_ix _ _ _ _ _ _ _ (@kix_seq _ K (by rfl)) (@pe_comp _ ["_law_name", "_law_places", "_law_some", "_law_step"] [none, none, none, some 1] _ _ _ _ _ _ _ _ _ _ (by exact (show CompOk ["_law_table_here", "_law_step", "_law_mark", "_law_cells_here"] (defScope s_law_stepped) ["_law_name", "_law_places", "_law_some", "_law_step"] [none, none, none, some 1] _ from ⟨rfl, by decide +kernel, by decide +kernel, by decide +kernel, by decide +kernel, rfl, by decide +kernel⟩)) rfl (@kpi_tup _ K _ _ _ (@pe_ix _ _ _ _ _ _ _ (@kix_seq _ K (by rfl)) (@pv _ 0 _ _ (by rfl) (by first | exact Or.inl rfl | exact Or.inr (Or.inl rfl) | exact Or.inr (Or.inr rfl)) (by decide) (by decide)) (@pe_int _ _ _ _) (fun _ _ => rfl)) (by rfl)) (fun _ _ _ _ => (@kpg_tup _ K _ _ _ _ 3 rfl (@pgs_cons _ _ _ _ _ (@pg_name _ _ 0 _ nd0 rfl (Or.inl rfl) (by first | exact .inl rfl | exact .inr rfl | assumption)) (@pgs_cons _ _ _ _ _ (@pg_name _ _ 1 _ nd0 rfl (Or.inl rfl) (by first | exact .inl rfl | exact .inr rfl | assumption)) (@pgs_cons _ _ _ _ _ (@pg_name _ _ 2 _ nd0 rfl (Or.inl rfl) (by first | exact .inl rfl | exact .inr rfl | assumption)) (@pgs_nil _) (by rfl)) (by rfl)) (by rfl)) (by rfl) (by rfl) (by rfl))) (fun _ _ _ _ => (@pf_one _ _ _ (@pt_cmpR _ _ _ _ _ _ _ _ (@op_eq _) (@pv _ 0 _ _ (by rfl) (by first | exact Or.inl rfl | exact Or.inr (Or.inl rfl) | exact Or.inr (Or.inr rfl)) (by decide) (by decide)) (@pe_ix _ _ _ _ _ _ _ (@kix_seq _ K (by rfl)) (@pv _ 3 _ _ (by rfl) (by first | exact Or.inl rfl | exact Or.inr (Or.inl rfl) | exact Or.inr (Or.inr rfl)) (by decide) (by decide)) (@pe_int _ _ _ _) (fun _ _ => rfl)) (@nomark _ _ (by decide) (by decide))))) (fun _ _ _ _ => (@pv _ 2 _ _ (by rfl) (by first | exact Or.inl rfl | exact Or.inr (Or.inl rfl) | exact Or.inr (Or.inr rfl)) (by decide) (by decide))) (by intro _; rfl)) (@pe_int _ _ _ _) (fun _ _ => rfl)) (by rfl) (by first | exact .inl rfl | exact .inr rfl | assumption)) (@pss_cons _ _ _ _ _ (@ps_if _ _ _ _ _ _ _ _ (@pt_cmpR _ _ _ _ _ _ _ _ (@op_isN _) (@pe_ix _ _ _ _ _ _ _ (@kix_seq _ K (by rfl)) (@pv _ 1 _ _ (by rfl) (by first | exact Or.inl rfl | exact Or.inr (Or.inl rfl) | exact Or.inr (Or.inr rfl)) (by decide) (by decide)) (@pe_int _ _ _ _) (fun _ _ => rfl)) (@pe_non _ _ _) (@nomark _ _ (by decide) (by decide))) (@pss_one _ _ _ (@ps_ret _ _ _ _ (@pe_ix _ _ _ _ _ _ _ (@kix_seq _ K (by rfl)) (@pv _ 3 _ _ (by rfl) (by first | exact Or.inl rfl | exact Or.inr (Or.inl rfl) | exact Or.inr (Or.inr rfl)) (by decide) (by decide)) (@pv _ 2 _ _ (by rfl) (by first | exact Or.inl rfl | exact Or.inr (Or.inl rfl) | exact Or.inr (Or.inr rfl)) (by decide) (by decide)) (fun _ _ => rfl)))) (@pss_nil _)) (@pss_one _ _ _ (@ps_ret _ _ _ _ (@pe_ix _ _ _ _ _ _ _ (@kix_seq _ K (by rfl)) (@pv _ 3 _ _ (by rfl) (by first | exact Or.inl rfl | exact Or.inr (Or.inl rfl) | exact Or.inr (Or.inr rfl)) (by decide) (by decide)) (@pe_ix _ _ _ _ _ _ _ (@kix_seq _ K (by rfl)) (@pe_lst _ _ _ _ (@pa_cons _ _ _ _ _ (@pe_op _ _ _ _ _ _ _ _ (@op_add _) (@pe_op _ _ _ _ _ _ _ _ (@op_mul _) (@pv _ 2 _ _ (by rfl) (by first | exact Or.inl rfl | exact Or.inr (Or.inl rfl) | exact Or.inr (Or.inr rfl)) (by decide) (by decide)) (@pe_ix _ _ _ _ _ _ _ (@kix_seq _ K (by rfl)) (@pv _ 0 _ _ (by rfl) (by first | exact Or.inl rfl | exact Or.inr (Or.inl rfl) | exact Or.inr (Or.inr rfl)) (by decide) (by decide)) (@pe_int _ _ _ _) (fun _ _ => rfl))) (@pe_ix _ _ _ _ _ _ _ (@kix_seq _ K (by rfl)) (@pv _ 1 _ _ (by rfl) (by first | exact Or.inl rfl | exact Or.inr (Or.inl rfl) | exact Or.inr (Or.inr rfl)) (by decide) (by decide)) (@pe_int _ _ _ _) (fun _ _ => rfl))) (@pa_cons _ _ _ _ _ (@pe_op _ _ _ _ _ _ _ _ (@op_add _) (@pe_op _ _ _ _ _ _ _ _ (@op_mul _) (@pe_ix _ _ _ _ _ _ _ (@kix_seq _ K (by rfl)) (@pv _ 1 _ _ (by rfl) (by first | exact Or.inl rfl | exact Or.inr (Or.inl rfl) | exact Or.inr (Or.inr rfl)) (by decide) (by decide)) (@pe_int _ _ _ _) (fun _ _ => rfl)) (@pe_ix _ _ _ _ _ _ _ (@kix_seq _ K (by rfl)) (@pv _ 0 _ _ (by rfl) (by first | exact Or.inl rfl | exact Or.inr (Or.inl rfl) | exact Or.inr (Or.inr rfl)) (by decide) (by decide)) (@pe_int _ _ _ _) (fun _ _ => rfl))) (@pv _ 2 _ _ (by rfl) (by first | exact Or.inl rfl | exact Or.inr (Or.inl rfl) | exact Or.inr (Or.inr rfl)) (by decide) (by decide))) (@pa_nil _) (by rfl)) (by rfl))) (@pe_ix _ _ _ _ _ _ _ (@kix_seq _ K (by rfl)) (@pv _ 1 _ _ (by rfl) (by first | exact Or.inl rfl | exact Or.inr (Or.inl rfl) | exact Or.inr (Or.inr rfl)) (by decide) (by decide)) (@pe_int _ _ _ _) (fun _ _ => rfl)) (fun _ _ => rfl)) (fun _ _ => rfl)))))), ?_⟩
  obtain ⟨a, w0, c, vs, rfl, h1, h2, h3, h4⟩ := id ia
  have m9 := gT.m9
  have gx : ∀ i, ∃ t u : Addr, i < T.cs.length → vs[i]? = some (.ref t) ∧ H t = some (.tup [.str (T.cs.getD i d0).nm, nV (T.cs.getD i d0).pl, .ref u]) ∧ H u = some (.tup ((T.cs.getD i d0).cs.map nV)) := fun i => by
    by_cases hi : i < T.cs.length
    · have hc : T.cs[i]? = some (T.cs.getD i d0) := by simp [List.getD, hi]
      obtain ⟨t, u, h⟩ := h4.get hc
      exact ⟨t, u, fun _ => h⟩
    · exact ⟨0, 0, fun h => absurd h hi⟩
  obtain ⟨ad, gx⟩ := Classical.axiomOfChoice gx
  obtain ⟨au, gx⟩ := Classical.axiomOfChoice gx
  have ge : ∀ i, i < T.cs.length → T.cs[i]? = some (T.cs.getD i d0) := fun i hi => by simp [List.getD, hi]
  obtain ⟨c0, hcm, hcs⟩ := stp_cases hs
  obtain ⟨j, hj⟩ := List.mem_iff_getElem?.mp hcm
  have hjl := (List.getElem?_eq_some_iff.mp hj).1
  have ecn : T.cs.getD j d0 = c0 := by
    have := ge j hjl
    rw [hj] at this
    exact (Option.some.inj this).symm
  have es0 : ∃ r, stV s = .str c0.nm :: r := by
    rcases hcs with ⟨_, rfl⟩ | ⟨_, o, _, rfl | rfl⟩ <;> exact ⟨_, rfl⟩
  obtain ⟨rs, es0⟩ := es0
  have at0' : atI (stV s) 0 = some (.str c0.nm) := by rw [es0]; exact at0
  refine ⟨_, rfl, .inr (.inl ⟨a, _, 2, _, rfl, rfl, SqT.of h1, rfl, c, rfl, ⟨_, SqT.of h3⟩, fun D hD => ?_⟩)⟩
  refine comp_tt3m (n := T.cs.length) (ad := ad) (v1 := fun i => .str (T.cs.getD i d0).nm) (v2 := fun i => nV (T.cs.getD i d0).pl) (v3 := fun i => .ref (au i)) (more := [some (.ref t)]) (fun i ys H' => Same H H' ∧ ys = if j < i then [.ref (au j)] else []) ⟨same_new hD _, by rw [if_neg (Nat.not_lt_zero _)]⟩ h4.len.symm (fun i hi => (gx i hi).1) (fun i ys H' h _ => SqT.of (h.1 _ _ h3)) (fun i ys H' hi h => SqT.of (h.1 _ _ (gx i hi).2.1)) ?_ ?_
  · rintro i ys H1 hi ⟨s1, rfl⟩ hD1
    refine ⟨_, rfl, _, rfl, .inr (.inl ⟨t, _, 0, _, rfl, rfl, SqT.of (s1 _ _ ht), at0', rfl, _, rfl, ?_⟩)⟩
    by_cases e : i = j
    · subst e
      refine ite2 (fun _ => ?_) (fun z => absurd (decide_eq_true (by rw [ecn])) z)
      rw [if_neg (Nat.lt_irrefl _)] at hD1
      refine ⟨_, rfl, cyes hi ⟨_, _, _, rfl⟩ hD1 (small1000 (by show 0 ≤ 1000; decide)) ⟨s1.put hD, ?_⟩⟩
      rw [if_pos (Nat.lt_succ_self _)]
      rfl
    · refine ite2 (fun z => ?_) (fun _ => ?_)
      · exfalso
        have z' : (T.cs.getD i d0).nm = c0.nm := V.str.inj (of_decide_eq_true z)
        rw [← ecn] at z'
        have nd := List.pairwise_iff_getElem.mp nT
        have l1 : (nmsOf T).length = T.cs.length := by unfold nmsOf; rw [List.length_map]
        have g : ∀ k (hk : k < T.cs.length), (nmsOf T)[k]'(by omega) = (T.cs.getD k d0).nm := fun k hk => by
          unfold nmsOf
          rw [List.getElem_map]
          simp [List.getD, hk]
        rcases Nat.lt_or_gt_of_ne e with h | h
        · exact nd i j (by omega) (by omega) h (by rw [g i hi, g j hjl]; exact z')
        · exact nd j i (by omega) (by omega) h (by rw [g i hi, g j hjl]; exact z'.symm)
      · refine cno hi ⟨_, _, _, rfl⟩ hD1 ⟨s1, ?_⟩
        by_cases h : j < i
        · rw [if_pos h, if_pos (by omega)]
        · rw [if_neg h, if_neg (by omega)]
  rintro ys H1 ⟨s1, rfl⟩ hD1
  rw [if_pos hjl] at hD1
  refine .inl ⟨D, _, 0, _, rfl, rfl, SqL.of hD1, at0, ?_⟩
  obtain ⟨_, _, cs3⟩ := gT.cn c0 hcm
  have hu2 := s1 _ _ (gx j hjl).2.2
  rw [ecn] at hu2
  have ht1 := s1 _ _ ht
  have h11 := s1 _ _ h1
  rcases hcs with ⟨p1, rfl⟩ | ⟨p2, o, ho, hs2⟩
  · refine ⟨_, rfl, .inr (.inl ⟨t, _, 2, _, rfl, rfl, SqT.of ht1, rfl, rfl, _, rfl, ?_⟩)⟩
    refine ite2 (fun _ => ?_) (fun z => absurd (decide_eq_true rfl) z)
    exact ⟨_, rfl, _, rfl, .inr (.inl ⟨au j, _, _, _, rfl, rfl, SqT.of hu2, at_nV (by rw [cs3.len, p1, Nat.pow_one]; exact hx), q _ s1⟩)⟩
  have two : ∀ a b, a < T.m → b < T.m → a * T.m + b < c0.cs.length := fun a b ha hb => by
    rw [cs3.len, p2]
    have : (a + 1) * T.m ≤ T.m * T.m := Nat.mul_le_mul_right _ ha
    rw [Nat.add_mul] at this
    show _ < T.m ^ 2
    rw [Nat.pow_succ, Nat.pow_one]
    omega
  have ix : ∀ a b : Nat, a < T.m → b < T.m → atI (c0.cs.map nV) ((a : Int) * (T.m : Int) + (b : Int)) = some (nV (Tn.at' c0.cs (a * T.m + b))) := fun a b ha hb => by
    rw [← Int.natCast_mul, ← Int.natCast_add]
    exact at_nV (two a b ha hb)
  have go : ∀ k : Nat, k < 2 → s = (c0, k, some o) → nO s.2.2 = nV o ∧ stV s = [.str c0.nm, nV k, nV o] ∧ stepV T.m s x = if k = 0 then Tn.at' c0.cs (x * T.m + o) else Tn.at' c0.cs (o * T.m + x) := fun k _ e => by rw [e]; exact ⟨rfl, rfl, rfl⟩
  obtain ⟨k, k2, e⟩ : ∃ k : Nat, k < 2 ∧ s = (c0, k, some o) := by
    rcases hs2 with e | e
    · exact ⟨0, by decide, e⟩
    · exact ⟨1, by decide, e⟩
  obtain ⟨g1, g2, g3⟩ := go k k2 e
  rw [g3] at q
  rw [g2] at ht1
  refine ⟨_, rfl, .inr (.inl ⟨t, _, 2, _, rfl, rfl, SqT.of ht1, rfl, rfl, _, rfl, ?_⟩)⟩
  refine ite2 (fun z => absurd (of_decide_eq_true z) (by intro h; cases h)) (fun _ => ?_)
  refine ⟨_, rfl, _, rfl, _, rfl, .inr (.inl ⟨a, _, 0, _, rfl, rfl, SqT.of h11, rfl, _, _, rfl, rfl, .inr ⟨by omega, by omega⟩, _, rfl, .inr (.inl ⟨t, _, 2, _, rfl, rfl, SqT.of ht1, rfl, _, _, rfl, rfl, ?_⟩)⟩)⟩
  refine ⟨_, rfl, .inr (.inl ⟨t, _, 2, _, rfl, rfl, SqT.of ht1, rfl, _, rfl, .inr (.inl ⟨a, _, 0, _, rfl, rfl, SqT.of h11, rfl, _, _, rfl, rfl, .inr ⟨by omega, by omega⟩, _, rfl, _, _, rfl, rfl, ?_⟩)⟩)⟩
  refine ⟨small9 (by show 2 ≤ 1000; decide), fun L hL => ?_⟩
  have n2 := same_new hL (.lst [V.int ((x : Int) * (T.m : Int) + (o : Int)), V.int ((o : Int) * (T.m : Int) + (x : Int))])
  refine ⟨_, rfl, .inr (.inl ⟨t, _, 1, _, rfl, rfl, SqT.of (n2 _ _ ht1), rfl, ?_⟩)⟩
  match k, k2 with
  | 0, _ =>
    refine .inl ⟨L, _, 0, _, rfl, rfl, SqL.of upd_same, rfl, ?_⟩
    rw [if_pos rfl] at q
    exact .inr (.inl ⟨au j, _, _, _, rfl, rfl, SqT.of (n2 _ _ hu2), ix x o hx ho, q _ (s1.trans n2)⟩)
  | 1, _ =>
    refine .inl ⟨L, _, 1, _, rfl, rfl, SqL.of upd_same, rfl, ?_⟩
    rw [if_neg (by decide)] at q
    exact .inr (.inl ⟨au j, _, _, _, rfl, rfl, SqT.of (n2 _ _ hu2), ix o x ho hx, q _ (s1.trans n2)⟩)

abbrev s_law_unlike : Stmt := top 17
theorem sc_law_unlike : FnScope ["_law_table_here", "_law_many", "_law_images", "_law_step", "_law_found", "_law_place", "_law_pair", "_law_changed", "_law_behind"] ["_law_table_here"] (defScope s_law_unlike) := ⟨rfl, rfl, rfl, by decide +kernel, rfl, by decide +kernel, by decide +kernel⟩
theorem ok_law_unlike {P : Program} {w : World} {K : PySem.W.Frag} {mg : Str → Option Value} {base : Heap} {f : Addr} {fd : FuncData} (F : Fun K "_law_unlike" "_law_unlike" s_law_unlike f fd) (gb : Gb mg) (d_law_one_steps : Def P w K mg base 1 "_law_one_steps" ["_law_table_here"] spOne) (d_law_stepped : Def P w K mg base 1 "_law_stepped" ["_law_table_here", "_law_step", "_law_mark"] spLStep) : FnOk P w K mg base CX0 2 f fd ["_law_table_here"] spUnlike := by
  refine F.ok sc_law_unlike (fun vs H Q E h => ?_) (fun cdv A outer s H vs Q E hr h => ?_)
  · obtain ⟨v, T, rfl, _⟩ := h
    rfl
  obtain ⟨v, T, rfl, ia, gT, nT, q⟩ := h
  have nd0 : (["_law_mark", "_law_table_here", "_law_step"] : List Str).Nodup := by decide +kernel
  have nd1 : (["_law_image", "_law_found", "_law_pair"] : List Str).Nodup := by decide +kernel
  refine ⟨_, (@pss_cons _ _ _ _ _ (@ps_set _ _ 1 _ _ _ _ sc_law_unlike.nd rfl (Or.inl rfl) (@pe_ix _ _ _ _ _ _ _ (@kix_seq _ K (by rfl)) (@pv _ 0 _ _ (by rfl) (by first | exact Or.inl rfl | exact Or.inr (Or.inl rfl) | exact Or.inr (Or.inr rfl)) (by decide) (by decide)) (@pe_int _ _ _ _) (fun _ _ => rfl)) (by rfl) (by first | exact .inl rfl | exact .inr rfl | assumption)) (@pss_cons _ _ _ _ _ (@ps_set _ _ 2 _ _ _ _ sc_law_unlike.nd rfl (Or.inl rfl) (@pe_lst _ _ _ _ (@pa_nil _)) (by rfl) (by first | exact .inl rfl | exact .inr rfl | assumption)) (@pss_cons _ _ _ _ _ (@ps_for _ _ _ _ _ _ _ _ PassesOwn.never rfl (@kpi_list _ K _ _ _ (@pe_def _ _ _ _ _ _ _ _ _ _ _ d_law_one_steps hr (by omega) rfl (@pa_cons _ _ _ _ _ (@pv _ 0 _ _ (by rfl) (by first | exact Or.inl rfl | exact Or.inr (Or.inl rfl) | exact Or.inr (Or.inr rfl)) (by decide) (by decide)) (@pa_nil _) (by rfl)) (by decide) (by rfl) (by rfl)) (by rfl)) (@pg_name _ _ 3 _ sc_law_unlike.nd rfl (Or.inr rfl) (by first | exact .inl rfl | exact .inr rfl | assumption)) (@pss_one _ _ _ (@ps_expr _ _ _ _ (@kpe_bm _ K _ _ _ _ _ _ _ _ _ _ _ PySem.F.plainAttrs_list PySem.F.slot_list_append PySem.F.type_list_append (@mt_append _) (@pv _ 2 _ _ (by rfl) (by first | exact Or.inl rfl | exact Or.inr (Or.inl rfl) | exact Or.inr (Or.inr rfl)) (by decide) (by decide)) (@pa_cons _ _ _ _ _ (@pe_comp _ ["_law_mark", "_law_table_here", "_law_step"] [none, some 0, some 3] _ _ _ _ _ _ _ _ _ _ (by exact (show CompOk ["_law_table_here", "_law_many", "_law_images", "_law_step", "_law_found", "_law_place", "_law_pair", "_law_changed", "_law_behind"] (defScope s_law_unlike) ["_law_mark", "_law_table_here", "_law_step"] [none, some 0, some 3] _ from ⟨rfl, by decide +kernel, by decide +kernel, by decide +kernel, by decide +kernel, rfl, by decide +kernel⟩)) rfl (@pi_range1 _ _ _ _ _ _ rfl gb.range (@pa_cons _ _ _ _ _ (@pv _ 1 _ _ (by rfl) (by first | exact Or.inl rfl | exact Or.inr (Or.inl rfl) | exact Or.inr (Or.inr rfl)) (by decide) (by decide)) (@pa_nil _) (by rfl)) (by rfl)) (fun _ _ _ _ => (@pg_name _ _ 0 _ nd0 rfl (Or.inl rfl) (by first | exact .inl rfl | exact .inr rfl | assumption))) (fun _ _ _ _ => (@pf_nil _)) (fun _ _ _ _ => (@pe_def _ _ _ _ _ _ _ _ _ _ _ d_law_stepped hr (by omega) rfl (@pa_cons _ _ _ _ _ (@pv _ 1 _ _ (by rfl) (by first | exact Or.inl rfl | exact Or.inr (Or.inl rfl) | exact Or.inr (Or.inr rfl)) (by decide) (by decide)) (@pa_cons _ _ _ _ _ (@pv _ 2 _ _ (by rfl) (by first | exact Or.inl rfl | exact Or.inr (Or.inl rfl) | exact Or.inr (Or.inr rfl)) (by decide) (by decide)) (@pa_cons _ _ _ _ _ (@pv _ 0 _ _ (by rfl) (by first | exact Or.inl rfl | exact Or.inr (Or.inl rfl) | exact Or.inr (Or.inr rfl)) (by decide) (by decide)) (@pa_nil _) (by rfl)) (by rfl)) (by rfl)) (by decide) (by rfl) (by rfl))) (by intro _; rfl)) (@pa_nil _) (by rfl)) (by rfl) (by rfl) (by rfl) (by rfl) (by rfl) (by rfl)) (by rfl))) (by intro _; rfl)) (@pss_cons _ _ _ _ _ (@ps_set _ _ 4 _ _ _ _ sc_law_unlike.nd rfl (Or.inr rfl) pe_dnewT (by rfl) (by first | exact .inl rfl | exact .inr rfl | assumption)) (@pss_cons _ _ _ _ _ (@ps_for _ _ _ _ _ _ _ _ PassesOwn.never rfl (@pi_range1 _ _ _ _ _ _ rfl gb.range (@pa_cons _ _ _ _ _ (@pe_op _ _ _ _ _ _ _ _ (@op_mul _) (@pv _ 1 _ _ (by rfl) (by first | exact Or.inl rfl | exact Or.inr (Or.inl rfl) | exact Or.inr (Or.inr rfl)) (by decide) (by decide)) (@pv _ 1 _ _ (by rfl) (by first | exact Or.inl rfl | exact Or.inr (Or.inl rfl) | exact Or.inr (Or.inr rfl)) (by decide) (by decide))) (@pa_nil _) (by rfl)) (by rfl)) (@pg_name _ _ 5 _ sc_law_unlike.nd rfl (Or.inl rfl) (by first | exact .inl rfl | exact .inr rfl | assumption)) (@pss_cons _ _ _ _ _ (@ps_set _ _ 6 _ _ _ _ sc_law_unlike.nd rfl (Or.inr rfl) (@pe_tup _ _ _ _ _ (@pa_cons _ _ _ _ _ (@pe_op _ _ _ _ _ _ _ _ (@op_fdiv _) (@pv _ 5 _ _ (by rfl) (by first | exact Or.inl rfl | exact Or.inr (Or.inl rfl) | exact Or.inr (Or.inr rfl)) (by decide) (by decide)) (@pv _ 1 _ _ (by rfl) (by first | exact Or.inl rfl | exact Or.inr (Or.inl rfl) | exact Or.inr (Or.inr rfl)) (by decide) (by decide))) (@pa_cons _ _ _ _ _ (@pe_op _ _ _ _ _ _ _ _ (@op_mod _) (@pv _ 5 _ _ (by rfl) (by first | exact Or.inl rfl | exact Or.inr (Or.inl rfl) | exact Or.inr (Or.inr rfl)) (by decide) (by decide)) (@pv _ 1 _ _ (by rfl) (by first | exact Or.inl rfl | exact Or.inr (Or.inl rfl) | exact Or.inr (Or.inr rfl)) (by decide) (by decide))) (@pa_nil _) (by rfl)) (by rfl))) (by rfl) (by first | exact .inl rfl | exact .inr rfl | assumption)) (@pss_one _ _ _ (@ps_dput _ _ _ _ _ _ _ _ _ (@hu1 _ _ hr) (@pv _ 4 _ _ (by rfl) (by first | exact Or.inl rfl | exact Or.inr (Or.inl rfl) | exact Or.inr (Or.inr rfl)) (by decide) (by decide)) (@pv _ 6 _ _ (by rfl) (by first | exact Or.inl rfl | exact Or.inr (Or.inl rfl) | exact Or.inr (Or.inr rfl)) (by decide) (by decide)) (@pe_cmpR _ _ _ _ _ _ _ _ (@op_ne _) (@pe_cmpR _ _ _ _ _ _ _ _ (@kop_in_seq _ K (by rfl)) (@pe_ix _ _ _ _ _ _ _ (@kix_seq _ K (by rfl)) (@pv _ 6 _ _ (by rfl) (by first | exact Or.inl rfl | exact Or.inr (Or.inl rfl) | exact Or.inr (Or.inr rfl)) (by decide) (by decide)) (@pe_int _ _ _ _) (fun _ _ => rfl)) (@pe_ix _ _ _ _ _ _ _ (@kix_seq _ K (by rfl)) (@pv _ 0 _ _ (by rfl) (by first | exact Or.inl rfl | exact Or.inr (Or.inl rfl) | exact Or.inr (Or.inr rfl)) (by decide) (by decide)) (@pe_int _ _ _ _) (fun _ _ => rfl)) (by with_unfolding_all rfl)) (@pe_cmpR _ _ _ _ _ _ _ _ (@kop_in_seq _ K (by rfl)) (@pe_ix _ _ _ _ _ _ _ (@kix_seq _ K (by rfl)) (@pv _ 6 _ _ (by rfl) (by first | exact Or.inl rfl | exact Or.inr (Or.inl rfl) | exact Or.inr (Or.inr rfl)) (by decide) (by decide)) (@pe_int _ _ _ _) (fun _ _ => rfl)) (@pe_ix _ _ _ _ _ _ _ (@kix_seq _ K (by rfl)) (@pv _ 0 _ _ (by rfl) (by first | exact Or.inl rfl | exact Or.inr (Or.inl rfl) | exact Or.inr (Or.inr rfl)) (by decide) (by decide)) (@pe_int _ _ _ _) (fun _ _ => rfl)) (by with_unfolding_all rfl)) (@nomark _ _ (by decide) (by decide))) rfl))) (by intro _; rfl)) (@pss_cons _ _ _ _ _ (@ps_set _ _ 7 _ _ _ _ sc_law_unlike.nd rfl (Or.inl rfl) (@pe_bl _ _ _ _) (by rfl) (by first | exact .inl rfl | exact .inr rfl | assumption)) (@pss_cons _ _ _ _ _ (@ps_while _ _ _ _ _ _ PassesOwn.never (@pt_val _ _ _ (@pv _ 7 _ _ (by rfl) (by first | exact Or.inl rfl | exact Or.inr (Or.inl rfl) | exact Or.inr (Or.inr rfl)) (by decide) (by decide)) (by intro _; rfl)) (@pss_cons _ _ _ _ _ (@ps_set _ _ 7 _ _ _ _ sc_law_unlike.nd rfl (Or.inl rfl) (@pe_bl _ _ _ _) (by rfl) (by first | exact .inl rfl | exact .inr rfl | assumption)) (@pss_one _ _ _ (@ps_for _ _ _ _ _ _ _ _ PassesOwn.never rfl (@kpi_list _ K _ _ _ (@pe_callB _ _ _ _ _ _ _ _ _ (@kcall_sortedT _ rfl) rfl gb.sorted bt_sorted (@pa_cons _ _ _ _ _ (@pv _ 4 _ _ (by rfl) (by first | exact Or.inl rfl | exact Or.inr (Or.inl rfl) | exact Or.inr (Or.inr rfl)) (by decide) (by decide)) (@pa_nil _) (by rfl)) (by decide) (by decide) (by rfl) (by rfl)) (by rfl)) (@pg_name _ _ 6 _ sc_law_unlike.nd rfl (Or.inr rfl) (by first | exact .inl rfl | exact .inr rfl | assumption)) (@pss_cons _ _ _ _ _ (@ps_setComp _ ["_law_image", "_law_found", "_law_pair"] [none, some 4, some 6] _ 8 _ _ _ _ _ _ _ _ _ _ _ _ (by exact (show CompOk ["_law_table_here", "_law_many", "_law_images", "_law_step", "_law_found", "_law_place", "_law_pair", "_law_changed", "_law_behind"] (defScope s_law_unlike) ["_law_image", "_law_found", "_law_pair"] [none, some 4, some 6] _ from ⟨rfl, by decide +kernel, by decide +kernel, by decide +kernel, by decide +kernel, rfl, by decide +kernel⟩)) rfl (@kpi_list _ K _ _ _ (@pv _ 2 _ _ (by rfl) (by first | exact Or.inl rfl | exact Or.inr (Or.inl rfl) | exact Or.inr (Or.inr rfl)) (by decide) (by decide)) (by rfl)) (fun _ _ _ _ => (@pg_name _ _ 0 _ nd1 rfl (Or.inl rfl) (by first | exact .inl rfl | exact .inr rfl | assumption))) (fun _ _ _ _ => (@pf_nil _)) (fun _ _ _ _ => (@pe_dget _ _ _ _ _ _ (@hu1 _ _ hr) (@pv _ 1 _ _ (by rfl) (by first | exact Or.inl rfl | exact Or.inr (Or.inl rfl) | exact Or.inr (Or.inr rfl)) (by decide) (by decide)) (@pe_tup _ _ _ _ _ (@pa_cons _ _ _ _ _ (@pe_ix _ _ _ _ _ _ _ (@kix_seq _ K (by rfl)) (@pv _ 0 _ _ (by rfl) (by first | exact Or.inl rfl | exact Or.inr (Or.inl rfl) | exact Or.inr (Or.inr rfl)) (by decide) (by decide)) (@pe_ix _ _ _ _ _ _ _ (@kix_seq _ K (by rfl)) (@pv _ 2 _ _ (by rfl) (by first | exact Or.inl rfl | exact Or.inr (Or.inl rfl) | exact Or.inr (Or.inr rfl)) (by decide) (by decide)) (@pe_int _ _ _ _) (fun _ _ => rfl)) (fun _ _ => rfl)) (@pa_cons _ _ _ _ _ (@pe_ix _ _ _ _ _ _ _ (@kix_seq _ K (by rfl)) (@pv _ 0 _ _ (by rfl) (by first | exact Or.inl rfl | exact Or.inr (Or.inl rfl) | exact Or.inr (Or.inr rfl)) (by decide) (by decide)) (@pe_ix _ _ _ _ _ _ _ (@kix_seq _ K (by rfl)) (@pv _ 2 _ _ (by rfl) (by first | exact Or.inl rfl | exact Or.inr (Or.inl rfl) | exact Or.inr (Or.inr rfl)) (by decide) (by decide)) (@pe_int _ _ _ _) (fun _ _ => rfl)) (fun _ _ => rfl)) (@pa_nil _) (by rfl)) (by rfl))) (fun _ _ => rfl))) sc_law_unlike.nd rfl rfl rfl (by intro _; rfl)) (@pss_one _ _ _ (@ps_if _ _ _ _ _ _ _ _ (@PW.pt _ _ _ (@pw_and _ _ _ _ _ _ _ (@pt_not _ _ _ _ (@pt_val _ _ _ (@pe_dget _ _ _ _ _ _ (@hu1 _ _ hr) (@pv _ 4 _ _ (by rfl) (by first | exact Or.inl rfl | exact Or.inr (Or.inl rfl) | exact Or.inr (Or.inr rfl)) (by decide) (by decide)) (@pv _ 6 _ _ (by rfl) (by first | exact Or.inl rfl | exact Or.inr (Or.inl rfl) | exact Or.inr (Or.inr rfl)) (by decide) (by decide)) (fun _ _ => rfl)) (by intro _; rfl))) (@pw_and1 _ _ _ _ (@pt_val _ _ _ (@pe_callB _ _ _ _ _ _ _ _ _ (@kcall_any _ K rfl (by rfl)) rfl gb.any bt_any (@pa_cons _ _ _ _ _ (@pv _ 8 _ _ (by rfl) (by first | exact Or.inl rfl | exact Or.inr (Or.inl rfl) | exact Or.inr (Or.inr rfl)) (by decide) (by decide)) (@pa_nil _) (by rfl)) (by decide) (by decide) (by rfl) (by rfl)) (by intro _; rfl))))) (@pss_cons _ _ _ _ _ (@ps_dput _ _ _ _ _ _ _ _ _ (@hu1 _ _ hr) (@pv _ 4 _ _ (by rfl) (by first | exact Or.inl rfl | exact Or.inr (Or.inl rfl) | exact Or.inr (Or.inr rfl)) (by decide) (by decide)) (@pv _ 6 _ _ (by rfl) (by first | exact Or.inl rfl | exact Or.inr (Or.inl rfl) | exact Or.inr (Or.inr rfl)) (by decide) (by decide)) (@pe_bl _ _ _ _) rfl) (@pss_one _ _ _ (@ps_set _ _ 7 _ _ _ _ sc_law_unlike.nd rfl (Or.inl rfl) (@pe_bl _ _ _ _) (by rfl) (by first | exact .inl rfl | exact .inr rfl | assumption)))) (@pss_nil _)))) (by intro _; rfl))))) (@pss_one _ _ _ (@ps_ret _ _ _ _ (@pv _ 4 _ _ (by rfl) (by first | exact Or.inl rfl | exact Or.inr (Or.inl rfl) | exact Or.inr (Or.inr rfl)) (by decide) (by decide))))))))))), ?_⟩
  obtain ⟨a, w0, c, vs, rfl, h1, h2, h3, h4⟩ := id ia
  have m9 := gT.m9
  have m1 := gT.m1
  have c81 := sq81 m9
  refine ⟨_, rfl, .inr (.inl ⟨a, _, 0, _, rfl, rfl, SqT.of h1, rfl, ?_⟩)⟩
  refine ⟨small9 (by show 0 ≤ 1000; decide), fun im him => ?_⟩
  have n0 := same_new him (.lst [])
  have him0 : (upd H im (.lst [])) im = some (.lst []) := upd_same
  generalize upd H im (.lst []) = H0 at *
  refine ⟨_, rfl, .ref a, T, rfl, ia.same n0, gT, fun sl ss H1 fsl s1 hsl hS => ?_⟩
  have slim : sl ≠ im := fun z => by rw [z, him0] at fsl; cases fsl
  have S1 := n0.trans s1
  have hul := Paired.length hS
  refine ⟨sl, rfl, ⟨_, SqL.of hsl⟩, ?_⟩
  refine for_list (xs := ss) (fun i σ H' => (∃ x3 x4 x5 x6 x7 x8, σ = [some (.ref a), some (nV T.m), some (.ref im), x3, x4, x5, x6, x7, x8]) ∧ Same H H' ∧ Off im H1 H' ∧ ∃ us, H' im = some (.lst us) ∧ Lld im H' ((imgs T).take i) us) ⟨⟨_, _, _, _, _, _, rfl⟩, S1, Off.refl, [], s1 _ _ him0, .nil⟩ (fun i σ H' _ h => SqL.of (h.2.2.1 _ _ slim hsl)) ?_ ?_
  · rintro i x σ H2 hx ⟨⟨x3, x4, x5, x6, x7, x8, rfl⟩, s2, o2, us, hu, hL⟩
    have hi : i < ss.length := (List.getElem?_eq_some_iff.mp hx).1
    have hsi : (stps2 T)[i]? = some (stps2 T)[i] := List.getElem?_eq_getElem (by omega)
    generalize (stps2 T)[i] = s at hsi
    obtain ⟨v', e1, ts, rfl, hts⟩ := paired_get hS hsi
    rw [hx] at e1
    cases e1
    have hsm := stp2_mem.mp (List.mem_of_getElem? hsi)
    have tsim : ts ≠ im := fun z => by
      have := s1 _ _ him0
      rw [← z, hts] at this
      cases this
    have hts2 := o2 _ _ tsim hts
    have ul : us.length ≤ 18 * 16 := by
      have l1 := hL.len
      have l2 := stps2_len m9 T.cs
      have l3 := gT.cl
      rw [List.length_take] at l1
      have l4 : (imgs T).length = (stps2 T).length := by unfold imgs; rw [List.length_map]
      have l5 : (stps2 T).length ≤ 18 * T.cs.length := l2
      omega
    refine ⟨_, rfl, .inl ⟨rfl, _, SqL.of hu⟩, ?_⟩
    refine ⟨_, rfl, (T.m : Int), rfl, by omega, by omega, fun D hD => ?_⟩
    rw [Int.toNat_natCast]
    have Dim : D ≠ im := Ne.symm (ne_of_none hu hD)
    refine comp_range (fun j ys H' => Same H2 H' ∧ ys = (List.range j).map fun x => nV (stepV T.m s x)) ⟨same_new hD _, rfl⟩ ?_ ?_
    · rintro j ys H3 hj ⟨s3, rfl⟩ hD3
      refine yes ⟨_, rfl, _, rfl, _, rfl, .ref a, ts, T, s, j, by (show [V.ref a, V.ref ts, V.int (0 + (j : Int))] = _; rw [Int.zero_add]), (ia.same s2).same s3, gT, nT, hsm, s3 _ _ hts2, hj, fun H4 s4 => ?_⟩
      have hD4 := s4 _ _ hD3
      refine cyes hj rset1 hD4 (by rw [List.length_map, List.length_range]; exact small1000 (by omega)) ⟨(s3.trans s4).put hD, ?_⟩
      rw [List.range_succ, List.map_append]
      rfl
    rintro ys H3 ⟨s3, rfl⟩ hD3
    have hu3 := s3 _ _ hu
    refine ⟨im, us, _, rfl, rfl, hu3, small1000 (by omega), ⟨⟨_, _, _, _, _, _, rfl⟩, (s2.trans s3).put him, (o2.trans (Off.of s3)).trans Off.put, _, upd_same, ?_⟩⟩
    have hii : (imgs T)[i]? = some ((List.range T.m).map (stepV T.m s)) := by
      unfold imgs
      rw [List.getElem?_map, hsi]
      rfl
    rw [take_snoc hii]
    refine Lld.snoc (Lld.put (hL.same s3)) Dim ?_
    rw [upd_ne Dim, hD3, List.map_map]
    rfl
  rintro σ H2 ⟨⟨x3, x4, x5, x6, x7, x8, rfl⟩, s2, o2, us, hu, hL⟩
  have il : (imgs T).length = (stps2 T).length := by unfold imgs; rw [List.length_map]
  rw [← hul, ← il, List.take_length] at hL
  refine fun fd hfd => ?_
  have n3 := same_new hfd (.dT [])
  have hL2 := hL.re hfd
  have imfd : im ≠ fd := ne_of_none hu hfd
  refine ⟨_, rfl, _, rfl, _, _, rfl, rfl, .inr ⟨by omega, by omega⟩, ((T.m * T.m : Nat) : Int), by (show [V.int _] = _; rw [Int.natCast_mul]), by omega, by omega, ?_⟩
  rw [Int.toNat_natCast]
  have nofd : ∀ b o, H b = some o → b ≠ fd := fun b o hb => ne_of_none (s2 _ _ hb) hfd
  refine for_range (fun i σ H' => (∃ x3 x5 x6 x7 x8, σ = [some (.ref a), some (nV T.m), some (.ref im), x3, some (.ref fd), x5, x6, x7, x8]) ∧ Off fd H2 H' ∧ ∃ kvs, H' fd = some (.dT kvs) ∧ Fd T.m i kvs (f0 T.ws)) ⟨⟨_, _, _, _, _, rfl⟩, Off.of n3, [], upd_same, ⟨rfl, fun z hz => by cases hz⟩⟩ ?_ ?_
  · rintro i σ H3 hi ⟨⟨x3, x5, x6, x7, x8, rfl⟩, o3, kvs, hk, hF⟩
    have h13 := o3 _ _ (nofd _ _ h1) (s2 _ _ h1)
    have h23 := o3 _ _ (nofd _ _ h2) (s2 _ _ h2)
    have zl : i / T.m < T.m ∧ i % T.m < T.m := ⟨Nat.div_lt_of_lt_mul hi, Nat.mod_lt _ (by omega)⟩
    refine ⟨_, rfl, _, rfl, _, _, rfl, rfl, ⟨by omega, by omega⟩, ?_⟩
    refine ⟨_, rfl, _, rfl, _, _, rfl, rfl, (by omega), ?_⟩
    have e1 : V.int ((0 + (i : Int)) / (T.m : Int)) = nV (i / T.m) := by
      rw [Int.zero_add, ← Int.natCast_ediv]
    have e2 : V.int ((0 + (i : Int)) % (T.m : Int)) = nV (i % T.m) := by
      rw [Int.zero_add, ← Int.natCast_emod]
    refine ⟨small9 (by show 2 ≤ 1000; decide), fun tp htp => ?_⟩
    have n4 := same_new htp (.tup [V.int ((0 + (i : Int)) / (T.m : Int)), V.int ((0 + (i : Int)) % (T.m : Int))])
    have htp4 : (upd H3 tp (.tup [V.int ((0 + (i : Int)) / (T.m : Int)), V.int ((0 + (i : Int)) % (T.m : Int))])) tp = some (.tup [nV (i / T.m), nV (i % T.m)]) := by rw [upd_same, e1, e2]
    generalize upd H3 tp (.tup [V.int ((0 + (i : Int)) / (T.m : Int)), V.int ((0 + (i : Int)) % (T.m : Int))]) = H4 at *
    refine ⟨_, rfl, .inr (.inl ⟨tp, _, 0, _, rfl, rfl, SqT.of htp4, rfl, _, rfl, .inr (.inl ⟨a, _, 1, _, rfl, rfl, SqT.of (n4 _ _ h13), rfl, w0, _, rfl, .inr (SqT.of (n4 _ _ h23)), rfl, flat_nats _, ?_⟩)⟩)⟩
    try dsimp only
    rw [if_neg Bool.false_ne_true, in_nats]
    refine ⟨_, rfl, .inr (.inl ⟨tp, _, 1, _, rfl, rfl, SqT.of htp4, rfl, _, rfl, .inr (.inl ⟨a, _, 1, _, rfl, rfl, SqT.of (n4 _ _ h13), rfl, w0, _, rfl, .inr (SqT.of (n4 _ _ h23)), rfl, flat_nats _, ?_⟩)⟩)⟩
    try dsimp only
    rw [if_neg Bool.false_ne_true, in_nats]
    refine ⟨rfl, ?_⟩
    rw [wish_dec]
    have hk4 := n4 _ _ hk
    have kl := hF.len
    refine ⟨_, rfl, _, rfl, fd, _, rfl, DPut.t hk4 (k := pk (i / T.m, i % T.m)) htp4 (small1000 (by omega)), ?_⟩
    exact ⟨⟨_, _, _, _, _, rfl⟩, (o3.trans (Off.of n4)).trans Off.put, _, upd_same, hF.new⟩
  rintro σ H3 ⟨⟨x3, x5, x6, x7, x8, rfl⟩, o3, kvs, hk, hF⟩
  have hL3 := hL2.off o3
  have hu3 := o3 _ _ imfd hu
  have so0 : ∀ x y, x < T.m → y < T.m → f0 T.ws x y = true → Tn.at' (mkT T) x ≠ Tn.at' (mkT T) y := fun x y hx hy h e => by
    unfold f0 at h
    rw [decide_eq_true (wish_alike gT hx hy e)] at h
    cases h
  refine ⟨fun n σ H' => ∃ x3 x5 x6 x8 ch kvs f, n = cnt T.m f + (if ch = true then 1 else 0) ∧ σ = [some (.ref a), some (nV T.m), some (.ref im), x3, some (.ref fd), x5, x6, some (.bl ch), x8] ∧ Off fd H3 H' ∧ H' fd = some (.dT kvs) ∧ Fd T.m (T.m * T.m) kvs f ∧ (∀ x y, x < T.m → y < T.m → f x y = true → Tn.at' (mkT T) x ≠ Tn.at' (mkT T) y) ∧ (∀ x y, f0 T.ws x y = true → f x y = true) ∧ (ch = false → ∀ x y, x < T.m → y < T.m → f x y = false → ∀ s ∈ stps T, f (stepV T.m s x) (stepV T.m s y) = false), ⟨_, _, _, _, _, true, kvs, f0 T.ws, rfl, rfl, Off.refl, hk, hF, so0, fun x y h => h, fun h => by cases h⟩, ?_⟩
  rintro n σ H4 ⟨x3, x5, x6, x8, ch, kvs4, f, rfl, rfl, o4, hk4, hF4, so4, ba4, cl4⟩
  refine ⟨_, rfl, _, rfl, ?_⟩
  cases ch with
  | false =>
    refine iteF ?_
    refine ⟨_, rfl, q fd kvs4 f H4 (fun b o hb => o4 _ _ (nofd _ _ hb) (o3 _ _ (nofd _ _ hb) (s2 _ _ hb))) hk4 hF4 (un_of gT so4 (fun x y _ _ hw => ba4 x y (by unfold f0; rw [decide_eq_false hw]; rfl)) (cl4 rfl))⟩
  | true =>
    refine iteT ?_
    refine ⟨fun σ' H' => ∃ m', m' < cnt T.m f + (if true = true then 1 else 0) ∧ (∃ x3 x5 x6 x8 ch kvs f, m' = cnt T.m f + (if ch = true then 1 else 0) ∧ σ' = [some (.ref a), some (nV T.m), some (.ref im), x3, some (.ref fd), x5, x6, some (.bl ch), x8] ∧ Off fd H3 H' ∧ H' fd = some (.dT kvs) ∧ Fd T.m (T.m * T.m) kvs f ∧ (∀ x y, x < T.m → y < T.m → f x y = true → Tn.at' (mkT T) x ≠ Tn.at' (mkT T) y) ∧ (∀ x y, f0 T.ws x y = true → f x y = true) ∧ (ch = false → ∀ x y, x < T.m → y < T.m → f x y = false → ∀ s ∈ stps T, f (stepV T.m s x) (stepV T.m s y) = false)), fun _ _ h => h, ?_⟩
    have ek : kvs4.map Prod.fst = ((prs T.m (T.m * T.m)).map fun z => ((z.1 : Int), (z.2 : Int))).map kk := by
      rw [hF4.keys, List.map_map]
      rfl
    have pl : (prs T.m (T.m * T.m)).length = T.m * T.m := by unfold prs; rw [List.length_map, List.length_range]
    refine ⟨_, rfl, fd, kvs4, _, rfl, hk4, ek, prs_asc _ _, by rw [List.length_map, pl]; omega, fun so bs hso hbs => ?_⟩
    have hB : Pr2 H4 (prs T.m (T.m * T.m)) bs := paired_map hbs
    have n5 := same_new hso (.lst bs)
    have sofd : so ≠ fd := Ne.symm (ne_of_none hk4 hso)
    have bl := Paired.length hB
    have hso5 : (upd H4 so (.lst bs)) so = some (.lst bs) := upd_same
    generalize upd H4 so (.lst bs) = H5 at *
    refine ⟨so, rfl, ⟨_, SqL.of hso5⟩, ?_⟩
    have hk5 := n5 _ _ hk4
    refine for_list (xs := bs) (fun i σ H' => ∃ x6 x8 ch kvs f', σ = [some (.ref a), some (nV T.m), some (.ref im), x3, some (.ref fd), x5, x6, some (.bl ch), x8] ∧ Off fd H5 H' ∧ H' fd = some (.dT kvs) ∧ Fd T.m (T.m * T.m) kvs f' ∧ Swp T f f' ch i) ⟨_, _, false, kvs4, f, rfl, Off.refl, hk5, hF4, ⟨so4, (fun _ _ h => h), (fun h => by cases h), fun _ => ⟨rfl, fun z hz => by cases hz⟩⟩⟩ (fun i σ H' _ h => by obtain ⟨_, _, _, _, _, _, o, _⟩ := h; exact SqL.of (o _ _ sofd hso5)) ?_ ?_
    · rintro i x σ H6 hx ⟨x6, x8, ch, kvs6, f', rfl, o6, hk6, hF6, hW⟩
      have hi : i < bs.length := (List.getElem?_eq_some_iff.mp hx).1
      have hzi : (prs T.m (T.m * T.m))[i]? = some (prs T.m (T.m * T.m))[i] := List.getElem?_eq_getElem (by omega)
      generalize (prs T.m (T.m * T.m))[i] = z at hzi
      obtain ⟨v', e1, tz, rfl, htz⟩ := paired_get hB hzi
      rw [hx] at e1
      cases e1
      have hzm := List.mem_of_getElem? hzi
      obtain ⟨z1, z2⟩ := prs_lt hzm
      have tzfd : tz ≠ fd := fun w => by rw [w, hk4] at htz; cases htz
      have htz6 := o6 _ _ tzfd (n5 _ _ htz)
      have o36 : Off fd H3 H6 := o4.trans ((Off.of n5).trans o6)
      have hu6 := o36 _ _ imfd hu3
      have hL6 := hL3.off o36
      have l6 := hL6.len
      refine ⟨_, rfl, im, rfl, ⟨_, SqL.of hu6⟩, fun D hD => ?_⟩
      refine comp_list (xs := us) (fun j ys H' => Same H6 H' ∧ ys = ((stps2 T).take j).map fun s => V.bl (f' (stepV T.m s z.1) (stepV T.m s z.2))) ⟨same_new hD _, rfl⟩ (fun j ys H' h _ => SqL.of (h.1 _ _ hu6)) ?_ ?_
      · rintro j ys H7 x hx7 ⟨s7, rfl⟩ hD7
        have hj : j < us.length := (List.getElem?_eq_some_iff.mp hx7).1
        have hsj : (stps2 T)[j]? = some (stps2 T)[j] := List.getElem?_eq_getElem (by omega)
        generalize (stps2 T)[j] = s at hsj
        have hsm := stp2_mem.mp (List.mem_of_getElem? hsj)
        obtain ⟨al, e7, hal⟩ := hL6.at (i := j) (n := (List.range T.m).map (stepV T.m s)) (by unfold imgs; rw [List.getElem?_map, hsj]; rfl)
        rw [hx7] at e7
        cases e7
        have hal7 := s7 _ _ hal
        have htz7 := s7 _ _ htz6
        have av : ∀ y, y < T.m → atI (((List.range T.m).map (stepV T.m s)).map nV) ((y : Nat) : Int) = some (nV (stepV T.m s y)) := fun y hy => by
          have h := at_nV (xs := (List.range T.m).map (stepV T.m s)) (i := y) (by rw [List.length_map, List.length_range]; exact hy)
          have e : Tn.at' ((List.range T.m).map (stepV T.m s)) y = stepV T.m s y := by
            unfold Tn.at'
            rw [List.getD_eq_getElem?_getD, List.getElem?_map, List.getElem?_range hy]
            rfl
          rw [e] at h
          exact h
        refine yes ⟨_, rfl, _, rfl, _, rfl, .inr (.inl ⟨tz, _, 0, _, rfl, rfl, SqT.of htz7, rfl, .inl ⟨al, _, _, _, rfl, rfl, SqL.of hal7, av _ z1, ?_⟩⟩)⟩
        refine ⟨_, rfl, _, rfl, .inr (.inl ⟨tz, _, 1, _, rfl, rfl, SqT.of htz7, rfl, .inl ⟨al, _, _, _, rfl, rfl, SqL.of hal7, av _ z2, ?_⟩⟩)⟩
        refine ⟨small9 (by show 2 ≤ 1000; decide), fun kt hkt => ?_⟩
        have n8 := same_new hkt (.tup [nV (stepV T.m s z.1), nV (stepV T.m s z.2)])
        have hg : DGet (upd H7 kt (.tup [nV (stepV T.m s z.1), nV (stepV T.m s z.2)])) fd (.ref kt) (valV kvs6 (pk (stepV T.m s z.1, stepV T.m s z.2))) := DGet.t (n8 _ _ (s7 _ _ hk6)) upd_same
        rw [hF6.val _ (prs_mem (step_lt gT hsm z1) (step_lt gT hsm z2))] at hg
        refine ⟨fd, _, rfl, hg, ?_⟩
        have hD8 := n8 _ _ hD7
        refine cyes hj rset1 hD8 (by rw [List.length_map, List.length_take]; exact small1000 (by
          have l2 := stps2_len m9 T.cs
          have l3 := gT.cl
          have l5 : (stps2 T).length ≤ 18 * T.cs.length := l2
          omega)) ⟨(s7.trans n8).put hD, ?_⟩
        rw [take_snoc hsj, List.map_append]
        rfl
      rintro ys H7 ⟨s7, rfl⟩ hD7
      rw [l6, il, List.take_length] at hD7
      have hk7 := s7 _ _ hk6
      have htz7 := s7 _ _ htz6
      have hg : DGet H7 fd (.ref tz) (valV kvs6 (pk z)) := DGet.t hk7 htz7
      rw [hF6.val z hzm] at hg
      have o67 : Off fd H5 H7 := o6.trans (Off.of s7)
      have same_ : ∀ ch', ch' = ch → (f' z.1 z.2 = true ∨ ∀ s ∈ stps T, f' (stepV T.m s z.1) (stepV T.m s z.2) = false) → Swp T f f' ch' (i + 1) := fun ch' ec hz => by
        subst ec
        refine ⟨hW.so, hW.up, hW.ct, fun h => ?_⟩
        obtain ⟨ef, hall⟩ := hW.st h
        refine ⟨ef, fun y hy hfy s hs => ?_⟩
        rw [take_snoc hzi] at hy
        rcases List.mem_append.mp hy with hy | hy
        · exact hall y hy hfy s hs
        · rw [List.mem_singleton.mp hy] at hfy ⊢
          subst ef
          rcases hz with hz | hz
          · rw [hz] at hfy
            cases hfy
          · exact hz s hs
      have eany : (((stps2 T).map fun s => f' (stepV T.m s z.1) (stepV T.m s z.2)).any id) = true ↔ ∃ s ∈ stps T, f' (stepV T.m s z.1) (stepV T.m s z.2) = true := by
        rw [List.any_map, List.any_eq_true]
        exact ⟨fun ⟨s, hs, h⟩ => ⟨s, stp2_mem.mp hs, h⟩, fun ⟨s, hs, h⟩ => ⟨s, stp2_mem.mpr hs, h⟩⟩
      refine ⟨_, rfl, _, rfl, fd, _, rfl, hg, _, rfl, ?_⟩
      cases hfz : f' z.1 z.2 with
      | true =>
        refine iteF (iteF ?_)
        exact ⟨_, _, ch, kvs6, f', rfl, o67, hk7, hF6, same_ ch rfl (.inl hfz)⟩
      | false =>
        refine iteT ?_
        refine ⟨_, rfl, D, (stps2 T).map (fun s => f' (stepV T.m s z.1) (stepV T.m s z.2)), rfl, SqL.of (by rw [hD7, List.map_map]; rfl), _, rfl, ?_⟩
        cases han : (((stps2 T).map fun s => f' (stepV T.m s z.1) (stepV T.m s z.2)).any id) with
        | false =>
          refine iteF ?_
          refine ⟨_, _, ch, kvs6, f', rfl, o67, hk7, hF6, same_ ch rfl (.inr fun s hs => ?_)⟩
          cases e : f' (stepV T.m s z.1) (stepV T.m s z.2) with
          | false => rfl
          | true =>
            have := eany.mpr ⟨s, hs, e⟩
            rw [han] at this
            cases this
        | true =>
          refine iteT ?_
          obtain ⟨s, hs, hfs⟩ := eany.mp han
          have kl := hF6.len
          refine ⟨_, rfl, _, rfl, fd, _, rfl, DPut.t hk7 (k := pk z) htz7 (small1000 (by omega)), ?_⟩
          refine ⟨_, _, true, _, setF f' z, rfl, o67.trans Off.put, upd_same, hF6.put hzm, ⟨fun x y hx hy h => ?_, fun x y h => ?_, fun _ => ?_, fun h => by cases h⟩⟩
          · unfold setF at h
            split at h
            · rename_i e
              obtain ⟨ex, ey⟩ := Prod.mk.inj (show (x, y) = (z.1, z.2) from e)
              subst ex ey
              exact fun e => hW.so _ _ (step_lt gT hs hx) (step_lt gT hs hy) hfs (step_alike gT hs hx hy e)
            · exact hW.so x y hx hy h
          · unfold setF
            split
            · rfl
            · exact hW.up x y h
          · have c1 := cnt_put hzm hfz
            cases ch with
            | true => exact Nat.lt_trans c1 (hW.ct rfl)
            | false =>
              rw [(hW.st rfl).1] at c1 ⊢
              exact c1
    · rintro σ H6 ⟨x6, x8, ch, kvs6, f', rfl, o6, hk6, hF6, hW⟩
      refine ⟨cnt T.m f' + (if ch = true then 1 else 0), ?_, _, _, _, _, ch, kvs6, f', rfl, rfl, o4.trans ((Off.of n5).trans o6), hk6, hF6, hW.so, fun x y h => hW.up x y (ba4 x y h), fun h x y hx hy hf s hs => ?_⟩
      · cases ch with
        | true =>
          have := hW.ct rfl
          show cnt T.m f' + 1 < cnt T.m f + 1
          omega
        | false =>
          rw [(hW.st rfl).1]
          show cnt T.m f + 0 < cnt T.m f + 1
          omega
      · obtain ⟨ef, hall⟩ := hW.st h
        subst ef
        rw [← bl, List.take_length] at hall
        exact hall (x, y) (prs_mem hx hy) hf s hs

abbrev s_law_drawn : Stmt := top 18
theorem sc_law_drawn : FnScope ["_law_well_here", "_law_most", "_law_some", "_law_table_here"] ["_law_well_here", "_law_most", "_law_some"] (defScope s_law_drawn) := ⟨rfl, rfl, rfl, by decide +kernel, rfl, by decide +kernel, by decide +kernel⟩
theorem ok_law_drawn {P : Program} {w : World} {K : PySem.W.Frag} {mg : Str → Option Value} {base : Heap} {f : Addr} {fd : FuncData} (F : Fun K "_law_drawn" "_law_drawn" s_law_drawn f fd) (gb : Gb mg) (d_law_table : Def P w K mg base 3 "_law_table" ["_law_well_here", "_law_most", "_law_some"] spTable) (d_law_draw : Def P w K mg base 1 "_law_draw" ["_law_well_here", "_law_many"] spDrawW) (d_law_even : Def P w K mg base 2 "_law_even" ["_law_well_here", "_law_table_here"] spEven) : FnOk P w K mg base CX0 4 f fd ["_law_well_here", "_law_most", "_law_some"] spDrawn := by
  refine F.ok sc_law_drawn (fun vs H Q E h => ?_) (fun cdv A outer s H vs Q E hr h => ?_)
  · obtain ⟨p, mo, so, rfl, _⟩ := h
    rfl
  obtain ⟨p, mo, so, rfl, w, mo1, mo9, so8, q⟩ := h
  refine ⟨_, (@pss_cons _ _ _ _ _ (@ps_set _ _ 3 _ _ _ _ sc_law_drawn.nd rfl (Or.inl rfl) (@pe_def _ _ _ _ _ _ _ _ _ _ _ d_law_table hr (by omega) rfl (@pa_cons _ _ _ _ _ (@pv _ 0 _ _ (by rfl) (by first | exact Or.inl rfl | exact Or.inr (Or.inl rfl) | exact Or.inr (Or.inr rfl)) (by decide) (by decide)) (@pa_cons _ _ _ _ _ (@pv _ 1 _ _ (by rfl) (by first | exact Or.inl rfl | exact Or.inr (Or.inl rfl) | exact Or.inr (Or.inr rfl)) (by decide) (by decide)) (@pa_cons _ _ _ _ _ (@pv _ 2 _ _ (by rfl) (by first | exact Or.inl rfl | exact Or.inr (Or.inl rfl) | exact Or.inr (Or.inr rfl)) (by decide) (by decide)) (@pa_nil _) (by rfl)) (by rfl)) (by rfl)) (by decide) (by rfl) (by rfl)) (by rfl) (by first | exact .inl rfl | exact .inr rfl | assumption)) (@pss_cons _ _ _ _ _ (@ps_if _ _ _ _ _ _ _ _ (@pt_cmpR _ _ _ _ _ _ _ _ (@op_eq _) (@pe_def _ _ _ _ _ _ _ _ _ _ _ d_law_draw hr (by omega) rfl (@pa_cons _ _ _ _ _ (@pv _ 0 _ _ (by rfl) (by first | exact Or.inl rfl | exact Or.inr (Or.inl rfl) | exact Or.inr (Or.inr rfl)) (by decide) (by decide)) (@pa_cons _ _ _ _ _ (@pe_int _ _ _ _) (@pa_nil _) (by rfl)) (by rfl)) (by decide) (by rfl) (by rfl)) (@pe_int _ _ _ _) (@nomark _ _ (by decide) (by decide))) (@pss_one _ _ _ (@ps_set _ _ 3 _ _ _ _ sc_law_drawn.nd rfl (Or.inl rfl) (@pe_def _ _ _ _ _ _ _ _ _ _ _ d_law_even hr (by omega) rfl (@pa_cons _ _ _ _ _ (@pv _ 0 _ _ (by rfl) (by first | exact Or.inl rfl | exact Or.inr (Or.inl rfl) | exact Or.inr (Or.inr rfl)) (by decide) (by decide)) (@pa_cons _ _ _ _ _ (@pv _ 3 _ _ (by rfl) (by first | exact Or.inl rfl | exact Or.inr (Or.inl rfl) | exact Or.inr (Or.inr rfl)) (by decide) (by decide)) (@pa_nil _) (by rfl)) (by rfl)) (by decide) (by rfl) (by rfl)) (by rfl) (by first | exact .inl rfl | exact .inr rfl | assumption))) (@pss_nil _)) (@pss_one _ _ _ (@ps_ret _ _ _ _ (@pv _ 3 _ _ (by rfl) (by first | exact Or.inl rfl | exact Or.inr (Or.inl rfl) | exact Or.inr (Or.inr rfl)) (by decide) (by decide)))))), ?_⟩
  refine ⟨_, rfl, _, rfl, _, rfl, p, mo, so, rfl, w, mo1, mo9, so8, fun v T H1 o1 w1 gT nT ia => ?_⟩
  refine ⟨_, rfl, p, 2, rfl, w1, by decide, by decide, fun dd H2 d1 o2 w2 => ⟨rfl, _, rfl, ?_⟩⟩
  have ia2 := ia.tk (w1.tk o2)
  refine ite2 (fun _ => ?_) (fun _ => ?_)
  · refine ⟨_, rfl, _, rfl, p, v, T, rfl, w2, ia2, gT, fun u U H3 o3 w3 gU hsh iu => ?_⟩
    have nU : (nmsOf U).Nodup := nms_sh hsh ▸ nT
    exact ⟨_, rfl, q u U H3 ((o1.trans o2).trans o3) w3 gU nU iu⟩
  · exact ⟨_, rfl, q v T H2 (o1.trans o2) w2 gT nT ia2⟩

abbrev s_law_walked : Stmt := top 19
theorem sc_law_walked : FnScope ["_law_table_here", "_law_steps", "_law_mark", "_law_step"] ["_law_table_here", "_law_steps", "_law_mark"] (defScope s_law_walked) := ⟨rfl, rfl, rfl, by decide +kernel, rfl, by decide +kernel, by decide +kernel⟩
theorem ok_law_walked {P : Program} {w : World} {K : PySem.W.Frag} {mg : Str → Option Value} {base : Heap} {f : Addr} {fd : FuncData} (F : Fun K "_law_walked" "_law_walked" s_law_walked f fd) (gb : Gb mg) (d_law_stepped : Def P w K mg base 1 "_law_stepped" ["_law_table_here", "_law_step", "_law_mark"] spLStep) : FnOk P w K mg base CX0 2 f fd ["_law_table_here", "_law_steps", "_law_mark"] spLed := by
  refine F.ok sc_law_walked (fun vs H Q E h => ?_) (fun cdv A outer s H vs Q E hr h => ?_)
  · obtain ⟨v, st, T, xs, ss, x, rfl, _⟩ := h
    rfl
  obtain ⟨v, st, T, xs, ss, x, rfl, ia, gT, nT, hst, hS, hsm, hx, q⟩ := h
  refine ⟨_, (@pss_cons _ _ _ _ _ (@ps_for _ _ _ _ _ _ _ _ PassesOwn.never rfl (@kpi_tup _ K _ _ _ (@pv _ 1 _ _ (by rfl) (by first | exact Or.inl rfl | exact Or.inr (Or.inl rfl) | exact Or.inr (Or.inr rfl)) (by decide) (by decide)) (by rfl)) (@pg_name _ _ 3 _ sc_law_walked.nd rfl (Or.inl rfl) (by first | exact .inl rfl | exact .inr rfl | assumption)) (@pss_one _ _ _ (@ps_set _ _ 2 _ _ _ _ sc_law_walked.nd rfl (Or.inl rfl) (@pe_def _ _ _ _ _ _ _ _ _ _ _ d_law_stepped hr (by omega) rfl (@pa_cons _ _ _ _ _ (@pv _ 0 _ _ (by rfl) (by first | exact Or.inl rfl | exact Or.inr (Or.inl rfl) | exact Or.inr (Or.inr rfl)) (by decide) (by decide)) (@pa_cons _ _ _ _ _ (@pv _ 3 _ _ (by rfl) (by first | exact Or.inl rfl | exact Or.inr (Or.inl rfl) | exact Or.inr (Or.inr rfl)) (by decide) (by decide)) (@pa_cons _ _ _ _ _ (@pv _ 2 _ _ (by rfl) (by first | exact Or.inl rfl | exact Or.inr (Or.inl rfl) | exact Or.inr (Or.inr rfl)) (by decide) (by decide)) (@pa_nil _) (by rfl)) (by rfl)) (by rfl)) (by decide) (by rfl) (by rfl)) (by rfl) (by first | exact .inl rfl | exact .inr rfl | assumption))) (by intro _; rfl)) (@pss_one _ _ _ (@ps_ret _ _ _ _ (@pv _ 2 _ _ (by rfl) (by first | exact Or.inl rfl | exact Or.inr (Or.inl rfl) | exact Or.inr (Or.inr rfl)) (by decide) (by decide))))), ?_⟩
  obtain ⟨a, w0, c, vs, rfl, h1, h2, h3, h4⟩ := id ia
  refine ⟨_, rfl, st, rfl, ⟨_, SqT.of hst⟩, ?_⟩
  refine for_tup (xs := xs) (fun i σ H' => (∃ x3, σ = [some (.ref a), some (.ref st), some (nV (walk1 T.m (ss.take i) x)), x3]) ∧ Same H H') ⟨⟨_, rfl⟩, Same.rfl'⟩ (fun i σ H' _ h => SqT.of (h.2 _ _ hst)) ?_ ?_
  · rintro i v σ H2 hv ⟨⟨x3, rfl⟩, s2⟩
    have hi : i < xs.length := (List.getElem?_eq_some_iff.mp hv).1
    have hul := Paired.length hS
    have hsi : ss[i]? = some ss[i] := List.getElem?_eq_getElem (by omega)
    generalize ss[i] = s at hsi
    obtain ⟨v', e1, ts, rfl, hts⟩ := paired_get hS hsi
    rw [hv] at e1
    cases e1
    have hsm' := hsm s (List.mem_of_getElem? hsi)
    have hyl := walk1_lt gT (ss.take i) (fun s' hs' => hsm s' (List.mem_of_mem_take hs')) hx
    have ew : walk1 T.m (ss.take (i + 1)) x = stepV T.m s (walk1 T.m (ss.take i) x) := by rw [take_snoc hsi, walk1_snoc]
    refine ⟨_, rfl, _, rfl, _, rfl, .ref a, ts, T, s, _, rfl, ia.same s2, gT, nT, hsm', s2 _ _ hts, hyl, fun H3 s3 => ?_⟩
    refine ⟨⟨some (.ref ts), ?_⟩, s2.trans s3⟩
    rw [ew]
    rfl
  · rintro σ H2 ⟨⟨x3, rfl⟩, s2⟩
    rw [show ss.take xs.length = ss by rw [← Paired.length hS, List.take_length]]
    exact ⟨_, rfl, q H2 s2⟩

abbrev s_law_steps_right : Stmt := top 20
theorem sc_law_steps_right : FnScope ["_law_table_here", "_law_steps", "_law_one", "_law_other", "_law_first", "_law_second"] ["_law_table_here", "_law_steps", "_law_one", "_law_other"] (defScope s_law_steps_right) := ⟨rfl, rfl, rfl, by decide +kernel, rfl, by decide +kernel, by decide +kernel⟩
theorem ok_law_steps_right {P : Program} {w : World} {K : PySem.W.Frag} {mg : Str → Option Value} {base : Heap} {f : Addr} {fd : FuncData} (F : Fun K "_law_steps_right" "_law_steps_right" s_law_steps_right f fd) (gb : Gb mg) (d_law_one_steps : Def P w K mg base 1 "_law_one_steps" ["_law_table_here"] spOne) (d_law_walked : Def P w K mg base 2 "_law_walked" ["_law_table_here", "_law_steps", "_law_mark"] spLed) (d_led : Def P w K mg base 2 "led" ["T", "steps", "x"] spLed) : FnOk P w K mg base CX0 3 f fd ["_law_table_here", "_law_steps", "_law_one", "_law_other"] spSRight := by
  refine F.ok sc_law_steps_right (fun vs H Q E h => ?_) (fun cdv A outer s H vs Q E hr h => ?_)
  · obtain ⟨v, st, T, xs, ss, x, y, rfl, _⟩ := h
    rfl
  obtain ⟨v, st, T, xs, ss, x, y, rfl, ia, gT, nT, hst, hS, hsm, h100, hx, hy, hnw, q⟩ := h
  have nd0 : (["_law_step", "_law_table_here"] : List Str).Nodup := by decide +kernel
  have nd1 : (["_law_step"] : List Str).Nodup := by decide +kernel
  refine ⟨_, (@pss_cons _ _ _ _ _ (@ps_if _ _ _ _ _ _ _ _ (@PW.pt _ _ _ (@pw_or _ _ _ _ _ _ _ (@pt_not _ _ _ _ (@pt_val _ _ _ (@pe_callB _ _ _ _ _ _ _ _ _ (@kcall_isiT _ K (by rfl)) rfl gb.isinstance bt_isinstance (@pa_cons _ _ _ _ _ (@pv _ 1 _ _ (by rfl) (by first | exact Or.inl rfl | exact Or.inr (Or.inl rfl) | exact Or.inr (Or.inr rfl)) (by decide) (by decide)) (@pa_cons _ _ _ _ _ (@pe_bltn _ _ (.ty "tuple") _ _ rfl gb.tuple bt_tuple rfl (by decide) (by decide)) (@pa_nil _) (by rfl)) (by rfl)) (by decide) (by decide) (by rfl) (by rfl)) (by intro _; rfl))) (@pw_or1 _ _ _ _ (@pt_not _ _ _ _ (@pt_val _ _ _ (@pe_callB _ _ _ _ _ _ _ _ _ (@kcall_all _ K rfl (by rfl)) rfl gb.all bt_all (@pa_cons _ _ _ _ _ (@pe_comp _ ["_law_step", "_law_table_here"] [none, some 0] _ _ _ _ _ _ _ _ _ _ (by exact (show CompOk ["_law_table_here", "_law_steps", "_law_one", "_law_other", "_law_first", "_law_second"] (defScope s_law_steps_right) ["_law_step", "_law_table_here"] [none, some 0] _ from ⟨rfl, by decide +kernel, by decide +kernel, by decide +kernel, by decide +kernel, rfl, by decide +kernel⟩)) rfl (@kpi_tup _ K _ _ _ (@pv _ 1 _ _ (by rfl) (by first | exact Or.inl rfl | exact Or.inr (Or.inl rfl) | exact Or.inr (Or.inr rfl)) (by decide) (by decide)) (by rfl)) (fun _ _ _ _ => (@pg_name _ _ 0 _ nd0 rfl (Or.inl rfl) (by first | exact .inl rfl | exact .inr rfl | assumption))) (fun _ _ _ _ => (@pf_nil _)) (fun _ _ _ _ => (@pe_cmpR _ _ _ _ _ _ _ _ (@op_inTL _ K _ hr (by rfl)) (@pv _ 0 _ _ (by rfl) (by first | exact Or.inl rfl | exact Or.inr (Or.inl rfl) | exact Or.inr (Or.inr rfl)) (by decide) (by decide)) (@pe_def _ _ _ _ _ _ _ _ _ _ _ d_law_one_steps hr (by omega) rfl (@pa_cons _ _ _ _ _ (@pv _ 1 _ _ (by rfl) (by first | exact Or.inl rfl | exact Or.inr (Or.inl rfl) | exact Or.inr (Or.inr rfl)) (by decide) (by decide)) (@pa_nil _) (by rfl)) (by decide) (by rfl) (by rfl)) (by with_unfolding_all rfl))) (by intro _; rfl)) (@pa_nil _) (by rfl)) (by decide) (by decide) (by rfl) (by rfl)) (by intro _; rfl)))))) (@pss_one _ _ _ (@ps_ret _ _ _ _ (@pe_bl _ _ _ _))) (@pss_nil _)) (@pss_cons _ _ _ _ _ (@ps_if _ _ _ _ _ _ _ _ (@pt_val _ _ _ (@pe_callB _ _ _ _ _ _ _ _ _ (@kcall_any _ K rfl (by rfl)) rfl gb.any bt_any (@pa_cons _ _ _ _ _ (@pe_comp _ ["_law_step"] [none] _ _ _ _ _ _ _ _ _ _ (by exact (show CompOk ["_law_table_here", "_law_steps", "_law_one", "_law_other", "_law_first", "_law_second"] (defScope s_law_steps_right) ["_law_step"] [none] _ from ⟨rfl, by decide +kernel, by decide +kernel, by decide +kernel, by decide +kernel, rfl, by decide +kernel⟩)) rfl (@kpi_tup _ K _ _ _ (@pv _ 1 _ _ (by rfl) (by first | exact Or.inl rfl | exact Or.inr (Or.inl rfl) | exact Or.inr (Or.inr rfl)) (by decide) (by decide)) (by rfl)) (fun _ _ _ _ => (@pg_name _ _ 0 _ nd1 rfl (Or.inl rfl) (by first | exact .inl rfl | exact .inr rfl | assumption))) (fun _ _ _ _ => (@pf_nil _)) (fun _ _ _ _ => (@pe_or _ _ _ _ _ _ _ (@pe_callB _ _ _ _ _ _ _ _ _ (@kcall_isiT _ K (by rfl)) rfl gb.isinstance bt_isinstance (@pa_cons _ _ _ _ _ (@pe_ix _ _ _ _ _ _ _ (@kix_seq _ K (by rfl)) (@pv _ 0 _ _ (by rfl) (by first | exact Or.inl rfl | exact Or.inr (Or.inl rfl) | exact Or.inr (Or.inr rfl)) (by decide) (by decide)) (@pe_int _ _ _ _) (fun _ _ => rfl)) (@pa_cons _ _ _ _ _ (@pe_bltn _ _ (.ty "bool") _ _ rfl gb.bool bt_bool rfl (by decide) (by decide)) (@pa_nil _) (by rfl)) (by rfl)) (by decide) (by decide) (by rfl) (by rfl)) (@pe_one _ _ _ _ _ (@pe_callB _ _ _ _ _ _ _ _ _ (@kcall_isiT _ K (by rfl)) rfl gb.isinstance bt_isinstance (@pa_cons _ _ _ _ _ (@pe_ix _ _ _ _ _ _ _ (@kix_seq _ K (by rfl)) (@pv _ 0 _ _ (by rfl) (by first | exact Or.inl rfl | exact Or.inr (Or.inl rfl) | exact Or.inr (Or.inr rfl)) (by decide) (by decide)) (@pe_int _ _ _ _) (fun _ _ => rfl)) (@pa_cons _ _ _ _ _ (@pe_bltn _ _ (.ty "bool") _ _ rfl gb.bool bt_bool rfl (by decide) (by decide)) (@pa_nil _) (by rfl)) (by rfl)) (by decide) (by decide) (by rfl) (by rfl))))) (by intro _; rfl)) (@pa_nil _) (by rfl)) (by decide) (by decide) (by rfl) (by rfl)) (by intro _; rfl)) (@pss_one _ _ _ (@ps_ret _ _ _ _ (@pe_bl _ _ _ _))) (@pss_nil _)) (@pss_cons _ _ _ _ _ (@ps_set _ _ 4 _ _ _ _ sc_law_steps_right.nd rfl (Or.inl rfl) (@pe_def _ _ _ _ _ _ _ _ _ _ _ d_law_walked hr (by omega) rfl (@pa_cons _ _ _ _ _ (@pv _ 0 _ _ (by rfl) (by first | exact Or.inl rfl | exact Or.inr (Or.inl rfl) | exact Or.inr (Or.inr rfl)) (by decide) (by decide)) (@pa_cons _ _ _ _ _ (@pv _ 1 _ _ (by rfl) (by first | exact Or.inl rfl | exact Or.inr (Or.inl rfl) | exact Or.inr (Or.inr rfl)) (by decide) (by decide)) (@pa_cons _ _ _ _ _ (@pv _ 2 _ _ (by rfl) (by first | exact Or.inl rfl | exact Or.inr (Or.inl rfl) | exact Or.inr (Or.inr rfl)) (by decide) (by decide)) (@pa_nil _) (by rfl)) (by rfl)) (by rfl)) (by decide) (by rfl) (by rfl)) (by rfl) (by first | exact .inl rfl | exact .inr rfl | assumption)) (@pss_cons _ _ _ _ _ (@ps_set _ _ 5 _ _ _ _ sc_law_steps_right.nd rfl (Or.inl rfl) (@pe_def _ _ _ _ _ _ _ _ _ _ _ d_law_walked hr (by omega) rfl (@pa_cons _ _ _ _ _ (@pv _ 0 _ _ (by rfl) (by first | exact Or.inl rfl | exact Or.inr (Or.inl rfl) | exact Or.inr (Or.inr rfl)) (by decide) (by decide)) (@pa_cons _ _ _ _ _ (@pv _ 1 _ _ (by rfl) (by first | exact Or.inl rfl | exact Or.inr (Or.inl rfl) | exact Or.inr (Or.inr rfl)) (by decide) (by decide)) (@pa_cons _ _ _ _ _ (@pv _ 3 _ _ (by rfl) (by first | exact Or.inl rfl | exact Or.inr (Or.inl rfl) | exact Or.inr (Or.inr rfl)) (by decide) (by decide)) (@pa_nil _) (by rfl)) (by rfl)) (by rfl)) (by decide) (by rfl) (by rfl)) (by rfl) (by first | exact .inl rfl | exact .inr rfl | assumption)) (@pss_cons _ _ _ _ _ (@ps_if _ _ _ _ _ _ _ _ (@PW.pt _ _ _ (@pw_or _ _ _ _ _ _ _ (@pt_cmpR _ _ _ _ _ _ _ _ (@op_ne _) (@pe_def _ _ _ _ _ _ _ _ _ _ _ d_led hr (by omega) rfl (@pa_cons _ _ _ _ _ (@pv _ 0 _ _ (by rfl) (by first | exact Or.inl rfl | exact Or.inr (Or.inl rfl) | exact Or.inr (Or.inr rfl)) (by decide) (by decide)) (@pa_cons _ _ _ _ _ (@pv _ 1 _ _ (by rfl) (by first | exact Or.inl rfl | exact Or.inr (Or.inl rfl) | exact Or.inr (Or.inr rfl)) (by decide) (by decide)) (@pa_cons _ _ _ _ _ (@pv _ 2 _ _ (by rfl) (by first | exact Or.inl rfl | exact Or.inr (Or.inl rfl) | exact Or.inr (Or.inr rfl)) (by decide) (by decide)) (@pa_nil _) (by rfl)) (by rfl)) (by rfl)) (by decide) (by rfl) (by rfl)) (@pv _ 4 _ _ (by rfl) (by first | exact Or.inl rfl | exact Or.inr (Or.inl rfl) | exact Or.inr (Or.inr rfl)) (by decide) (by decide)) (@nomark _ _ (by decide) (by decide))) (@pw_or1 _ _ _ _ (@pt_cmpR _ _ _ _ _ _ _ _ (@op_ne _) (@pe_def _ _ _ _ _ _ _ _ _ _ _ d_led hr (by omega) rfl (@pa_cons _ _ _ _ _ (@pv _ 0 _ _ (by rfl) (by first | exact Or.inl rfl | exact Or.inr (Or.inl rfl) | exact Or.inr (Or.inr rfl)) (by decide) (by decide)) (@pa_cons _ _ _ _ _ (@pv _ 1 _ _ (by rfl) (by first | exact Or.inl rfl | exact Or.inr (Or.inl rfl) | exact Or.inr (Or.inr rfl)) (by decide) (by decide)) (@pa_cons _ _ _ _ _ (@pv _ 3 _ _ (by rfl) (by first | exact Or.inl rfl | exact Or.inr (Or.inl rfl) | exact Or.inr (Or.inr rfl)) (by decide) (by decide)) (@pa_nil _) (by rfl)) (by rfl)) (by rfl)) (by decide) (by rfl) (by rfl)) (@pv _ 5 _ _ (by rfl) (by first | exact Or.inl rfl | exact Or.inr (Or.inl rfl) | exact Or.inr (Or.inr rfl)) (by decide) (by decide)) (@nomark _ _ (by decide) (by decide)))))) (@pss_one _ _ _ (@ps_ret _ _ _ _ (@pe_bl _ _ _ _))) (@pss_nil _)) (@pss_one _ _ _ (@ps_ret _ _ _ _ (@pe_cmpR _ _ _ _ _ _ _ _ (@op_ne _) (@pe_cmpR _ _ _ _ _ _ _ _ (@kop_in_seq _ K (by rfl)) (@pv _ 4 _ _ (by rfl) (by first | exact Or.inl rfl | exact Or.inr (Or.inl rfl) | exact Or.inr (Or.inr rfl)) (by decide) (by decide)) (@pe_ix _ _ _ _ _ _ _ (@kix_seq _ K (by rfl)) (@pv _ 0 _ _ (by rfl) (by first | exact Or.inl rfl | exact Or.inr (Or.inl rfl) | exact Or.inr (Or.inr rfl)) (by decide) (by decide)) (@pe_int _ _ _ _) (fun _ _ => rfl)) (by with_unfolding_all rfl)) (@pe_cmpR _ _ _ _ _ _ _ _ (@kop_in_seq _ K (by rfl)) (@pv _ 5 _ _ (by rfl) (by first | exact Or.inl rfl | exact Or.inr (Or.inl rfl) | exact Or.inr (Or.inr rfl)) (by decide) (by decide)) (@pe_ix _ _ _ _ _ _ _ (@kix_seq _ K (by rfl)) (@pv _ 0 _ _ (by rfl) (by first | exact Or.inl rfl | exact Or.inr (Or.inl rfl) | exact Or.inr (Or.inr rfl)) (by decide) (by decide)) (@pe_int _ _ _ _) (fun _ _ => rfl)) (by with_unfolding_all rfl)) (@nomark _ _ (by decide) (by decide)))))))))), ?_⟩
  obtain ⟨a, w0, c, vs, rfl, h1, h2, h3, h4⟩ := id ia
  have hul := Paired.length hS
  have get : ∀ i v, xs[i]? = some v → ∃ (s : Stp) (ts : Addr), s ∈ stps T ∧ v = V.ref ts ∧ H ts = some (.tup (stV s)) := fun i v hv => by
    have hi : i < xs.length := (List.getElem?_eq_some_iff.mp hv).1
    have hsi : ss[i]? = some ss[i] := List.getElem?_eq_getElem (by omega)
    obtain ⟨v', e1, ts, rfl, hts⟩ := paired_get hS hsi
    rw [hv] at e1
    cases e1
    exact ⟨_, ts, hsm _ (List.mem_of_getElem? hsi), rfl, hts⟩
  refine ⟨_, rfl, _, _, _, true, rfl, .tup hst, kit_same "tuple", _, rfl, ?_⟩
  refine iteF ?_
  refine ⟨_, rfl, st, rfl, ⟨_, SqT.of hst⟩, fun D hD => ?_⟩
  refine comp_tup (xs := xs) (fun i ys H' => Same H H' ∧ ys = (List.replicate i true).map V.bl) ⟨same_new hD _, rfl⟩ (fun i ys H' h _ => SqT.of (h.1 _ _ hst)) ?_ ?_
  · rintro i ys H1 z hz ⟨s1, rfl⟩ hD1
    have hi : i < xs.length := (List.getElem?_eq_some_iff.mp hz).1
    obtain ⟨s, ts, hs, rfl, hts⟩ := get i z hz
    refine yes ⟨_, rfl, _, rfl, .ref a, T, rfl, ia.same s1, gT, fun sl ys' H2 fsl s2 hsl hS2 => ?_⟩
    have hts2 := (s1.trans s2) _ _ hts
    have tk : TupsK K H2 (stV s).length ((stps2 T).map stV) ys' := by
      rw [(stV_flat hs).2]
      have all : ∀ {l : List Stp} {ys : List V}, (∀ s ∈ l, s ∈ stps2 T) → Sts H2 l ys → TupsK K H2 3 (l.map stV) ys := by
        intro l ys hl h
        induction h with
        | nil => exact .nil
        | cons r _ ih =>
          obtain ⟨t, e, ht⟩ := r
          have fl := stV_flat (stp2_mem.mp (hl _ List.mem_cons_self))
          exact .cons ⟨t, e, SqT.of ht, fl.2, fl.1⟩ (ih fun s hs => hl s (List.mem_cons_of_mem _ hs))
      exact all (fun s h => h) hS2
    refine ⟨ts, sl, stV s, ys', _, rfl, rfl, SqT.of hts2, (stV_flat hs).1, SqL.of hsl, tk, ?_⟩
    have any : (((stps2 T).map stV).any fun c => eqVs c (stV s)) = true := by
      rw [List.any_map, List.any_eq_true]
      exact ⟨s, stp2_mem.mpr hs, eqVs_self (stV_flat hs).1⟩
    rw [any]
    have hD2 := s2 _ _ hD1
    refine cyes hi rset1 hD2 (by rw [List.length_map, List.length_replicate]; exact small1000 (by omega)) ⟨(s1.trans s2).put hD, ?_⟩
    rw [List.replicate_succ', List.map_append]
    rfl
  rintro ys H1 ⟨s1, rfl⟩ hD1
  refine ⟨D, _, rfl, SqL.of hD1, _, rfl, ?_⟩
  rw [show (List.replicate xs.length true).all id = true by simp]
  refine iteF ?_
  have hst1 := s1 _ _ hst
  refine ⟨_, rfl, st, rfl, ⟨_, SqT.of hst1⟩, fun D2 hD2 => ?_⟩
  refine comp_tup (xs := xs) (fun i ys H' => Same H1 H' ∧ ys = (List.replicate i false).map V.bl) ⟨same_new hD2 _, rfl⟩ (fun i ys H' h _ => SqT.of (h.1 _ _ hst1)) ?_ ?_
  · rintro i ys H2 z hz ⟨s2, rfl⟩ hD3
    have hi : i < xs.length := (List.getElem?_eq_some_iff.mp hz).1
    obtain ⟨s, ts, hs, rfl, hts⟩ := get i z hz
    have hts2 := (s1.trans s2) _ _ hts
    refine yes ⟨_, rfl, .inr (.inl ⟨ts, _, 1, _, rfl, rfl, SqT.of hts2, rfl, _, _, _, false, rfl, .int _, kit_int_bool, ?_⟩)⟩
    refine ⟨_, rfl, iteF ?_⟩
    cases eo : s.2.2 with
    | none =>
      refine ⟨_, rfl, .inr (.inl ⟨ts, _, 2, .non, rfl, rfl, SqT.of hts2, by unfold stV; rw [eo]; rfl, _, _, _, false, rfl, .non, kit_none_bool, ?_⟩)⟩
      refine cyes hi rset1 hD3 (by rw [List.length_map, List.length_replicate]; exact small1000 (by omega)) ⟨s2.put hD2, ?_⟩
      rw [List.replicate_succ', List.map_append]
      rfl
    | some o =>
      refine ⟨_, rfl, .inr (.inl ⟨ts, _, 2, nV o, rfl, rfl, SqT.of hts2, by unfold stV; rw [eo]; rfl, _, _, _, false, rfl, .int _, kit_int_bool, ?_⟩)⟩
      refine cyes hi rset1 hD3 (by rw [List.length_map, List.length_replicate]; exact small1000 (by omega)) ⟨s2.put hD2, ?_⟩
      rw [List.replicate_succ', List.map_append]
      rfl
  rintro ys H2 ⟨s2, rfl⟩ hD3
  refine ⟨D2, _, rfl, SqL.of hD3, _, rfl, ?_⟩
  rw [show (List.replicate xs.length false).any id = false by simp]
  refine iteF ?_
  have S2 := s1.trans s2
  refine ⟨_, rfl, _, rfl, _, rfl, .ref a, st, T, xs, ss, x, rfl, ia.same S2, gT, nT, S2 _ _ hst, Sts.tk (Tk.of S2) hS, hsm, hx, fun H3 s3 => ?_⟩
  have S3 := S2.trans s3
  refine ⟨_, rfl, _, rfl, _, rfl, .ref a, st, T, xs, ss, y, rfl, ia.same S3, gT, nT, S3 _ _ hst, Sts.tk (Tk.of S3) hS, hsm, hy, fun H4 s4 => ?_⟩
  have S4 := S3.trans s4
  refine ⟨_, rfl, _, rfl, _, rfl, .ref a, st, T, xs, ss, x, rfl, ia.same S4, gT, nT, S4 _ _ hst, Sts.tk (Tk.of S4) hS, hsm, hx, fun H5 s5 => ?_⟩
  have S5 := S4.trans s5
  refine ⟨_, rfl, rfl, _, rfl, ?_⟩
  refine ite2 (fun z => absurd z (by simp)) (fun _ => ?_)
  refine ⟨_, rfl, _, rfl, _, rfl, .ref a, st, T, xs, ss, y, rfl, ia.same S5, gT, nT, S5 _ _ hst, Sts.tk (Tk.of S5) hS, hsm, hy, fun H6 s6 => ?_⟩
  have S6 := S5.trans s6
  refine ⟨_, rfl, rfl, _, rfl, ?_⟩
  refine ite2 (fun z => absurd z (by simp)) (fun _ => ?_)
  refine ⟨_, rfl, _, rfl, .inr (.inl ⟨a, _, 1, _, rfl, rfl, SqT.of (S6 _ _ h1), rfl, w0, _, rfl, .inr (SqT.of (S6 _ _ h2)), rfl, flat_nats _, ?_⟩)⟩
  try dsimp only
  rw [if_neg Bool.false_ne_true, in_nats]
  refine ⟨_, rfl, _, rfl, .inr (.inl ⟨a, _, 1, _, rfl, rfl, SqT.of (S6 _ _ h1), rfl, w0, _, rfl, .inr (SqT.of (S6 _ _ h2)), rfl, flat_nats _, ?_⟩)⟩
  try dsimp only
  rw [if_neg Bool.false_ne_true, in_nats]
  refine ⟨rfl, ?_⟩
  rw [wish_dec, decide_eq_false hnw]
  exact q H6 S6

abbrev s_law_right : Stmt := top 21
theorem sc_law_right : FnScope ["_law_well_here", "_law_most", "_law_table_here", "_law_unlike_here", "_law_turn", "_law_one", "_law_other", "_law_found", "_law_some", "_law_steps", "_law_mark"] ["_law_well_here"] (defScope s_law_right) := ⟨rfl, rfl, rfl, by decide +kernel, rfl, by decide +kernel, by decide +kernel⟩
theorem ok_law_right {P : Program} {w : World} {K : PySem.W.Frag} {mg : Str → Option Value} {base : Heap} {f : Addr} {fd : FuncData} (F : Fun K "_law_right" "_law_right" s_law_right f fd) (gb : Gb mg) (d_law_draw : Def P w K mg base 1 "_law_draw" ["_law_well_here", "_law_many"] spDrawW) (d_law_drawn : Def P w K mg base 4 "_law_drawn" ["_law_well_here", "_law_most", "_law_some"] spDrawn) (d_law_unlike : Def P w K mg base 2 "_law_unlike" ["_law_table_here"] spUnlike) (d_parting : Def P w K mg base 4 "parting" ["T", "x", "y"] spParting) (d_law_steps_right : Def P w K mg base 3 "_law_steps_right" ["_law_table_here", "_law_steps", "_law_one", "_law_other"] spSRight) (d_law_one_steps : Def P w K mg base 1 "_law_one_steps" ["_law_table_here"] spOne) (d_led : Def P w K mg base 2 "led" ["T", "steps", "x"] spLed) (d_law_walked : Def P w K mg base 2 "_law_walked" ["_law_table_here", "_law_steps", "_law_mark"] spLed) : FnOk P w K mg base CX0 6 f fd ["_law_well_here"] spRight := by
  refine F.ok sc_law_right (fun vs H Q E h => ?_) (fun cdv A outer s H vs Q E hr h => ?_)
  · obtain ⟨p, rfl, _⟩ := h
    rfl
  obtain ⟨p, rfl, w, q⟩ := h
  have nd0 : (["_law_k", "_law_some", "_law_well_here"] : List Str).Nodup := by decide +kernel
  refine ⟨_, (@pss_cons _ _ _ _ _ (@ps_set _ _ 1 _ _ _ _ sc_law_right.nd rfl (Or.inl rfl) (@pe_ix _ _ _ _ _ _ _ (@kix_seq _ K (by rfl)) (@pe_lst _ _ _ _ (@pa_cons _ _ _ _ _ (@pe_int _ _ _ _) (@pa_cons _ _ _ _ _ (@pe_int _ _ _ _) (@pa_cons _ _ _ _ _ (@pe_int _ _ _ _) (@pa_cons _ _ _ _ _ (@pe_int _ _ _ _) (@pa_nil _) (by rfl)) (by rfl)) (by rfl)) (by rfl))) (@pe_def _ _ _ _ _ _ _ _ _ _ _ d_law_draw hr (by omega) rfl (@pa_cons _ _ _ _ _ (@pv _ 0 _ _ (by rfl) (by first | exact Or.inl rfl | exact Or.inr (Or.inl rfl) | exact Or.inr (Or.inr rfl)) (by decide) (by decide)) (@pa_cons _ _ _ _ _ (@pe_int _ _ _ _) (@pa_nil _) (by rfl)) (by rfl)) (by decide) (by rfl) (by rfl)) (fun _ _ => rfl)) (by rfl) (by first | exact .inl rfl | exact .inr rfl | assumption)) (@pss_cons _ _ _ _ _ (@ps_set _ _ 2 _ _ _ _ sc_law_right.nd rfl (Or.inl rfl) (@pe_def _ _ _ _ _ _ _ _ _ _ _ d_law_drawn hr (by omega) rfl (@pa_cons _ _ _ _ _ (@pv _ 0 _ _ (by rfl) (by first | exact Or.inl rfl | exact Or.inr (Or.inl rfl) | exact Or.inr (Or.inr rfl)) (by decide) (by decide)) (@pa_cons _ _ _ _ _ (@pv _ 1 _ _ (by rfl) (by first | exact Or.inl rfl | exact Or.inr (Or.inl rfl) | exact Or.inr (Or.inr rfl)) (by decide) (by decide)) (@pa_cons _ _ _ _ _ (@pe_ix _ _ _ _ _ _ _ (@kix_seq _ K (by rfl)) (@pe_lst _ _ _ _ (@pa_cons _ _ _ _ _ (@pe_int _ _ _ _) (@pa_cons _ _ _ _ _ (@pe_int _ _ _ _) (@pa_cons _ _ _ _ _ (@pe_int _ _ _ _) (@pa_cons _ _ _ _ _ (@pe_int _ _ _ _) (@pa_nil _) (by rfl)) (by rfl)) (by rfl)) (by rfl))) (@pe_def _ _ _ _ _ _ _ _ _ _ _ d_law_draw hr (by omega) rfl (@pa_cons _ _ _ _ _ (@pv _ 0 _ _ (by rfl) (by first | exact Or.inl rfl | exact Or.inr (Or.inl rfl) | exact Or.inr (Or.inr rfl)) (by decide) (by decide)) (@pa_cons _ _ _ _ _ (@pe_int _ _ _ _) (@pa_nil _) (by rfl)) (by rfl)) (by decide) (by rfl) (by rfl)) (fun _ _ => rfl)) (@pa_nil _) (by rfl)) (by rfl)) (by rfl)) (by decide) (by rfl) (by rfl)) (by rfl) (by first | exact .inl rfl | exact .inr rfl | assumption)) (@pss_cons _ _ _ _ _ (@ps_set _ _ 3 _ _ _ _ sc_law_right.nd rfl (Or.inl rfl) (@pe_def _ _ _ _ _ _ _ _ _ _ _ d_law_unlike hr (by omega) rfl (@pa_cons _ _ _ _ _ (@pv _ 2 _ _ (by rfl) (by first | exact Or.inl rfl | exact Or.inr (Or.inl rfl) | exact Or.inr (Or.inr rfl)) (by decide) (by decide)) (@pa_nil _) (by rfl)) (by decide) (by rfl) (by rfl)) (by rfl) (by first | exact .inl rfl | exact .inr rfl | assumption)) (@pss_cons _ _ _ _ _ (@ps_for _ _ _ _ _ _ _ _ PassesOwn.never rfl (@pi_range1 _ _ _ _ _ _ rfl gb.range (@pa_cons _ _ _ _ _ (@pe_int _ _ _ _) (@pa_nil _) (by rfl)) (by rfl)) (@pg_name _ _ 4 _ sc_law_right.nd rfl (Or.inl rfl) (by first | exact .inl rfl | exact .inr rfl | assumption)) (@pss_cons _ _ _ _ _ (@ps_set _ _ 5 _ _ _ _ sc_law_right.nd rfl (Or.inl rfl) (@pe_def _ _ _ _ _ _ _ _ _ _ _ d_law_draw hr (by omega) rfl (@pa_cons _ _ _ _ _ (@pv _ 0 _ _ (by rfl) (by first | exact Or.inl rfl | exact Or.inr (Or.inl rfl) | exact Or.inr (Or.inr rfl)) (by decide) (by decide)) (@pa_cons _ _ _ _ _ (@pe_ix _ _ _ _ _ _ _ (@kix_seq _ K (by rfl)) (@pv _ 2 _ _ (by rfl) (by first | exact Or.inl rfl | exact Or.inr (Or.inl rfl) | exact Or.inr (Or.inr rfl)) (by decide) (by decide)) (@pe_int _ _ _ _) (fun _ _ => rfl)) (@pa_nil _) (by rfl)) (by rfl)) (by decide) (by rfl) (by rfl)) (by rfl) (by first | exact .inl rfl | exact .inr rfl | assumption)) (@pss_cons _ _ _ _ _ (@ps_set _ _ 6 _ _ _ _ sc_law_right.nd rfl (Or.inl rfl) (@pe_def _ _ _ _ _ _ _ _ _ _ _ d_law_draw hr (by omega) rfl (@pa_cons _ _ _ _ _ (@pv _ 0 _ _ (by rfl) (by first | exact Or.inl rfl | exact Or.inr (Or.inl rfl) | exact Or.inr (Or.inr rfl)) (by decide) (by decide)) (@pa_cons _ _ _ _ _ (@pe_ix _ _ _ _ _ _ _ (@kix_seq _ K (by rfl)) (@pv _ 2 _ _ (by rfl) (by first | exact Or.inl rfl | exact Or.inr (Or.inl rfl) | exact Or.inr (Or.inr rfl)) (by decide) (by decide)) (@pe_int _ _ _ _) (fun _ _ => rfl)) (@pa_nil _) (by rfl)) (by rfl)) (by decide) (by rfl) (by rfl)) (by rfl) (by first | exact .inl rfl | exact .inr rfl | assumption)) (@pss_cons _ _ _ _ _ (@ps_set _ _ 7 _ _ _ _ sc_law_right.nd rfl (Or.inl rfl) (@pe_def _ _ _ _ _ _ _ _ _ _ _ d_parting hr (by omega) rfl (@pa_cons _ _ _ _ _ (@pv _ 2 _ _ (by rfl) (by first | exact Or.inl rfl | exact Or.inr (Or.inl rfl) | exact Or.inr (Or.inr rfl)) (by decide) (by decide)) (@pa_cons _ _ _ _ _ (@pv _ 5 _ _ (by rfl) (by first | exact Or.inl rfl | exact Or.inr (Or.inl rfl) | exact Or.inr (Or.inr rfl)) (by decide) (by decide)) (@pa_cons _ _ _ _ _ (@pv _ 6 _ _ (by rfl) (by first | exact Or.inl rfl | exact Or.inr (Or.inl rfl) | exact Or.inr (Or.inr rfl)) (by decide) (by decide)) (@pa_nil _) (by rfl)) (by rfl)) (by rfl)) (by decide) (by rfl) (by rfl)) (by rfl) (by first | exact .inl rfl | exact .inr rfl | assumption)) (@pss_cons _ _ _ _ _ (@ps_if _ _ _ _ _ _ _ _ (@pt_cmpR _ _ _ _ _ _ _ _ (@op_ne _) (@pe_dget _ _ _ _ _ _ (@hu1 _ _ hr) (@pv _ 3 _ _ (by rfl) (by first | exact Or.inl rfl | exact Or.inr (Or.inl rfl) | exact Or.inr (Or.inr rfl)) (by decide) (by decide)) (@pe_tup _ _ _ _ _ (@pa_cons _ _ _ _ _ (@pv _ 5 _ _ (by rfl) (by first | exact Or.inl rfl | exact Or.inr (Or.inl rfl) | exact Or.inr (Or.inr rfl)) (by decide) (by decide)) (@pa_cons _ _ _ _ _ (@pv _ 6 _ _ (by rfl) (by first | exact Or.inl rfl | exact Or.inr (Or.inl rfl) | exact Or.inr (Or.inr rfl)) (by decide) (by decide)) (@pa_nil _) (by rfl)) (by rfl))) (fun _ _ => rfl)) (@pe_cmpR _ _ _ _ _ _ _ _ (@op_notN _) (@pv _ 7 _ _ (by rfl) (by first | exact Or.inl rfl | exact Or.inr (Or.inl rfl) | exact Or.inr (Or.inr rfl)) (by decide) (by decide)) (@pe_non _ _ _) (@nomark _ _ (by decide) (by decide))) (@nomark _ _ (by decide) (by decide))) (@pss_one _ _ _ (@ps_ret _ _ _ _ (@pe_bl _ _ _ _))) (@pss_nil _)) (@pss_cons _ _ _ _ _ (@ps_if _ _ _ _ _ _ _ _ (@PW.pt _ _ _ (@pw_and _ _ _ _ _ _ _ (@pt_cmpR _ _ _ _ _ _ _ _ (@op_notN _) (@pv _ 7 _ _ (by rfl) (by first | exact Or.inl rfl | exact Or.inr (Or.inl rfl) | exact Or.inr (Or.inr rfl)) (by decide) (by decide)) (@pe_non _ _ _) (@nomark _ _ (by decide) (by decide))) (@pw_and1 _ _ _ _ (@pt_not _ _ _ _ (@pt_val _ _ _ (@pe_def _ _ _ _ _ _ _ _ _ _ _ d_law_steps_right hr (by omega) rfl (@pa_cons _ _ _ _ _ (@pv _ 2 _ _ (by rfl) (by first | exact Or.inl rfl | exact Or.inr (Or.inl rfl) | exact Or.inr (Or.inr rfl)) (by decide) (by decide)) (@pa_cons _ _ _ _ _ (@pv _ 7 _ _ (by rfl) (by first | exact Or.inl rfl | exact Or.inr (Or.inl rfl) | exact Or.inr (Or.inr rfl)) (by decide) (by decide)) (@pa_cons _ _ _ _ _ (@pv _ 5 _ _ (by rfl) (by first | exact Or.inl rfl | exact Or.inr (Or.inl rfl) | exact Or.inr (Or.inr rfl)) (by decide) (by decide)) (@pa_cons _ _ _ _ _ (@pv _ 6 _ _ (by rfl) (by first | exact Or.inl rfl | exact Or.inr (Or.inl rfl) | exact Or.inr (Or.inr rfl)) (by decide) (by decide)) (@pa_nil _) (by rfl)) (by rfl)) (by rfl)) (by rfl)) (by decide) (by rfl) (by rfl)) (by intro _; rfl)))))) (@pss_one _ _ _ (@ps_ret _ _ _ _ (@pe_bl _ _ _ _))) (@pss_nil _)) (@pss_one _ _ _ (@ps_if _ _ _ _ _ _ _ _ (@pt_cmpR _ _ _ _ _ _ _ _ (@op_ne _) (@pe_cmpR _ _ _ _ _ _ _ _ (@op_isN _) (@pe_def _ _ _ _ _ _ _ _ _ _ _ d_parting hr (by omega) rfl (@pa_cons _ _ _ _ _ (@pv _ 2 _ _ (by rfl) (by first | exact Or.inl rfl | exact Or.inr (Or.inl rfl) | exact Or.inr (Or.inr rfl)) (by decide) (by decide)) (@pa_cons _ _ _ _ _ (@pv _ 6 _ _ (by rfl) (by first | exact Or.inl rfl | exact Or.inr (Or.inl rfl) | exact Or.inr (Or.inr rfl)) (by decide) (by decide)) (@pa_cons _ _ _ _ _ (@pv _ 5 _ _ (by rfl) (by first | exact Or.inl rfl | exact Or.inr (Or.inl rfl) | exact Or.inr (Or.inr rfl)) (by decide) (by decide)) (@pa_nil _) (by rfl)) (by rfl)) (by rfl)) (by decide) (by rfl) (by rfl)) (@pe_non _ _ _) (@nomark _ _ (by decide) (by decide))) (@pe_cmpR _ _ _ _ _ _ _ _ (@op_isN _) (@pv _ 7 _ _ (by rfl) (by first | exact Or.inl rfl | exact Or.inr (Or.inl rfl) | exact Or.inr (Or.inr rfl)) (by decide) (by decide)) (@pe_non _ _ _) (@nomark _ _ (by decide) (by decide))) (@nomark _ _ (by decide) (by decide))) (@pss_one _ _ _ (@ps_ret _ _ _ _ (@pe_bl _ _ _ _))) (@pss_nil _)))))))) (by intro _; rfl)) (@pss_cons _ _ _ _ _ (@ps_set _ _ 8 _ _ _ _ sc_law_right.nd rfl (Or.inr rfl) (@pe_def _ _ _ _ _ _ _ _ _ _ _ d_law_one_steps hr (by omega) rfl (@pa_cons _ _ _ _ _ (@pv _ 2 _ _ (by rfl) (by first | exact Or.inl rfl | exact Or.inr (Or.inl rfl) | exact Or.inr (Or.inr rfl)) (by decide) (by decide)) (@pa_nil _) (by rfl)) (by decide) (by rfl) (by rfl)) (by rfl) (by first | exact .inl rfl | exact .inr rfl | assumption)) (@pss_cons _ _ _ _ _ (@ps_set _ _ 9 _ _ _ _ sc_law_right.nd rfl (Or.inl rfl) (@pe_callTy _ _ _ _ _ _ _ _ _ (@kcall_tuple_of _ K (by rfl)) rfl gb.tuple bt_tuple (@pa_cons _ _ _ _ _ (@pe_comp _ ["_law_k", "_law_some", "_law_well_here"] [none, some 8, some 0] _ _ _ _ _ _ _ _ _ _ (by exact (show CompOk ["_law_well_here", "_law_most", "_law_table_here", "_law_unlike_here", "_law_turn", "_law_one", "_law_other", "_law_found", "_law_some", "_law_steps", "_law_mark"] (defScope s_law_right) ["_law_k", "_law_some", "_law_well_here"] [none, some 8, some 0] _ from ⟨rfl, by decide +kernel, by decide +kernel, by decide +kernel, by decide +kernel, rfl, by decide +kernel⟩)) rfl (@pi_range1 _ _ _ _ _ _ rfl gb.range (@pa_cons _ _ _ _ _ (@pe_op _ _ _ _ _ _ _ _ (@op_mul _) (@pe_def _ _ _ _ _ _ _ _ _ _ _ d_law_draw hr (by omega) rfl (@pa_cons _ _ _ _ _ (@pv _ 0 _ _ (by rfl) (by first | exact Or.inl rfl | exact Or.inr (Or.inl rfl) | exact Or.inr (Or.inr rfl)) (by decide) (by decide)) (@pa_cons _ _ _ _ _ (@pe_int _ _ _ _) (@pa_nil _) (by rfl)) (by rfl)) (by decide) (by rfl) (by rfl)) (@pe_callTy _ _ _ _ _ _ _ _ _ (@call_int1 _) rfl gb.int bt_int (@pa_cons _ _ _ _ _ (@pe_cmpR _ _ _ _ _ _ _ _ (@op_neNil _ K _ hr (by rfl)) (@pv _ 8 _ _ (by rfl) (by first | exact Or.inl rfl | exact Or.inr (Or.inl rfl) | exact Or.inr (Or.inr rfl)) (by decide) (by decide)) (@pe_lst _ _ _ _ (@pa_nil _)) (@nomark _ _ (by decide) (by decide))) (@pa_nil _) (by rfl)) (by decide) (by decide) (by rfl) (by rfl))) (@pa_nil _) (by rfl)) (by rfl)) (fun _ _ _ _ => (@pg_name _ _ 0 _ nd0 rfl (Or.inl rfl) (by first | exact .inl rfl | exact .inr rfl | assumption))) (fun _ _ _ _ => (@pf_nil _)) (fun _ _ _ _ => (@pe_ix _ _ _ _ _ _ _ (@kix_seq _ K (by rfl)) (@pv _ 1 _ _ (by rfl) (by first | exact Or.inl rfl | exact Or.inr (Or.inl rfl) | exact Or.inr (Or.inr rfl)) (by decide) (by decide)) (@pe_def _ _ _ _ _ _ _ _ _ _ _ d_law_draw hr (by omega) rfl (@pa_cons _ _ _ _ _ (@pv _ 2 _ _ (by rfl) (by first | exact Or.inl rfl | exact Or.inr (Or.inl rfl) | exact Or.inr (Or.inr rfl)) (by decide) (by decide)) (@pa_cons _ _ _ _ _ (@pe_callB _ _ _ _ _ _ _ _ _ (@kcall_len _ K (by rfl)) rfl gb.len bt_len (@pa_cons _ _ _ _ _ (@pv _ 1 _ _ (by rfl) (by first | exact Or.inl rfl | exact Or.inr (Or.inl rfl) | exact Or.inr (Or.inr rfl)) (by decide) (by decide)) (@pa_nil _) (by rfl)) (by decide) (by decide) (by rfl) (by rfl)) (@pa_nil _) (by rfl)) (by rfl)) (by decide) (by rfl) (by rfl)) (fun _ _ => rfl))) (by intro _; rfl)) (@pa_nil _) (by rfl)) (by decide) (by decide) (by rfl) (by rfl)) (by rfl) (by first | exact .inl rfl | exact .inr rfl | assumption)) (@pss_cons _ _ _ _ _ (@ps_set _ _ 10 _ _ _ _ sc_law_right.nd rfl (Or.inl rfl) (@pe_def _ _ _ _ _ _ _ _ _ _ _ d_law_draw hr (by omega) rfl (@pa_cons _ _ _ _ _ (@pv _ 0 _ _ (by rfl) (by first | exact Or.inl rfl | exact Or.inr (Or.inl rfl) | exact Or.inr (Or.inr rfl)) (by decide) (by decide)) (@pa_cons _ _ _ _ _ (@pe_ix _ _ _ _ _ _ _ (@kix_seq _ K (by rfl)) (@pv _ 2 _ _ (by rfl) (by first | exact Or.inl rfl | exact Or.inr (Or.inl rfl) | exact Or.inr (Or.inr rfl)) (by decide) (by decide)) (@pe_int _ _ _ _) (fun _ _ => rfl)) (@pa_nil _) (by rfl)) (by rfl)) (by decide) (by rfl) (by rfl)) (by rfl) (by first | exact .inl rfl | exact .inr rfl | assumption)) (@pss_one _ _ _ (@ps_ret _ _ _ _ (@pe_and _ _ _ _ _ _ _ (@pe_cmpR _ _ _ _ _ _ _ _ (@op_eq _) (@pe_def _ _ _ _ _ _ _ _ _ _ _ d_led hr (by omega) rfl (@pa_cons _ _ _ _ _ (@pv _ 2 _ _ (by rfl) (by first | exact Or.inl rfl | exact Or.inr (Or.inl rfl) | exact Or.inr (Or.inr rfl)) (by decide) (by decide)) (@pa_cons _ _ _ _ _ (@pv _ 9 _ _ (by rfl) (by first | exact Or.inl rfl | exact Or.inr (Or.inl rfl) | exact Or.inr (Or.inr rfl)) (by decide) (by decide)) (@pa_cons _ _ _ _ _ (@pv _ 10 _ _ (by rfl) (by first | exact Or.inl rfl | exact Or.inr (Or.inl rfl) | exact Or.inr (Or.inr rfl)) (by decide) (by decide)) (@pa_nil _) (by rfl)) (by rfl)) (by rfl)) (by decide) (by rfl) (by rfl)) (@pe_def _ _ _ _ _ _ _ _ _ _ _ d_law_walked hr (by omega) rfl (@pa_cons _ _ _ _ _ (@pv _ 2 _ _ (by rfl) (by first | exact Or.inl rfl | exact Or.inr (Or.inl rfl) | exact Or.inr (Or.inr rfl)) (by decide) (by decide)) (@pa_cons _ _ _ _ _ (@pv _ 9 _ _ (by rfl) (by first | exact Or.inl rfl | exact Or.inr (Or.inl rfl) | exact Or.inr (Or.inr rfl)) (by decide) (by decide)) (@pa_cons _ _ _ _ _ (@pv _ 10 _ _ (by rfl) (by first | exact Or.inl rfl | exact Or.inr (Or.inl rfl) | exact Or.inr (Or.inr rfl)) (by decide) (by decide)) (@pa_nil _) (by rfl)) (by rfl)) (by rfl)) (by decide) (by rfl) (by rfl)) (@nomark _ _ (by decide) (by decide))) (@pe_one _ _ _ _ _ (@pe_cmpR _ _ _ _ _ _ _ _ (@op_eq _) (@pe_def _ _ _ _ _ _ _ _ _ _ _ d_led hr (by omega) rfl (@pa_cons _ _ _ _ _ (@pv _ 2 _ _ (by rfl) (by first | exact Or.inl rfl | exact Or.inr (Or.inl rfl) | exact Or.inr (Or.inr rfl)) (by decide) (by decide)) (@pa_cons _ _ _ _ _ (@pe_tup _ _ _ _ _ (@pa_nil _)) (@pa_cons _ _ _ _ _ (@pv _ 10 _ _ (by rfl) (by first | exact Or.inl rfl | exact Or.inr (Or.inl rfl) | exact Or.inr (Or.inr rfl)) (by decide) (by decide)) (@pa_nil _) (by rfl)) (by rfl)) (by rfl)) (by decide) (by rfl) (by rfl)) (@pv _ 10 _ _ (by rfl) (by first | exact Or.inl rfl | exact Or.inr (Or.inl rfl) | exact Or.inr (Or.inr rfl)) (by decide) (by decide)) (@nomark _ _ (by decide) (by decide)))))))))))))), ?_⟩
  refine ⟨small9 (by show 4 ≤ 1000; decide), fun L hL => ?_⟩
  have n1 := same_new hL (.lst [V.int 5, V.int 6, V.int 6, V.int 9])
  have w1 := w.same n1
  have pL := w.ne hL
  refine ⟨_, rfl, p, 4, rfl, w1, by decide, by decide, fun v1 H2 v11 o2 w2 => ?_⟩
  have hL2 := o2 L _ (Ne.symm pL) upd_same
  obtain ⟨mo, emo, mo1, mo9⟩ : ∃ mo : Nat, atI [V.int 5, V.int 6, V.int 6, V.int 9] (v1 : Int) = some (nV mo) ∧ 1 ≤ mo ∧ mo ≤ 9 := by
    match v1, v11 with
    | 0, _ => exact ⟨5, rfl, by decide, by decide⟩
    | 1, _ => exact ⟨6, rfl, by decide, by decide⟩
    | 2, _ => exact ⟨6, rfl, by decide, by decide⟩
    | 3, _ => exact ⟨9, rfl, by decide, by decide⟩
  refine .inl ⟨L, _, _, _, rfl, rfl, SqL.of hL2, emo, ?_⟩
  have o02 : Off p H H2 := (Off.of n1).trans o2
  refine ⟨_, rfl, _, rfl, small9 (by show 4 ≤ 1000; decide), fun M hM => ?_⟩
  have n3 := same_new hM (.lst [V.int 4, V.int 4, V.int 4, V.int 8])
  have w3 := w2.same n3
  have pM := w2.ne hM
  refine ⟨_, rfl, p, 4, rfl, w3, by decide, by decide, fun v2 H4 v21 o4 w4 => ?_⟩
  have hM4 := o4 M _ (Ne.symm pM) upd_same
  obtain ⟨so, eso, so8⟩ : ∃ so : Nat, atI [V.int 4, V.int 4, V.int 4, V.int 8] (v2 : Int) = some (nV so) ∧ so ≤ 8 := by
    match v2, v21 with
    | 0, _ => exact ⟨4, rfl, by decide⟩
    | 1, _ => exact ⟨4, rfl, by decide⟩
    | 2, _ => exact ⟨4, rfl, by decide⟩
    | 3, _ => exact ⟨8, rfl, by decide⟩
  refine .inl ⟨M, _, _, _, rfl, rfl, SqL.of hM4, eso, ?_⟩
  refine ⟨p, mo, so, rfl, w4, mo1, mo9, so8, fun v T H5 o5 w5 gT nT ia => ?_⟩
  have o05 : Off p H H5 := o02.trans ((Off.of n3).trans (o4.trans o5))
  obtain ⟨a, w0, c, vs, rfl, h1, h2, h3, h4⟩ := id ia
  have m9 := gT.m9
  have m1 := gT.m1
  have gcl := gT.cl
  refine ⟨_, rfl, .ref a, T, rfl, ia, gT, nT, fun ud kvs f H6 s6 hud hF hf => ?_⟩
  have w6 := w5.same s6
  have o06 : Off p H H6 := o05.trans (Off.of s6)
  have ia6 := ia.same s6
  have h16 := s6 _ _ h1
  have udp : ud ≠ p := fun z => by
    obtain ⟨x0, y0, hp⟩ := id w6
    rw [z, hp] at hud
    cases hud
  refine ⟨(4 : Int), rfl, by decide, by decide, ?_⟩
  refine for_range (fun i σ H' => (∃ x4 x5 x6 x7 x8 x9 x10, σ = [some (.ref p), some (nV mo), some (.ref a), some (.ref ud), x4, x5, x6, x7, x8, x9, x10]) ∧ Off p H6 H' ∧ Wel H' p) ⟨⟨_, _, _, _, _, _, _, rfl⟩, Off.refl, w6⟩ ?_ ?_
  · rintro i σ H7 hi ⟨⟨x4, x5, x6, x7, x8, x9, x10, rfl⟩, o7, w7⟩
    have k7 := w6.tk o7
    refine ⟨_, rfl, _, rfl, .inr (.inl ⟨a, _, 0, _, rfl, rfl, SqT.of (k7 _ _ h16), rfl, p, T.m, rfl, w7, by omega, by omega, fun x H8 hx o8 w8 => ?_⟩)⟩
    have k8 := k7.trans (w7.tk o8)
    refine ⟨_, rfl, _, rfl, .inr (.inl ⟨a, _, 0, _, rfl, rfl, SqT.of (k8 _ _ h16), rfl, p, T.m, rfl, w8, by omega, by omega, fun y H9 hy o9 w9 => ?_⟩)⟩
    have k9 := k8.trans (w8.tk o9)
    have o69 := o7.trans (o8.trans o9)
    have hud9 := o69 _ _ udp hud
    have ia9 := ia6.tk k9
    refine ⟨_, rfl, _, rfl, _, rfl, .ref a, T, x, y, rfl, ia9, gT, nT, hx, hy, fun hE HA sA => ?_, fun hE t xs ss HA sA ht hS hsm h100 hnw => ?_⟩
    · have hu : f x y = false := by
        rw [hf x y hx hy]
        unfold unB
        rw [decide_eq_true hE]
        rfl
      refine ⟨_, rfl, _, rfl, _, rfl, small9 (by show 2 ≤ 1000; decide), fun kt hkt => ?_⟩
      have nA := same_new hkt (.tup [nV x, nV y])
      have hg : DGet (upd HA kt (.tup [nV x, nV y])) ud (.ref kt) (valV kvs (pk (x, y))) := DGet.t (nA _ _ (sA _ _ hud9)) upd_same
      rw [hF.val _ (prs_mem hx hy), show f (x, y).1 (x, y).2 = f x y from rfl, hu] at hg
      refine ⟨ud, _, rfl, hg, _, rfl, rfl, rfl, _, rfl, ?_⟩
      refine ite2 (fun z => absurd z (by simp)) (fun _ => ?_)
      have SA := sA.trans nA
      refine ⟨_, rfl, rfl, _, rfl, ?_⟩
      refine ite2 (fun z => absurd z (by simp)) (fun _ => ?_)
      refine iteF ?_
      refine ⟨_, rfl, _, rfl, _, rfl, .ref a, T, y, x, rfl, ia9.same SA, gT, nT, hy, hx, fun _ HB sB => ?_, fun hE' => absurd hE.symm hE'⟩
      refine ⟨rfl, _, rfl, rfl, rfl, _, rfl, ?_⟩
      refine ite2 (fun z => absurd z (by simp)) (fun _ => ?_)
      have SB := SA.trans sB
      exact ⟨⟨_, _, _, _, _, _, _, rfl⟩, o69.trans (Off.of SB), w9.same SB⟩
    · have hu : f x y = true := by
        rw [hf x y hx hy]
        unfold unB
        rw [decide_eq_false hE]
        rfl
      refine ⟨_, rfl, _, rfl, _, rfl, small9 (by show 2 ≤ 1000; decide), fun kt hkt => ?_⟩
      have nA := same_new hkt (.tup [nV x, nV y])
      have hg : DGet (upd HA kt (.tup [nV x, nV y])) ud (.ref kt) (valV kvs (pk (x, y))) := DGet.t (nA _ _ (sA _ _ hud9)) upd_same
      rw [hF.val _ (prs_mem hx hy), show f (x, y).1 (x, y).2 = f x y from rfl, hu] at hg
      refine ⟨ud, _, rfl, hg, _, rfl, rfl, rfl, _, rfl, ?_⟩
      refine ite2 (fun z => absurd z (by simp)) (fun _ => ?_)
      have SA := sA.trans nA
      refine ⟨_, rfl, rfl, _, rfl, ?_⟩
      refine ite2 (fun _ => ?_) (fun z => absurd (by simp) z)
      rw [walk_eq] at hnw
      refine ⟨_, rfl, _, rfl, _, rfl, _, rfl, .ref a, t, T, xs, ss, x, y, rfl, ia9.same SA, gT, nT, nA _ _ ht, Sts.tk (Tk.of nA) hS, hsm, h100, hx, hy, hnw, fun HC sC => ⟨_, rfl, ?_⟩⟩
      refine iteF ?_
      have SC := SA.trans sC
      refine ⟨_, rfl, _, rfl, _, rfl, .ref a, T, y, x, rfl, ia9.same SC, gT, nT, hy, hx, fun hE' => absurd hE'.symm hE, fun _ t2 xs2 ss2 HB sB _ _ _ _ _ => ?_⟩
      refine ⟨rfl, _, rfl, rfl, rfl, _, rfl, ?_⟩
      refine ite2 (fun z => absurd z (by simp)) (fun _ => ?_)
      have SB := SC.trans sB
      exact ⟨⟨_, _, _, _, _, _, _, rfl⟩, o69.trans (Off.of SB), w9.same SB⟩
  · rintro σ H7 ⟨⟨x4, x5, x6, x7, x8, x9, x10, rfl⟩, o7, w7⟩
    have k7 := w6.tk o7
    have ia7 := ia6.tk k7
    refine ⟨_, rfl, .ref a, T, rfl, ia7, gT, fun sl ys HB fsl sB hsl hS => ?_⟩
    have wB := w7.same sB
    have slp : sl ≠ p := fun z => by
      obtain ⟨x0, y0, hp⟩ := id w7
      rw [z, hp] at fsl
      cases fsl
    have kB := k7.trans (Tk.of sB)
    have iaB := ia6.tk kB
    have hyl := Paired.length hS
    have sl18 : (stps2 T).length ≤ 18 * T.cs.length := stps2_len m9 T.cs
    refine ⟨_, rfl, p, 7, rfl, wB, by decide, by decide, fun v7 HC v71 oC wC => ?_⟩
    refine ⟨_, rfl, small9 (by show 0 ≤ 1000; decide), fun le hle => ?_⟩
    have nD := same_new hle (.lst [])
    have hle2 : (upd HC le (.lst [])) le = some (.lst []) := upd_same
    have hslC := oC _ _ slp hsl
    have wD := wC.same nD
    have oBD : Off p HB (upd HC le (.lst [])) := oC.trans (Off.of nD)
    generalize upd HC le (.lst []) = HD at *
    refine ⟨sl, le, ys, rfl, rfl, SqL.of (nD _ _ hslC), SqL.of hle2, .inr ⟨_, rfl, ?_⟩⟩
    obtain ⟨N, eN, N0, N7, hN⟩ : ∃ N : Int, (v7 : Int) * (if (!ys.isEmpty) = true then 1 else 0) = N ∧ 0 ≤ N ∧ N ≤ 7 ∧ (0 < N → 1 ≤ ys.length) := by
      refine ⟨_, rfl, ?_, ?_, ?_⟩
      · split <;> omega
      · split <;> omega
      · intro h
        cases ys with
        | nil => simp at h
        | cons x xs => simp
    refine ⟨_, _, rfl, rfl, .inl ⟨by omega, by omega⟩, N, by (show [V.int _] = _; rw [eN]), by omega, by omega, fun D hD => ?_⟩
    have pD := wD.ne hD
    refine comp_range (fun i zs H' => ∃ ss : List Stp, Sts H' ss zs ∧ (∀ s ∈ ss, s ∈ stps T) ∧ zs.length = i ∧ Off p HD H' ∧ Wel H' p) ⟨[], .nil, (fun s h => by cases h), rfl, Off.new hD, wD.off pD⟩ ?_ ?_
    · rintro i zs HE hi ⟨ss, hss, hsm, zl, oE, wE⟩ hDE
      have y1 : 1 ≤ ys.length := hN (by omega)
      have hslE := (oBD.trans oE) _ _ slp hsl
      refine yes ⟨_, rfl, _, rfl, _, rfl, _, _, rfl, .inl ⟨_, SqL.of hslE, rfl⟩, p, ys.length, rfl, wE, by omega, by omega, fun k HF hk oF wF => ?_⟩
      have hslF := oF _ _ slp hslE
      have hsk : (stps2 T)[k]? = some (stps2 T)[k] := List.getElem?_eq_getElem (by omega)
      generalize (stps2 T)[k] = s at hsk
      obtain ⟨v', e1, ts, rfl, hts⟩ := paired_get hS hsk
      have hsm' := stp2_mem.mp (List.mem_of_getElem? hsk)
      refine .inl ⟨sl, _, _, _, rfl, rfl, SqL.of hslF, atI_nat e1, ?_⟩
      have hDF := oF D _ (Ne.symm pD) hDE
      have kF : Tk HB HF := wB.tk (oBD.trans (oE.trans oF))
      refine cyes hi rset1 hDF (small1000 (by omega)) ⟨ss ++ [s], ?_, fun s' hs' => ?_, by rw [List.length_append, zl]; rfl, (oE.trans oF).fresh hD, wF.off pD⟩
      · exact Sts.app (Sts.tk ((wE.tk oF).trans (Tk.put hDF)) hss) (.cons ⟨ts, rfl, Tk.put hDF _ _ (kF _ _ hts)⟩ .nil)
      · rcases List.mem_append.mp hs' with h | h
        · exact hsm s' h
        · rw [List.mem_singleton.mp h]
          exact hsm'
    rintro zs HE ⟨ss, hss, hsm, zl, oE, wE⟩ hDE
    refine ⟨D, _, rfl, .inl ⟨SqL.of hDE, fun st hst => ?_⟩⟩
    have nF := same_new hst (.tup zs)
    have wF := wE.same nF
    have hst' : (upd HE st (.tup zs)) st = some (.tup zs) := upd_same
    have hssF : Sts (upd HE st (.tup zs)) ss zs := Sts.tk (Tk.of nF) hss
    have oHF : Off p H6 (upd HE st (.tup zs)) := o7.trans ((Off.of sB).trans (oBD.trans (oE.trans (Off.of nF))))
    generalize upd HE st (.tup zs) = HF at *
    have kF := w6.tk oHF
    have iaF := ia6.tk kF
    refine ⟨_, rfl, _, rfl, .inr (.inl ⟨a, _, 0, _, rfl, rfl, SqT.of (kF _ _ h16), rfl, p, T.m, rfl, wF, by omega, by omega, fun mk HG hmk oG wG => ?_⟩)⟩
    have kG := wF.tk oG
    have iaG := iaF.tk kG
    refine ⟨_, rfl, _, rfl, _, rfl, .ref a, st, T, zs, ss, mk, rfl, iaG, gT, nT, kG _ _ hst', Sts.tk kG hssF, hsm, hmk, fun HI sI => ?_⟩
    refine ⟨_, rfl, _, rfl, _, rfl, .ref a, st, T, zs, ss, mk, rfl, iaG.same sI, gT, nT, sI _ _ (kG _ _ hst'), Sts.tk (kG.trans (Tk.of sI)) hssF, hsm, hmk, fun HJ sJ => ?_⟩
    refine ⟨rfl, _, rfl, ?_⟩
    refine ite2 (fun _ => ?_) (fun z => absurd (by simp) z)
    refine ⟨_, rfl, Nat.zero_le _, fun te hte => ?_⟩
    have nK := same_new hte (.tup [])
    have SK := sI.trans (sJ.trans nK)
    refine ⟨_, rfl, .ref a, te, T, [], [], mk, rfl, iaG.same SK, gT, nT, upd_same, .nil, (fun s h => by cases h), hmk, fun HL sL => ?_⟩
    refine ⟨_, rfl, rfl, ?_⟩
    rw [decide_eq_true (show nV (walk1 T.m [] mk) = nV mk from rfl)]
    exact q HL (o06.trans (oHF.trans (oG.trans (Off.of (SK.trans sL)))))

abbrev s_law : Stmt := top 22
theorem sc_law : FnScope ["_law_script"] ["_law_script"] (defScope s_law) := ⟨rfl, rfl, rfl, by decide +kernel, rfl, by decide +kernel, by decide +kernel⟩
theorem ok_law {P : Program} {w : World} {K : PySem.W.Frag} {mg : Str → Option Value} {base : Heap} {f : Addr} {fd : FuncData} (F : Fun K "law" "law" s_law f fd) (gb : Gb mg) (d_law_right : Def P w K mg base 6 "_law_right" ["_law_well_here"] spRight) (d_law_well : Def P w K mg base 1 "_law_well" ["_law_script", "_law_place"] (spWell K)) : FnOk P w K mg base CX0 7 f fd ["_law_script"] (spLaw K) := by
  refine F.ok sc_law (fun vs H Q E h => ?_) (fun cdv A outer s H vs Q E hr h => ?_)
  · obtain ⟨a, ns, rfl, _⟩ := h
    rfl
  obtain ⟨a, ns, rfl, hS, hn, q⟩ := h
  have nd0 : (["_law_k", "_law_script"] : List Str).Nodup := by decide +kernel
  refine ⟨_, (@pss_one _ _ _ (@ps_ret _ _ _ _ (@pe_callB _ _ _ _ _ _ _ _ _ (@kcall_all _ K rfl (by rfl)) rfl gb.all bt_all (@pa_cons _ _ _ _ _ (@pe_comp _ ["_law_k", "_law_script"] [none, some 0] _ _ _ _ _ _ _ _ _ _ (by exact (show CompOk ["_law_script"] (defScope s_law) ["_law_k", "_law_script"] [none, some 0] _ from ⟨rfl, by decide +kernel, by decide +kernel, by decide +kernel, by decide +kernel, rfl, by decide +kernel⟩)) rfl (@pi_range1 _ _ _ _ _ _ rfl gb.range (@pa_cons _ _ _ _ _ (@pe_callB _ _ _ _ _ _ _ _ _ (@kcall_max2 _ K rfl) rfl gb.max bt_max (@pa_cons _ _ _ _ _ (@pe_int _ _ _ _) (@pa_cons _ _ _ _ _ (@pe_callB _ _ _ _ _ _ _ _ _ (@kcall_min2 _ K rfl) rfl gb.min bt_min (@pa_cons _ _ _ _ _ (@pe_callB _ _ _ _ _ _ _ _ _ (@kcall_len _ K (by rfl)) rfl gb.len bt_len (@pa_cons _ _ _ _ _ (@pv _ 0 _ _ (by rfl) (by first | exact Or.inl rfl | exact Or.inr (Or.inl rfl) | exact Or.inr (Or.inr rfl)) (by decide) (by decide)) (@pa_nil _) (by rfl)) (by decide) (by decide) (by rfl) (by rfl)) (@pa_cons _ _ _ _ _ (@pe_int _ _ _ _) (@pa_nil _) (by rfl)) (by rfl)) (by decide) (by decide) (by rfl) (by rfl)) (@pa_nil _) (by rfl)) (by rfl)) (by decide) (by decide) (by rfl) (by rfl)) (@pa_nil _) (by rfl)) (by rfl)) (fun _ _ _ _ => (@pg_name _ _ 0 _ nd0 rfl (Or.inl rfl) (by first | exact .inl rfl | exact .inr rfl | assumption))) (fun _ _ _ _ => (@pf_nil _)) (fun _ _ _ _ => (@pe_def _ _ _ _ _ _ _ _ _ _ _ d_law_right hr (by omega) rfl (@pa_cons _ _ _ _ _ (@pe_def _ _ _ _ _ _ _ _ _ _ _ d_law_well hr (by omega) rfl (@pa_cons _ _ _ _ _ (@pv _ 1 _ _ (by rfl) (by first | exact Or.inl rfl | exact Or.inr (Or.inl rfl) | exact Or.inr (Or.inr rfl)) (by decide) (by decide)) (@pa_cons _ _ _ _ _ (@pv _ 0 _ _ (by rfl) (by first | exact Or.inl rfl | exact Or.inr (Or.inl rfl) | exact Or.inr (Or.inr rfl)) (by decide) (by decide)) (@pa_nil _) (by rfl)) (by rfl)) (by decide) (by rfl) (by rfl)) (@pa_nil _) (by rfl)) (by decide) (by rfl) (by rfl))) (by intro _; rfl)) (@pa_nil _) (by rfl)) (by decide) (by decide) (by rfl) (by rfl)))), ?_⟩
  obtain ⟨n, en, n0, n6⟩ : ∃ n : Int, (if (if (4 : Int) < ((ns.map V.int).length : Int) then 4 else ((ns.map V.int).length : Int)) > 1 then (if (4 : Int) < ((ns.map V.int).length : Int) then 4 else ((ns.map V.int).length : Int)) else 1) = n ∧ 0 ≤ n ∧ n ≤ 4 := ⟨_, rfl, by split <;> omega, by split <;> (try split) <;> omega⟩
  refine ⟨_, rfl, _, (ns.map V.int).length, rfl, .inl ⟨_, hS, rfl⟩, _, _, rfl, _, _, rfl, n, by (show [V.int _] = _; rw [en]), by omega, by omega, fun D hD => ?_⟩
  refine comp_range (fun i ys H' => Same H H' ∧ ys = (List.replicate i true).map V.bl) ⟨same_new hD _, rfl⟩ ?_ ?_
  · rintro i ys H1 hi ⟨s1, rfl⟩ hD1
    refine yes ⟨_, rfl, _, rfl, a, ns, _, rfl, s1.seq hS, hn, fun p H2 np s2 w2 => ⟨p, rfl, w2, fun H3 o3 => ?_⟩⟩
    have s3 : Same H1 H3 := fun b o e => o3 b o (ne_of_none e np) (s2 b o e)
    have hD3 := s3 _ _ hD1
    refine cyes hi rset1 hD3 (by rw [List.length_map, List.length_replicate]; exact small1000 (by omega)) ⟨(s1.trans s3).put hD, ?_⟩
    rw [List.replicate_succ', List.map_append]
    rfl
  · rintro ys H1 ⟨s1, rfl⟩ hD1
    refine ⟨D, _, rfl, SqL.of hD1, ?_⟩
    rw [show (List.replicate n.toNat true).all id = true by simp]
    exact q _

theorem lenK1 {α : Type} : ∀ {us : List α}, us.length = 1 → ∃ x0, us = [x0]
  | [x0], _ => ⟨x0, rfl⟩
theorem lenK2 {α : Type} : ∀ {us : List α}, us.length = 2 → ∃ x0 x1, us = [x0, x1]
  | [x0, x1], _ => ⟨x0, x1, rfl⟩
theorem lenK3 {α : Type} : ∀ {us : List α}, us.length = 3 → ∃ x0 x1 x2, us = [x0, x1, x2]
  | [x0, x1, x2], _ => ⟨x0, x1, x2, rfl⟩
theorem lenK4 {α : Type} : ∀ {us : List α}, us.length = 4 → ∃ x0 x1 x2 x3, us = [x0, x1, x2, x3]
  | [x0, x1, x2, x3], _ => ⟨x0, x1, x2, x3, rfl⟩
theorem all_mk {l : PySem.W.OpenLaw} {w : World} {K : PySem.W.Frag} {h : Heap} {mg : Str → Option Value} {fa f0 f1 f2 f3 f4 f5 f6 f7 f8 f9 f10 f11 f12 f13 f14 f15 f16 f17 f18 f19 : Addr} (X : K.In h) (G : h.Ns mainGlobals mg) (hfa : mg "law" = some (.ref fa))
    {od0 an0 od1 an1 od2 an2 od3 an3 od4 an4 od5 an5 od6 an6 od7 an7 od8 an8 od9 an9 od10 an10 od11 an11 od12 an12 od13 an13 od14 an14 od15 an15 od16 an16 od17 an17 od18 an18 od19 an19 : Option Addr} {sl0 sl1 sl2 sl3 sl4 sl5 sl6 sl7 sl8 sl9 sl10 sl11 sl12 sl13 sl14 sl15 sl16 sl17 sl18 sl19 : Array (Option Value)} {oc0 kV0 dc0 pm0 cd0 ct0 oc1 kV1 dc1 pm1 cd1 ct1 oc2 kV2 dc2 pm2 cd2 ct2 oc3 kV3 dc3 pm3 cd3 ct3 oc4 kV4 dc4 pm4 cd4 ct4 oc5 kV5 dc5 pm5 cd5 ct5 oc6 kV6 dc6 pm6 cd6 ct6 oc7 kV7 dc7 pm7 cd7 ct7 oc8 kV8 dc8 pm8 cd8 ct8 oc9 kV9 dc9 pm9 cd9 ct9 oc10 kV10 dc10 pm10 cd10 ct10 oc11 kV11 dc11 pm11 cd11 ct11 oc12 kV12 dc12 pm12 cd12 ct12 oc13 kV13 dc13 pm13 cd13 ct13 oc14 kV14 dc14 pm14 cd14 ct14 oc15 kV15 dc15 pm15 cd15 ct15 oc16 kV16 dc16 pm16 cd16 ct16 oc17 kV17 dc17 pm17 cd17 ct17 oc18 kV18 dc18 pm18 cd18 ct18 oc19 kV19 dc19 pm19 cd19 ct19 : Value}
    (a0 : PySem.W.nsIn K mainGlobals "cells_by_name" = some (some (.ref f0))) (l0 : K.lookup f0 = some ⟨oc0, od0, .func (PySem.W.fnOf "cells_by_name" "cells_by_name" (defArgs s_cells_by_name) (defBody s_cells_by_name) (defScope s_cells_by_name) .none kV0 dc0 pm0 an0 cd0 ct0), sl0⟩) (c0 : PySem.W.codeIn K cd0 "cells_by_name" = true) (k0 : PySem.W.keepIn K (.ref f0) = true)
    (a1 : PySem.W.nsIn K mainGlobals "steps_of" = some (some (.ref f1))) (l1 : K.lookup f1 = some ⟨oc1, od1, .func (PySem.W.fnOf "steps_of" "steps_of" (defArgs s_steps_of) (defBody s_steps_of) (defScope s_steps_of) .none kV1 dc1 pm1 an1 cd1 ct1), sl1⟩) (c1 : PySem.W.codeIn K cd1 "steps_of" = true) (k1 : PySem.W.keepIn K (.ref f1) = true)
    (a2 : PySem.W.nsIn K mainGlobals "stepped" = some (some (.ref f2))) (l2 : K.lookup f2 = some ⟨oc2, od2, .func (PySem.W.fnOf "stepped" "stepped" (defArgs s_stepped) (defBody s_stepped) (defScope s_stepped) .none kV2 dc2 pm2 an2 cd2 ct2), sl2⟩) (c2 : PySem.W.codeIn K cd2 "stepped" = true) (k2 : PySem.W.keepIn K (.ref f2) = true)
    (a3 : PySem.W.nsIn K mainGlobals "led" = some (some (.ref f3))) (l3 : K.lookup f3 = some ⟨oc3, od3, .func (PySem.W.fnOf "led" "led" (defArgs s_led) (defBody s_led) (defScope s_led) .none kV3 dc3 pm3 an3 cd3 ct3), sl3⟩) (c3 : PySem.W.codeIn K cd3 "led" = true) (k3 : PySem.W.keepIn K (.ref f3) = true)
    (a4 : PySem.W.nsIn K mainGlobals "next_pairs" = some (some (.ref f4))) (l4 : K.lookup f4 = some ⟨oc4, od4, .func (PySem.W.fnOf "next_pairs" "next_pairs" (defArgs s_next_pairs) (defBody s_next_pairs) (defScope s_next_pairs) .none kV4 dc4 pm4 an4 cd4 ct4), sl4⟩) (c4 : PySem.W.codeIn K cd4 "next_pairs" = true) (k4 : PySem.W.keepIn K (.ref f4) = true)
    (a5 : PySem.W.nsIn K mainGlobals "parting" = some (some (.ref f5))) (l5 : K.lookup f5 = some ⟨oc5, od5, .func (PySem.W.fnOf "parting" "parting" (defArgs s_parting) (defBody s_parting) (defScope s_parting) .none kV5 dc5 pm5 an5 cd5 ct5), sl5⟩) (c5 : PySem.W.codeIn K cd5 "parting" = true) (k5 : PySem.W.keepIn K (.ref f5) = true)
    (a6 : PySem.W.nsIn K mainGlobals "_law_well" = some (some (.ref f6))) (l6 : K.lookup f6 = some ⟨oc6, od6, .func (PySem.W.fnOf "_law_well" "_law_well" (defArgs s_law_well) (defBody s_law_well) (defScope s_law_well) .none kV6 dc6 pm6 an6 cd6 ct6), sl6⟩) (c6 : PySem.W.codeIn K cd6 "_law_well" = true) (k6 : PySem.W.keepIn K (.ref f6) = true)
    (a7 : PySem.W.nsIn K mainGlobals "_law_draw" = some (some (.ref f7))) (l7 : K.lookup f7 = some ⟨oc7, od7, .func (PySem.W.fnOf "_law_draw" "_law_draw" (defArgs s_law_draw) (defBody s_law_draw) (defScope s_law_draw) .none kV7 dc7 pm7 an7 cd7 ct7), sl7⟩) (c7 : PySem.W.codeIn K cd7 "_law_draw" = true) (k7 : PySem.W.keepIn K (.ref f7) = true)
    (a8 : PySem.W.nsIn K mainGlobals "_law_names" = some (some (.ref f8))) (l8 : K.lookup f8 = some ⟨oc8, od8, .func (PySem.W.fnOf "_law_names" "_law_names" (defArgs s_law_names) (defBody s_law_names) (defScope s_law_names) .none kV8 dc8 pm8 an8 cd8 ct8), sl8⟩) (c8 : PySem.W.codeIn K cd8 "_law_names" = true) (k8 : PySem.W.keepIn K (.ref f8) = true)
    (a9 : PySem.W.nsIn K mainGlobals "_law_cells" = some (some (.ref f9))) (l9 : K.lookup f9 = some ⟨oc9, od9, .func (PySem.W.fnOf "_law_cells" "_law_cells" (defArgs s_law_cells) (defBody s_law_cells) (defScope s_law_cells) .none kV9 dc9 pm9 an9 cd9 ct9), sl9⟩) (c9 : PySem.W.codeIn K cd9 "_law_cells" = true) (k9 : PySem.W.keepIn K (.ref f9) = true)
    (a10 : PySem.W.nsIn K mainGlobals "_law_table" = some (some (.ref f10))) (l10 : K.lookup f10 = some ⟨oc10, od10, .func (PySem.W.fnOf "_law_table" "_law_table" (defArgs s_law_table) (defBody s_law_table) (defScope s_law_table) .none kV10 dc10 pm10 an10 cd10 ct10), sl10⟩) (c10 : PySem.W.codeIn K cd10 "_law_table" = true) (k10 : PySem.W.keepIn K (.ref f10) = true)
    (a11 : PySem.W.nsIn K mainGlobals "_law_even" = some (some (.ref f11))) (l11 : K.lookup f11 = some ⟨oc11, od11, .func (PySem.W.fnOf "_law_even" "_law_even" (defArgs s_law_even) (defBody s_law_even) (defScope s_law_even) .none kV11 dc11 pm11 an11 cd11 ct11), sl11⟩) (c11 : PySem.W.codeIn K cd11 "_law_even" = true) (k11 : PySem.W.keepIn K (.ref f11) = true)
    (a12 : PySem.W.nsIn K mainGlobals "_law_one_steps" = some (some (.ref f12))) (l12 : K.lookup f12 = some ⟨oc12, od12, .func (PySem.W.fnOf "_law_one_steps" "_law_one_steps" (defArgs s_law_one_steps) (defBody s_law_one_steps) (defScope s_law_one_steps) .none kV12 dc12 pm12 an12 cd12 ct12), sl12⟩) (c12 : PySem.W.codeIn K cd12 "_law_one_steps" = true) (k12 : PySem.W.keepIn K (.ref f12) = true)
    (a13 : PySem.W.nsIn K mainGlobals "_law_stepped" = some (some (.ref f13))) (l13 : K.lookup f13 = some ⟨oc13, od13, .func (PySem.W.fnOf "_law_stepped" "_law_stepped" (defArgs s_law_stepped) (defBody s_law_stepped) (defScope s_law_stepped) .none kV13 dc13 pm13 an13 cd13 ct13), sl13⟩) (c13 : PySem.W.codeIn K cd13 "_law_stepped" = true) (k13 : PySem.W.keepIn K (.ref f13) = true)
    (a14 : PySem.W.nsIn K mainGlobals "_law_unlike" = some (some (.ref f14))) (l14 : K.lookup f14 = some ⟨oc14, od14, .func (PySem.W.fnOf "_law_unlike" "_law_unlike" (defArgs s_law_unlike) (defBody s_law_unlike) (defScope s_law_unlike) .none kV14 dc14 pm14 an14 cd14 ct14), sl14⟩) (c14 : PySem.W.codeIn K cd14 "_law_unlike" = true) (k14 : PySem.W.keepIn K (.ref f14) = true)
    (a15 : PySem.W.nsIn K mainGlobals "_law_drawn" = some (some (.ref f15))) (l15 : K.lookup f15 = some ⟨oc15, od15, .func (PySem.W.fnOf "_law_drawn" "_law_drawn" (defArgs s_law_drawn) (defBody s_law_drawn) (defScope s_law_drawn) .none kV15 dc15 pm15 an15 cd15 ct15), sl15⟩) (c15 : PySem.W.codeIn K cd15 "_law_drawn" = true) (k15 : PySem.W.keepIn K (.ref f15) = true)
    (a16 : PySem.W.nsIn K mainGlobals "_law_walked" = some (some (.ref f16))) (l16 : K.lookup f16 = some ⟨oc16, od16, .func (PySem.W.fnOf "_law_walked" "_law_walked" (defArgs s_law_walked) (defBody s_law_walked) (defScope s_law_walked) .none kV16 dc16 pm16 an16 cd16 ct16), sl16⟩) (c16 : PySem.W.codeIn K cd16 "_law_walked" = true) (k16 : PySem.W.keepIn K (.ref f16) = true)
    (a17 : PySem.W.nsIn K mainGlobals "_law_steps_right" = some (some (.ref f17))) (l17 : K.lookup f17 = some ⟨oc17, od17, .func (PySem.W.fnOf "_law_steps_right" "_law_steps_right" (defArgs s_law_steps_right) (defBody s_law_steps_right) (defScope s_law_steps_right) .none kV17 dc17 pm17 an17 cd17 ct17), sl17⟩) (c17 : PySem.W.codeIn K cd17 "_law_steps_right" = true) (k17 : PySem.W.keepIn K (.ref f17) = true)
    (a18 : PySem.W.nsIn K mainGlobals "_law_right" = some (some (.ref f18))) (l18 : K.lookup f18 = some ⟨oc18, od18, .func (PySem.W.fnOf "_law_right" "_law_right" (defArgs s_law_right) (defBody s_law_right) (defScope s_law_right) .none kV18 dc18 pm18 an18 cd18 ct18), sl18⟩) (c18 : PySem.W.codeIn K cd18 "_law_right" = true) (k18 : PySem.W.keepIn K (.ref f18) = true)
    (a19 : PySem.W.nsIn K mainGlobals "law" = some (some (.ref f19))) (l19 : K.lookup f19 = some ⟨oc19, od19, .func (PySem.W.fnOf "law" "law" (defArgs s_law) (defBody s_law) (defScope s_law) .none kV19 dc19 pm19 an19 cd19 ct19), sl19⟩) (c19 : PySem.W.codeIn K cd19 "law" = true) (k19 : PySem.W.keepIn K (.ref f19) = true)
    (z0 : PySem.W.nsIn K mainGlobals "abs" = some none)
    (z1 : PySem.W.nsIn K mainGlobals "range" = some none)
    (z2 : PySem.W.nsIn K mainGlobals "tuple" = some none)
    (z3 : PySem.W.nsIn K mainGlobals "list" = some none)
    (z4 : PySem.W.nsIn K mainGlobals "isinstance" = some none)
    (z5 : PySem.W.nsIn K mainGlobals "int" = some none)
    (z6 : PySem.W.nsIn K mainGlobals "bool" = some none)
    (z7 : PySem.W.nsIn K mainGlobals "str" = some none)
    (z8 : PySem.W.nsIn K mainGlobals "len" = some none)
    (z9 : PySem.W.nsIn K mainGlobals "min" = some none)
    (z10 : PySem.W.nsIn K mainGlobals "max" = some none)
    (z11 : PySem.W.nsIn K mainGlobals "all" = some none)
    (z12 : PySem.W.nsIn K mainGlobals "any" = some none)
    (z13 : PySem.W.nsIn K mainGlobals "divmod" = some none)
    (z14 : PySem.W.nsIn K mainGlobals "dict" = some none)
    (z15 : PySem.W.nsIn K mainGlobals "set" = some none)
    (z16 : PySem.W.nsIn K mainGlobals "sorted" = some none)
    : ∃ fd : FuncData, (∀ (s : Shared) (v : Value), BindsTo s fd ⟨[v], []⟩ [("_law_script", v)]) ∧ ∀ base : Heap, K.In base → base.Ns mainGlobals mg → FnOk l.prog w K mg base CX0 7 fa fd ["_law_script"] (spLaw K) := by
  have e := hfa.symm.trans (PySem.W.mg_of X G a19)
  cases e
  have F0 := fun_mk (st := s_cells_by_name) l0 c0 k0
  have b0 := F0.binds (ps := ["H"]) fun _ _ _ _ _ _ us hl => by obtain ⟨z0_, rfl⟩ := lenK1 hl; rfl
  have F1 := fun_mk (st := s_steps_of) l1 c1 k1
  have b1 := F1.binds (ps := ["T"]) fun _ _ _ _ _ _ us hl => by obtain ⟨z0_, rfl⟩ := lenK1 hl; rfl
  have F2 := fun_mk (st := s_stepped) l2 c2 k2
  have b2 := F2.binds (ps := ["cells", "many", "step", "x"]) fun _ _ _ _ _ _ us hl => by obtain ⟨z0_, z1_, z2_, z3_, rfl⟩ := lenK4 hl; rfl
  have F3 := fun_mk (st := s_led) l3 c3 k3
  have b3 := F3.binds (ps := ["T", "steps", "x"]) fun _ _ _ _ _ _ us hl => by obtain ⟨z0_, z1_, z2_, rfl⟩ := lenK3 hl; rfl
  have F4 := fun_mk (st := s_next_pairs) l4 c4 k4
  have b4 := F4.binds (ps := ["T", "cells", "ways", "pairs"]) fun _ _ _ _ _ _ us hl => by obtain ⟨z0_, z1_, z2_, z3_, rfl⟩ := lenK4 hl; rfl
  have F5 := fun_mk (st := s_parting) l5 c5 k5
  have b5 := F5.binds (ps := ["T", "x", "y"]) fun _ _ _ _ _ _ us hl => by obtain ⟨z0_, z1_, z2_, rfl⟩ := lenK3 hl; rfl
  have F6 := fun_mk (st := s_law_well) l6 c6 k6
  have b6 := F6.binds (ps := ["_law_script", "_law_place"]) fun _ _ _ _ _ _ us hl => by obtain ⟨z0_, z1_, rfl⟩ := lenK2 hl; rfl
  have F7 := fun_mk (st := s_law_draw) l7 c7 k7
  have b7 := F7.binds (ps := ["_law_well_here", "_law_many"]) fun _ _ _ _ _ _ us hl => by obtain ⟨z0_, z1_, rfl⟩ := lenK2 hl; rfl
  have F8 := fun_mk (st := s_law_names) l8 c8 k8
  have b8 := F8.binds (ps := ["_law_well_here", "_law_many"]) fun _ _ _ _ _ _ us hl => by obtain ⟨z0_, z1_, rfl⟩ := lenK2 hl; rfl
  have F9 := fun_mk (st := s_law_cells) l9 c9 k9
  have b9 := F9.binds (ps := ["_law_well_here", "_law_many", "_law_places"]) fun _ _ _ _ _ _ us hl => by obtain ⟨z0_, z1_, z2_, rfl⟩ := lenK3 hl; rfl
  have F10 := fun_mk (st := s_law_table) l10 c10 k10
  have b10 := F10.binds (ps := ["_law_well_here", "_law_most", "_law_some"]) fun _ _ _ _ _ _ us hl => by obtain ⟨z0_, z1_, z2_, rfl⟩ := lenK3 hl; rfl
  have F11 := fun_mk (st := s_law_even) l11 c11 k11
  have b11 := F11.binds (ps := ["_law_well_here", "_law_table_here"]) fun _ _ _ _ _ _ us hl => by obtain ⟨z0_, z1_, rfl⟩ := lenK2 hl; rfl
  have F12 := fun_mk (st := s_law_one_steps) l12 c12 k12
  have b12 := F12.binds (ps := ["_law_table_here"]) fun _ _ _ _ _ _ us hl => by obtain ⟨z0_, rfl⟩ := lenK1 hl; rfl
  have F13 := fun_mk (st := s_law_stepped) l13 c13 k13
  have b13 := F13.binds (ps := ["_law_table_here", "_law_step", "_law_mark"]) fun _ _ _ _ _ _ us hl => by obtain ⟨z0_, z1_, z2_, rfl⟩ := lenK3 hl; rfl
  have F14 := fun_mk (st := s_law_unlike) l14 c14 k14
  have b14 := F14.binds (ps := ["_law_table_here"]) fun _ _ _ _ _ _ us hl => by obtain ⟨z0_, rfl⟩ := lenK1 hl; rfl
  have F15 := fun_mk (st := s_law_drawn) l15 c15 k15
  have b15 := F15.binds (ps := ["_law_well_here", "_law_most", "_law_some"]) fun _ _ _ _ _ _ us hl => by obtain ⟨z0_, z1_, z2_, rfl⟩ := lenK3 hl; rfl
  have F16 := fun_mk (st := s_law_walked) l16 c16 k16
  have b16 := F16.binds (ps := ["_law_table_here", "_law_steps", "_law_mark"]) fun _ _ _ _ _ _ us hl => by obtain ⟨z0_, z1_, z2_, rfl⟩ := lenK3 hl; rfl
  have F17 := fun_mk (st := s_law_steps_right) l17 c17 k17
  have b17 := F17.binds (ps := ["_law_table_here", "_law_steps", "_law_one", "_law_other"]) fun _ _ _ _ _ _ us hl => by obtain ⟨z0_, z1_, z2_, z3_, rfl⟩ := lenK4 hl; rfl
  have F18 := fun_mk (st := s_law_right) l18 c18 k18
  have b18 := F18.binds (ps := ["_law_well_here"]) fun _ _ _ _ _ _ us hl => by obtain ⟨z0_, rfl⟩ := lenK1 hl; rfl
  have F19 := fun_mk (st := s_law) l19 c19 k19
  have b19 := F19.binds (ps := ["_law_script"]) fun _ _ _ _ _ _ us hl => by obtain ⟨z0_, rfl⟩ := lenK1 hl; rfl
  have gb : Gb mg := ⟨PySem.W.mg_none_of X G z0, PySem.W.mg_none_of X G z1, PySem.W.mg_none_of X G z2, PySem.W.mg_none_of X G z3, PySem.W.mg_none_of X G z4, PySem.W.mg_none_of X G z5, PySem.W.mg_none_of X G z6, PySem.W.mg_none_of X G z7, PySem.W.mg_none_of X G z8, PySem.W.mg_none_of X G z9, PySem.W.mg_none_of X G z10, PySem.W.mg_none_of X G z11, PySem.W.mg_none_of X G z12, PySem.W.mg_none_of X G z13, PySem.W.mg_none_of X G z14, PySem.W.mg_none_of X G z15, PySem.W.mg_none_of X G z16⟩
  refine ⟨PySem.W.fnOf "law" "law" (defArgs s_law) (defBody s_law) (defScope s_law) .none kV19 dc19 pm19 an19 cd19 ct19, fun s v => .of_eq rfl, fun base _ _ => ?_⟩
  have d_cells_by_name : Def l.prog w K mg base 1 "cells_by_name" ["H"] spCbn := ⟨f0, _, ok_cells_by_name F0 gb, PySem.W.mg_of X G a0, k0, b0⟩
  have d_steps_of : Def l.prog w K mg base 1 "steps_of" ["T"] spSteps := ⟨f1, _, ok_steps_of F1 gb, PySem.W.mg_of X G a1, k1, b1⟩
  have d_stepped : Def l.prog w K mg base 1 "stepped" ["cells", "many", "step", "x"] spStepped := ⟨f2, _, ok_stepped F2 gb, PySem.W.mg_of X G a2, k2, b2⟩
  have d_led : Def l.prog w K mg base 2 "led" ["T", "steps", "x"] spLed := ⟨f3, _, ok_led F3 gb d_cells_by_name d_stepped, PySem.W.mg_of X G a3, k3, b3⟩
  have d_next_pairs : Def l.prog w K mg base 3 "next_pairs" ["T", "cells", "ways", "pairs"] spNextP := ⟨f4, _, ok_next_pairs F4 gb d_steps_of d_stepped, PySem.W.mg_of X G a4, k4, b4⟩
  have d_parting : Def l.prog w K mg base 4 "parting" ["T", "x", "y"] spParting := ⟨f5, _, ok_parting F5 gb d_cells_by_name d_next_pairs, PySem.W.mg_of X G a5, k5, b5⟩
  have d_law_well : Def l.prog w K mg base 1 "_law_well" ["_law_script", "_law_place"] (spWell K) := ⟨f6, _, ok_law_well F6 gb, PySem.W.mg_of X G a6, k6, b6⟩
  have d_law_draw : Def l.prog w K mg base 1 "_law_draw" ["_law_well_here", "_law_many"] spDrawW := ⟨f7, _, ok_law_draw F7 gb, PySem.W.mg_of X G a7, k7, b7⟩
  have d_law_names : Def l.prog w K mg base 2 "_law_names" ["_law_well_here", "_law_many"] spNames := ⟨f8, _, ok_law_names F8 gb d_law_draw, PySem.W.mg_of X G a8, k8, b8⟩
  have d_law_cells : Def l.prog w K mg base 2 "_law_cells" ["_law_well_here", "_law_many", "_law_places"] spCells := ⟨f9, _, ok_law_cells F9 gb d_law_draw, PySem.W.mg_of X G a9, k9, b9⟩
  have d_law_table : Def l.prog w K mg base 3 "_law_table" ["_law_well_here", "_law_most", "_law_some"] spTable := ⟨f10, _, ok_law_table F10 gb d_law_draw d_law_names d_law_cells, PySem.W.mg_of X G a10, k10, b10⟩
  have d_law_even : Def l.prog w K mg base 2 "_law_even" ["_law_well_here", "_law_table_here"] spEven := ⟨f11, _, ok_law_even F11 gb d_law_draw, PySem.W.mg_of X G a11, k11, b11⟩
  have d_law_one_steps : Def l.prog w K mg base 1 "_law_one_steps" ["_law_table_here"] spOne := ⟨f12, _, ok_law_one_steps F12 gb, PySem.W.mg_of X G a12, k12, b12⟩
  have d_law_stepped : Def l.prog w K mg base 1 "_law_stepped" ["_law_table_here", "_law_step", "_law_mark"] spLStep := ⟨f13, _, ok_law_stepped F13 gb, PySem.W.mg_of X G a13, k13, b13⟩
  have d_law_unlike : Def l.prog w K mg base 2 "_law_unlike" ["_law_table_here"] spUnlike := ⟨f14, _, ok_law_unlike F14 gb d_law_one_steps d_law_stepped, PySem.W.mg_of X G a14, k14, b14⟩
  have d_law_drawn : Def l.prog w K mg base 4 "_law_drawn" ["_law_well_here", "_law_most", "_law_some"] spDrawn := ⟨f15, _, ok_law_drawn F15 gb d_law_table d_law_draw d_law_even, PySem.W.mg_of X G a15, k15, b15⟩
  have d_law_walked : Def l.prog w K mg base 2 "_law_walked" ["_law_table_here", "_law_steps", "_law_mark"] spLed := ⟨f16, _, ok_law_walked F16 gb d_law_stepped, PySem.W.mg_of X G a16, k16, b16⟩
  have d_law_steps_right : Def l.prog w K mg base 3 "_law_steps_right" ["_law_table_here", "_law_steps", "_law_one", "_law_other"] spSRight := ⟨f17, _, ok_law_steps_right F17 gb d_law_one_steps d_law_walked d_led, PySem.W.mg_of X G a17, k17, b17⟩
  have d_law_right : Def l.prog w K mg base 6 "_law_right" ["_law_well_here"] spRight := ⟨f18, _, ok_law_right F18 gb d_law_draw d_law_drawn d_law_unlike d_parting d_law_steps_right d_law_one_steps d_led d_law_walked, PySem.W.mg_of X G a18, k18, b18⟩
  exact ok_law F19 gb d_law_right d_law_well
theorem walk {l : PySem.W.OpenLaw} {q : Program} {loose : List Str} {XP : (Str → Option Value) → Heap → Prop} {YP : World → Heap → Prop} {d : DefRec} {K : Params → PySem.W.Frag} (hn : l.most = some 63) (hdf : d.params.defaults = [])
    (hY : ∀ (w : World) (h : Heap), YP w h → (K w.params).In h)
    (F : ∀ (w : World) (mg : Str → Option Value) (fa : Addr) (h : Heap), (K w.params).In h → h.Ns mainGlobals mg → mg d.name = some (.ref fa) →
      ∃ fd : FuncData, (∀ (s : Shared) (u : Value), BindsTo s fd ⟨[u], []⟩ [("_law_script", u)]) ∧ ∀ base : Heap, (K w.params).In base → base.Ns mainGlobals mg → FnOk l.prog w (K w.params) mg base CX0 7 fa fd ["_law_script"] (spLaw (K w.params))) :
    PySem.W.WalkO q loose XP YP l.row.toRowW d [] (fun f vs => PySem.call f vs) :=
  L2.walk_of (n := 63) (k := 7) (x := "_law_script") (CX := fun _ => CX0) (sp := fun w => spLaw (K w.params)) hn (by decide) hdf ⟨rfl, by decide, by decide⟩ hY F (fun _ _ a ns hl _ hS => ⟨a, ns, rfl, hS, hl, fun _ => rfl⟩) fun _ _ _ _ _ z => z
end K31
open PySem PySem.W PyProof.Rows
set_option maxRecDepth 100000 in
set_option maxHeartbeats 0 in
theorem PySem.Challenge.cw_truthgrades_k31_steps_that_part_holds : PySem.Challenge.rw_truthgrades_k31_steps_that_part.Holds := by
  w_on; o_law; k_head; (case hw => w_witness2)
  k_fill
  refine K31.walk (l := PySem.Challenge.rw_truthgrades_k31_steps_that_part) rfl rfl (fun w h Y => PySem.W.kIn_of Y) ?F
  case F =>
    intro w mg fa h KX G hmg
    refine' K31.all_mk KX G hmg ?a0 ?l0 ?c0 ?k0 ?a1 ?l1 ?c1 ?k1 ?a2 ?l2 ?c2 ?k2 ?a3 ?l3 ?c3 ?k3 ?a4 ?l4 ?c4 ?k4 ?a5 ?l5 ?c5 ?k5 ?a6 ?l6 ?c6 ?k6 ?a7 ?l7 ?c7 ?k7 ?a8 ?l8 ?c8 ?k8 ?a9 ?l9 ?c9 ?k9 ?a10 ?l10 ?c10 ?k10 ?a11 ?l11 ?c11 ?k11 ?a12 ?l12 ?c12 ?k12 ?a13 ?l13 ?c13 ?k13 ?a14 ?l14 ?c14 ?k14 ?a15 ?l15 ?c15 ?k15 ?a16 ?l16 ?c16 ?k16 ?a17 ?l17 ?c17 ?k17 ?a18 ?l18 ?c18 ?k18 ?a19 ?l19 ?c19 ?k19 ?z0 ?z1 ?z2 ?z3 ?z4 ?z5 ?z6 ?z7 ?z8 ?z9 ?z10 ?z11 ?z12 ?z13 ?z14 ?z15 ?z16 
    (case a0 => k_is); (case l0 => k_is); (case c0 => k_is); (case k0 => k_is)
    (case a1 => k_is); (case l1 => k_is); (case c1 => k_is); (case k1 => k_is)
    (case a2 => k_is); (case l2 => k_is); (case c2 => k_is); (case k2 => k_is)
    (case a3 => k_is); (case l3 => k_is); (case c3 => k_is); (case k3 => k_is)
    (case a4 => k_is); (case l4 => k_is); (case c4 => k_is); (case k4 => k_is)
    (case a5 => k_is); (case l5 => k_is); (case c5 => k_is); (case k5 => k_is)
    (case a6 => k_is); (case l6 => k_is); (case c6 => k_is); (case k6 => k_is)
    (case a7 => k_is); (case l7 => k_is); (case c7 => k_is); (case k7 => k_is)
    (case a8 => k_is); (case l8 => k_is); (case c8 => k_is); (case k8 => k_is)
    (case a9 => k_is); (case l9 => k_is); (case c9 => k_is); (case k9 => k_is)
    (case a10 => k_is); (case l10 => k_is); (case c10 => k_is); (case k10 => k_is)
    (case a11 => k_is); (case l11 => k_is); (case c11 => k_is); (case k11 => k_is)
    (case a12 => k_is); (case l12 => k_is); (case c12 => k_is); (case k12 => k_is)
    (case a13 => k_is); (case l13 => k_is); (case c13 => k_is); (case k13 => k_is)
    (case a14 => k_is); (case l14 => k_is); (case c14 => k_is); (case k14 => k_is)
    (case a15 => k_is); (case l15 => k_is); (case c15 => k_is); (case k15 => k_is)
    (case a16 => k_is); (case l16 => k_is); (case c16 => k_is); (case k16 => k_is)
    (case a17 => k_is); (case l17 => k_is); (case c17 => k_is); (case k17 => k_is)
    (case a18 => k_is); (case l18 => k_is); (case c18 => k_is); (case k18 => k_is)
    (case a19 => k_is); (case l19 => k_is); (case c19 => k_is); (case k19 => k_is)
    (case z0 => k_is)
    (case z1 => k_is)
    (case z2 => k_is)
    (case z3 => k_is)
    (case z4 => k_is)
    (case z5 => k_is)
    (case z6 => k_is)
    (case z7 => k_is)
    (case z8 => k_is)
    (case z9 => k_is)
    (case z10 => k_is)
    (case z11 => k_is)
    (case z12 => k_is)
    (case z13 => k_is)
    (case z14 => k_is)
    (case z15 => k_is)
    (case z16 => k_is)
