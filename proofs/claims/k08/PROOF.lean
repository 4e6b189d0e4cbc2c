import PyProof.Rows.All
import Wide.All
import OpenK.AllK
import Wide.FinOn
import Lean
import PyProof.EqAt
import PyProof.EqKinds
import PyProof.TupleCall
import PySem.Challenge.RW_truthgrades_k08_whole_fillings_walked
set_option bootstrap.genMatcherCode false
set_option genSizeOfSpec false
local macro_rules | `(tactic| omega) => `(tactic| lia)
set_option Elab.async false
set_option linter.all false
set_option maxRecDepth 100000
/-! THE HAND LAYER, for ints, bools, texts, own classes, LISTS and tuples (index, slices, in, append, pop ..), calls, loops. Paste it whole ahead of your own text; what your proof does not reach may be deleted. -/
namespace L2
open PySem PySem.Spec PyProof.Rows

/-- a key: an int or a str -/
abbrev Key := Sum Int Str
def keyIs : Key → Value → Bool
  | .inl k, v => Value.isInt k v
  | .inr x, v => Value.isStrOf x v
def keyH (w : World) : Key → Int
  | .inl k => hashInt k
  | .inr x => hashStr w x
theorem keyIs_shape : ∀ {k : Key} {v : Value}, keyIs k v = true → (∃ i t, k = Sum.inl i ∧ v = Value.int i t) ∨ (∃ x t, k = Sum.inr x ∧ v = Value.str x t)
  | .inl i, v, h => by
    obtain ⟨t, e⟩ := Value.isInt_shape (k := i) (v := v) h
    exact .inl ⟨i, t, rfl, e⟩
  | .inr x, v, h => by
    obtain ⟨t, e⟩ := Value.isStrOf_shape (x := x) (v := v) h
    exact .inr ⟨x, t, rfl, e⟩
theorem keyIs_int (i : Int) (t : Tok) : keyIs (.inl i) (.int i t) = true := by simp [keyIs, Value.isInt]
theorem keyIs_str (x : Str) (t : Tok) : keyIs (.inr x) (.str x t) = true := by simp [keyIs, Value.isStrOf]
theorem key_ll (a b : Int) : decide ((Sum.inl a : Key) = Sum.inl b) = (a == b) := by
  by_cases e : a = b
  · subst e; simp
  · have h : ¬ (Sum.inl a : Key) = Sum.inl b := fun q => e (Sum.inl.inj q)
    rw [decide_eq_false h]
    exact (beq_eq_false_iff_ne.mpr e).symm
theorem key_rr (a b : Str) : decide ((Sum.inr a : Key) = Sum.inr b) = decide (a = b) := by
  by_cases e : a = b
  · subst e; simp
  · have h : ¬ (Sum.inr a : Key) = Sum.inr b := fun q => e (Sum.inr.inj q)
    rw [decide_eq_false h, decide_eq_false e]
theorem key_lr (a : Int) (b : Str) : decide ((Sum.inl a : Key) = Sum.inr b) = false := decide_eq_false (fun q => nomatch q)
theorem key_rl (a : Str) (b : Int) : decide ((Sum.inr a : Key) = Sum.inl b) = false := decide_eq_false (fun q => nomatch q)

def mixKind (prog : Program) (w : World) : PySem.KeyKind prog w Key where
  is := keyIs
  hash := keyH w
  inj := fun v a b ha hb => by
    rcases keyIs_shape ha with ⟨i, t, rfl, rfl⟩ | ⟨x, t, rfl, rfl⟩
    · rcases keyIs_shape hb with ⟨j, u, rfl, e⟩ | ⟨y, u, rfl, e⟩
      · injection e with e1 _; rw [e1]
      · exact nomatch e
    · rcases keyIs_shape hb with ⟨j, u, rfl, e⟩ | ⟨y, u, rfl, e⟩
      · exact nomatch e
      · injection e with e1 _; rw [e1]
  byValue := fun k v h => by
    rcases keyIs_shape h with ⟨i, t, rfl, rfl⟩ | ⟨x, t, rfl, rfl⟩ <;> rfl
  pyHash := fun hv h => by
    rcases keyIs_shape hv with ⟨i, t, rfl, rfl⟩ | ⟨x, t, rfl, rfl⟩
    · exact wpAny_pyHash_int h
    · exact wpAny_pyHash_str h
  eqBool := fun hu hv h => by
    rcases keyIs_shape hu with ⟨i, t, rfl, rfl⟩ | ⟨x, t, rfl, rfl⟩
    · rcases keyIs_shape hv with ⟨j, u, rfl, rfl⟩ | ⟨y, u, rfl, rfl⟩
      · rw [key_ll] at h; exact wpAny_eqBool_int h
      · rw [key_lr] at h; exact SeqAt.EqAt.int_str i t y u _ _ _ _ h
    · rcases keyIs_shape hv with ⟨j, u, rfl, rfl⟩ | ⟨y, u, rfl, rfl⟩
      · rw [key_rl] at h; exact SeqAt.EqAt.str_int x t j u _ _ _ _ h
      · rw [key_rr] at h; exact wpAny_eqBool_str h
  «strs» := fun k x t v h => by
    rcases keyIs_shape h with ⟨i, u, rfl, e⟩ | ⟨y, u, rfl, e⟩
    · exact nomatch e
    · injection e with e1 _
      subst e1
      cases v <;> rfl

end L2

namespace L2
open PySem PySem.Spec PyProof.Rows

/-- a value, without the heap -/
inductive V where
  | non | bl (b : Bool) | int (i : Int) | str (x : Str) | byt (b : Array UInt8) | flt (b : UInt64) | ref (a : Addr) | ty (n : String)
  deriving DecidableEq

def RelV : V → Value → Prop
  | .non, u => u = Value.none
  | .bl b, u => u = Value.bool b
  | .int i, u => ∃ t, u = Value.int i t
  | .str x, u => ∃ t, u = Value.str x t
  | .byt b, u => ∃ t, u = Value.bytes b t
  | .flt b, u => ∃ t, u = Value.float b t
  | .ref a, u => u = Value.ref a
  | .ty n, u => u = Value.type n

abbrev Vals : List V → List Value → Prop := Paired RelV
theorem Vals.length {xs : List V} {us : List Value} (r : Vals xs us) : xs.length = us.length := Paired.length r
theorem Vals.get : ∀ {xs : List V} {us : List Value} {i : Nat} {x : V}, Vals xs us → xs[i]? = some x → ∃ u, us[i]? = some u ∧ RelV x u
  | _, _, _, _, .nil, e => by simp at e
  | _, _, 0, _, .cons r _, e => by simp at e; subst e; exact ⟨_, rfl, r⟩
  | _, _, i + 1, x, .cons _ t, e => by
    obtain ⟨u, h1, h2⟩ := Vals.get (i := i) (x := x) t (by simpa using e)
    exact ⟨u, by simpa using h1, h2⟩
theorem Vals.set {x : V} {u : Value} (r : RelV x u) : ∀ {xs : List V} {us : List Value} (i : Nat), Vals xs us → Vals (xs.set i x) (us.set i u)
  | _, _, _, .nil => .nil
  | _, _, 0, .cons _ t => .cons r t
  | _, _, i + 1, .cons q t => .cons q (Vals.set r i t)
theorem Vals.append : ∀ {xs ys : List V} {us ws : List Value}, Vals xs us → Vals ys ws → Vals (xs ++ ys) (us ++ ws)
  | _, _, _, _, .nil, s => s
  | _, _, _, _, .cons r t, s => .cons r (Vals.append t s)
theorem Vals.take : ∀ {xs : List V} {us : List Value} (n : Nat), Vals xs us → Vals (xs.take n) (us.take n)
  | _, _, 0, _ => .nil
  | _, _, _ + 1, .nil => .nil
  | _, _, n + 1, .cons r t => .cons r (Vals.take n t)
theorem Vals.drop : ∀ {xs : List V} {us : List Value} (n : Nat), Vals xs us → Vals (xs.drop n) (us.drop n)
  | _, _, 0, r => r
  | _, _, _ + 1, .nil => .nil
  | _, _, n + 1, .cons _ t => Vals.drop n t
def RelO : Option V → Option Value → Prop
  | some v, some u => RelV v u
  | none, none => True
  | _, _ => False
def KV {κ : Type} : List (κ × V) → List (κ × Value) → Prop := Paired fun (p : κ × V) (q : κ × Value) => p.1 = q.1 ∧ RelV p.2 q.2

/-- a key of a dict (00_mix): an int or a text -/
def kV : Key → V
  | .inl i => .int i
  | .inr x => .str x

/-- a plain tuple: no dict of its own -/
def PTup (h : Heap) (a : Addr) (items : Array Value) : Prop := ∃ o, h.get? a = some o ∧ o.cls = .type "tuple" ∧ (∃ n, o.data = .seq items n) ∧ o.dict = none
theorem PTup.lt {h : Heap} {a : Addr} {items : Array Value} (x : PTup h a items) : a < h.objs.size := let ⟨_, e, _⟩ := x; Heap.lt_size e
theorem PTup.isTup {h : Heap} {a : Addr} {items : Array Value} (x : PTup h a items) : IsTup h a items := let ⟨o, e, c, n, _⟩ := x; ⟨o, e, c, n⟩
theorem PTup.new (h : Heap) (items : Array Value) : PTup (h.push { cls := .type "tuple", data := .seq items }) h.objs.size items := ⟨_, Heap.get?_push_size _ rfl, rfl, ⟨_, rfl⟩, rfl⟩
/-- what stands at a tracked address -/
inductive HO where
  /-- a list -/
  | lst (xs : List V)
  /-- a tuple (never changes) -/
  | tup (xs : List V)
  /-- a dict whose keys are ints and texts; one whose keys are tuples of ints and texts (the empty one is both) -/
  | dK (kvs : List (Key × V)) | dT (kvs : List (List Key × V))
  /-- a set of ints: its members, its size -/
  | set (S : Int → Bool) (n : Nat)
  /-- an instance of the class at C, its dict at dx, its attributes -/
  | ins (C dx : Addr) (fs : List (Str × V))
  /-- the dict of the instance at x -/
  | own (x : Addr)
  /-- the dict of an exception -/
  | xd (fs : List (Str × V))
  /-- a bound method, f of x -/
  | met (f x : Addr)
  /-- a range object lo, lo + 1, .. below hi -/
  | rng (lo hi : Int)
  /-- a thing that is known to the object (the script; a dict while a loop walks it): read, never written while it is so -/
  | frz (o : Obj) (u : HO)
  /-- a code object's table -/
  | tbl (ps : Array Value)
  /-- any other thing, by what is true of its one object (a def of one's own: SetO a S n := HO.ext fun h => ..) -/
  | ext (φ : Heap → Prop)

abbrev Hp := Addr → Option HO
def upd (H : Hp) (a : Addr) (o : HO) : Hp := fun b => if b = a then some o else H b
theorem upd_same {H : Hp} {a : Addr} {o : HO} : upd H a o a = some o := by unfold upd; rw [if_pos rfl]
theorem upd_ne {H : Hp} {a b : Addr} {o : HO} (h : b ≠ a) : upd H a o b = H b := by unfold upd; rw [if_neg h]
/-- two objects of different content stand apart -/
theorem ne_of {H : Hp} {a b : Addr} {o u : HO} (h : H a = some o) (h' : H b = some u) (d : o ≠ u) : a ≠ b := by
  intro e; subst e; rw [h] at h'; exact d (Option.some.inj h')
theorem ne_of_none {H : Hp} {a b : Addr} {o : HO} (h : H a = some o) (h' : H b = none) : a ≠ b := by
  intro e; subst e; rw [h] at h'; cases h'

section
variable (P : Program) (w : World)
def ObjOk (H : Hp) (h : Heap) (a : Addr) : HO → Prop
  | .lst xs => xs.length ≤ sizeLine ∧ ∃ (its : List Value) (n : Nat), Vals xs its ∧ h.get? a = some { cls := .type "list", data := .seq its.toArray n }
  | .tup xs => xs.length ≤ sizeLine ∧ ∃ its : List Value, Vals xs its ∧ PTup h a its.toArray
  | .dK kvs => kvs.length ≤ sizeLine ∧ (a == sysModules) = false ∧ ∃ vs, KV kvs vs ∧ h.DictOf (mixKind P w) a vs
  | .dT kvs => kvs.length ≤ sizeLine ∧ (a == sysModules) = false ∧ ∃ xs : List (List Key × Addr × Value),
      Paired (fun (p : List Key × V) (q : List Key × Addr × Value) => p.1 = q.1 ∧ H q.2.1 = some (.tup (p.1.map kV)) ∧ RelV p.2 q.2.2) kvs xs ∧
      ∃ o es ep, h.get? a = some o ∧ o.ExactDict ∧ o.data = .dict es ep ∧ es.toList = xs.map (entryOfKey (tupleKind (mixKind P w))) ∧ (xs.map (·.1)).Nodup
  | .set S n => h.SetOf (intKind P w) a S n
  | .ins C dx fs => H dx = some (.own a) ∧ fs.length ≤ 1000 ∧ dx ≠ a ∧ h.get? a = some (PySem.W.instObj C dx) ∧
      ∃ mA, h.Ns1 dx mA ∧ (∀ f, RelO (fs.lookup f) (mA f)) ∧ PySem.Within mA (fs.map (·.1))
  | .own _ => ∃ o, h.get? a = some o
  | .xd fs => ∃ mA, h.Ns1 a mA ∧ ∀ f, RelO (fs.lookup f) (mA f)
  | .rng lo hi => ∃ t u v, h.get? a = some { cls := .type "range", data := .fields #[.int lo t, .int hi u, .int 1 v] }
  | .frz o u => h.get? a = some o ∧ ObjOk H h a u
  | .tbl ps => h.get? a = some { cls := .none, data := .fields ps }
  | .met f x => h.get? a = some (PySem.W.methodObj (.ref f) (.ref x))
  | .ext φ => φ h ∧ (∃ o, h.get? a = some o) ∧ ∀ h1 h2 : Heap, φ h1 → (∀ o, h1.get? a = some o → h2.get? a = some o) → φ h2
/-- the abstract heap is held -/
def HOk (H : Hp) (h : Heap) : Prop := ∀ a o, H a = some o → ObjOk P w H h a o
end

section
variable {P : Program} {w : World} {H H' : Hp} {h h' : Heap} {a : Addr} {o : HO}
theorem ObjOk.lt (x : ObjOk P w H h a o) : a < h.objs.size := by
  cases o with
  | lst xs => obtain ⟨_, _, _, _, e⟩ := x; exact Heap.lt_size e
  | tup xs => obtain ⟨_, _, _, p⟩ := x; exact p.lt
  | dK kvs => obtain ⟨_, _, _, _, o, _, _, e, _⟩ := x; exact Heap.lt_size e
  | dT kvs => obtain ⟨_, _, _, _, o, _, _, e, _⟩ := x; exact Heap.lt_size e
  | set S n => obtain ⟨o, _, _, _, e, _⟩ := x; exact Heap.lt_size e
  | ins C dx fs => obtain ⟨_, _, _, e, _⟩ := x; exact Heap.lt_size e
  | own y => obtain ⟨_, e⟩ := x; exact Heap.lt_size e
  | xd fs => obtain ⟨_, ⟨_, _, _, e, _⟩, _⟩ := x; exact Heap.lt_size e
  | rng lo hi => obtain ⟨_, _, _, e⟩ := x; exact Heap.lt_size e
  | frz ob u => obtain ⟨e, _⟩ := x; exact Heap.lt_size e
  | tbl ps => exact Heap.lt_size (show h.get? a = some _ from x)
  | met f y => exact Heap.lt_size (show h.get? a = some _ from x)
  | ext φ => obtain ⟨_, ⟨_, e⟩, _⟩ := x; exact Heap.lt_size e
theorem Paired.mapP {α β : Type} {F G : α → β → Prop} : ∀ {l₁ : List α} {l₂ : List β}, Paired F l₁ l₂ → (∀ a b, F a b → G a b) → Paired G l₁ l₂
  | _, _, .nil, _ => .nil
  | _, _, .cons r t, f => .cons (f _ _ r) (Paired.mapP t f)
/-- what an object's description leans on: its own object, its own dict, the tuples -/
theorem ObjOk.stay (x : ObjOk P w H h a o) (k : ∀ b u, (b = a ∨ H b = some (.own a)) → h.get? b = some u → h'.get? b = some u)
    (ho : ∀ b, H b = some (.own a) → H' b = some (.own a)) (ht : ∀ b xs, H b = some (.tup xs) → H' b = some (.tup xs)) : ObjOk P w H' h' a o := by
  induction o with
  | lst xs => obtain ⟨z, its, n, r, e⟩ := x; exact ⟨z, its, n, r, k _ _ (.inl rfl) e⟩
  | tup xs => obtain ⟨z, its, r, ob, e, c⟩ := x; exact ⟨z, its, r, ob, k _ _ (.inl rfl) e, c⟩
  | dK kvs => obtain ⟨z, y, vs, r, ob, es, ep, e, c⟩ := x; exact ⟨z, y, vs, r, ob, es, ep, k _ _ (.inl rfl) e, c⟩
  | dT kvs =>
    obtain ⟨z, y, xs, r, ob, es, ep, e, c⟩ := x
    exact ⟨z, y, xs, Paired.mapP r fun p q z => ⟨z.1, ht _ _ z.2.1, z.2.2⟩, ob, es, ep, k _ _ (.inl rfl) e, c⟩
  | set S n => obtain ⟨ob, es, ep, t, e, c⟩ := x; exact ⟨ob, es, ep, t, k _ _ (.inl rfl) e, c⟩
  | ins C dx fs =>
    obtain ⟨d, z, ne, e, mA, ⟨od, es, ep, e2, c⟩, r⟩ := x
    exact ⟨ho _ d, z, ne, k _ _ (.inl rfl) e, mA, ⟨od, es, ep, k _ _ (.inr d) e2, c⟩, r⟩
  | own y => obtain ⟨ob, e⟩ := x; exact ⟨ob, k _ _ (.inl rfl) e⟩
  | xd fs => obtain ⟨mA, ⟨od, es, ep, e, c⟩, r⟩ := x; exact ⟨mA, ⟨od, es, ep, k _ _ (.inl rfl) e, c⟩, r⟩
  | rng lo hi => obtain ⟨t, u, v, e⟩ := x; exact ⟨t, u, v, k _ _ (.inl rfl) e⟩
  | frz ob u ih => obtain ⟨e, q⟩ := x; exact ⟨k _ _ (.inl rfl) e, ih q⟩
  | tbl ps =>
    have e : h.get? a = some { cls := .none, data := .fields ps } := x
    show h'.get? a = some { cls := .none, data := .fields ps }
    exact k a _ (.inl rfl) e
  | met f y =>
    have e : h.get? a = some (PySem.W.methodObj (.ref f) (.ref y)) := x
    show h'.get? a = some (PySem.W.methodObj (.ref f) (.ref y))
    exact k a _ (.inl rfl) e
  | ext φ => obtain ⟨p, ⟨o, e⟩, st⟩ := x; exact ⟨st _ _ p fun o q => k _ _ (.inl rfl) q, ⟨o, k _ _ (.inl rfl) e⟩, st⟩
theorem HOk.lt (x : HOk P w H h) (e : H a = some o) : a < h.objs.size := (x a o e).lt
theorem HOk.fresh (x : HOk P w H h) (e : h.objs.size ≤ a) : H a = none := by
  cases q : H a with
  | none => rfl
  | some u => exact absurd (Nat.lt_of_lt_of_le (x.lt q) e) (Nat.lt_irrefl _)
/-- every object of the heap is kept -/
theorem HOk.kept (x : HOk P w H h) (k : ∀ b u, h.get? b = some u → h'.get? b = some u) : HOk P w H h' := fun a o e =>
  (x a o e).stay (fun b u _ q => k b u q) (fun _ q => q) fun _ _ q => q
/-- a new object is laid and tracked -/
theorem HOk.laid (x : HOk P w H h) (k : ∀ b u, h.get? b = some u → h'.get? b = some u) (hp : h.objs.size ≤ a) (new : ObjOk P w (upd H a o) h' a o) : HOk P w (upd H a o) h' := fun b u e => by
  have hn := x.fresh hp
  by_cases hb : b = a
  · subst hb; rw [upd_same] at e; cases e; exact new
  · rw [upd_ne hb] at e
    exact (x b u e).stay (fun c v _ q => k c v q) (fun c q => by rw [upd_ne (ne_of_none q hn)]; exact q) fun c xs q => by rw [upd_ne (ne_of_none q hn)]; exact q
end

/-- what may be read as u: it is u, or a known u -/
def Rd (H : Hp) (a : Addr) (u : HO) : Prop := H a = some u ∨ ∃ o, H a = some (.frz o u)
theorem Rd.ok {P : Program} {w : World} {H : Hp} {h : Heap} {a : Addr} {u : HO} (r : Rd H a u) (x : HOk P w H h) : ObjOk P w H h a u := by
  rcases r with r | ⟨o, r⟩
  · exact x a u r
  · obtain ⟨_, q⟩ := x a _ r
    exact q
/-- what may be written -/
def Mut : Option HO → Prop
  | some (.lst _) => True
  | some (.dK _) => True
  | some (.dT _) => True
  | some (.set _ _) => True
  | some (.ins _ _ _) => True
  | some (.ext _) => True
  | _ => False
section
variable {P : Program} {w : World} {H : Hp} {h h' : Heap} {x e : Addr} {o' : HO}
/-- the object at e is changed: x itself, or the dict of the instance x -/
theorem HOk.write (ok : HOk P w H h) (mu : Mut (H x)) (he : e = x ∨ H e = some (.own x)) (k : ∀ b u, b ≠ e → h.get? b = some u → h'.get? b = some u) (heo : ∃ u, h'.get? e = some u)
    (new : ObjOk P w (upd H x o') h' x o') : HOk P w (upd H x o') h' := fun b u q => by
  have nown : ∀ c y, H c = some (.own y) → c ≠ x := fun c y r z => by subst z; rw [r] at mu; exact mu
  have ntup : ∀ c xs, H c = some (.tup xs) → c ≠ x := fun c xs r z => by subst z; rw [r] at mu; exact mu
  by_cases hb : b = x
  · subst hb; rw [upd_same] at q; cases q; exact new
  · rw [upd_ne hb] at q
    by_cases hbe : b = e
    · have q' : H b = some (.own x) := by
        rcases he with z | z
        · exact absurd (hbe.trans z) hb
        · rw [hbe]; exact z
      rw [q] at q'; cases q'
      obtain ⟨v, hv⟩ := heo
      exact ⟨v, by rw [hbe]; exact hv⟩
    · refine (ok b u q).stay (fun c v hc r => k c v ?_ r) (fun c r => by rw [upd_ne (nown c b r)]; exact r) fun c xs r => by rw [upd_ne (ntup c xs r)]; exact r
      rcases hc with rfl | hc
      · exact hbe
      · rintro rfl
        rcases he with z | z
        · exact nown c b hc z
        · rw [hc] at z; cases z; exact hb rfl
end

/-! ### kept unless tracked; of the frames at fs (the callers') the slots may change (an exception that passes writes there); of the records at ex (iterators) nothing is said -/
structure Un (fs ex : List Addr) (H H' : Hp) (h h' : Heap) : Prop where
  keep : ∀ b o, h.get? b = some o → H b = none → b ∉ fs → b ∉ ex → h'.get? b = some o
  slot : ∀ b o, h.get? b = some o → H b = none → b ∈ fs → b ∉ ex → ∃ sl, h'.get? b = some { o with slots := sl }
  free : ∀ b o, h.get? b = some o → H b = none → b ∉ ex → H' b = none
  there : ∀ b o, h.get? b = some o → b ∉ ex → ∃ o', h'.get? b = some o'
  tups : ∀ b xs, H b = some (.tup xs) → H' b = some (.tup xs)
  frzs : ∀ b o u, H b = some (.frz o u) → H' b = some (.frz o u)
  tbls : ∀ b ps, H b = some (.tbl ps) → ∃ more, H' b = some (.tbl (ps ++ more))
section
variable {fs fs' ex ex' : List Addr} {H H1 H2 : Hp} {h h1 h2 h' : Heap} {a x e : Addr} {o : HO}
theorem Un.any (u : Un fs ex H H1 h h1) {b : Addr} {ob : Obj} (q : h.get? b = some ob) (n : H b = none) (hx : b ∉ ex) : ∃ sl, h1.get? b = some { ob with slots := sl } := by
  by_cases hb : b ∈ fs
  · exact u.slot b ob q n hb hx
  · exact ⟨ob.slots, u.keep b ob q n hb hx⟩
theorem Un.kept (k : ∀ b u, h.get? b = some u → h'.get? b = some u) : Un fs ex H H h h' :=
  ⟨fun b ob q _ _ _ => k b ob q, fun b ob q _ _ _ => ⟨ob.slots, k b ob q⟩, fun _ _ _ n _ => n, fun b ob q _ => ⟨ob, k b ob q⟩, fun _ _ q => q, fun _ _ _ q => q, fun _ ps q => ⟨#[], by rw [q]; simp⟩⟩
theorem Un.refl : Un fs ex H H h h := Un.kept fun _ _ q => q
theorem Un.laid (k : ∀ b u, h.get? b = some u → h'.get? b = some u) (hp : h.objs.size ≤ a) (hn : H a = none) : Un fs ex H (upd H a o) h h' where
  keep := fun b u q _ _ _ => k b u q
  slot := fun b u q _ _ _ => ⟨u.slots, k b u q⟩
  free := fun b u q n _ => by rw [upd_ne (Nat.ne_of_lt (Nat.lt_of_lt_of_le (Heap.lt_size q) hp))]; exact n
  there := fun b u q _ => ⟨u, k b u q⟩
  tups := fun b xs q => by rw [upd_ne (ne_of_none q hn)]; exact q
  frzs := fun b u xs q => by rw [upd_ne (ne_of_none q hn)]; exact q
  tbls := fun b ps q => ⟨#[], by rw [upd_ne (ne_of_none q hn), q]; simp⟩
theorem Un.write (mu : Mut (H x)) (he : e = x ∨ H e = some (.own x)) (k : ∀ b u, b ≠ e → h.get? b = some u → h'.get? b = some u) (heo : ∃ u, h'.get? e = some u) : Un fs ex H (upd H x o) h h' := by
  have hx : ∀ b, H b = none → b ≠ x := fun b n z => by subst z; rw [n] at mu; exact mu
  have hb : ∀ b, H b = none → b ≠ e := fun b n z => by
    subst z
    rcases he with r | r
    · exact hx b n r
    · rw [n] at r; cases r
  have hm : ∀ b u, H b = some u → ¬ Mut (some u) → b ≠ x := fun b u q nm z => by subst z; rw [q] at mu; exact nm mu
  refine ⟨fun b u q n _ _ => k b u (hb b n) q, fun b u q n _ _ => ⟨u.slots, k b u (hb b n) q⟩, fun b u q n _ => by rw [upd_ne (hx b n)]; exact n, fun b u q _ => ?_,
    fun b xs q => by rw [upd_ne (hm b _ q fun z => z)]; exact q, fun b u xs q => by rw [upd_ne (hm b _ q fun z => z)]; exact q, fun b ps q => ⟨#[], by rw [upd_ne (hm b _ q fun z => z), q]; simp⟩⟩
  by_cases hbe : b = e
  · subst hbe; exact heo
  · exact ⟨u, k b u hbe q⟩
end

/-! ### the heap without what is tracked -/
def trk (h : Heap) (H : Hp) : List Addr := (List.range h.objs.size).filter fun a => (H a).isSome
def hidT (h : Heap) (H : Hp) : Heap := PySem.W.hideAll h (trk h H)
theorem hidT_size (h : Heap) (H : Hp) : (hidT h H).objs.size = h.objs.size := PySem.W.hideAll_size _ _
theorem hidT_get {h : Heap} {H : Hp} {b : Addr} {o : Obj} (e : h.get? b = some o) (n : H b = none) : (hidT h H).get? b = some o :=
  PySem.W.hideAll_get _ e fun hm => by
    have q : (H b).isSome = true := (List.mem_filter.mp hm).2
    rw [n] at q; simp at q
theorem of_hidT {h : Heap} {H : Hp} {b : Addr} {o : Obj} (e : (hidT h H).get? b = some o) : h.get? b = some o ∧ H b = none := by
  have e' : h.get? b = some o := PySem.W.of_hideAll (trk h H) e
  refine ⟨e', ?_⟩
  cases q : H b with
  | none => rfl
  | some x =>
    have hm : b ∈ trk h H := List.mem_filter.mpr ⟨List.mem_range.mpr (Heap.lt_size e'), by simp [q]⟩
    have z : (hidT h H).get? b = none := PySem.W.hideAll_none (trk h H) hm
    rw [z] at e; cases e

/-! ### OpenK's ledger, filled with every new object but one -/
end L2

namespace L2
open PySem PySem.Spec PyProof.Rows

/-- the module's facts, over the base: the heap at the law's entry without what is tracked there -/
structure Mod (K : PySem.W.Frag) (mg : Str → Option Value) (base : Heap) : Prop where
  kin : K.In base
  glob : base.Ns mainGlobals mg
  blt : ∃ mb, base.Ns builtinsNs mb ∧ ∀ x : Str, x ≠ "__name__" → mb x = bootBuiltins x
  nolimit : base.NoLimit

/-- the context: a def's body (or a comprehension's block) running. base: fixed through the whole law; s₀, H₀: the entry; outer: the frames whose slots others may change (a def's callers); stack: all frames that run;
   ex: iterators that were made ahead of the entry and are walked here (a comprehension's); fn: the names whose cells were made at the entry (a def: all; a comprehension's block: its own); calm: not within an except suite; pn: pins that every state bears; xe: what is wanted of an exception that leaves the code -/
structure Cx where
  prog : Program
  w : World
  K : PySem.W.Frag
  mg : Str → Option Value
  base : Heap
  A : Around
  N : List Str
  s₀ : Shared
  H₀ : Hp
  env : Env
  outer : List Env
  stack : List Env
  ex : List Addr
  fn : Str → Bool
  calm : Bool
  pn : List (Addr × Obj)
  xe : Value → Shared → Prop
/-- the callers' frames -/
def frs (l : List Env) : List Addr := l.filterMap (·.frame)
abbrev Cx.fs (X : Cx) : List Addr := frs X.outer

def Vis (sc : Scope) (x : Str) : Prop := sc.names.lookup x = some .local ∨ sc.names.lookup x = some .cell ∨ sc.names.lookup x = some .free
def Loc (sc : Scope) (x : Str) : Prop := sc.names.lookup x = some .local ∨ sc.names.lookup x = some .cell
def Look (env : Env) (h : Heap) (m : Str → Option Value) (x : Str) (u : Value) : Prop :=
  (env.kindOf x = some .local ∧ m x = some u) ∨ ((env.kindOf x = some .cell ∨ env.kindOf x = some .free) ∧ ∃ c, env.cells.lookup x = some c ∧ h.IsCell c (some u))

structure Cx.Ok (X : Cx) : Prop where
  mod : Mod X.K X.mg X.base
  kind : X.env.scope.kind = .function
  glob : X.env.globals = mainGlobals
  blt : X.env.builtins = builtinsNs
  above : X.s₀.heap.objs.size ≤ X.env.locals
  inj : ∀ x y c, X.env.cells.lookup x = some c → X.env.cells.lookup y = some c → x = y
  has : ∀ x, (X.env.kindOf x = some .cell ∨ X.env.kindOf x = some .free) → ∃ c, X.env.cells.lookup x = some c
  cab : ∀ x c, X.fn x = true → X.env.cells.lookup x = some c → X.s₀.heap.objs.size ≤ c
  hd : X.calm = true → X.A.handled = none
  frames : X.A.frames = some X.stack
  stk : X.stack = X.outer ∨ (X.stack = X.env :: X.outer ∧ X.env.frame = some X.env.locals)
  exf : ∀ b ∈ X.ex, b ≠ X.env.locals ∧ ∀ x c, X.env.cells.lookup x = some c → c ≠ b
  bs : ∀ b o, X.base.get? b = some o → X.s₀.heap.get? b = some o ∧ X.H₀ b = none
  bsz : X.base.objs.size ≤ X.s₀.heap.objs.size
  noex : ∀ b o, X.base.get? b = some o → b ∉ X.ex
  exfs : ∀ b ∈ X.ex, b ∉ X.fs
  funs : X.s₀.heap.FunFrames X.base X.outer
  frf : ∀ b ∈ X.fs, X.H₀ b = none

structure Inv (X : Cx) (pins : List (Addr × Obj)) (σ : List (Option V)) (H : Hp) (s : Shared) : Prop where
  ok : X.Ok
  os : s.os = X.s₀.os
  bare : AllBare s.gens
  base : Un X.fs X.ex X.H₀ H X.s₀.heap s.heap
  loc : ∃ m, s.heap.Ns X.env.locals m ∧ ∀ (i : Nat) (x : Str) (v : V), X.N[i]? = some x → σ[i]? = some (some v) → Vis X.env.scope x → ∃ u, RelV v u ∧ Look X.env s.heap m x u
  cell : ∀ x c, X.env.cells.lookup x = some c → ∃ v, s.heap.IsCell c v
  free : H X.env.locals = none
  freeC : ∀ x c, X.env.cells.lookup x = some c → H c = none
  pin : ∀ p ∈ X.pn ++ pins, s.heap.get? p.1 = some p.2 ∧ H p.1 = none ∧ p.1 ≠ X.env.locals ∧ p.1 ∉ X.fs ∧ ∀ v, p.2.data ≠ .cell v
  hok : HOk X.prog X.w H s.heap
  len : σ.length = X.N.length

section
variable {X : Cx} {pins : List (Addr × Obj)} {σ : List (Option V)} {H H' : Hp} {s : Shared} {h' : Heap}

theorem Cx.Ok.nofr (ok : X.Ok) {b : Addr} {o : Obj} (e : X.base.get? b = some o) : b ∉ X.fs := fun hb => by
  have := (ok.funs.mem hb).1
  rw [e] at this; cases this
theorem Inv.bs (I : Inv X pins σ H s) : ∀ b o, X.base.get? b = some o → s.heap.get? b = some o ∧ H b = none := fun b o e =>
  ⟨I.base.keep b o (I.ok.bs b o e).1 (I.ok.bs b o e).2 (I.ok.nofr e) (I.ok.noex b o e), I.base.free b o (I.ok.bs b o e).1 (I.ok.bs b o e).2 (I.ok.noex b o e)⟩
theorem Inv.bk (I : Inv X pins σ H s) : ∀ b o, X.base.get? b = some o → s.heap.get? b = some o := fun b o e => (I.bs b o e).1
theorem Inv.mod (I : Inv X pins σ H s) : Mod X.K X.mg X.base := I.ok.mod
theorem Inv.kIn (I : Inv X pins σ H s) : X.K.In s.heap := I.ok.mod.kin.keeps I.bk
theorem Inv.lt (I : Inv X pins σ H s) : X.env.locals < s.heap.objs.size := let ⟨_, hn, _⟩ := I.loc; hn.lt
theorem Inv.sz (I : Inv X pins σ H s) : X.s₀.heap.objs.size ≤ s.heap.objs.size := Nat.le_trans I.ok.above (Nat.le_of_lt I.lt)
theorem Inv.nofs (I : Inv X pins σ H s) {a : Addr} (h : s.heap.objs.size ≤ a) : a ∉ X.fs := fun hb => by
  obtain ⟨_, o, ho, _⟩ := I.ok.funs.mem hb
  exact absurd (Nat.lt_of_lt_of_le (Heap.lt_size ho) (Nat.le_trans I.sz h)) (Nat.lt_irrefl _)
theorem Inv.cne (I : Inv X pins σ H s) : ∀ x c, X.env.cells.lookup x = some c → c ≠ X.env.locals := fun x c e z => by
  obtain ⟨v, o, ho, hd⟩ := I.cell x c e
  obtain ⟨m, ⟨o', es, ep, ho', hd', _⟩, _⟩ := I.loc
  rw [z, ho'] at ho; cases ho; rw [hd'] at hd; cases hd
theorem Inv.funs (I : Inv X pins σ H s) : s.heap.FunFrames X.base X.outer := by
  have all : ∀ (l : List Env), (∀ b ∈ frs l, b ∈ X.fs) → X.s₀.heap.FunFrames X.base l → s.heap.FunFrames X.base l := by
    intro l
    induction l with
    | nil => intro _ _; trivial
    | cons env r ih =>
      intro hs hl
      obtain ⟨hk, ⟨L, o, hf, hn, ho, hd⟩, hr⟩ := hl
      have hL : L ∈ X.fs := hs L (by unfold frs; rw [List.filterMap_cons, hf]; exact List.mem_cons_self)
      obtain ⟨sl, e⟩ := I.base.slot L o ho (I.ok.frf L hL) hL fun z => I.ok.exfs L z hL
      exact ⟨hk, ⟨L, _, hf, hn, e, hd⟩, ih (fun b hb => hs b (by unfold frs; rw [List.filterMap_cons, hf]; exact List.mem_cons_of_mem _ hb)) hr⟩
  exact all X.outer (fun _ hb => hb) I.ok.funs

/-- the frames that run, for a call -/
theorem Inv.stack (I : Inv X pins σ H s) : s.heap.FunFrames X.base X.stack := by
  rcases I.ok.stk with e | ⟨e, hf⟩
  · rw [e]; exact I.funs
  · rw [e]
    obtain ⟨m, hn, _⟩ := I.loc
    refine .cons (by rw [I.ok.kind]; decide) hf hn ?_ I.funs
    exact Heap.get?_none_of_le (Nat.le_trans I.ok.bsz I.ok.above)
theorem Inv.stkSub (I : Inv X pins σ H s) : ∀ b ∈ frs X.stack, b ∈ X.env.locals :: X.fs := fun b hb => by
  rcases I.ok.stk with e | ⟨e, hf⟩
  · rw [e] at hb; exact List.mem_cons_of_mem _ hb
  · rw [e] at hb
    unfold frs at hb
    rw [List.filterMap_cons, hf] at hb
    exact hb
theorem Inv.stkFree (I : Inv X pins σ H s) : ∀ b ∈ frs X.stack, H b = none := fun b hb => by
  rcases List.mem_cons.mp (I.stkSub b hb) with e | hb
  · rw [e]; exact I.free
  · obtain ⟨_, o, ho, _⟩ := I.ok.funs.mem hb
    exact I.base.free b o ho (I.ok.frf b hb) fun z => I.ok.exfs b z hb

/-- THE STEP: the untracked objects but the frame and the records at ch are kept (the callers' frames up to slots), the frame's map is kept, the new abstract heap is held -/
theorem Inv.step {g' : Array GenState} {t' : Nat} {d' : Drawn} {ch : List Addr} (I : Inv X pins σ H s)
    (hch : ∀ b ∈ ch, (b ∈ X.ex ∨ X.s₀.heap.objs.size ≤ b) ∧ b ≠ X.env.locals ∧ (∀ x c, X.env.cells.lookup x = some c → c ≠ b) ∧ ∀ p ∈ X.pn ++ pins, p.1 ≠ b)
    (keep : ∀ b o, b ≠ X.env.locals → b ∉ X.fs → b ∉ ch → s.heap.get? b = some o → H b = none → h'.get? b = some o)
    (slot : ∀ b o, b ≠ X.env.locals → b ∈ X.fs → b ∉ ch → s.heap.get? b = some o → H b = none → ∃ sl, h'.get? b = some { o with slots := sl }) (free : ∀ b o, b ∉ ch → s.heap.get? b = some o → H b = none → H' b = none)
    (there : ∀ b o, b ∉ ch → s.heap.get? b = some o → ∃ o', h'.get? b = some o')
    (tups : ∀ b xs, H b = some (.tup xs) → H' b = some (.tup xs)) (frzs : ∀ b o u, H b = some (.frz o u) → H' b = some (.frz o u)) (tbls : ∀ b ps, H b = some (.tbl ps) → ∃ more, H' b = some (.tbl (ps ++ more)))
    (ns : ∀ m, s.heap.Ns X.env.locals m → h'.Ns X.env.locals m) (hok : HOk X.prog X.w H' h') (hg : AllBare g') :
    Inv X pins σ H' { s with heap := h', gens := g', drawn := d', toks := t' } := by
  have neL : ∀ b o, X.s₀.heap.get? b = some o → b ≠ X.env.locals := fun b o e => Nat.ne_of_lt (Nat.lt_of_lt_of_le (Heap.lt_size e) I.ok.above)
  have neC : ∀ b o, X.s₀.heap.get? b = some o → b ∉ X.ex → b ∉ ch := fun b o e hx hb => by
    rcases (hch b hb).1 with z | z
    · exact hx z
    · exact absurd (Nat.lt_of_lt_of_le (Heap.lt_size e) z) (Nat.lt_irrefl _)
  have cellK : ∀ x c, X.env.cells.lookup x = some c → ∀ v, s.heap.IsCell c v → h'.IsCell c v := fun x c e v ⟨o, ho, hd⟩ => by
    have nch : c ∉ ch := fun z => (hch c z).2.2.1 x c e rfl
    by_cases hc : c ∈ X.fs
    · obtain ⟨sl, q⟩ := slot c o (I.cne x c e) hc nch ho (I.freeC x c e)
      exact ⟨_, q, hd⟩
    · exact ⟨o, keep c o (I.cne x c e) hc nch ho (I.freeC x c e), hd⟩
  refine ⟨I.ok, I.os, hg, ⟨fun b o e n hb hx => ?_, fun b o e n hb hx => ?_, fun b o e n hx => ?_, fun b o e hx => ?_, fun b xs e => tups b xs (I.base.tups b xs e), fun b o xs e => frzs b o xs (I.base.frzs b o xs e), fun b ps e => ?_⟩, ?_, fun x c e => ?_, ?_, fun x c e => ?_, fun p hp => ?_, hok, I.len⟩
  · exact keep b o (neL b o e) hb (neC b o e hx) (I.base.keep b o e n hb hx) (I.base.free b o e n hx)
  · obtain ⟨sl, e1⟩ := I.base.slot b o e n hb hx
    obtain ⟨sl', e2⟩ := slot b _ (neL b o e) hb (neC b o e hx) e1 (I.base.free b o e n hx)
    exact ⟨sl', e2⟩
  · obtain ⟨o', e1⟩ := I.base.there b o e hx
    exact free b o' (neC b o e hx) e1 (I.base.free b o e n hx)
  · obtain ⟨o', e1⟩ := I.base.there b o e hx
    exact there b o' (neC b o e hx) e1
  · obtain ⟨m1, e1⟩ := I.base.tbls b ps e
    obtain ⟨m2, e2⟩ := tbls b _ e1
    exact ⟨m1 ++ m2, by rw [e2, Array.append_assoc]⟩
  · obtain ⟨m, hn, hl⟩ := I.loc
    refine ⟨m, ns m hn, fun i x v e1 e2 e3 => ?_⟩
    obtain ⟨u, r, l⟩ := hl i x v e1 e2 e3
    refine ⟨u, r, ?_⟩
    rcases l with l | ⟨k, c, e, z⟩
    · exact .inl l
    · exact .inr ⟨k, c, e, cellK x c e _ z⟩
  · obtain ⟨v, z⟩ := I.cell x c e
    exact ⟨v, cellK x c e v z⟩
  · obtain ⟨m, ⟨o, _, _, ho, _⟩, _⟩ := I.loc
    exact free _ o (fun z => (hch _ z).2.1 rfl) ho I.free
  · obtain ⟨v, o, ho, hd⟩ := I.cell x c e
    exact free c o (fun z => (hch c z).2.2.1 x c e rfl) ho (I.freeC x c e)
  · obtain ⟨e, n, ne, nf, d⟩ := I.pin p hp
    have nch : p.1 ∉ ch := fun z => (hch p.1 z).2.2.2 p hp rfl
    exact ⟨keep p.1 p.2 ne nf nch e n, free p.1 p.2 nch e n, ne, nf, d⟩
/-- .. where the frame's own object is kept too -/
theorem Inv.un {t' : Nat} (I : Inv X pins σ H s) (u : Un X.fs [] H H' s.heap h') (hok : HOk X.prog X.w H' h') : Inv X pins σ H' { s with heap := h', toks := t' } := by
  obtain ⟨m, ⟨o, es, ep, ho, r⟩, _⟩ := id I.loc
  obtain ⟨sl, hL⟩ := u.any ho I.free (by simp)
  exact I.step (g' := s.gens) (d' := s.drawn) (ch := []) (fun _ z => nomatch z) (fun b o _ hb _ e n => u.keep b o e n hb (by simp)) (fun b o _ hb _ e n => u.slot b o e n hb (by simp)) (fun b o _ e n => u.free b o e n (by simp)) (fun b o _ e => u.there b o e (by simp)) u.tups u.frzs u.tbls (fun m' hm => by
    obtain ⟨o', es', ep', ho', r'⟩ := hm
    rw [ho] at ho'; cases ho'
    exact ⟨_, es', ep', hL, r'⟩) hok I.bare
/-- behind a call (or a comprehension's block): the slots of this frame may have changed too, the records at ch may have turned -/
theorem Inv.call {g' : Array GenState} {t' : Nat} {d' : Drawn} {ch : List Addr} (I : Inv X pins σ H s) (u : Un (frs X.stack) ch H H' s.heap h') (hok : HOk X.prog X.w H' h') (hg : AllBare g')
    (hch : ∀ b ∈ ch, (b ∈ X.ex ∨ X.s₀.heap.objs.size ≤ b) ∧ b ≠ X.env.locals ∧ (∀ x c, X.env.cells.lookup x = some c → c ≠ b) ∧ ∀ p ∈ X.pn ++ pins, p.1 ≠ b) :
    Inv X pins σ H' { s with heap := h', gens := g', drawn := d', toks := t' } := by
  obtain ⟨m, ⟨o, es, ep, ho, r⟩, _⟩ := id I.loc
  obtain ⟨sl, hL⟩ := u.any ho I.free fun z => (hch _ z).2.1 rfl
  exact I.step (ch := ch) hch (fun b o hL hb hc e n => u.keep b o e n (fun z => (List.mem_cons.mp (I.stkSub b z)).elim hL hb) hc) (fun b o _ _ hc e n => u.any e n hc) (fun b o hc e n => u.free b o e n hc) (fun b o hc e => u.there b o e hc) u.tups u.frzs u.tbls (fun m' hm => by
    obtain ⟨o', es', ep', ho', r'⟩ := hm
    rw [ho] at ho'; cases ho'
    exact ⟨_, es', ep', hL, r'⟩) hok hg
/-- an untracked record of ours (an iterator) has turned -/
theorem Inv.turned {t' : Nat} {it : Addr} (I : Inv X pins σ H s) (k : ∀ b o, b ≠ it → s.heap.get? b = some o → h'.get? b = some o) (hn : H it = none) (hL : it ≠ X.env.locals)
    (h1 : it ∈ X.ex ∨ X.s₀.heap.objs.size ≤ it) (h2 : ∀ x c, X.env.cells.lookup x = some c → c ≠ it) (h3 : ∀ p ∈ X.pn ++ pins, p.1 ≠ it) : Inv X pins σ H { s with heap := h', toks := t' } := by
  have nit : ∀ b u, H b = some u → b ≠ it := fun b u e z => by rw [z, hn] at e; cases e
  refine I.step (g' := s.gens) (d' := s.drawn) (ch := [it]) (fun b hb => ?_) (fun b o _ _ hc e _ => k b o (fun z => hc (by simp [z])) e) (fun b o _ _ hc e _ => ⟨o.slots, k b o (fun z => hc (by simp [z])) e⟩) (fun _ _ _ _ n => n)
    (fun b o hc e => ⟨o, k b o (fun z => hc (by simp [z])) e⟩) (fun _ _ e => e) (fun _ _ _ e => e) (fun b ps e => ⟨#[], by rw [e]; simp⟩) (fun m hm => ?_) (fun b u e => ?_) I.bare
  · have e : b = it := by simpa using hb
    subst e
    exact ⟨h1, hL, h2, h3⟩
  · obtain ⟨o, es, ep, ho, r⟩ := hm
    exact ⟨o, es, ep, k _ o (Ne.symm hL) ho, r⟩
  · refine (I.hok b u e).stay (fun c v hc q => k c v ?_ q) (fun _ q => q) fun _ _ q => q
    rcases hc with z | z
    · rw [z]; exact nit b u e
    · exact nit c _ z
theorem Inv.tok (I : Inv X pins σ H s) (t : Nat) : Inv X pins σ H { s with toks := t } := I.un (h' := s.heap) (t' := t) Un.refl I.hok
/-- all objects kept -/
theorem Inv.kept {t' : Nat} (I : Inv X pins σ H s) (k : ∀ b u, s.heap.get? b = some u → h'.get? b = some u) : Inv X pins σ H { s with heap := h', toks := t' } := I.un (Un.kept k) (I.hok.kept k)
/-- a new object laid and tracked -/
theorem Inv.laid {a : Addr} {o : HO} {t' : Nat} (I : Inv X pins σ H s) (k : ∀ b u, s.heap.get? b = some u → h'.get? b = some u) (hp : s.heap.objs.size ≤ a) (new : ObjOk X.prog X.w (upd H a o) h' a o) :
    Inv X pins σ (upd H a o) { s with heap := h', toks := t' } := I.un (Un.laid k hp (I.hok.fresh hp)) (I.hok.laid k hp new)
/-- an object written -/
theorem Inv.write {x e : Addr} {o : HO} {t' : Nat} (I : Inv X pins σ H s) (mu : Mut (H x)) (he : e = x ∨ H e = some (.own x)) (k : ∀ b u, b ≠ e → s.heap.get? b = some u → h'.get? b = some u) (heo : ∃ u, h'.get? e = some u)
    (new : ObjOk X.prog X.w (upd H x o) h' x o) : Inv X pins σ (upd H x o) { s with heap := h', toks := t' } := I.un (Un.write mu he k heo) (I.hok.write mu he k heo new)
theorem Inv.pins_of {pins' : List (Addr × Obj)} (I : Inv X pins σ H s) (h : ∀ p ∈ pins', s.heap.get? p.1 = some p.2 ∧ H p.1 = none ∧ p.1 ≠ X.env.locals ∧ p.1 ∉ X.fs ∧ ∀ v, p.2.data ≠ .cell v) : Inv X pins' σ H s :=
  ⟨I.ok, I.os, I.bare, I.base, I.loc, I.cell, I.free, I.freeC, fun p hp => (List.mem_append.mp hp).elim (fun z => I.pin p (List.mem_append_left _ z)) (h p), I.hok, I.len⟩

theorem nodup_ix {N : List Str} (hN : N.Nodup) {i j : Nat} {x : Str} (a : N[i]? = some x) (b : N[j]? = some x) : i = j := by
  obtain ⟨h1, e1⟩ := List.getElem?_eq_some_iff.mp a
  obtain ⟨h2, e2⟩ := List.getElem?_eq_some_iff.mp b
  exact (List.getElem_inj hN).mp (e1.trans e2.symm)

/-- a name is stored; what changed -/
theorem store_ok2 {M : Model} {A : Around} {E : Value → Shared → Prop} {i : Nat} {x : Str} {v : V} {u : Value} {Q : Unit → Shared → Prop} (I : Inv X pins σ H s) (hN : X.N.Nodup) (hi : X.N[i]? = some x) (hx : Loc X.env.scope x) (r : RelV v u)
    (h : ∀ s', Inv X pins (σ.set i (some v)) H s' → (∃ a, Heap.SameBut a s.heap s'.heap ∧ (a = X.env.locals ∨ X.env.cells.lookup x = some a)) → Q () s') (hf : X.fn x = true ∨ X.env.scope.names.lookup x = some .local := by first | exact .inl rfl | exact .inr rfl | assumption) : wpAny M A (storeName X.env x u) Q E s := by
  obtain ⟨m, hn, hl⟩ := id I.loc
  have hcls : (X.env.scope.kind == .class || (X.env.scope.kind == .module && X.env.locals != X.env.globals)) = false := by rw [I.ok.kind]; rfl
  have hiσ : i < σ.length := by rw [I.len]; exact (List.getElem?_eq_some_iff.mp hi).1
  have cne := I.cne
  have tracked : ∀ {a : Addr} {h' : Heap}, (∃ o, s.heap.get? a = some o ∧ H a = none) → Heap.SameBut a s.heap h' → HOk X.prog X.w H h' := fun {a h'} ha hs b ob e => by
    obtain ⟨_, _, hfree⟩ := ha
    refine (I.hok b ob e).stay (fun c w' hc q => (hs.2 c ?_).trans q) (fun _ q => q) fun _ _ q => q
    rintro rfl
    rcases hc with rfl | hc
    · rw [hfree] at e; cases e
    · rw [hfree] at hc; cases hc
  rcases hx with hk | hk
  · refine wpAny_storeName_local hk hn (fun h' hn' hs => ?_) hcls
    obtain ⟨oL, _, _, hoL, _⟩ := id hn
    refine h _ ⟨I.ok, I.os, I.bare, ⟨fun b o e n hb hx => ?_, fun b o e n hb hx => ?_, I.base.free, fun b o e hx => ?_, I.base.tups, I.base.frzs, I.base.tbls⟩, ⟨_, hn', fun j y v' e1 e2 e3 => ?_⟩, fun y c e => ?_, I.free, I.freeC, fun p hp => ?_, tracked ⟨oL, hoL, I.free⟩ hs, by simpa using I.len⟩ ⟨_, hs, .inl rfl⟩
    · exact (hs.2 b (Nat.ne_of_lt (Nat.lt_of_lt_of_le (Heap.lt_size e) I.ok.above))).trans (I.base.keep b o e n hb hx)
    · obtain ⟨sl, e1⟩ := I.base.slot b o e n hb hx
      exact ⟨sl, (hs.2 b (Nat.ne_of_lt (Nat.lt_of_lt_of_le (Heap.lt_size e) I.ok.above))).trans e1⟩
    · obtain ⟨o', e1⟩ := I.base.there b o e hx
      exact ⟨o', (hs.2 b (Nat.ne_of_lt (Nat.lt_of_lt_of_le (Heap.lt_size e) I.ok.above))).trans e1⟩
    · by_cases hj : j = i
      · subst hj
        rw [hi] at e1; cases e1
        rw [List.getElem?_set_self hiσ] at e2
        cases e2
        exact ⟨u, r, .inl ⟨hk, by simp⟩⟩
      · rw [List.getElem?_set_ne (Ne.symm hj)] at e2
        obtain ⟨u', r', q⟩ := hl j y v' e1 e2 e3
        refine ⟨u', r', ?_⟩
        rcases q with ⟨k, e⟩ | ⟨k, c, e, z⟩
        · refine .inl ⟨k, ?_⟩
          have : y ≠ x := fun e => hj (nodup_ix hN e1 (e ▸ hi))
          simp [this, e]
        · exact .inr ⟨k, c, e, z.sameBut hs (cne y c e)⟩
    · obtain ⟨w', z⟩ := I.cell y c e
      exact ⟨w', z.sameBut hs (cne y c e)⟩
    · obtain ⟨e, n, ne, nf, d⟩ := I.pin p hp
      exact ⟨(hs.2 p.1 ne).trans e, n, ne, nf, d⟩
  · have hfn : X.fn x = true := by
      rcases hf with z | z
      · exact z
      · rw [z] at hk; cases hk
    obtain ⟨c, hc⟩ := I.ok.has x (.inl hk)
    obtain ⟨w', z⟩ := I.cell x c hc
    refine wpAny_storeName_cell I.ok.kind hk hc z (fun h' hc' hs => ?_)
    obtain ⟨oc, hoc, hocd⟩ := id z
    refine h { s with heap := h' } ⟨I.ok, I.os, I.bare, ⟨fun b o e n hb hx => ?_, fun b o e n hb hx => ?_, I.base.free, fun b o e hx => ?_, I.base.tups, I.base.frzs, I.base.tbls⟩, ⟨m, hn.sameBut hs (Ne.symm (cne x c hc)), fun j y v' e1 e2 e3 => ?_⟩, fun y c' e => ?_, I.free, I.freeC, fun p hp => ?_, tracked ⟨oc, hoc, I.freeC x c hc⟩ hs, by simpa using I.len⟩ ⟨c, hs, .inr hc⟩
    · exact (hs.2 b (Nat.ne_of_lt (Nat.lt_of_lt_of_le (Heap.lt_size e) (I.ok.cab x c hfn hc)))).trans (I.base.keep b o e n hb hx)
    · obtain ⟨sl, e1⟩ := I.base.slot b o e n hb hx
      exact ⟨sl, (hs.2 b (Nat.ne_of_lt (Nat.lt_of_lt_of_le (Heap.lt_size e) (I.ok.cab x c hfn hc)))).trans e1⟩
    · obtain ⟨o', e1⟩ := I.base.there b o e hx
      exact ⟨o', (hs.2 b (Nat.ne_of_lt (Nat.lt_of_lt_of_le (Heap.lt_size e) (I.ok.cab x c hfn hc)))).trans e1⟩
    · by_cases hj : j = i
      · subst hj
        rw [hi] at e1; cases e1
        rw [List.getElem?_set_self hiσ] at e2
        cases e2
        exact ⟨u, r, .inr ⟨.inl hk, c, hc, hc'⟩⟩
      · rw [List.getElem?_set_ne (Ne.symm hj)] at e2
        obtain ⟨u', r', q⟩ := hl j y v' e1 e2 e3
        refine ⟨u', r', ?_⟩
        rcases q with q | ⟨k, c', e, z'⟩
        · exact .inl q
        · refine .inr ⟨k, c', e, z'.sameBut hs ?_⟩
          rintro rfl
          exact hj (nodup_ix hN e1 (I.ok.inj _ _ _ e hc ▸ hi))
    · by_cases hcc : c' = c
      · subst hcc; exact ⟨_, hc'⟩
      · obtain ⟨w2, z2⟩ := I.cell y c' e
        exact ⟨w2, z2.sameBut hs hcc⟩
    · obtain ⟨e, n, ne, nf, d⟩ := I.pin p hp
      refine ⟨(hs.2 p.1 ?_).trans e, n, ne, nf, d⟩
      intro q
      rw [q, hoc] at e
      have q' : oc = p.2 := Option.some.inj e
      exact d w' (by rw [← q']; exact hocd)
theorem store_ok {M : Model} {A : Around} {E : Value → Shared → Prop} {i : Nat} {x : Str} {v : V} {u : Value} {Q : Unit → Shared → Prop} (I : Inv X pins σ H s) (hN : X.N.Nodup) (hi : X.N[i]? = some x) (hx : Loc X.env.scope x) (r : RelV v u)
    (h : ∀ s', Inv X pins (σ.set i (some v)) H s' → Q () s') (hf : X.fn x = true ∨ X.env.scope.names.lookup x = some .local := by first | exact .inl rfl | exact .inr rfl | assumption) : wpAny M A (storeName X.env x u) Q E s :=
  store_ok2 I hN hi hx r (fun s' I' _ => h s' I') hf
/-- behind a call or a block, the state as it is -/
theorem Inv.call' {s' : Shared} {ch : List Addr} (I : Inv X pins σ H s) (ho : s'.os = s.os) (u : Un (frs X.stack) ch H H' s.heap s'.heap) (hok : HOk X.prog X.w H' s'.heap) (hg : AllBare s'.gens)
    (hch : ∀ b ∈ ch, (b ∈ X.ex ∨ X.s₀.heap.objs.size ≤ b) ∧ b ≠ X.env.locals ∧ (∀ x c, X.env.cells.lookup x = some c → c ≠ b) ∧ ∀ p ∈ X.pn ++ pins, p.1 ≠ b) : Inv X pins σ H' s' := by
  obtain ⟨h', g', d', t', o'⟩ := s'
  have e : o' = s.os := ho
  subst e
  exact I.call (g' := g') (t' := t') (d' := d') u hok hg hch
end

/-! ### the judgements -/
/-- an exception: its class, its own dict's address (where it has one), the abstract heap behind it -/
abbrev XK := Value → Option Addr → Hp → Prop
abbrev St := List (Option V)
abbrev VK := V → Hp → Prop
/-- an expression's reading; a test's; an argument list's -/
abbrev TE := St → Hp → VK → Prop
abbrev TT := St → Hp → (Bool → Hp → Prop) → Prop
abbrev TA := St → Hp → (List V → Hp → Prop) → Prop
/-- what is wanted behind a statement -/
structure Ends where
  nx : St → Hp → Prop
  rt : VK
  bk : St → Hp → Prop := fun _ _ => False
  ct : St → Hp → Prop := fun _ _ => False
abbrev TS := Ends → St → Hp → Prop

def EP (X : Cx) (pins : List (Addr × Obj)) (σ : St) (Q : VK) (u : Value) (s' : Shared) : Prop := ∃ v H', Inv X pins σ H' s' ∧ RelV v u ∧ Q v H'
def TP (X : Cx) (pins : List (Addr × Obj)) (σ : St) (Q : Bool → Hp → Prop) (b : Bool) (s' : Shared) : Prop := ∃ H', Inv X pins σ H' s' ∧ Q b H'
def AP (X : Cx) (pins : List (Addr × Obj)) (σ : St) (Q : List V → Hp → Prop) (us : List Value) (s' : Shared) : Prop := ∃ vs H', Inv X pins σ H' s' ∧ Vals vs us ∧ Q vs H'
def SP (X : Cx) (pins : List (Addr × Obj)) (D : Ends) (f : Flow) (s' : Shared) : Prop :=
  match f with
  | .next => ∃ σ' H', Inv X pins σ' H' s' ∧ D.nx σ' H'
  | .brk => ∃ σ' H', Inv X pins σ' H' s' ∧ D.bk σ' H'
  | .cont => ∃ σ' H', Inv X pins σ' H' s' ∧ D.ct σ' H'
  | .ret u => ∃ v σ' H', Inv X pins σ' H' s' ∧ RelV v u ∧ D.rt v H'

def PE (X : Cx) (e : Expr) (t : TE) : Prop :=
  ∀ (pins : List (Addr × Obj)) (s : Shared) (σ : St) (H : Hp) (Q : VK), Inv X pins σ H s → t σ H Q → wpAny (model X.prog X.w) X.A (eval e X.env) (EP X pins σ Q) X.xe s
def PT (X : Cx) (e : Expr) (t : TT) : Prop :=
  ∀ (pins : List (Addr × Obj)) (s : Shared) (σ : St) (H : Hp) (Q : Bool → Hp → Prop), Inv X pins σ H s → t σ H Q → wpAny (model X.prog X.w) X.A (isTrue e X.env (eval e X.env)) (TP X pins σ Q) X.xe s
/-- a test whatever its 'whole' is (and, or) -/
def PW (X : Cx) (e : Expr) (t : TT) : Prop :=
  ∀ (whole : Sem Value) (pins : List (Addr × Obj)) (s : Shared) (σ : St) (H : Hp) (Q : Bool → Hp → Prop), Inv X pins σ H s → t σ H Q → wpAny (model X.prog X.w) X.A (isTrue e X.env whole) (TP X pins σ Q) X.xe s
theorem PW.pt {X : Cx} {e : Expr} {t : TT} (h : PW X e t) : PT X e t := h _
/-- an argument list (no star), from the left -/
def PA (X : Cx) (es : List Expr) (t : TA) : Prop :=
  ∀ (pos : Pos) (pins : List (Addr × Obj)) (s : Shared) (σ : St) (H : Hp) (Q : List V → Hp → Prop), Inv X pins σ H s → t σ H Q → wpAny (model X.prog X.w) X.A (spliced (backTo pos (starEach es X.env))) (AP X pins σ Q) X.xe s
def PS (X : Cx) (st : Stmt) (t : TS) : Prop :=
  ∀ (pins : List (Addr × Obj)) (s : Shared) (σ : St) (H : Hp) (D : Ends), Inv X pins σ H s → t D σ H → wpAny (model X.prog X.w) X.A (exec st X.env) (SP X pins D) X.xe s
def PSs (X : Cx) (st : List Stmt) (t : TS) : Prop :=
  ∀ (pins : List (Addr × Obj)) (s : Shared) (σ : St) (H : Hp) (D : Ends), Inv X pins σ H s → t D σ H → wpAny (model X.prog X.w) X.A (execs st X.env) (SP X pins D) X.xe s
/-- weaken the end -/
theorem thn {α : Type} {t : Sem α} {Q Q' : α → Shared → Prop} {M : Model} {A : Around} {E : Value → Shared → Prop} {s : Shared} (h : wpAny M A t Q E s) (hQ : ∀ a s, Q a s → Q' a s) : wpAny M A t Q' E s := wpAny_mono h hQ fun _ _ x => x
end L2

namespace L2
open PySem PySem.Spec PyProof.Rows
section
variable {X : Cx}

/-! ### names and constants -/
def tVar (i : Nat) : TE := fun σ H Q => ∃ v, σ[i]? = some (some v) ∧ Q v H
def tC (v : V) : TE := fun _ H Q => Q v H
theorem pe_var {i : Nat} {x : Str} {pos : Pos} (hN : X.N[i]? = some x) (hv : Vis X.env.scope x) (hd : (x == ("__debug__" : Str)) = false := by decide) (hcd : (x == ("__classdict__" : Str)) = false := by decide) : PE X (.Name x pos) (tVar i) := by
  intro pins s σ H Q I h
  obtain ⟨v, e, h⟩ := h
  obtain ⟨m, hn, hl⟩ := I.loc
  obtain ⟨u, r, l⟩ := hl i x v hN e hv
  have fin : EP X pins σ Q u s := ⟨v, H, I, r, h⟩
  rcases l with ⟨hk, hm⟩ | ⟨hk, c, hc, hcell⟩
  · exact wpAny_Name (wpAny_loadName_local I.ok.kind hk hn hm fin) hd
  · rcases hk with hk | hk
    · exact wpAny_Name (wpAny_loadName_cell I.ok.kind hk hc hcell fin) hd
    · exact wpAny_Name (wpAny_loadName_free I.ok.kind hk hc hcell fin hcd) hd
theorem pe_int {i j pos} : PE X (.Constant (.int i) j pos) (tC (.int i)) := fun _ _ _ H _ I h => wpAny_Constant_int ⟨.int i, H, I.tok _, ⟨_, rfl⟩, h⟩
theorem pe_bl {b j pos} : PE X (.Constant (.bool b) j pos) (tC (.bl b)) := fun _ _ _ H _ I h => Constant_bool ⟨.bl b, H, I, rfl, h⟩
theorem pe_non {j pos} : PE X (.Constant .none j pos) (tC .non) := fun _ _ _ H _ I h => Constant_none ⟨.non, H, I, rfl, h⟩
theorem pe_str {x j pos} : PE X (.Constant (.str x) j pos) (tC (.str x)) := fun _ _ _ H _ I h => Calls.Constant_str ⟨.str x, H, I.tok _, ⟨_, rfl⟩, h⟩

/-- a global name of the def -/
def Gl (X : Cx) (x : Str) : Prop := X.env.kindOf x = some .globalImplicit
theorem ld_glob {E : Value → Shared → Prop} {pins : List (Addr × Obj)} {s : Shared} {σ : St} {H : Hp} {x : Str} {u : Value} {pos : Pos} {Q : Value → Shared → Prop} (I : Inv X pins σ H s) (hg : Gl X x) (hm : X.mg x = some u) (h : Q u s)
    (hd : (x == ("__debug__" : Str)) = false := by decide) : wpAny (model X.prog X.w) X.A (eval (.Name x pos) X.env) Q E s :=
  Calls.Name_function_global I.ok.kind hg (Calls.loadGlobal_global (by rw [I.ok.glob]; exact I.mod.glob.keeps I.bk) hm h) hd
theorem ld_blt {E : Value → Shared → Prop} {pins : List (Addr × Obj)} {s : Shared} {σ : St} {H : Hp} {x : Str} {u : Value} {pos : Pos} {Q : Value → Shared → Prop} (I : Inv X pins σ H s) (hg : Gl X x) (hm : X.mg x = none) (hv : bootBuiltins x = some u) (h : Q u s)
    (hn : x ≠ "__name__" := by decide) (hd : (x == ("__debug__" : Str)) = false := by decide) : wpAny (model X.prog X.w) X.A (eval (.Name x pos) X.env) Q E s := by
  obtain ⟨mb, h1, h2⟩ := I.mod.blt
  exact Calls.Name_function_global I.ok.kind hg (Calls.loadGlobal_builtin (by rw [I.ok.glob]; exact I.mod.glob.keeps I.bk) hm (by rw [I.ok.blt]; exact h1.keeps I.bk) ((h2 x hn).trans hv) h) hd
/-- a module's constant, a class, a function, as a value -/
theorem pe_glob {x : Str} {v : V} {u : Value} {pos : Pos} (hg : Gl X x) (hm : X.mg x = some u) (r : RelV v u) (hd : (x == ("__debug__" : Str)) = false := by decide) : PE X (.Name x pos) (tC v) :=
  fun _ _ _ H _ I h => ld_glob I hg hm ⟨v, H, I, r, h⟩ hd
theorem pe_bltn {x : Str} {v : V} {u : Value} {pos : Pos} (hg : Gl X x) (hm : X.mg x = none) (hv : bootBuiltins x = some u) (r : RelV v u) (hn : x ≠ "__name__" := by decide) (hd : (x == ("__debug__" : Str)) = false := by decide) : PE X (.Name x pos) (tC v) :=
  fun _ _ _ H _ I h => ld_blt I hg hm hv ⟨v, H, I, r, h⟩ hn hd

/-! ### arithmetic -/
variable {a b : Expr} {ta tb : TE} {pos : Pos}
/-! ### comparisons -/
/-- a comparison as a value, as a test -/
def tB (t : TE) : TT := fun σ H Q => t σ H fun x H1 => ∃ c, x = .bl c ∧ Q c H1
/-- an expression whose value is a bool, as a test -/
theorem pt_val {e : Expr} {t : TE} (h : PE X e t) (he : ∀ whole, isTrue e X.env whole = (do let v ← whole; standAt e.pos; holding [v] (truthy v)) := by intro _; rfl) : PT X e (tB t) := by
  intro pins s σ H Q I hw
  refine isTrue_plain (thn (h pins s σ H _ I hw) fun v s1 ⟨x, H1, I1, r1, q1⟩ => ?_) (he _)
  obtain ⟨d, rfl, q⟩ := q1
  cases r1
  exact wpAny_truthy_bool ⟨H1, I1, q⟩

/-! ### and, or, not -/
variable {tA tB' : TT} {rest : List Expr}
def tAnd (t u : TT) : TT := fun σ H Q => t σ H fun c H1 => if c = true then u σ H1 Q else Q false H1
def tOr (t u : TT) : TT := fun σ H Q => t σ H fun c H1 => if c = true then Q true H1 else u σ H1 Q
def tNot (t : TT) : TT := fun σ H Q => t σ H fun c H1 => Q (!c) H1
theorem pw_and1 (ha : PT X a tA) : PW X (.BoolOp .And [a] pos) tA := by
  intro wh pins s σ H Q I h
  refine isTrue_and (thn (ha pins s σ H Q I h) fun c s1 e => ?_)
  cases c with
  | true => exact isTrue_and_nil e
  | false => exact e
theorem pw_or1 (ha : PT X a tA) : PW X (.BoolOp .Or [a] pos) tA := by
  intro wh pins s σ H Q I h
  refine isTrue_or (thn (ha pins s σ H Q I h) fun c s1 e => ?_)
  cases c with
  | false => exact isTrue_or_nil e
  | true => exact e
theorem pw_and (ha : PT X a tA) (hb : PW X (.BoolOp .And (b :: rest) pos) tB') : PW X (.BoolOp .And (a :: b :: rest) pos) (tAnd tA tB') := by
  intro wh pins s σ H Q I h
  refine isTrue_and (thn (ha pins s σ H _ I h) fun c s1 ⟨H1, I1, q1⟩ => ?_)
  cases c with
  | true => exact hb wh pins s1 σ H1 Q I1 q1
  | false => exact ⟨H1, I1, q1⟩
theorem pw_or (ha : PT X a tA) (hb : PW X (.BoolOp .Or (b :: rest) pos) tB') : PW X (.BoolOp .Or (a :: b :: rest) pos) (tOr tA tB') := by
  intro wh pins s σ H Q I h
  refine isTrue_or (thn (ha pins s σ H _ I h) fun c s1 ⟨H1, I1, q1⟩ => ?_)
  cases c with
  | true => exact ⟨H1, I1, q1⟩
  | false => exact hb wh pins s1 σ H1 Q I1 q1
theorem pt_not (ha : PT X a tA) : PT X (.UnaryOp .Not a pos) (tNot tA) := by
  intro pins s σ H Q I h
  exact isTrue_not (ha pins s σ H (fun c H1 => Q (!c) H1) I h)
/-- .. as values (bools) -/
def tAndV (ta tb : TE) : TE := fun σ H Q => ta σ H fun x H1 => ∃ c, x = .bl c ∧ if c = true then tb σ H1 Q else Q (.bl false) H1
def tOrV (ta tb : TE) : TE := fun σ H Q => ta σ H fun x H1 => ∃ c, x = .bl c ∧ if c = true then Q (.bl true) H1 else tb σ H1 Q
def tNotV (ta : TE) : TE := fun σ H Q => ta σ H fun x H1 => ∃ c, x = .bl c ∧ Q (.bl (!c)) H1
theorem pe_one {op} {t : TE} (h : PE X a t) : PE X (.BoolOp op [a] pos) t := fun pins s σ H Q I hw => BoolOp_one (h pins s σ H Q I hw)
theorem pe_and (ha : PE X a ta) (hb : PE X (.BoolOp .And (b :: rest) pos) tb) : PE X (.BoolOp .And (a :: b :: rest) pos) (tAndV ta tb) := by
  intro pins s σ H Q I h
  refine BoolOp_and (thn (ha pins s σ H _ I h) fun v s1 ⟨x, H1, I1, r1, q1⟩ => ?_)
  obtain ⟨c, rfl, q1⟩ := q1
  cases r1
  refine wpAny_truthy_bool ?_
  cases c with
  | true => exact hb pins s1 σ H1 Q I1 q1
  | false => exact ⟨.bl false, H1, I1, rfl, q1⟩
theorem pe_or (ha : PE X a ta) (hb : PE X (.BoolOp .Or (b :: rest) pos) tb) : PE X (.BoolOp .Or (a :: b :: rest) pos) (tOrV ta tb) := by
  intro pins s σ H Q I h
  refine BoolOp_or (thn (ha pins s σ H _ I h) fun v s1 ⟨x, H1, I1, r1, q1⟩ => ?_)
  obtain ⟨c, rfl, q1⟩ := q1
  cases r1
  refine wpAny_truthy_bool ?_
  cases c with
  | false => exact hb pins s1 σ H1 Q I1 q1
  | true => exact ⟨.bl true, H1, I1, rfl, q1⟩
theorem pe_not (ha : PE X a ta) : PE X (.UnaryOp .Not a pos) (tNotV ta) := by
  intro pins s σ H Q I h
  refine UnaryOp_ (thn (ha pins s σ H _ I h) fun v s1 ⟨x, H1, I1, r1, q1⟩ => ?_)
  obtain ⟨c, rfl, q1⟩ := q1
  cases r1
  exact not_of (wpAny_truthy_bool ⟨.bl (!c), H1, I1, rfl, q1⟩)
/-- a if t else b -/
def tIf (t : TT) (ta tb : TE) : TE := fun σ H Q => t σ H fun c H1 => if c = true then ta σ H1 Q else tb σ H1 Q
theorem pe_ifExp {c : Expr} (hc : PT X c tA) (ha : PE X a ta) (hb : PE X b tb) : PE X (.IfExp c a b pos) (tIf tA ta tb) := by
  intro pins s σ H Q I h
  refine wpAny_IfExp (thn (hc pins s σ H _ I h) fun d s1 ⟨H1, I1, q1⟩ => ?_)
  cases d with
  | true => exact ha pins s1 σ H1 Q I1 q1
  | false => exact hb pins s1 σ H1 Q I1 q1
end
end L2

namespace L2
open PySem PySem.Spec PyProof.Rows

/-! ### a list, a tuple that is read: tracked, frozen, or an object of the module -/
def SqL (K : PySem.W.Frag) (H : Hp) (a : Addr) (xs : List V) : Prop :=
  Rd H a (.lst xs) ∨
    ∃ (o : Obj) (its : Array Value) (n : Nat), K.lookup a = some o ∧ o.cls = .type "list" ∧ o.dict = none ∧ o.data = .seq its n ∧ its.size ≤ sizeLine ∧ Vals xs its.toList
def SqT (K : PySem.W.Frag) (H : Hp) (a : Addr) (xs : List V) : Prop :=
  Rd H a (.tup xs) ∨
    ∃ (o : Obj) (its : Array Value) (n : Nat), K.lookup a = some o ∧ o.cls = .type "tuple" ∧ o.data = .seq its n ∧ its.size ≤ sizeLine ∧ Vals xs its.toList
def absV : Value → Option V
  | .none => some .non
  | .bool b => some (.bl b)
  | .int i _ => some (.int i)
  | .str x _ => some (.str x)
  | .bytes b _ => some (.byt b)
  | .float b _ => some (.flt b)
  | .ref a => some (.ref a)
  | .type n => some (.ty n)
  | _ => none
theorem RelV.abs {x : V} {u : Value} (r : RelV x u) : absV u = some x := by
  cases x with
  | non => cases r; rfl
  | bl _ => cases r; rfl
  | int _ => obtain ⟨t, rfl⟩ := r; rfl
  | str _ => obtain ⟨t, rfl⟩ := r; rfl
  | byt _ => obtain ⟨t, rfl⟩ := r; rfl
  | flt _ => obtain ⟨t, rfl⟩ := r; rfl
  | ref _ => cases r; rfl
  | ty _ => cases r; rfl
theorem RelV.inj {x y : V} {u : Value} (r : RelV x u) (q : RelV y u) : x = y := Option.some.inj (r.abs.symm.trans q.abs)
theorem Vals.inj : ∀ {xs ys : List V} {us : List Value}, Vals xs us → Vals ys us → xs = ys
  | _, _, _, .nil, .nil => rfl
  | _, _, _, .cons r t, .cons r' t' => by rw [r.inj r', Vals.inj t t']
section
variable {X : Cx} {pins : List (Addr × Obj)} {σ : St} {H : Hp} {s : Shared} {a : Addr} {xs ys : List V}
theorem SqL.of {K : PySem.W.Frag} (h : H a = some (.lst xs)) : SqL K H a xs := .inl (.inl h)
theorem SqT.of {K : PySem.W.Frag} (h : H a = some (.tup xs)) : SqT K H a xs := .inl (.inl h)
theorem Inv.list (I : Inv X pins σ H s) (h : SqL X.K H a xs) : ∃ its : List Value, Vals xs its ∧ PlainL s.heap a its.toArray ∧ xs.length ≤ sizeLine := by
  rcases h with h | ⟨o, its, n, hk, hc, hd, hs, hz, r⟩
  · obtain ⟨z, its, n, r, e⟩ := h.ok I.hok
    exact ⟨its, r, ⟨_, n, e, rfl, rfl, rfl⟩, z⟩
  · refine ⟨its.toList, r, ⟨o, n, I.kIn a o hk, hc, hd, by simpa using hs⟩, ?_⟩
    have e := r.length
    simp only [Array.length_toList] at e
    omega
theorem Inv.tuple (I : Inv X pins σ H s) (h : SqT X.K H a xs) : ∃ its : List Value, Vals xs its ∧ IsTup s.heap a its.toArray ∧ xs.length ≤ sizeLine := by
  rcases h with h | ⟨o, its, n, hk, hc, hs, hz, r⟩
  · obtain ⟨z, its, r, p⟩ := h.ok I.hok
    exact ⟨its, r, p.isTup, z⟩
  · refine ⟨its.toList, r, ⟨o, I.kIn a o hk, hc, n, by simpa using hs⟩, ?_⟩
    have e := r.length
    simp only [Array.length_toList] at e
    omega
theorem Inv.list_inj (I : Inv X pins σ H s) (h : SqL X.K H a xs) (h' : SqL X.K H a ys) : xs = ys := by
  obtain ⟨its, r, ⟨o, n, e, _, _, d⟩, _⟩ := I.list h
  obtain ⟨its', r', ⟨o', n', e', _, _, d'⟩, _⟩ := I.list h'
  rw [e] at e'; cases e'
  rw [d] at d'
  injection d' with d1 _
  have : its = its' := by simpa using congrArg Array.toList d1
  subst this
  exact r.inj r'
theorem Inv.tuple_inj (I : Inv X pins σ H s) (h : SqT X.K H a xs) (h' : SqT X.K H a ys) : xs = ys := by
  obtain ⟨its, r, ⟨o, e, _, n, d⟩, _⟩ := I.tuple h
  obtain ⟨its', r', ⟨o', e', _, n', d'⟩, _⟩ := I.tuple h'
  rw [e] at e'; cases e'
  rw [d] at d'
  injection d' with d1 _
  have : its = its' := by simpa using congrArg Array.toList d1
  subst this
  exact r.inj r'
end

/-! ### another wish about exceptions -/
abbrev Cx.wish (X : Cx) (E : Value → Shared → Prop) : Cx := { X with xe := E }
/-- no exception leaves -/
abbrev Cx.nox (X : Cx) : Cx := X.wish fun _ _ => False
theorem Cx.Ok.wish {X : Cx} (ok : X.Ok) (E : Value → Shared → Prop) : (X.wish E).Ok :=
  ⟨ok.mod, ok.kind, ok.glob, ok.blt, ok.above, ok.inj, ok.has, ok.cab, ok.hd, ok.frames, ok.stk, ok.exf, ok.bs, ok.bsz, ok.noex, ok.exfs, ok.funs, ok.frf⟩
theorem Cx.Ok.unwish {X : Cx} {E : Value → Shared → Prop} (ok : (X.wish E).Ok) : X.Ok :=
  ⟨ok.mod, ok.kind, ok.glob, ok.blt, ok.above, ok.inj, ok.has, ok.cab, ok.hd, ok.frames, ok.stk, ok.exf, ok.bs, ok.bsz, ok.noex, ok.exfs, ok.funs, ok.frf⟩
section
variable {X : Cx} {pins : List (Addr × Obj)} {σ : St} {H : Hp} {s : Shared} {E : Value → Shared → Prop}
theorem Inv.wish (I : Inv X pins σ H s) (E : Value → Shared → Prop) : Inv (X.wish E) pins σ H s := ⟨I.ok.wish E, I.os, I.bare, I.base, I.loc, I.cell, I.free, I.freeC, I.pin, I.hok, I.len⟩
theorem Inv.unwish (I : Inv (X.wish E) pins σ H s) : Inv X pins σ H s := ⟨I.ok.unwish, I.os, I.bare, I.base, I.loc, I.cell, I.free, I.freeC, I.pin, I.hok, I.len⟩
theorem SP.unwish {D : Ends} {f : Flow} {s' : Shared} (h : SP (X.wish E) pins D f s') : SP X pins D f s' := by
  cases f with
  | next => obtain ⟨σ', H', I, q⟩ := h; exact ⟨σ', H', I.unwish, q⟩
  | brk => obtain ⟨σ', H', I, q⟩ := h; exact ⟨σ', H', I.unwish, q⟩
  | cont => obtain ⟨σ', H', I, q⟩ := h; exact ⟨σ', H', I.unwish, q⟩
  | ret u => obtain ⟨v, σ', H', I, r, q⟩ := h; exact ⟨v, σ', H', I.unwish, r, q⟩
theorem PSs.nox {st : List Stmt} {t : TS} (h : PSs X.nox st t) : PSs X st t := fun pins s σ H D I hw =>
  wpAny_mono (h pins s σ H D (I.wish _) hw) (fun _ _ q => q.unwish) fun _ _ z => False.elim z
end

/-! ### blocks and small statements -/
section
variable {X : Cx} {st : Stmt} {rest : List Stmt} {t u : TS} {e : Expr} {te : TE} {pos : Pos}
def tNext : TS := fun D σ H => D.nx σ H
def tSeq (t u : TS) : TS := fun D σ H => t { D with nx := u D } σ H
theorem pss_nil : PSs X [] tNext := fun _ _ σ H _ I h => wpAny_execs_nil ⟨σ, H, I, h⟩
theorem pss_cons (h1 : PS X st t) (h2 : PSs X rest u) : PSs X (st :: rest) (tSeq t u) := by
  intro pins s σ H D I h
  refine wpAny_execs_cons (thn (h1 pins s σ H { D with nx := u D } I h) fun f s1 q => ?_)
  cases f with
  | next =>
    obtain ⟨σ', H', I', q⟩ := q
    exact h2 pins s1 σ' H' D I' q
  | ret v => exact q
  | brk => exact q
  | cont => exact q
theorem pss_one (h1 : PS X st t) : PSs X [st] t := by
  intro pins s σ H D I h
  refine wpAny_execs_cons (thn (h1 pins s σ H D I h) fun f s1 q => ?_)
  cases f with
  | next => exact wpAny_execs_nil q
  | ret v => exact q
  | brk => exact q
  | cont => exact q
/-- in a def's body nothing is shown -/
theorem Inv.quiet {pins : List (Addr × Obj)} {σ : St} {H : Hp} {s : Shared} (I : Inv X pins σ H s) : interactive X.env = false := by simp [interactive, I.ok.kind]
/-- an expression whose value is dropped -/
def tDrop (te : TE) : TS := fun D σ H => te σ H fun _ H1 => D.nx σ H1
theorem ps_expr (he : PE X e te) (hs : swapsWith e none pos.line X.env = pure false := by rfl) : PS X (.Expr e pos) (tDrop te) := by
  intro pins s σ H D I h
  exact wpAny_Expr_any (thn (he pins s σ H _ I h) fun v s1 ⟨x, H1, I1, r1, q1⟩ => ⟨σ, H1, I1, q1⟩) I.quiet hs
def tRet (te : TE) : TS := fun D σ H => te σ H D.rt
theorem ps_ret (he : PE X e te) : PS X (.Return (some e) pos) (tRet te) := by
  intro pins s σ H D I h
  exact wpAny_Return_some (thn (he pins s σ H _ I h) fun v s1 ⟨x, H1, I1, r1, q1⟩ => ⟨x, σ, H1, I1, r1, q1⟩)
def tIfS (c : TT) (t u : TS) : TS := fun D σ H => c σ H fun b H1 => if b = true then t D σ H1 else u D σ H1
theorem ps_if {c : Expr} {a b : List Stmt} {tc : TT} (hc : PT X c tc) (ha : PSs X a t) (hb : PSs X b u) : PS X (.If c a b pos) (tIfS tc t u) := by
  intro pins s σ H D I h
  refine wpAny_If (thn (hc pins s σ H _ I h) fun d s1 ⟨H1, I1, q1⟩ => ?_)
  cases d with
  | true => exact ha pins s1 σ H1 D I1 q1
  | false => exact hb pins s1 σ H1 D I1 q1
/-- code that the proof never comes to -/
def tNever : TS := fun _ _ _ => False
theorem ps_never : PS X st tNever := fun _ _ _ _ _ _ h => h.elim
end

/-! ### targets -/
abbrev TG := V → St → Hp → (St → Hp → Prop) → Prop
abbrev TGs := List V → St → Hp → (St → Hp → Prop) → Prop
def PG (X : Cx) (target : Expr) (t : TG) : Prop :=
  ∀ (pins : List (Addr × Obj)) (s : Shared) (σ : St) (H : Hp) (v : V) (u : Value) (Q : St → Hp → Prop), Inv X pins σ H s → RelV v u → t v σ H Q →
    wpAny (model X.prog X.w) X.A (assign target X.env u) (fun _ s' => ∃ σ' H', Inv X pins σ' H' s' ∧ Q σ' H') X.xe s
/-- several targets, one after another -/
def PGs (X : Cx) (ts : List Expr) (t : TGs) : Prop :=
  ∀ (pins : List (Addr × Obj)) (s : Shared) (σ : St) (H : Hp) (vs : List V) (us : List Value) (Q : St → Hp → Prop), Inv X pins σ H s → Vals vs us → t vs σ H Q →
    wpAny (model X.prog X.w) X.A (assignInOrder ((assignEach ts X.env).map (·.2)) us) (fun _ s' => ∃ σ' H', Inv X pins σ' H' s' ∧ Q σ' H') X.xe s
/-- o[i] = v, by values -/
abbrev TSet := V → V → V → Hp → (Hp → Prop) → Prop
def PSet (X : Cx) (t : TSet) : Prop :=
  ∀ (pins : List (Addr × Obj)) (s : Shared) (σ : St) (H : Hp) (o i v : V) (ov iv u : Value) (Q : Hp → Prop), Inv X pins σ H s → RelV o ov → RelV i iv → RelV v u → t o i v H Q →
    wpAny (model X.prog X.w) X.A (setItem ov iv u) (fun _ s' => ∃ H', Inv X pins σ H' s' ∧ Q H') X.xe s
section
variable {X : Cx} {pos : Pos}
def gName (i : Nat) : TG := fun v σ H Q => Q (σ.set i (some v)) H
theorem pg_name {i : Nat} {x : Str} (hN : X.N.Nodup) (hi : X.N[i]? = some x) (hx : Loc X.env.scope x) (hf : X.fn x = true ∨ X.env.scope.names.lookup x = some .local := by first | exact .inl rfl | exact .inr rfl | assumption) : PG X (.Name x pos) (gName i) := by
  intro pins s σ H v u Q I r h
  exact wpAny_assign_Name (store_ok I hN hi hx r (fun s' I' => ⟨_, H, I', h⟩) hf)
def gNil : TGs := fun vs σ H Q => vs = [] ∧ Q σ H
def gCons (t : TG) (u : TGs) : TGs := fun vs σ H Q => ∃ v r, vs = v :: r ∧ t v σ H fun σ' H' => u r σ' H' Q
theorem pgs_nil : PGs X [] gNil := by
  intro pins s σ H vs us Q I r h
  obtain ⟨e, h⟩ := h
  subst e
  cases r
  exact assignInOrder_nil ⟨σ, H, I, h⟩
theorem pgs_cons {e : Expr} {es : List Expr} {t : TG} {u : TGs} (h1 : PG X e t) (h2 : PGs X es u)
    (hs : (assignEach (e :: es) X.env).map (·.2) = assign e X.env :: (assignEach es X.env).map (·.2) := by rfl) : PGs X (e :: es) (gCons t u) := by
  intro pins s σ H vs us Q I r h
  obtain ⟨v, vr, e1, h⟩ := h
  subst e1
  cases r with
  | cons r rr =>
    rw [hs]
    refine assignInOrder_cons (thn (h1 pins s σ H _ _ _ I r h) fun _ s1 ⟨σ1, H1, I1, q1⟩ => ?_)
    exact h2 pins s1 σ1 H1 _ _ Q I1 rr q1
/-- (a, b, ..) = a tuple of that length -/
def gTup (K : PySem.W.Frag) (n : Nat) (t : TGs) : TG := fun v σ H Q => ∃ a xs, v = .ref a ∧ SqT K H a xs ∧ xs.length = n ∧ t xs σ H Q
theorem pg_tup {es : List Expr} {k : Nat} {t : TGs} {n : Nat} (hc : X.calm = true) (h : PGs X es t)
    (hn : (assignEach es X.env).length = n := by rfl) (hst : (assignEach es X.env).findIdx? (·.1) = none := by rfl) : PG X (.Tuple es k pos) (gTup X.K n t) := by
  intro pins s σ H v u Q I r hw
  obtain ⟨a, xs, e1, hq, hl, hw⟩ := hw
  subst e1
  cases r
  obtain ⟨its, rv, ht, hz⟩ := I.tuple hq
  refine assign_Tuple_tuple (I.ok.hd hc) ht (by simp [hn, ← hl, rv.length]) hst fun h' hx => ?_
  have I1 : Inv X pins σ H { s with heap := h' } := I.kept (t' := s.toks) fun b o e => hx b o (Nat.ne_of_lt (Heap.lt_size e)) e
  exact h pins _ σ H xs _ Q I1 (by simpa using rv) hw
/-- o[i] = .. -/
def gSub (to ti : TE) (t : TSet) : TG := fun v σ H Q => to σ H fun o H1 => ti σ H1 fun i H2 => t o i v H2 fun H3 => Q σ H3
theorem pg_sub {o i : Expr} {to ti : TE} {t : TSet} (ho : PE X o to) (hi : PE X i ti) (hs : PSet X t)
    (ha : ∀ v, assign (.Subscript o i pos) X.env v = (do
      let ov ← holding [v] (eval o X.env)
      let iv ← holding [v, ov] (eval i X.env)
      standAt pos
      holding [v, ov, iv] (setItem ov iv v)
      release [v, ov, iv] []) := by intro _; rfl) : PG X (.Subscript o i pos) (gSub to ti t) := by
  intro pins s σ H v u Q I r h
  rw [ha]
  refine wpAny_bind (wpAny_holding (thn (ho pins s σ H _ I h) fun ov s1 ⟨x, H1, I1, r1, q1⟩ => ?_))
  refine wpAny_bind (wpAny_holding (thn (hi pins s1 σ H1 _ I1 q1) fun iv s2 ⟨y, H2, I2, r2, q2⟩ => ?_))
  refine wpAny_bind (wpAny_standAt (wpAny_bind (wpAny_holding (thn (hs pins s2 σ H2 x y v ov iv u _ I2 r1 r2 r q2) fun _ s3 ⟨H3, I3, q3⟩ => ?_))))
  exact wpAny_release ⟨σ, H3, I3, q3⟩
/-- target = value -/
def tAsg (te : TE) (g : TG) : TS := fun D σ H => te σ H fun x H1 => g x σ H1 D.nx
theorem ps_asg {tg e : Expr} {te : TE} {g : TG} (he : PE X e te) (hg : PG X tg g) (hs : swapsWithSole [tg] e pos.line X.env = pure false := by rfl) (hw : swappedStores [tg] e X.env = pure none := by rfl)
    (h1 : (assignEach [tg] X.env).map (·.2) = [assign tg X.env] := by rfl) : PS X (.Assign [tg] e pos) (tAsg te g) := by
  intro pins s σ H D I h
  refine wpAny_Assign_stores (thn (he pins s σ H _ I h) fun v s1 ⟨x, H1, I1, r1, q1⟩ => ?_) hs hw
  rw [h1]
  exact thn (hg pins s1 σ H1 x v _ I1 r1 q1) fun _ s2 q => q
/-- name = value -/
theorem ps_set {i : Nat} {x : Str} {e : Expr} {te : TE} {pos' : Pos} (hN : X.N.Nodup) (hi : X.N[i]? = some x) (hx : Loc X.env.scope x) (he : PE X e te) (hs : swapsWith e (some (.Name x pos')) pos.line X.env = pure false := by rfl) (hf : X.fn x = true ∨ X.env.scope.names.lookup x = some .local := by first | exact .inl rfl | exact .inr rfl | assumption) :
    PS X (.Assign [.Name x pos'] e pos) (tAsg te (gName i)) := by
  intro pins s σ H D I h
  refine wpAny_Assign_Name (thn (he pins s σ H _ I h) fun v s1 ⟨y, H1, I1, r1, q1⟩ => ?_) hs
  exact store_ok I1 hN hi hx r1 (fun s2 I2 => ⟨_, H1, I2, q1⟩) hf
end

/-! ### while -/
section
variable {X : Cx} {pos : Pos}
end

/-! ### what a loop or a comprehension walks -/
/-- at turn i: it yields x (the heap may grow), or it stops -/
structure It where
  go : Nat → Hp → Prop
  yld : Nat → Hp → V → Hp → Prop
  stop : Nat → Hp → Prop
/-- the iterator's own objects may turn: they are not the frame's, not pinned, younger than the entry (or a comprehension's own) -/
def FpOk (X : Cx) (pins : List (Addr × Obj)) (H : Hp) (b : Addr) : Prop :=
  H b = none ∧ b ≠ X.env.locals ∧ b ∉ X.fs ∧ (b ∈ X.ex ∨ X.s₀.heap.objs.size ≤ b) ∧ (∀ x c, X.env.cells.lookup x = some c → c ≠ b) ∧ ∀ p ∈ X.pn ++ pins, p.1 ≠ b
theorem Inv.fpOk {X : Cx} {pins : List (Addr × Obj)} {σ : St} {H H' : Hp} {s : Shared} {b : Addr} (I : Inv X pins σ H s) (hb : s.heap.objs.size ≤ b) (hn : H' b = none) : FpOk X pins H' b := by
  refine ⟨hn, Nat.ne_of_gt (Nat.lt_of_lt_of_le I.lt hb), I.nofs hb, .inr (Nat.le_trans I.sz hb), fun x c e z => ?_, fun p hp z => ?_⟩
  · obtain ⟨v, q⟩ := I.cell x c e
    exact absurd (Nat.lt_of_lt_of_le q.lt (by rw [z]; exact hb)) (Nat.lt_irrefl _)
  · exact absurd (Nat.lt_of_lt_of_le (Heap.lt_size (I.pin p hp).1) (by rw [z]; exact hb)) (Nat.lt_irrefl _)
structure Turn (P : Program) (w : World) (K : PySem.W.Frag) (tg : Expr) (J : It) (fp : List Addr) (it : Addr) (tn : Nat → Heap → Prop) : Prop where
  mem : it ∈ fp
  obj : ∀ i h, tn i h → ∀ b ∈ fp, ∃ o, h.get? b = some o ∧ ∀ v, o.data ≠ .cell v
  keep : ∀ i h h', tn i h → (∀ b ∈ fp, ∀ o, h.get? b = some o → h'.get? b = some o) → tn i h'
  item : ∀ (X : Cx), X.prog = P → X.w = w → X.K = K → X.calm = true → ∀ (i : Nat) (pins : List (Addr × Obj)) (s : Shared) (σ : St) (H : Hp) (E : Value → Shared → Prop), Inv X pins σ H s → (∀ b ∈ fp, FpOk X pins H b) → tn i s.heap → J.go i H →
    wpAny (model P w) X.A (pyNext (.ref it)) (fun r s1 => ∃ u, r = some u ∧
      wpAny (model P w) X.A (letOwnedTupleGo tg (.ref it) u) (fun _ s2 => ∃ x H', Inv X pins σ H' s2 ∧ RelV x u ∧ J.yld i H x H' ∧ tn (i + 1) s2.heap ∧ ∀ b ∈ fp, H' b = none) E s1) E s
  done : ∀ (X : Cx), X.prog = P → X.w = w → X.K = K → X.calm = true → ∀ (i : Nat) (pins : List (Addr × Obj)) (s : Shared) (σ : St) (H : Hp) (E : Value → Shared → Prop), Inv X pins σ H s → (∀ b ∈ fp, FpOk X pins H b) → tn i s.heap → J.stop i H →
    wpAny (model P w) X.A (pyNext (.ref it)) (fun r s1 => r = none ∧ Inv X pins σ H s1) E s
  self : ∀ (A : Around) (i : Nat) (s : Shared) (Q : Value → Shared → Prop) (E : Value → Shared → Prop), tn i s.heap → Q (.ref it) s → wpAny (model P w) A (pyIter (.ref it)) Q E s
abbrev TI := St → Hp → (It → Hp → Prop) → Prop
/-- an iterator has come -/
def PIE (X : Cx) (pins : List (Addr × Obj)) (σ : St) (tg : Expr) (R : It → Hp → Prop) (itv : Value) (s2 : Shared) : Prop :=
  ∃ (it : Addr) (fp : List Addr) (tn : Nat → Heap → Prop) (J : It) (H' : Hp), itv = .ref it ∧ Inv X pins σ H' s2 ∧ Turn X.prog X.w X.K tg J fp it tn ∧ tn 0 s2.heap ∧ (∀ b ∈ fp, FpOk X pins H' b) ∧ R J H'
def PI (X : Cx) (tg iter : Expr) (wi : TI) : Prop :=
  ∀ (pins : List (Addr × Obj)) (s : Shared) (σ : St) (H : Hp) (R : It → Hp → Prop), Inv X pins σ H s → wi σ H R →
    wpAny (model X.prog X.w) X.A (eval iter X.env) (fun v s1 => wpAny (model X.prog X.w) X.A (pyIter v) (PIE X pins σ tg R) X.xe s1) X.xe s

/-- the step ahead of the store is nothing for an iterator that keeps no tuple -/
theorem go_of {M : Model} {A : Around} {E : Value → Shared → Prop} {s : Shared} {tg : Expr} {it : Addr} {u : Value} {o : Obj} {n : String} {vs : Array Value} {Q : Unit → Shared → Prop} (ho : s.heap.get? it = some o) (hc : o.cls = .type n) (hd : o.data = .fields vs)
    (hn : ["enumerate", "zip", "dict_itemiterator", "dict_reverseitemiterator", "odict_iterator", "itertools.zip_longest", "itertools.pairwise"].contains n = false) (hQ : Q () s) : wpAny M A (letOwnedTupleGo tg (.ref it) u) Q E s := by
  unfold letOwnedTupleGo
  cases tg <;> first
    | exact wpAny_pure hQ
    | (cases u <;> first
        | exact wpAny_pure hQ
        | (refine wpAny_bind (wpAny_load ho ?_)
           rw [hc, hd]
           show wpAny M A (if (["enumerate", "zip", "dict_itemiterator", "dict_reverseitemiterator", "odict_iterator", "itertools.zip_longest", "itertools.pairwise"].contains n && vs[0]? == some (rawInt _)) = true then _ else _) Q E s
           rw [if_neg (by intro h; rw [hn, Bool.false_and] at h; cases h)]
           exact wpAny_pure hQ))

/-- the list at a, as it stands at each turn (a loop may append to it) -/
def Itl (K : PySem.W.Frag) (a : Addr) : It :=
  ⟨fun i H => ∃ xs x, SqL K H a xs ∧ xs[i]? = some x, fun i H x H' => H' = H ∧ ∀ xs, SqL K H a xs → xs[i]? = some x, fun i H => ∃ xs, SqL K H a xs ∧ xs.length ≤ i⟩
def Itt (K : PySem.W.Frag) (a : Addr) : It :=
  ⟨fun i H => ∃ xs x, SqT K H a xs ∧ xs[i]? = some x, fun i H x H' => H' = H ∧ ∀ xs, SqT K H a xs → xs[i]? = some x, fun i H => ∃ xs, SqT K H a xs ∧ xs.length ≤ i⟩
/-- lo, lo + 1, .. (n of them) -/
def Itr (lo : Int) (n : Nat) : It := ⟨fun i _ => i < n, fun i H x H' => H' = H ∧ x = .int (lo + i), fun i _ => n ≤ i⟩
theorem turn_list {P : Program} {w : World} {K : PySem.W.Frag} {tg : Expr} (a it : Addr) : Turn P w K tg (Itl K a) [it] it (fun i h => h.IsListIter it a i) where
  mem := by simp
  obj := fun i h st b hb => by
    have e : b = it := by simpa using hb
    subst e
    obtain ⟨o, e, c, d⟩ := st
    exact ⟨o, e, fun v z => by rw [d] at z; cases z⟩
  keep := fun i h h' st k => st.at fun o e => k it (by simp) o e
  item := by
    intro X hP hw hK hc i pins s σ H E I hf st hg
    subst hP hw hK
    obtain ⟨xs, x, hq, hx⟩ := hg
    obtain ⟨its, rv, p, hz⟩ := I.list hq
    obtain ⟨u, hu, ru⟩ := rv.get hx
    obtain ⟨f0, f1, f2, f3, f4, f5⟩ := hf it (by simp)
    refine wpAny_pyNext_list_item st p.isList (x := u) (by simpa using hu) fun h' st' sb => ?_
    have I1 : Inv X pins σ H { s with heap := h' } := I.turned (t' := s.toks) (fun b o hb e => (sb.2 b hb).trans e) f0 f1 f3 f4 f5
    obtain ⟨o, e, c, d⟩ := id st'
    exact ⟨u, rfl, go_of (s := { s with heap := h' }) e c d (by decide) ⟨x, H, I1, ru, ⟨rfl, fun ys hy => by rw [I.list_inj hy hq]; exact hx⟩, st', fun b hb => (hf b hb).1⟩⟩
  done := by
    intro X hP hw hK hc i pins s σ H E I hf st hg
    subst hP hw hK
    obtain ⟨xs, hq, hx⟩ := hg
    obtain ⟨its, rv, p, hz⟩ := I.list hq
    obtain ⟨f0, f1, f2, f3, f4, f5⟩ := hf it (by simp)
    have hl := rv.length
    exact wpAny_pyNext_list_end (I.ok.hd hc) st p.isList (by simp; omega) fun h' eb => ⟨rfl, I.turned (t' := s.toks) (fun b o hb e => eb b o hb e) f0 f1 f3 f4 f5⟩
  self := fun _ _ _ _ _ st h => wpAny_pyIter_listiter st h
theorem turn_tuple {P : Program} {w : World} {K : PySem.W.Frag} {tg : Expr} (a it : Addr) : Turn P w K tg (Itt K a) [it] it (fun i h => h.IsTupleIter it a i) where
  mem := by simp
  obj := fun i h st b hb => by
    have e : b = it := by simpa using hb
    subst e
    obtain ⟨o, e, c, d⟩ := st
    exact ⟨o, e, fun v z => by rw [d] at z; cases z⟩
  keep := fun i h h' st k => st.at fun o e => k it (by simp) o e
  item := by
    intro X hP hw hK hc i pins s σ H E I hf st hg
    subst hP hw hK
    obtain ⟨xs, x, hq, hx⟩ := hg
    obtain ⟨its, rv, p, hz⟩ := I.tuple hq
    obtain ⟨u, hu, ru⟩ := rv.get hx
    obtain ⟨f0, f1, f2, f3, f4, f5⟩ := hf it (by simp)
    refine wpAny_pyNext_tuple_item st (show s.heap.IsTuple a its.toArray from p) (x := u) (by simpa using hu) fun h' st' sb => ?_
    have I1 : Inv X pins σ H { s with heap := h' } := I.turned (t' := s.toks) (fun b o hb e => (sb.2 b hb).trans e) f0 f1 f3 f4 f5
    obtain ⟨o, e, c, d⟩ := id st'
    exact ⟨u, rfl, go_of (s := { s with heap := h' }) e c d (by decide) ⟨x, H, I1, ru, ⟨rfl, fun ys hy => by rw [I.tuple_inj hy hq]; exact hx⟩, st', fun b hb => (hf b hb).1⟩⟩
  done := by
    intro X hP hw hK hc i pins s σ H E I hf st hg
    subst hP hw hK
    obtain ⟨xs, hq, hx⟩ := hg
    obtain ⟨its, rv, p, hz⟩ := I.tuple hq
    obtain ⟨f0, f1, f2, f3, f4, f5⟩ := hf it (by simp)
    have hl := rv.length
    exact wpAny_pyNext_tuple_end (I.ok.hd hc) st (show s.heap.IsTuple a its.toArray from p) (by simp; omega) fun h' eb => ⟨rfl, I.turned (t' := s.toks) (fun b o hb e => eb b o hb e) f0 f1 f3 f4 f5⟩
  self := fun _ _ _ _ _ st h => wpAny_pyIter_tupleiter st h
theorem turn_range {P : Program} {w : World} {K : PySem.W.Frag} {tg : Expr} (it : Addr) (lo : Int) (n : Nat) : Turn P w K tg (Itr lo n) [it] it (fun i h => IsRangeIter h it (lo + (i : Nat) * 1) ((n : Int) - (i : Nat)) 1) where
  mem := by simp
  obj := fun i h st b hb => by
    have e : b = it := by simpa using hb
    subst e
    exact ⟨_, st, fun v z => by
      have z' : Data.fields _ = Data.cell v := z
      cases z'⟩
  keep := fun i h h' st k => k it (by simp) _ st
  item := by
    intro X hP hw hK hc i pins s σ H E I hf st hg
    subst hP hw hK
    obtain ⟨f0, f1, f2, f3, f4, f5⟩ := hf it (by simp)
    have W := Walks.range (prog := X.prog) (w := X.w) (I.ok.hd hc) it lo 1 n
    refine W.item i s _ _ hg st fun v h' tk hv st' kk => ?_
    obtain ⟨t, rfl⟩ := hv
    have I1 : Inv X pins σ H { s with heap := h', toks := tk } := I.turned (fun b o hb e => kk b o (by simpa using hb) e) f0 f1 f3 f4 f5
    refine ⟨_, rfl, go_of (s := { s with heap := h', toks := tk }) (n := "range_iterator") st' rfl rfl (by decide) ⟨.int (lo + i), H, I1, ⟨t, ?_⟩, ⟨rfl, rfl⟩, st', fun b hb => (hf b hb).1⟩⟩
    rw [Int.mul_one]
  done := by
    intro X hP hw hK hc i pins s σ H E I hf st hg
    subst hP hw hK
    obtain ⟨f0, f1, f2, f3, f4, f5⟩ := hf it (by simp)
    exact wpAny_pyNext_range_end (I.ok.hd hc) st (by have : n ≤ i := hg; omega) fun h' eb => ⟨rfl, I.turned (t' := s.toks) (fun b o hb e => eb b o hb e) f0 f1 f3 f4 f5⟩
  self := fun _ _ _ _ _ st h => wpAny_pyIter_rangeiter st h
end L2

namespace L2
open PySem PySem.Spec PyProof.Rows
section
variable {X : Cx} {tg : Expr}
def iList (K : PySem.W.Frag) (tl : TE) : TI := fun σ H R => tl σ H fun x H1 => ∃ a, x = .ref a ∧ (∃ xs, SqL K H1 a xs) ∧ R (Itl K a) H1
def iTup (K : PySem.W.Frag) (tl : TE) : TI := fun σ H R => tl σ H fun x H1 => ∃ a, x = .ref a ∧ (∃ xs, SqT K H1 a xs) ∧ R (Itt K a) H1
theorem pi_list {l : Expr} {tl : TE} (hl : PE X l tl) : PI X tg l (iList X.K tl) := by
  intro pins s σ H R I h
  refine thn (hl pins s σ H _ I h) fun v s1 ⟨x, H1, I1, r1, q1⟩ => ?_
  obtain ⟨a, e, ⟨xs, hq⟩, q⟩ := q1
  subst e
  cases r1
  obtain ⟨its, rv, p, hz⟩ := I1.list hq
  refine wpAny_pyIter_list p.isList ?_
  refine ⟨s1.heap.objs.size, [s1.heap.objs.size], _, _, H1, rfl, I1.kept (t' := s1.toks) fun b o e => Heap.get?_push_of_some _ e, turn_list a _, ⟨_, Heap.get?_push_size _ rfl, rfl, rfl⟩, fun b hb => ?_, q⟩
  have e : b = s1.heap.objs.size := by simpa using hb
  subst e
  exact I1.fpOk (Nat.le_refl _) (I1.hok.fresh (Nat.le_refl _))
theorem pi_tup {l : Expr} {tl : TE} (hl : PE X l tl) : PI X tg l (iTup X.K tl) := by
  intro pins s σ H R I h
  refine thn (hl pins s σ H _ I h) fun v s1 ⟨x, H1, I1, r1, q1⟩ => ?_
  obtain ⟨a, e, ⟨xs, hq⟩, q⟩ := q1
  subst e
  cases r1
  obtain ⟨its, rv, p, hz⟩ := I1.tuple hq
  refine wpAny_pyIter_tuple (show s1.heap.IsTuple a its.toArray from p) ?_
  refine ⟨s1.heap.objs.size, [s1.heap.objs.size], _, _, H1, rfl, I1.kept (t' := s1.toks) fun b o e => Heap.get?_push_of_some _ e, turn_tuple a _, ⟨_, Heap.get?_push_size _ rfl, rfl, rfl⟩, fun b hb => ?_, q⟩
  have e : b = s1.heap.objs.size := by simpa using hb
  subst e
  exact I1.fpOk (Nat.le_refl _) (I1.hok.fresh (Nat.le_refl _))
/-- a range object just made, walked -/
theorem range_it {pins : List (Addr × Obj)} {σ : St} {H : Hp} {s : Shared} {R : It → Hp → Prop} {E : Value → Shared → Prop} {lo hi : Int} {t u v : Tok} {tk : Nat} (I : Inv X pins σ H s) (h1 : -(2 ^ 62) ≤ lo) (h2 : lo < 2 ^ 62) (h3 : -(2 ^ 62) ≤ hi) (h4 : hi < 2 ^ 62)
    (q : R (Itr lo (hi - lo).toNat) H) : wpAny (model X.prog X.w) X.A (pyIter (.ref s.heap.objs.size)) (PIE X pins σ tg R) E { s with heap := s.heap.push { cls := .type "range", data := .fields #[.int lo t, .int hi u, .int 1 v] }, toks := tk } := by
  refine wpAny_pyIter_range (IsRange.new ..) (small_one h1 h2 h3 h4) ?_
  have I1 : Inv X pins σ H { s with heap := s.heap.push { cls := .type "range", data := .fields #[.int lo t, .int hi u, .int 1 v] }, toks := tk } := I.kept fun b o e => Heap.get?_push_of_some _ e
  refine ⟨(s.heap.push { cls := .type "range", data := .fields #[.int lo t, .int hi u, .int 1 v] }).objs.size, [(s.heap.push { cls := .type "range", data := .fields #[.int lo t, .int hi u, .int 1 v] }).objs.size], _, _, H, rfl,
    I1.kept (t' := tk) fun b o e => Heap.get?_push_of_some _ e, turn_range _ lo (hi - lo).toNat, ?_, fun b hb => ?_, q⟩
  · have e1 : lo + ((0 : Nat) : Int) * 1 = lo := by simp
    have e2 : (((hi - lo).toNat : Nat) : Int) - ((0 : Nat) : Int) = Builtin.Range.rangeSize lo hi 1 := by rw [rangeSize_one]; split <;> omega
    show IsRangeIter _ _ (lo + ((0 : Nat) : Int) * 1) ((((hi - lo).toNat : Nat) : Int) - ((0 : Nat) : Int)) 1
    rw [e1, e2]
    exact Heap.get?_push_size _ rfl
  · have e : b = (s.heap.push { cls := .type "range", data := .fields #[.int lo t, .int hi u, .int 1 v] }).objs.size := by simpa using hb
    subst e
    exact I1.fpOk (Nat.le_refl _) (I1.hok.fresh (Nat.le_refl _))
def iRng1 (ta : TA) : TI := fun σ H R => ta σ H fun vs H1 => ∃ j : Int, vs = [.int j] ∧ -(2 ^ 62) ≤ j ∧ j < 2 ^ 62 ∧ R (Itr 0 j.toNat) H1
theorem pi_range1 {a : Expr} {ta : TA} {p pos : Pos} (hg : Gl X "range") (hm : X.mg "range" = none) (ha : PA X [a] ta) (hs : starEach [a] X.env = [(false, eval a X.env)] := by rfl) : PI X tg (.Call (.Name "range" p) [a] [] pos) (iRng1 ta) := by
  intro pins s σ H R I h
  refine Call_ (ld_blt I hg hm boot_range (PyProof.Rows.callWith_type1 (thn (ha pos pins s σ H _ I h) fun us s1 ⟨vs, H1, I1, r1, q1⟩ => ?_) hs rfl))
  obtain ⟨j, e, q1, q2, q⟩ := q1
  subst e
  cases r1 with
  | cons r rr =>
    cases rr
    obtain ⟨t, rfl⟩ := r
    exact call_range_1 (range_it I1 (by omega) (by omega) q1 q2 (by simpa using q))
/-! ### for -/
/-- W: the invariant by the turn and a measure; N: what the body is to reach -/
def tFor (wi : TI) (g : TG) (tb : TS) : TS := fun D σ H => wi σ H fun J H1 => ∃ W : Nat → Nat → St → Hp → Prop, (∃ m, W 0 m σ H1) ∧ ∀ i m σ H, W i m σ H →
  (J.stop i H ∧ D.nx σ H) ∨ (J.go i H ∧ ∃ N : St → Hp → Prop, (∀ σ' H', N σ' H' → ∃ m', m' < m ∧ W (i + 1) m' σ' H') ∧ ∀ x H', J.yld i H x H' → g x σ H' fun σ2 H2 => tb { D with nx := N, ct := N, bk := D.nx } σ2 H2)
/-- the records at fp as they stand -/
def pinsAt (fp : List Addr) (h : Heap) : List (Addr × Obj) := fp.filterMap fun b => (h.get? b).map fun o => (b, o)
theorem mem_pinsAt {fp : List Addr} {h : Heap} {b : Addr} {o : Obj} (hb : b ∈ fp) (e : h.get? b = some o) : (b, o) ∈ pinsAt fp h := List.mem_filterMap.mpr ⟨b, hb, by rw [e]; rfl⟩
theorem of_pinsAt {fp : List Addr} {h : Heap} {p : Addr × Obj} (hp : p ∈ pinsAt fp h) : p.1 ∈ fp ∧ h.get? p.1 = some p.2 := by
  obtain ⟨b, hb, e⟩ := List.mem_filterMap.mp hp
  cases q : h.get? b with
  | none => rw [q] at e; cases e
  | some o =>
    rw [q] at e
    have e' : (b, o) = p := Option.some.inj e
    subst e'
    exact ⟨hb, q⟩
theorem Inv.pinned {pins : List (Addr × Obj)} {σ : St} {H : Hp} {s : Shared} {fp : List Addr} (I : Inv X pins σ H s) (hf : ∀ b ∈ fp, FpOk X pins H b) (ho : ∀ b ∈ fp, ∃ o, s.heap.get? b = some o ∧ ∀ v, o.data ≠ .cell v) : Inv X (pins ++ pinsAt fp s.heap) σ H s :=
  I.pins_of fun p hp => (List.mem_append.mp hp).elim (fun z => I.pin p (List.mem_append_right _ z)) fun z => by
    obtain ⟨hb, e⟩ := of_pinsAt z
    obtain ⟨f0, f1, f2, _⟩ := hf p.1 hb
    obtain ⟨o, e', d⟩ := ho p.1 hb
    rw [e] at e'; cases e'
    exact ⟨e, f0, f1, f2, d⟩
theorem Inv.unpinned {pins pl : List (Addr × Obj)} {σ : St} {H : Hp} {s : Shared} (I : Inv X (pins ++ pl) σ H s) : Inv X pins σ H s := I.pins_of fun p hp => I.pin p (List.mem_append_right _ (List.mem_append_left _ hp))
theorem ps_for {iter : Expr} {body : List Stmt} {wi : TI} {g : TG} {tb : TS} {pos : Pos} (hp : PassesOwn (model X.prog X.w) X.A X.env X.xe) (hc : X.calm = true) (hi : PI X tg iter wi) (hg : PG X tg g) (hb : PSs X body tb)
    (hs : ∀ x, foldedSetIterable iter X.env x = pure x := by intro _; rfl) : PS X (.For tg iter body [] pos) (tFor wi g tb) := by
  intro pins s σ H D I h
  refine wpAny_For (thn (hi pins s σ H _ I h) fun v s1 h1 => thn h1 fun itv s2 h2 => ?_) hs
  obtain ⟨it, fp, tn, J, H2, e, I2, T, st2, f2, W, ⟨m0, w0⟩, turn⟩ := h2
  subst e
  -- what stays true of the iterator's objects through the loop
  have stat : ∀ {H' : Hp}, (∀ b ∈ fp, H' b = none) → ∀ b ∈ fp, FpOk X pins H' b := fun hn b hb => ⟨hn b hb, (f2 b hb).2⟩
  refine codeAny_forLoop_any (fun n s' => ∃ i σ' H', Inv X pins σ' H' s' ∧ tn i s'.heap ∧ (∀ b ∈ fp, H' b = none) ∧ W i n σ' H') ?_ m0 ⟨0, σ, H2, I2, st2, fun b hb => (f2 b hb).1, w0⟩
  rintro n s3 ⟨i, σ3, H3, I3, st3, fr3, w3⟩
  rcases turn i n σ3 H3 w3 with ⟨stop, qn⟩ | ⟨go, N, hN, step⟩
  · refine wpAny_passesOwn hp (thn (T.done X rfl rfl rfl hc i pins s3 σ3 H3 X.xe I3 (stat fr3) st3 stop) fun r s4 ⟨hr, I4⟩ => ?_)
    subst hr
    exact wpAny_execs_nil ⟨σ3, H3, I4, qn⟩
  · refine wpAny_passesOwn hp (thn (T.item X rfl rfl rfl hc i pins s3 σ3 H3 X.xe I3 (stat fr3) st3 go) fun r s4 ⟨u, hr, h4⟩ => ?_)
    subst hr
    refine wpAny_passesOwn hp (thn h4 fun _ s5 ⟨x, H5, I5, r5, y5, st5, fr5⟩ => ?_)
    have I5' := I5.pinned (stat fr5) (T.obj _ _ st5)
    refine wpAny_passesOwn hp (thn (hg _ s5 σ3 H5 x u _ I5' r5 (step x H5 y5)) fun _ s6 ⟨σ6, H6, I6, q6⟩ => ?_)
    refine wpAny_passesOwn hp (thn (hb _ s6 σ6 H6 _ I6 q6) fun f s7 q7 => ?_)
    have again : ∀ {σ7 : St} {H7 : Hp}, Inv X (pins ++ pinsAt fp s5.heap) σ7 H7 s7 → N σ7 H7 → ∃ m, m < n ∧ ∃ i σ' H', Inv X pins σ' H' s7 ∧ tn i s7.heap ∧ (∀ b ∈ fp, H' b = none) ∧ W i m σ' H' := fun {σ7 H7} I7 n7 => by
      obtain ⟨m', hm, w7⟩ := hN σ7 H7 n7
      refine ⟨m', hm, i + 1, σ7, H7, I7.unpinned, T.keep _ _ _ st5 fun b hb o e => (I7.pin (b, o) (List.mem_append_right _ (List.mem_append_right _ (mem_pinsAt hb e)))).1, fun b hb => ?_, w7⟩
      obtain ⟨o, e, d⟩ := T.obj _ _ st5 b hb
      exact (I7.pin (b, o) (List.mem_append_right _ (List.mem_append_right _ (mem_pinsAt hb e)))).2.1
    cases f with
    | next => obtain ⟨σ7, H7, I7, n7⟩ := q7; exact again I7 n7
    | cont => obtain ⟨σ7, H7, I7, n7⟩ := q7; exact again I7 n7
    | brk => obtain ⟨σ7, H7, I7, q7⟩ := q7; exact ⟨σ7, H7, I7.unpinned, q7⟩
    | ret v => obtain ⟨x7, σ7, H7, I7, r7, q7⟩ := q7; exact ⟨x7, σ7, H7, I7.unpinned, r7, q7⟩
end

/-! ### the forms one uses -/
/-- over a list that the body leaves as it is -/
theorem for_list {K : PySem.W.Frag} {a : Addr} {xs : List V} {g : TG} {tb : TS} {D : Ends} {σ : St} {H : Hp} (Pv : Nat → St → Hp → Prop) (h0 : Pv 0 σ H) (hl : ∀ i σ H, i ≤ xs.length → Pv i σ H → SqL K H a xs)
    (hs : ∀ i x σ H, xs[i]? = some x → Pv i σ H → g x σ H fun σ2 H2 => tb { D with nx := Pv (i + 1), ct := Pv (i + 1), bk := D.nx } σ2 H2) (hd : ∀ σ H, Pv xs.length σ H → D.nx σ H) :
    ∃ W : Nat → Nat → St → Hp → Prop, (∃ m, W 0 m σ H) ∧ ∀ i m σ H, W i m σ H →
      ((Itl K a).stop i H ∧ D.nx σ H) ∨ ((Itl K a).go i H ∧ ∃ N : St → Hp → Prop, (∀ σ' H', N σ' H' → ∃ m', m' < m ∧ W (i + 1) m' σ' H') ∧ ∀ x H', (Itl K a).yld i H x H' → g x σ H' fun σ2 H2 => tb { D with nx := N, ct := N, bk := D.nx } σ2 H2) := by
  refine ⟨fun i m σ H => m = xs.length - i ∧ i ≤ xs.length ∧ Pv i σ H, ⟨xs.length, by simp, Nat.zero_le _, h0⟩, ?_⟩
  rintro i m σ H ⟨rfl, hi, p⟩
  have q := hl i σ H hi p
  by_cases hlt : i < xs.length
  · refine .inr ⟨⟨xs, xs[i], q, by simp [hlt]⟩, Pv (i + 1), fun σ' H' p' => ⟨xs.length - (i + 1), by omega, rfl, hlt, p'⟩, fun x H' y => ?_⟩
    obtain ⟨e, y⟩ := y
    subst e
    exact hs i x σ _ (y xs q) p
  · have e : i = xs.length := by omega
    subst e
    exact .inl ⟨⟨xs, q, Nat.le_refl _⟩, hd σ H p⟩
theorem for_tup {K : PySem.W.Frag} {a : Addr} {xs : List V} {g : TG} {tb : TS} {D : Ends} {σ : St} {H : Hp} (Pv : Nat → St → Hp → Prop) (h0 : Pv 0 σ H) (hl : ∀ i σ H, i ≤ xs.length → Pv i σ H → SqT K H a xs)
    (hs : ∀ i x σ H, xs[i]? = some x → Pv i σ H → g x σ H fun σ2 H2 => tb { D with nx := Pv (i + 1), ct := Pv (i + 1), bk := D.nx } σ2 H2) (hd : ∀ σ H, Pv xs.length σ H → D.nx σ H) :
    ∃ W : Nat → Nat → St → Hp → Prop, (∃ m, W 0 m σ H) ∧ ∀ i m σ H, W i m σ H →
      ((Itt K a).stop i H ∧ D.nx σ H) ∨ ((Itt K a).go i H ∧ ∃ N : St → Hp → Prop, (∀ σ' H', N σ' H' → ∃ m', m' < m ∧ W (i + 1) m' σ' H') ∧ ∀ x H', (Itt K a).yld i H x H' → g x σ H' fun σ2 H2 => tb { D with nx := N, ct := N, bk := D.nx } σ2 H2) := by
  refine ⟨fun i m σ H => m = xs.length - i ∧ i ≤ xs.length ∧ Pv i σ H, ⟨xs.length, by simp, Nat.zero_le _, h0⟩, ?_⟩
  rintro i m σ H ⟨rfl, hi, p⟩
  have q := hl i σ H hi p
  by_cases hlt : i < xs.length
  · refine .inr ⟨⟨xs, xs[i], q, by simp [hlt]⟩, Pv (i + 1), fun σ' H' p' => ⟨xs.length - (i + 1), by omega, rfl, hlt, p'⟩, fun x H' y => ?_⟩
    obtain ⟨e, y⟩ := y
    subst e
    exact hs i x σ _ (y xs q) p
  · have e : i = xs.length := by omega
    subst e
    exact .inl ⟨⟨xs, q, Nat.le_refl _⟩, hd σ H p⟩
theorem for_range {lo : Int} {n : Nat} {g : TG} {tb : TS} {D : Ends} {σ : St} {H : Hp} (Pv : Nat → St → Hp → Prop) (h0 : Pv 0 σ H)
    (hs : ∀ i σ H, i < n → Pv i σ H → g (.int (lo + i)) σ H fun σ2 H2 => tb { D with nx := Pv (i + 1), ct := Pv (i + 1), bk := D.nx } σ2 H2) (hd : ∀ σ H, Pv n σ H → D.nx σ H) :
    ∃ W : Nat → Nat → St → Hp → Prop, (∃ m, W 0 m σ H) ∧ ∀ i m σ H, W i m σ H →
      ((Itr lo n).stop i H ∧ D.nx σ H) ∨ ((Itr lo n).go i H ∧ ∃ N : St → Hp → Prop, (∀ σ' H', N σ' H' → ∃ m', m' < m ∧ W (i + 1) m' σ' H') ∧ ∀ x H', (Itr lo n).yld i H x H' → g x σ H' fun σ2 H2 => tb { D with nx := N, ct := N, bk := D.nx } σ2 H2) := by
  refine ⟨fun i m σ H => m = n - i ∧ i ≤ n ∧ Pv i σ H, ⟨n, by simp, Nat.zero_le _, h0⟩, ?_⟩
  rintro i m σ H ⟨rfl, hi, p⟩
  by_cases hlt : i < n
  · refine .inr ⟨hlt, Pv (i + 1), fun σ' H' p' => ⟨n - (i + 1), by omega, rfl, hlt, p'⟩, fun x H' y => ?_⟩
    obtain ⟨e, y⟩ := y
    subst e y
    exact hs i σ _ hlt p
  · have e : i = n := by omega
    subst e
    exact .inl ⟨Nat.le_refl _, hd σ H p⟩
end L2

namespace L2
open PySem PySem.Spec PyProof.Rows

abbrev R2 := V → V → Hp → VK → Prop
/-- a two-place operation on values: f is binaryOp op, inplaceOp op or compareOp op -/
def OpR (X : Cx) (f : Value → Value → Sem Value) (r : R2) : Prop :=
  ∀ (pins : List (Addr × Obj)) (s : Shared) (σ : St) (H : Hp) (x y : V) (v u : Value) (Q : VK), Inv X pins σ H s → RelV x v → RelV y u → r x y H Q →
    wpAny (model X.prog X.w) X.A (f v u) (EP X pins σ Q) X.xe s
/-- a one-place operation -/
def UnR (X : Cx) (f : Value → Sem Value) (r : V → Hp → VK → Prop) : Prop :=
  ∀ (pins : List (Addr × Obj)) (s : Shared) (σ : St) (H : Hp) (x : V) (v : Value) (Q : VK), Inv X pins σ H s → RelV x v → r x H Q →
    wpAny (model X.prog X.w) X.A (f v) (EP X pins σ Q) X.xe s
/-- a call of a value that is known (a builtin, a type) with values -/
def CallR (X : Cx) (f : Value) (r : List V → Hp → VK → Prop) : Prop :=
  ∀ (pins : List (Addr × Obj)) (s : Shared) (σ : St) (H : Hp) (xs : List V) (us : List Value) (Q : VK), Inv X pins σ H s → Vals xs us → r xs H Q →
    wpAny (model X.prog X.w) X.A (call f us) (EP X pins σ Q) X.xe s
def tOp (r : R2) (ta tb : TE) : TE := fun σ H Q => ta σ H fun x H1 => tb σ H1 fun y H2 => r x y H2 Q
def tUn (r : V → Hp → VK → Prop) (ta : TE) : TE := fun σ H Q => ta σ H fun x H1 => r x H1 Q
/-- ints in, under C, and a value out -/
def rI (C : Int → Int → Prop) (g : Int → Int → V) : R2 := fun x y H Q => ∃ i j, x = .int i ∧ y = .int j ∧ C i j ∧ Q (g i j) H
def rI0 (g : Int → Int → V) : R2 := fun x y H Q => ∃ i j, x = .int i ∧ y = .int j ∧ Q (g i j) H
def rU (g : Int → V) : V → Hp → VK → Prop := fun x H Q => ∃ i, x = .int i ∧ Q (g i) H

section
variable {X : Cx} {a b c : Expr} {ta tb tc : TE} {pos : Pos}

theorem binT (ha : PE X a ta) (hb : PE X b tb) {pins : List (Addr × Obj)} {s : Shared} {σ : St} {H : Hp} {R : V → V → Hp → Prop} (I : Inv X pins σ H s)
    (h : ta σ H fun x H1 => tb σ H1 fun y H2 => R x y H2) {Q : Value → Shared → Prop} {f : Value → Value → Sem Value}
    (hf : ∀ v u s2 x y H2, Inv X pins σ H2 s2 → RelV x v → RelV y u → R x y H2 → wpAny (model X.prog X.w) X.A (f v u) Q X.xe s2) :
    wpAny (model X.prog X.w) X.A (eval a X.env) (fun v s₁ => wpAny (model X.prog X.w) X.A (eval b X.env) (fun u s₂ => wpAny (model X.prog X.w) X.A (f v u) Q X.xe s₂) X.xe s₁) X.xe s := by
  refine thn (ha pins s σ H _ I h) fun v s1 ⟨x, H1, I1, r1, q1⟩ => ?_
  refine thn (hb pins s1 σ H1 _ I1 q1) fun u s2 ⟨y, H2, I2, r2, q2⟩ => ?_
  exact hf v u s2 x y H2 I2 r1 r2 q2

theorem pe_op {op : Operator} {r : R2} (ho : OpR X (binaryOp op) r) (ha : PE X a ta) (hb : PE X b tb) : PE X (.BinOp a op b pos) (tOp r ta tb) := by
  intro pins s σ H Q I h
  exact wpAny_BinOp (binT ha hb I h fun v u s2 x y H2 I2 rx ry q => ho pins s2 σ H2 x y v u Q I2 rx ry q)
theorem pe_un {op : UnaryOp} {r : V → Hp → VK → Prop} (ho : UnR X (unaryOp op) r) (ha : PE X a ta) : PE X (.UnaryOp op a pos) (tUn r ta) := by
  intro pins s σ H Q I h
  exact UnaryOp_ (thn (ha pins s σ H _ I h) fun v s1 ⟨x, H1, I1, r1, q1⟩ => ho pins s1 σ H1 x v Q I1 r1 q1)
/-! ### ints -/
theorem opI {f : Value → Value → Sem Value} {C : Int → Int → Prop} {g : Int → Int → Int}
    (rule : ∀ (i j : Int) (t u : Tok) (s : Shared) (Q : Value → Shared → Prop) (E : Value → Shared → Prop), C i j → Q (.int (g i j) s.toks) { s with toks := s.toks + 1 } → wpAny (model X.prog X.w) X.A (f (.int i t) (.int j u)) Q E s) :
    OpR X f (rI C fun i j => .int (g i j)) := by
  intro pins s σ H x y v u Q I rx ry h
  obtain ⟨i, j, rfl, rfl, hc, q⟩ := h
  obtain ⟨t, rfl⟩ := rx
  obtain ⟨t', rfl⟩ := ry
  exact rule i j t t' s _ _ hc ⟨.int (g i j), H, I.tok _, ⟨_, rfl⟩, q⟩
theorem opI0 {f : Value → Value → Sem Value} {g : Int → Int → Int}
    (rule : ∀ (i j : Int) (t u : Tok) (s : Shared) (Q : Value → Shared → Prop) (E : Value → Shared → Prop), Q (.int (g i j) s.toks) { s with toks := s.toks + 1 } → wpAny (model X.prog X.w) X.A (f (.int i t) (.int j u)) Q E s) :
    OpR X f (rI0 fun i j => .int (g i j)) := by
  intro pins s σ H x y v u Q I rx ry h
  obtain ⟨i, j, rfl, rfl, q⟩ := h
  obtain ⟨t, rfl⟩ := rx
  obtain ⟨t', rfl⟩ := ry
  exact rule i j t t' s _ _ ⟨.int (g i j), H, I.tok _, ⟨_, rfl⟩, q⟩
theorem opB0 {f : Value → Value → Sem Value} {g : Int → Int → Bool}
    (rule : ∀ (i j : Int) (t u : Tok) (s : Shared) (Q : Value → Shared → Prop) (E : Value → Shared → Prop), Q (.bool (g i j)) s → wpAny (model X.prog X.w) X.A (f (.int i t) (.int j u)) Q E s) :
    OpR X f (rI0 fun i j => .bl (g i j)) := by
  intro pins s σ H x y v u Q I rx ry h
  obtain ⟨i, j, rfl, rfl, q⟩ := h
  obtain ⟨t, rfl⟩ := rx
  obtain ⟨t', rfl⟩ := ry
  exact rule i j t t' s _ _ ⟨.bl (g i j), H, I, rfl, q⟩

def CDiv (i j : Int) : Prop := 0 < j ∧ j < 1073741824
def CPow (i j : Int) : Prop := 0 ≤ j ∧ j ≤ 1000000 ∧ i.natAbs < 2 ^ 64
def CMul (i j : Int) : Prop := (-(2 ^ 64) < i ∧ i < 2 ^ 64) ∨ (-(2 ^ 64) < j ∧ j < 2 ^ 64)
theorem CMul.ok {i j : Int} (h : CMul i j) : IntMulOk i j := by
  rcases h with ⟨h1, h2⟩ | ⟨h1, h2⟩
  · exact .of_left (intBits_le_64 h1 h2)
  · exact .of_right (intBits_le_64 h1 h2)
theorem op_add : OpR X (binaryOp .Add) (rI0 fun i j => .int (i + j)) := opI0 fun _ _ _ _ _ _ _ q => add_int q
theorem op_mul : OpR X (binaryOp .Mult) (rI CMul fun i j => .int (i * j)) := opI fun _ _ _ _ _ _ _ hc q => mul_int q hc.ok
/-- // by a positive divisor -/
theorem op_fdiv : OpR X (binaryOp .FloorDiv) (rI CDiv fun i j => .int (i / j)) := opI fun i j _ _ _ _ _ hc q => by
  have h1 : (0 : Int) < j := hc.1
  have h2 : j < 1073741824 := hc.2
  exact floordiv_int (by omega) (by rw [Int.fdiv_eq_ediv_of_nonneg i (by omega)]; exact q) (.inl (PyProof.noPylong_small (by omega)))
/-- % by a positive divisor of any size -/
theorem op_mod : OpR X (binaryOp .Mod) (rI (fun _ j => 0 < j) fun i j => .int (i % j)) := opI fun i j _ _ _ _ _ hc q => by
  have h1 : (0 : Int) < j := hc
  exact mod_int' (by omega) (by rw [Int.fmod_eq_emod_of_nonneg i (by omega)]; exact q)
theorem op_pow : OpR X (binaryOp .Pow) (rI CPow fun i j => .int (i ^ j.toNat)) := opI fun _ _ _ _ _ _ _ hc q => pow_int_small hc.1 hc.2.1 hc.2.2 q
theorem unI {f : Value → Sem Value} {g : Int → Int}
    (rule : ∀ (i : Int) (t : Tok) (s : Shared) (Q : Value → Shared → Prop) (E : Value → Shared → Prop), Q (.int (g i) s.toks) { s with toks := s.toks + 1 } → wpAny (model X.prog X.w) X.A (f (.int i t)) Q E s) :
    UnR X f (rU fun i => .int (g i)) := by
  intro pins s σ H x v Q I rx h
  obtain ⟨i, rfl, q⟩ := h
  obtain ⟨t, rfl⟩ := rx
  exact rule i t s _ _ ⟨.int (g i), H, I.tok _, ⟨_, rfl⟩, q⟩
theorem un_neg : UnR X (unaryOp .USub) (rU fun i => .int (-i)) := unI fun _ _ _ _ _ q => neg_int q
/-! ### bools among ints: n += (a < b) -/
end

/-! ### comparisons -/
/-- the scalars that == tells apart as data does -/
def scal : V → V → Bool
  | .non, .non => true | .non, .int _ => true | .int _, .non => true | .non, .bl _ => true | .bl _, .non => true | .non, .str _ => true | .str _, .non => true
  | .int _, .int _ => true | .bl _, .bl _ => true | .str _, .str _ => true | .byt _, .byt _ => true
  | .int _, .str _ => true | .str _, .int _ => true | .bl _, .str _ => true | .str _, .bl _ => true
  | _, _ => false
def rEq : R2 := fun x y H Q => scal x y = true ∧ Q (.bl (decide (x = y))) H
def rNe : R2 := fun x y H Q => scal x y = true ∧ Q (.bl (!decide (x = y))) H

theorem dec_int {i j : Int} : decide (V.int i = V.int j) = (i == j) := by
  rw [Bool.eq_iff_iff]
  simp
theorem dec_bl {i j : Bool} : decide (V.bl i = V.bl j) = (i == j) := by
  rw [Bool.eq_iff_iff]
  simp
theorem dec_str {i j : Str} : decide (V.str i = V.str j) = (i == j) := by
  rw [Bool.eq_iff_iff]
  simp
theorem dec_byt {i j : Array UInt8} : decide (V.byt i = V.byt j) = (i.toList == j.toList) := by
  rw [Bool.eq_iff_iff]
  cases i
  cases j
  simp

section
variable {X : Cx} {a b c : Expr} {ta tb tc : TE} {pos : Pos}
theorem fin_bl {pins : List (Addr × Obj)} {σ : St} {H : Hp} {s : Shared} {Q : VK} {k k' : Bool} (I : Inv X pins σ H s) (q : Q (.bl k) H) (e : k = k') : EP X pins σ Q (.bool k') s := by
  subst e
  exact ⟨.bl k, H, I, rfl, q⟩
theorem op_eq : OpR X (compareOp .Eq) rEq := by
  intro pins s σ H x y v u Q I rx ry h
  obtain ⟨hs, q⟩ := h
  cases x with
  | non =>
    cases rx
    cases y with
    | non => cases ry; exact PySem.EqNone.eq_none_none (fin_bl I q (by simp))
    | bl j => cases ry; exact PySem.EqNone.eq_none_bool (fin_bl I q (by simp))
    | int j => obtain ⟨t', rfl⟩ := ry; exact PySem.EqNone.eq_none_int (fin_bl I q (by simp))
    | str j => obtain ⟨t', rfl⟩ := ry; exact PySem.EqNone.eq_none_str (fin_bl I q (by simp))
    | _ => exact absurd (show false = true from hs) Bool.false_ne_true
  | bl i =>
    cases rx
    cases y with
    | non => cases ry; exact PySem.EqNone.eq_bool_none (fin_bl I q (by simp))
    | bl j => cases ry; exact eq_bool (fin_bl I q dec_bl)
    | str j => obtain ⟨t', rfl⟩ := ry; exact PySem.EqMixed.eq_bool_str (fin_bl I q (by simp))
    | _ => exact absurd (show false = true from hs) Bool.false_ne_true
  | int i =>
    obtain ⟨t, rfl⟩ := rx
    cases y with
    | non => cases ry; exact PySem.EqNone.eq_int_none (fin_bl I q (by simp))
    | int j => obtain ⟨t', rfl⟩ := ry; exact eq_int (fin_bl I q dec_int)
    | str j => obtain ⟨t', rfl⟩ := ry; exact PySem.EqMixed.eq_int_str (fin_bl I q (by simp))
    | _ => exact absurd (show false = true from hs) Bool.false_ne_true
  | str i =>
    obtain ⟨t, rfl⟩ := rx
    cases y with
    | non => cases ry; exact PySem.EqNone.eq_str_none (fin_bl I q (by simp))
    | bl j => cases ry; exact PySem.EqMixed.eq_str_bool (fin_bl I q (by simp))
    | int j => obtain ⟨t', rfl⟩ := ry; exact PySem.EqMixed.eq_str_int (fin_bl I q (by simp))
    | str j => obtain ⟨t', rfl⟩ := ry; exact eq_str (fin_bl I q dec_str)
    | _ => exact absurd (show false = true from hs) Bool.false_ne_true
  | byt i =>
    obtain ⟨t, rfl⟩ := rx
    cases y with
    | byt j => obtain ⟨t', rfl⟩ := ry; exact PySem.W.eq_bytes (fin_bl I q dec_byt)
    | _ => exact absurd (show false = true from hs) Bool.false_ne_true
  | _ => cases y <;> exact absurd (show false = true from hs) Bool.false_ne_true
theorem op_ne : OpR X (compareOp .NotEq) rNe := by
  intro pins s σ H x y v u Q I rx ry h
  obtain ⟨hs, q⟩ := h
  cases x with
  | non =>
    cases rx
    cases y with
    | non => cases ry; exact PySem.EqNone.ne_none_none (fin_bl I q (by simp))
    | bl j => cases ry; exact PySem.EqNone.ne_none_bool (fin_bl I q (by simp))
    | int j => obtain ⟨t', rfl⟩ := ry; exact PySem.EqNone.ne_none_int (fin_bl I q (by simp))
    | str j => obtain ⟨t', rfl⟩ := ry; exact PySem.EqNone.ne_none_str (fin_bl I q (by simp))
    | _ => exact absurd (show false = true from hs) Bool.false_ne_true
  | bl i =>
    cases rx
    cases y with
    | non => cases ry; exact PySem.EqNone.ne_bool_none (fin_bl I q (by simp))
    | bl j => cases ry; exact ne_bool (fin_bl I q (congrArg not dec_bl))
    | str j => obtain ⟨t', rfl⟩ := ry; exact PySem.EqMixed.ne_bool_str (fin_bl I q (by simp))
    | _ => exact absurd (show false = true from hs) Bool.false_ne_true
  | int i =>
    obtain ⟨t, rfl⟩ := rx
    cases y with
    | non => cases ry; exact PySem.EqNone.ne_int_none (fin_bl I q (by simp))
    | int j => obtain ⟨t', rfl⟩ := ry; exact ne_int (fin_bl I q (congrArg not dec_int))
    | str j => obtain ⟨t', rfl⟩ := ry; exact PySem.EqMixed.ne_int_str (fin_bl I q (by simp))
    | _ => exact absurd (show false = true from hs) Bool.false_ne_true
  | str i =>
    obtain ⟨t, rfl⟩ := rx
    cases y with
    | non => cases ry; exact PySem.EqNone.ne_str_none (fin_bl I q (by simp))
    | bl j => cases ry; exact PySem.EqMixed.ne_str_bool (fin_bl I q (by simp))
    | int j => obtain ⟨t', rfl⟩ := ry; exact PySem.EqMixed.ne_str_int (fin_bl I q (by simp))
    | str j => obtain ⟨t', rfl⟩ := ry; exact ne_str (fin_bl I q (congrArg not dec_str))
    | _ => exact absurd (show false = true from hs) Bool.false_ne_true
  | byt i =>
    obtain ⟨t, rfl⟩ := rx
    cases y with
    | byt j => obtain ⟨t', rfl⟩ := ry; exact PySem.W.ne_bytes (fin_bl I q (congrArg not dec_byt))
    | _ => exact absurd (show false = true from hs) Bool.false_ne_true
  | _ => cases y <;> exact absurd (show false = true from hs) Bool.false_ne_true

theorem op_lt : OpR X (compareOp .Lt) (rI0 fun i j => .bl (decide (i < j))) := opB0 fun _ _ _ _ _ _ _ q => lt_int q
theorem op_le : OpR X (compareOp .LtE) (rI0 fun i j => .bl (decide (i ≤ j))) := opB0 fun _ _ _ _ _ _ _ q => le_int q
theorem op_gt : OpR X (compareOp .Gt) (rI0 fun i j => .bl (decide (j < i))) := opB0 fun _ _ _ _ _ _ _ q => gt_int q
theorem op_ge : OpR X (compareOp .GtE) (rI0 fun i j => .bl (decide (j ≤ i))) := opB0 fun _ _ _ _ _ _ _ q => ge_int q
/-- is None, is not None: the right side a value none -/
theorem op_isN : OpR X (compareOp .Is) (fun x y H Q => y = .non ∧ Q (.bl (decide (x = .non))) H) := by
  intro pins s σ H x y v u Q I rx ry h
  obtain ⟨rfl, q⟩ := h
  cases ry
  refine is_none_gen (fin_bl I q ?_)
  cases x <;> first
    | (cases rx; rfl)
    | (obtain ⟨t, rfl⟩ := rx; rfl)
theorem nomark (b : Expr) {op : CmpOp} (h : op ≠ .In := by decide) (h2 : op ≠ .NotIn := by decide) : behindInMarks op b = false := by
  have e1 : (op == CmpOp.In) = false := by cases op <;> first | rfl | exact absurd rfl h
  have e2 : (op == CmpOp.NotIn) = false := by cases op <;> first | rfl | exact absurd rfl h2
  cases b <;> simp [behindInMarks, e1, e2]
/-- a comparison as a value; hm: nomark b, or (for in, not in) by with_unfolding_all rfl -/
theorem pe_cmpR {op : CmpOp} {r : R2} (ho : OpR X (compareOp op) r) (ha : PE X a ta) (hb : PE X b tb) (hm : behindInMarks op b = false) : PE X (.Compare a [op] [b] pos) (tOp r ta tb) := by
  intro pins s σ H Q I h
  exact wpAny_Compare1 (binT ha hb I h fun v u s2 x y H2 I2 rx ry q => ho pins s2 σ H2 x y v u Q I2 rx ry q) hm
/-- a reading of a value as a test -/
def tTest (t : TE) : TT := fun σ H Q => t σ H fun x H' => ∃ k, x = .bl k ∧ Q k H'
theorem pt_cmpR {op : CmpOp} {r : R2} (ho : OpR X (compareOp op) r) (ha : PE X a ta) (hb : PE X b tb) (hm : behindInMarks op b = false) : PT X (.Compare a [op] [b] pos) (tTest (tOp r ta tb)) := by
  intro pins s σ H Q I h
  refine wpAny_isTrue_Compare1 (thn (ha pins s σ H _ I h) fun v s1 ⟨x, H1, I1, r1, q1⟩ => thn (hb pins s1 σ H1 _ I1 q1) fun u s2 ⟨y, H2, I2, r2, q2⟩ =>
    thn (ho pins s2 σ H2 x y v u _ I2 r1 r2 q2) fun c s3 ⟨z, H3, I3, r3, k, e, q3⟩ => ?_) hm
  subst e
  cases r3
  exact wpAny_truthy_bool ⟨H3, I3, q3⟩
/-- a op1 b op2 c -/
def tChain (r r' : R2) (ta tb tc : TE) : TE := fun σ H Q => ta σ H fun x H1 => tb σ H1 fun y H2 => r x y H2 fun z H3 => ∃ k, z = .bl k ∧
  (if k = true then tc σ H3 fun w' H4 => r' y w' H4 Q else Q (.bl false) H3)
theorem pe_chain {op op' : CmpOp} {r r' : R2} (ho : OpR X (compareOp op) r) (ho' : OpR X (compareOp op') r') (ha : PE X a ta) (hb : PE X b tb) (hc : PE X c tc)
    (hm : lastMarks [op, op'] [b, c] = false := by with_unfolding_all rfl) : PE X (.Compare a [op, op'] [b, c] pos) (tChain r r' ta tb tc) := by
  intro pins s σ H Q I h
  refine Compare_chain (thn (ha pins s σ H _ I h) fun v s1 ⟨x, H1, I1, r1, q1⟩ => chain_link (thn (hb pins s1 σ H1 _ I1 q1) fun u s2 ⟨y, H2, I2, r2, q2⟩ =>
    thn (ho pins s2 σ H2 x y v u _ I2 r1 r2 q2) fun d s3 ⟨z, H3, I3, r3, k, e, q3⟩ => ?_)) hm
  subst e
  cases r3
  refine wpAny_truthy_bool ?_
  cases k with
  | false => exact ite_ff ⟨.bl false, H3, I3, rfl, q3⟩
  | true => exact ite_tt (chain_last (thn (hc pins s3 σ H3 _ I3 q3) fun w' s4 ⟨z', H4, I4, r4, q4⟩ => ho' pins s4 σ H4 y z' u w' Q I4 r2 r4 q4))
theorem pt_chain {op op' : CmpOp} {r r' : R2} (ho : OpR X (compareOp op) r) (ho' : OpR X (compareOp op') r') (ha : PE X a ta) (hb : PE X b tb) (hc : PE X c tc)
    (hm : lastMarks [op, op'] [b, c] = false := by with_unfolding_all rfl) : PT X (.Compare a [op, op'] [b, c] pos) (tTest (tChain r r' ta tb tc)) := by
  intro pins s σ H Q I h
  refine isTrue_chain (thn (ha pins s σ H _ I h) fun v s1 ⟨x, H1, I1, r1, q1⟩ => test_link (thn (hb pins s1 σ H1 _ I1 q1) fun u s2 ⟨y, H2, I2, r2, q2⟩ =>
    thn (ho pins s2 σ H2 x y v u _ I2 r1 r2 q2) fun d s3 ⟨z, H3, I3, r3, k, e, q3⟩ => ?_)) hm
  subst e
  cases r3
  refine wpAny_truthy_bool ?_
  cases k with
  | false =>
    obtain ⟨k', e', q'⟩ := q3
    cases e'
    exact ite_ff ⟨H3, I3, q'⟩
  | true =>
    refine ite_tt (test_last (thn (hc pins s3 σ H3 _ I3 q3) fun w' s4 ⟨z', H4, I4, r4, q4⟩ => thn (ho' pins s4 σ H4 y z' u w' _ I4 r2 r4 q4) fun d' s5 ⟨z2, H5, I5, r5, k2, e2, q5⟩ => ?_))
    subst e2
    cases r5
    exact wpAny_truthy_bool ⟨H5, I5, q5⟩

/-! ### truth -/
theorem line63 : (sizeLine : Nat) < 2 ^ 63 := by rw [sizeLine_eq]; decide
/-! ### strs and bytes -/
theorem op_add_str : OpR X (binaryOp .Add) (fun x y H Q => ∃ i j, x = .str i ∧ y = .str j ∧ i.length + j.length ≤ sizeLine ∧ Q (.str (i ++ j)) H) := by
  intro pins s σ H x y v u Q I rx ry h
  obtain ⟨i, j, rfl, rfl, hz, q⟩ := h
  obtain ⟨t, rfl⟩ := rx
  obtain ⟨t', rfl⟩ := ry
  exact add_str (fun t' tk => ⟨.str (i ++ j), H, I.tok _, ⟨_, rfl⟩, q⟩) hz
/-! ### scalar builtins, by CallR -/
theorem vals1 {x : V} {us : List Value} (r : Vals [x] us) : ∃ u, us = [u] ∧ RelV x u := by
  cases r with
  | cons r1 r2 => cases r2; exact ⟨_, rfl, r1⟩
theorem vals2 {x y : V} {us : List Value} (r : Vals [x, y] us) : ∃ u w', us = [u, w'] ∧ RelV x u ∧ RelV y w' := by
  cases r with
  | cons r1 r2 =>
    cases r2 with
    | cons r3 r4 => cases r4; exact ⟨_, _, rfl, r1, r3⟩
theorem call_abs : CallR X (.builtin "abs") (fun xs H Q => ∃ i, xs = [.int i] ∧ Q (.int (if i < 0 then -i else i)) H) := by
  intro pins s σ H xs us Q I r h
  obtain ⟨i, rfl, q⟩ := h
  obtain ⟨u, rfl, t, rfl⟩ := vals1 r
  exact call_abs_int fun u tk => ⟨.int (if i < 0 then -i else i), H, I.tok _, ⟨_, rfl⟩, q⟩
theorem call_str_int : CallR X (.type "str") (fun xs H Q => ∃ i, xs = [.int i] ∧ i.natAbs.log2 < 1920 ∧ Q (.str (toString i)) H) := by
  intro pins s σ H xs us Q I r h
  obtain ⟨i, rfl, hz, q⟩ := h
  obtain ⟨u, rfl, t, rfl⟩ := vals1 r
  exact PySem.P.str_of_int hz ⟨.str _, H, I.tok _, ⟨_, rfl⟩, q⟩
/-- len of a str, a bytes, a list, a tuple -/
def LenV (K : PySem.W.Frag) (x : V) (H : Hp) (n : Nat) : Prop :=
  match x with
  | .str y => y.length ≤ sizeLine ∧ n = y.length
  | .byt y => y.size ≤ sizeLine ∧ n = y.size
  | .ref p => (∃ xs, SqL K H p xs ∧ n = xs.length) ∨ ∃ xs, SqT K H p xs ∧ n = xs.length
  | _ => False
theorem call_len : CallR X (.builtin "len") (fun xs H Q => ∃ x n, xs = [x] ∧ LenV X.K x H n ∧ Q (.int n) H) := by
  intro pins s σ H xs us Q I r h
  obtain ⟨x, n, rfl, e, q⟩ := h
  obtain ⟨u, rfl, rx⟩ := vals1 r
  have hl := line63
  have hs : sizeLine = 16777216 := sizeLine_eq
  cases x with
  | str y =>
    obtain ⟨t, rfl⟩ := rx
    obtain ⟨hy, e'⟩ : y.length ≤ sizeLine ∧ n = y.length := e
    subst e'
    exact len_str (by omega) ⟨.int _, H, I.tok _, ⟨_, rfl⟩, q⟩
  | byt y =>
    obtain ⟨t, rfl⟩ := rx
    obtain ⟨hy, e'⟩ : y.size ≤ sizeLine ∧ n = y.size := e
    subst e'
    exact PySem.W.len_bytes (by omega) ⟨.int _, H, I.tok _, ⟨_, rfl⟩, q⟩
  | ref p =>
    cases rx
    have e' : (∃ xs, SqL X.K H p xs ∧ n = xs.length) ∨ ∃ xs, SqT X.K H p xs ∧ n = xs.length := e
    rcases e' with ⟨xs, hx, e'⟩ | ⟨xs, hx, e'⟩
    · subst e'
      obtain ⟨its, r', pl, hz⟩ := I.list hx
      have hlen := r'.length
      exact Calls.call_len_list pl.isList (by simp only [List.size_toArray]; omega) ⟨.int xs.length, H, I.tok _, ⟨_, by simp only [List.size_toArray]; rw [hlen]⟩, q⟩
    · subst e'
      obtain ⟨its, r', pl, hz⟩ := I.tuple hx
      have hlen := r'.length
      exact len_tuple pl (by simp only [List.size_toArray]; omega) ⟨.int xs.length, H, I.tok _, ⟨_, by simp only [List.size_toArray]; rw [hlen]⟩, q⟩
  | _ => exact (show False from e).elim
end
end L2

namespace L2
open PySem PySem.Spec PyProof.Rows

/-! ### an instance, its attributes a map -/
structure ObjM (h : Heap) (x dx C : Addr) (mA : Str → Option Value) : Prop where
  obj : h.get? x = some (PySem.W.instObj C dx)
  ns : h.Ns1 dx mA
  ne : dx ≠ x

theorem lookIn_ns {h : Heap} {dx : Addr} {mA : Str → Option Value} (n : h.Ns1 dx mA) : ∃ od, h.get? dx = some od ∧ ∀ name, PySem.W.lookIn name od = some (mA name) := by
  obtain ⟨o, es, ep, ho, hd, hk, _, hm⟩ := n
  refine ⟨o, ho, fun name => ?_⟩
  have e := hm name
  unfold nsFind findBy at e
  rw [← Array.find?_toList] at e
  unfold PySem.W.lookIn
  rw [hd]
  dsimp only
  split
  · rename_i y q
    rw [q] at e
    exact congrArg some e
  · rename_i q
    rw [q] at e
    have a : es.toList.any (·.refKey) = false := by
      rw [List.any_eq_false]
      intro y hy
      obtain ⟨z, t, hkey⟩ := hk y (Array.mem_toList_iff.mp hy)
      simp [DictEntry.refKey, hkey]
    have a' : ¬ es.toList.any (·.refKey) = true := by rw [a]; exact Bool.false_ne_true
    rw [if_neg a']
    exact congrArg some e

theorem ObjM.look {h : Heap} {x dx C : Addr} {mA : Str → Option Value} (I : ObjM h x dx C mA) : ∃ od, PySem.W.InstAt h x (PySem.W.instObj C dx) C (some od) ∧ ∀ name, PySem.W.lookIn name od = some (mA name) :=
  let ⟨od, ho, hl⟩ := lookIn_ns I.ns
  ⟨od, ⟨I.obj, rfl, rfl, ho⟩, hl⟩

section
variable {prog : Program} {w : World} {A : Around} {E : Value → Shared → Prop} {s : Shared} {K : PySem.W.Frag} {x dx C f : Addr} {mA : Str → Option Value} {name : Str} {v : Value}

end

/-! ### the attributes as a list of pairs -/
section
variable {P : Program} {w : World} {H H' : Hp} {h h' : Heap} {a C dx : Addr} {fs fs' : List (Str × V)}
theorem ins_get (hok : HOk P w H h) (e : H a = some (.ins C dx fs)) : ∃ mA, ObjM h a dx C mA ∧ (∀ f, RelO (fs.lookup f) (mA f)) ∧ PySem.Within mA (fs.map (·.1)) ∧ fs.length ≤ 1000 ∧ H dx = some (.own a) := by
  obtain ⟨d, z, ne, ob, mA, n, r, q⟩ := (show ObjOk P w H h a (.ins C dx fs) from hok a _ e)
  exact ⟨mA, ⟨ob, n, ne⟩, r, q, z, d⟩
end

/-! ### what of the text a class must have -/
structure Cls (K : PySem.W.Frag) (C : Addr) : Prop where
  pg : PySem.W.plainGet K C Str.empty = true
  hd : PySem.W.hasDictIn K C = true
  po : PySem.W.plainOver K C = true
  sa : PySem.W.findIn K (.ref C) "__setattr__" = some (some (.builtin "object.__setattr__"))
theorem Cls.get {K : PySem.W.Frag} {C : Addr} (c : Cls K C) (f : Str) : PySem.W.plainGet K C f = true := c.pg
section
variable {X : Cx} {pins : List (Addr × Obj)} {σ : St} {H : Hp} {s : Shared} {a C dx : Addr} {fs : List (Str × V)} {f : Str} {v : V} {A : Around} {E : Value → Shared → Prop}

end

/-! ### readings and rules -/
section
variable {X : Cx} {o e value : Expr} {f : Str} {pos pos' tpos : Pos} {ta tv : TE}
end

/-! ### isinstance -/
section
variable {X : Cx} {pins : List (Addr × Obj)} {σ : St} {H : Hp} {s : Shared} {A : Around} {E : Value → Shared → Prop} {Q : Value → Shared → Prop} {c : Value} {b : Bool}
/-- the type of a value, as the fragment's deciders take it; for an instance its class -/
inductive TyOf (K : PySem.W.Frag) (H : Hp) : V → Value → Prop where
  | non : TyOf K H .non (.type "NoneType")
  | bl (x : Bool) : TyOf K H (.bl x) (.type "bool")
  | int (i : Int) : TyOf K H (.int i) (.type "int")
  | str (x : Str) : TyOf K H (.str x) (.type "str")
  | flt (x : UInt64) : TyOf K H (.flt x) (.type "float")
  | lst {a : Addr} {xs : List V} (e : H a = some (.lst xs)) : TyOf K H (.ref a) (.type "list")
  | frz {a : Addr} {o : Obj} {xs : List V} (e : H a = some (.frz o (.lst xs))) : TyOf K H (.ref a) (.type "list")
  | tup {a : Addr} {xs : List V} (e : H a = some (.tup xs)) : TyOf K H (.ref a) (.type "tuple")
  | dK {a : Addr} {kvs : List (Key × V)} (e : H a = some (.dK kvs)) : TyOf K H (.ref a) (.type "dict")
  | dT {a : Addr} {kvs : List (List Key × V)} (e : H a = some (.dT kvs)) : TyOf K H (.ref a) (.type "dict")
  | ins {a C dx : Addr} {fs : List (Str × V)} (e : H a = some (.ins C dx fs)) (cl : Cls K C) (ha : PySem.W.findIn K (.ref C) "__class__" = some (some (.builtin "object.__class__")))
      (hn : PySem.W.specialIn K (.builtin "object.__class__") "__get__" = some (some (.builtin "getset_descriptor.__get__"))) (htk : PySem.W.takesIn K (.builtin "object.__class__") = some true)
      (hm : PySem.W.mroIn K C (.type "object") = some true) : TyOf K H (.ref a) (.ref C)
/-- isinstance(x, c) for one class c, a built-in or an own one: kitOne's answer -/
theorem isinst_ok {x : V} {u t : Value} (I : Inv X pins σ H s) (rx : RelV x u) (ty : TyOf X.K H x t) (e : PySem.W.kitOne X.K t c = some b) (h : ∀ tk, Q (.bool b) { s with toks := tk }) :
    wpAny (model X.prog X.w) A (call (.builtin "isinstance") [u, c]) Q E s := by
  cases ty with
  | non => cases (show u = Value.none from rx); exact PySem.W.kia_one PySem.W.kitx_none I.kIn True.intro e (fun z => nomatch z) h
  | bl y => cases (show u = Value.bool y from rx); exact PySem.W.kia_one PySem.W.kitx_bool I.kIn True.intro e (fun z => nomatch z) h
  | int i => obtain ⟨t, q⟩ := (show ∃ t, u = Value.int i t from rx); cases q; exact PySem.W.kia_one PySem.W.kitx_int I.kIn True.intro e (fun z => nomatch z) h
  | str y => obtain ⟨t, q⟩ := (show ∃ t, u = Value.str y t from rx); cases q; exact PySem.W.kia_one PySem.W.kitx_str I.kIn True.intro e (fun z => nomatch z) h
  | flt y => obtain ⟨t, q⟩ := (show ∃ t, u = Value.float y t from rx); cases q; exact PySem.W.kia_one PySem.W.kitx_float I.kIn True.intro e (fun z => nomatch z) h
  | @lst a xs ea =>
    cases (show u = Value.ref a from rx)
    obtain ⟨_, _, n, _, h1⟩ := (show ObjOk X.prog X.w H s.heap a (.lst xs) from I.hok a _ ea)
    exact PySem.W.kia_one PySem.W.kitx_list I.kIn ⟨_, h1, rfl⟩ e (fun z => nomatch z) h
  | @frz a ob xs ea =>
    cases (show u = Value.ref a from rx)
    obtain ⟨_, _, _, n, _, h1⟩ := (show ObjOk X.prog X.w H s.heap a (.frz ob (.lst xs)) from I.hok a _ ea)
    exact PySem.W.kia_one PySem.W.kitx_list I.kIn ⟨_, h1, rfl⟩ e (fun z => nomatch z) h
  | @tup a xs ea =>
    cases (show u = Value.ref a from rx)
    obtain ⟨_, _, _, p⟩ := (show ObjOk X.prog X.w H s.heap a (.tup xs) from I.hok a _ ea)
    obtain ⟨o, h1, h2, _⟩ := p
    exact PySem.W.kia_one PySem.W.kitx_tuple I.kIn ⟨o, h1, h2⟩ e (fun z => nomatch z) h
  | @dK a kvs ea =>
    cases (show u = Value.ref a from rx)
    obtain ⟨_, _, vs, _, p⟩ := (show ObjOk X.prog X.w H s.heap a (.dK kvs) from I.hok a _ ea)
    obtain ⟨o, es, ep, h1, h2, _⟩ := p
    exact PySem.W.kia_one PySem.W.kitx_dict I.kIn ⟨o, h1, h2.1⟩ e (fun z => nomatch z) h
  | @dT a kvs ea =>
    cases (show u = Value.ref a from rx)
    obtain ⟨_, _, xs, _, o, es, ep, h1, h2, _⟩ := (show ObjOk X.prog X.w H s.heap a (.dT kvs) from I.hok a _ ea)
    exact PySem.W.kia_one PySem.W.kitx_dict I.kIn ⟨o, h1, h2.1⟩ e (fun z => nomatch z) h
  | @ins a C dx fs ea cl ha hn htk hm =>
    cases (show u = Value.ref a from rx)
    obtain ⟨mA, O, _⟩ := ins_get I.hok ea
    obtain ⟨od, J, _⟩ := O.look
    exact PySem.W.kia_one (PySem.W.kitx_own (cl.get _) cl.hd ha hn htk hm) I.kIn J e (fun z => nomatch z) h
end
end L2

namespace L2
open PySem PySem.Spec PyProof.Rows

/-! ### room -/
structure Room (k : Nat) (A : Around) : Prop where
  hd : A.handled = none
  dp : A.depth + 3 * k + 5 < recursionLimit
  un : A.units + 16 * k + 200 < cLine
theorem Room.mono {j k : Nat} {A : Around} (r : Room k A) (h : j ≤ k) : Room j A := ⟨r.hd, by have := r.dp; omega, by have := r.un; omega⟩
theorem Room.deeper {k : Nat} {A : Around} (r : Room (k + 1) A) (env : Env) : Room k (A.deeper env) :=
  ⟨r.hd, by have := r.dp; show A.depth + 1 + 3 * k + 5 < _; omega, by have := r.un; show A.units + 3 + 16 * k + 200 < _; omega⟩
theorem Room.depth {k : Nat} {A : Around} (r : Room k A) : A.depth < recursionLimit := by have := r.dp; omega
theorem Room.units {k : Nat} {A : Around} (r : Room k A) : A.units + 64 < cLine := by have := r.un; omega
/-! ### argument lists and displays -/
def tNil : TA := fun _ H Q => Q [] H
def tCons (ta : TE) (tr : TA) : TA := fun σ H Q => ta σ H fun x H1 => tr σ H1 fun xs H2 => Q (x :: xs) H2
section
variable {X : Cx} {e : Expr} {es : List Expr} {te : TE} {t : TA} {pos : Pos}
theorem pa_nil : PA X [] tNil := fun _ _ _ _ H Q I h => Calls.spliced_nil ⟨[], H, I, .nil, h⟩
theorem pa_cons (ha : PE X e te) (hr : PA X es t) (hs : starEach (e :: es) X.env = (false, eval e X.env) :: starEach es X.env := by rfl) : PA X (e :: es) (tCons te t) := by
  intro pos pins s σ H Q I h
  rw [hs]
  show wpAny _ _ (spliced ((false, eval e X.env) :: backTo pos (starEach es X.env))) _ _ s
  refine Calls.spliced_cons (thn (ha pins s σ H _ I h) fun u s1 ⟨x, H1, I1, r1, q1⟩ => ?_)
  exact thn (hr pos pins s1 σ H1 _ I1 q1) fun us s2 ⟨xs, H2, I2, r2, q2⟩ => ⟨x :: xs, H2, I2, .cons r1 r2, q2⟩

/-- a tuple, a list of written items -/
def tTup (t : TA) : TE := fun σ H Q => t σ H fun xs H1 => xs.length ≤ sizeLine ∧ ∀ p, H1 p = none → Q (.ref p) (upd H1 p (.tup xs))
def tLst (t : TA) : TE := fun σ H Q => t σ H fun xs H1 => xs.length ≤ sizeLine ∧ ∀ p, H1 p = none → Q (.ref p) (upd H1 p (.lst xs))
theorem pe_tup {x1} (h : PA X es t) : PE X (.Tuple es x1 pos) (tTup t) := by
  intro pins s σ H Q I hq
  refine wpAny_Tuple_spliced (thn (h pos pins s σ H _ I hq) fun us s1 ⟨xs, H1, I1, r, z, q⟩ => ⟨by rw [← r.length]; exact z, ?_⟩)
  have hf : H1 s1.heap.objs.size = none := I1.hok.fresh (Nat.le_refl _)
  refine ⟨.ref s1.heap.objs.size, upd H1 s1.heap.objs.size (.tup xs), I1.laid (t' := s1.toks) (fun b u e => Heap.get?_push_of_some _ e) (Nat.le_refl _) ?_, rfl, q _ hf⟩
  exact ⟨z, us, r, ⟨_, Heap.get?_push_size _ rfl, rfl, ⟨_, rfl⟩, rfl⟩⟩
theorem pe_lst (h : PA X es t) : PE X (.List es pos) (tLst t) := by
  intro pins s σ H Q I hq
  refine wpAny_List_spliced (thn (h pos pins s σ H _ I hq) fun us s1 ⟨xs, H1, I1, r, z, q⟩ => ⟨by rw [← r.length]; exact z, ?_⟩)
  have hf : H1 s1.heap.objs.size = none := I1.hok.fresh (Nat.le_refl _)
  refine ⟨.ref s1.heap.objs.size, upd H1 s1.heap.objs.size (.lst xs), I1.laid (t' := s1.toks) (fun b u e => Heap.get?_push_of_some _ e) (Nat.le_refl _) ?_, rfl, q _ hf⟩
  exact ⟨z, us, 0, r, Heap.get?_push_size _ rfl⟩
end

/-! ### what a def promises -/
/-- a def's promise: the bound arguments in the parameters' order, the heap, the wanted end, the wanted exception -/
abbrev Sp := List V → Hp → VK → XK → Prop
/-- how an exception lies behind a call (file 08 gives it): the callers' frames, abstract heap and state ahead of the call, the wish, the exception, the state -/
abbrev CXT := List Env → Hp → Shared → XK → Value → Shared → Prop

/-- the state at a call -/
structure Env0 (P : Program) (w : World) (K : PySem.W.Frag) (mg : Str → Option Value) (base : Heap) (A : Around) (outer : List Env) (s : Shared) (H : Hp) : Prop where
  frames : A.frames = some outer
  mod : Mod K mg base
  bs : ∀ b o, base.get? b = some o → s.heap.get? b = some o ∧ H b = none
  bsz : base.objs.size ≤ s.heap.objs.size
  funs : s.heap.FunFrames base outer
  frf : ∀ b ∈ frs outer, H b = none
  hok : HOk P w H s.heap
  bare : AllBare s.gens
/-- a call's end -/
def CE (outer : List Env) (P : Program) (w : World) (H : Hp) (s : Shared) (Q : VK) (u : Value) (s' : Shared) : Prop :=
  ∃ v H', s'.os = s.os ∧ AllBare s'.gens ∧ Un (frs outer) [] H H' s.heap s'.heap ∧ HOk P w H' s'.heap ∧ RelV v u ∧ Q v H'
def CR (CX : CXT) (outer : List Env) (P : Program) (w : World) (H : Hp) (s : Shared) (Q : VK) (E : XK) (r : Result) (s' : Shared) : Prop :=
  match r with
  | .ok (.ret u) => CE outer P w H s Q u s'
  | .ok _ => False
  | .error e => CX outer H s E e s'
structure FnOk (P : Program) (w : World) (K : PySem.W.Frag) (mg : Str → Option Value) (base : Heap) (CX : CXT) (k : Nat) (f : Addr) (fd : FuncData) (ps : List Str) (sp : Sp) : Prop where
  len : ∀ vs H Q E, sp vs H Q E → vs.length = ps.length
  run : ∀ (A : Around) (outer : List Env) (s : Shared) (H : Hp) (args : Args) (us : List Value) (vs : List V) (Q : VK) (E : XK), Room k A → Env0 P w K mg base A outer s H → BindsTo s fd args (ps.zip us) → Vals vs us → sp vs H Q E →
    codeAny (model P w) A (.call (.ref f) args) (CR CX outer P w H s Q E) s
section
variable {X : Cx} {pins : List (Addr × Obj)} {σ : St} {H : Hp} {s s' : Shared}
/-- from a body: what a callee wants -/
theorem Inv.env0 (I : Inv X pins σ H s) : Env0 X.prog X.w X.K X.mg X.base X.A X.stack s H :=
  ⟨I.ok.frames, I.ok.mod, I.bs, Nat.le_trans I.ok.bsz I.sz, I.stack, I.stkFree, I.hok, I.bare⟩
/-- behind a call -/
theorem Inv.after {Q : VK} {u : Value} (I : Inv X pins σ H s) (h : CE X.stack X.prog X.w H s Q u s') : EP X pins σ Q u s' := by
  obtain ⟨v, H', os, bare, un, hok, r, q⟩ := h
  obtain ⟨hh, g, d, t, os'⟩ := s'
  obtain rfl : os' = s.os := os
  exact ⟨v, H', I.call (h' := hh) (g' := g) (d' := d) (t' := t) (ch := []) un hok bare (fun b z => absurd z (by simp)), r, q⟩
end

/-! ### calls -/
/-- f(..): the written arguments, then the defaults dvs; E: what is wanted of an exception -/
def tCall (sp : Sp) (dvs : List V) (E : XK) (t : TA) : TE := fun σ H Q => t σ H fun vs H1 => sp (vs ++ dvs) H1 Q E
/-- how the parameters are bound: us the positional arguments, kw the keywords' values by name, ds the defaults that fill up -/
def Binds (K : PySem.W.Frag) (fd : FuncData) (ps : List Str) (ds : List Value) : Prop :=
  ∀ (s : Shared) (us : List Value), K.In s.heap → (us ++ ds).length = ps.length → BindsTo s fd ⟨us, []⟩ (ps.zip (us ++ ds))
/-- every parameter is given -/
theorem Binds.all {K : PySem.W.Frag} {fd : FuncData} {ps : List Str} (h : ∀ us : List Value, us.length = ps.length → bindArgs fd ⟨us, []⟩ = pure (ps.zip us)) : Binds K fd ps [] := fun s us _ hl => by
  rw [List.append_nil] at hl ⊢
  exact .of_eq (h us hl)

/-- an exception of a callee reaches what this body wants of exceptions -/
def Passes (CX : CXT) (X : Cx) (E : XK) : Prop := ∀ (pins : List (Addr × Obj)) (σ : St) (H : Hp) (s : Shared) (e : Value) (s' : Shared), Inv X pins σ H s → CX X.stack H s E e s' → X.xe e s'

section
variable {X : Cx} {CX : CXT} {k : Nat} {f C : Addr} {fd : FuncData} {ps : List Str} {sp : Sp} {dvs : List V} {ds : List Value} {E : XK} {x m : Str} {p pos apos : Pos} {e o : Expr} {es : List Expr} {ta : TE} {t : TA}

/-- the callee runs -/
theorem run_fn {pins : List (Addr × Obj)} {σ : St} {H : Hp} {s : Shared} {Q : VK} {us : List Value} {vs : List V} (F : FnOk X.prog X.w X.K X.mg X.base CX k f fd ps sp) (hr : Room k X.A) (hb : Binds X.K fd ps ds) (hd : Vals dvs ds) (hx : Passes CX X E)
    (I : Inv X pins σ H s) (r : Vals vs us) (h : sp (vs ++ dvs) H Q E) : wpAny (model X.prog X.w) X.A (call (.ref f) us) (EP X pins σ Q) X.xe s := by
  have r2 : Vals (vs ++ dvs) (us ++ ds) := r.append hd
  have hl : (us ++ ds).length = ps.length := by rw [← r2.length]; exact F.len _ _ _ _ h
  refine wpAny_call (codeAny_mono (F.run X.A X.stack s H ⟨us, []⟩ (us ++ ds) (vs ++ dvs) Q E hr I.env0 (hb s us I.kIn hl) r2 h) fun r s' hq => ?_)
  cases r with
  | error e => exact hx pins σ H s e s' I hq
  | ok fl =>
    cases fl with
    | ret u => exact I.after hq
    | next => exact False.elim hq
    | brk => exact False.elim hq
    | cont => exact False.elim hq

theorem pe_call (F : FnOk X.prog X.w X.K X.mg X.base CX k f fd ps sp) (hr : Room k X.A) (hg : Gl X x) (hm : X.mg x = some (.ref f)) (hk : PySem.W.keepIn X.K (.ref f) = true) (hb : Binds X.K fd ps ds) (hd : Vals dvs ds) (hx : Passes CX X E)
    (ha : PA X (e :: es) t) (hdb : (x == ("__debug__" : Str)) = false := by decide) (he : starEach (e :: es) X.env = (false, eval e X.env) :: starEach es X.env := by rfl) (hpl : (backTo pos (starEach es X.env)).any (·.1) = false := by rfl) :
    PE X (.Call (.Name x p) (e :: es) [] pos) (tCall sp dvs E t) := by
  intro pins s σ H Q I h
  refine wpAny_Call_Name_kw (ld_glob I hg hm ?_ hdb)
  refine PySem.W.callWith_K (h₀ := X.base) I.ok.mod.kin hk (thn (ha pos pins s σ H _ I h) fun us s1 ⟨vs, H1, I1, r, q⟩ => ⟨I1.kIn, ?_⟩) he hpl
  exact run_fn F hr hb hd hx I1 r q
end

/-! ### keywords -/
section
variable {X : Cx} {CX : CXT} {k : Nat} {f C : Addr} {fd : FuncData} {ps ks : List Str} {sp : Sp} {E : XK} {x m : Str} {p pos apos kpos : Pos} {e o : Expr} {es : List Expr} {kws : List Keyword} {te ta : TE} {t tk : TA} {nm : Option Str}
variable {g : List Value → List Value → List Value} {gV : List V → List V → List V}
end

/-! ### a def's body keeps its promise -/
/-- names: the parameters first -/
structure FnScope (N P : List Str) (sc : Scope) : Prop where
  kind : sc.kind = .function
  co : sc.isCoroutine = false
  gen : sc.isGenerator = false
  nd : N.Nodup
  pre : N.take P.length = P
  par : ∀ x ∈ P, sc.names.lookup x = some .local ∨ sc.names.lookup x = some .cell
  nofree : ∀ y ∈ sc.names, y.2 ≠ .free

theorem bindL_out {kindOf : Str → Option NameKind} {x : Str} : ∀ {binds : List (Str × Value)} {m : Str → Option Value}, (∀ v, (x, v) ∉ binds) → bindL kindOf binds m x = m x
  | [], _, _ => rfl
  | (n, v) :: r, m, h => by
    unfold bindL
    rw [bindL_out fun w hw => h w (List.mem_cons_of_mem _ hw)]
    split
    · have : x ≠ n := by rintro rfl; exact h v List.mem_cons_self
      simp [this]
    · rfl
theorem bindC_out {kindOf : Str → Option NameKind} {x : Str} : ∀ {binds : List (Str × Value)} {m : Str → Option Value}, (∀ v, (x, v) ∉ binds) → bindC kindOf binds m x = m x
  | [], _, _ => rfl
  | (n, v) :: r, m, h => by
    unfold bindC
    rw [bindC_out fun w hw => h w (List.mem_cons_of_mem _ hw)]
    split
    · rfl
    · have : x ≠ n := by rintro rfl; exact h v List.mem_cons_self
      simp [this]
theorem bindL_get {kindOf : Str → Option NameKind} {x : Str} {v : Value} : ∀ {P : List Str} {vs : List Value} {i : Nat} {m : Str → Option Value}, P.Nodup → P[i]? = some x → vs[i]? = some v → kindOf x = some .local →
    bindL kindOf (P.zip vs) m x = some v
  | [], _, _, _, _, h, _, _ => by simp at h
  | _ :: _, [], _, _, _, _, h, _ => by simp at h
  | p :: P, w :: vs, 0, m, nd, h1, h2, hk => by
    simp at h1 h2; subst h1; subst h2
    show bindL kindOf ((p, w) :: P.zip vs) m p = _
    unfold bindL
    rw [bindL_out fun v hv => (List.nodup_cons.mp nd).1 (List.of_mem_zip hv).1, if_pos hk]
    simp
  | p :: P, w :: vs, i + 1, m, nd, h1, h2, hk => by
    show bindL kindOf ((p, w) :: P.zip vs) m x = _
    unfold bindL
    exact bindL_get (i := i) (List.nodup_cons.mp nd).2 (by simpa using h1) (by simpa using h2) hk
theorem bindC_get {kindOf : Str → Option NameKind} {x : Str} {v : Value} : ∀ {P : List Str} {vs : List Value} {i : Nat} {m : Str → Option Value}, P.Nodup → P[i]? = some x → vs[i]? = some v → kindOf x ≠ some .local →
    bindC kindOf (P.zip vs) m x = some v
  | [], _, _, _, _, h, _, _ => by simp at h
  | _ :: _, [], _, _, _, _, h, _ => by simp at h
  | p :: P, w :: vs, 0, m, nd, h1, h2, hk => by
    simp at h1 h2; subst h1; subst h2
    show bindC kindOf ((p, w) :: P.zip vs) m p = _
    unfold bindC
    rw [bindC_out fun v hv => (List.nodup_cons.mp nd).1 (List.of_mem_zip hv).1, if_neg hk]
    simp
  | p :: P, w :: vs, i + 1, m, nd, h1, h2, hk => by
    show bindC kindOf ((p, w) :: P.zip vs) m x = _
    unfold bindC
    exact bindC_get (i := i) (List.nodup_cons.mp nd).2 (by simpa using h1) (by simpa using h2) hk

/-- the names' values at the entry -/
def start (N : List Str) (vs : List V) : St := vs.map some ++ List.replicate (N.length - vs.length) none

/-- the context of a def's body, at its entry; an exception leaves the frame, then lies as CX says -/
def cxOf (CX : CXT) (P : Program) (w : World) (K : PySem.W.Frag) (mg : Str → Option Value) (base : Heap) (N : List Str) (qual : Str) (scope : Scope) (f : Addr) (cd : Value) (A : Around) (outer : List Env) (s : Shared) (H : Hp) (E : XK) : Cx where
  prog := P
  w := w
  K := K
  mg := mg
  base := base
  A := A.deeper (envOfC qual scope s.heap.objs.size f cd)
  N := N
  s₀ := s
  H₀ := H
  env := envOfC qual scope s.heap.objs.size f cd
  outer := outer
  stack := envOfC qual scope s.heap.objs.size f cd :: outer
  ex := []
  calm := true
  fn := fun _ => true
  pn := []
  xe := fun e s' => wpAny (model P w) (A.deeper (envOfC qual scope s.heap.objs.size f cd)) (leaving (envOfC qual scope s.heap.objs.size f cd) e) (fun _ s'' => CX outer H s E e s'') (fun e' s'' => CX outer H s E e' s'') s'

theorem cell_has {sc : Scope} {n : Nat} {x : Str} (h : sc.names.lookup x = some .cell) : ∃ c, (cellsFrom n sc.names []).lookup x = some c := by
  have q := PySem.W.cellsFrom_some sc.names n [] (.inl h)
  exact Option.isSome_iff_exists.mp q

theorem inv_start {CX : CXT} {P : Program} {w : World} {K : PySem.W.Frag} {mg : Str → Option Value} {base : Heap} {N ps : List Str} {qual : Str} {scope : Scope} {f : Addr} {cd : Value} {A : Around} {outer : List Env} {s s1 : Shared} {H : Hp} {E : XK} {us : List Value} {vs : List V}
    (S : FnScope N ps scope) (hd : A.handled = none) (e0 : Env0 P w K mg base A outer s H) (hl : vs.length = ps.length) (r : Vals vs us)
    (x : InCallC s s.heap.objs.size (bindL (envOfC qual scope s.heap.objs.size f cd).kindOf (ps.zip us) fun _ => none) (cellsFrom (s.heap.objs.size + 1) scope.names []) (bindC (envOfC qual scope s.heap.objs.size f cd).kindOf (ps.zip us) fun _ => none) s1) :
    Inv (cxOf CX P w K mg base N qual scope f cd A outer s H E) [] (start N vs) H s1 := by
  have hpl : ps.length ≤ N.length := by have := congrArg List.length S.pre; rw [List.length_take] at this; omega
  obtain ⟨h1, tk, rfl, hk⟩ := x.done
  have noA : ∀ b : Addr, b ∉ (cxOf CX P w K mg base N qual scope f cd A outer s H E).ex := fun b z => absurd (show b ∈ ([] : List Addr) from z) (by simp)
  refine ⟨⟨e0.mod, S.kind, rfl, rfl, Nat.le_refl _, fun y z c h1 h2 => ?_, fun y hy => ?_, fun y c _ h => ?_, fun _ => hd, Around.frames_deeper e0.frames, .inr ⟨rfl, rfl⟩, fun b z => absurd z (noA b), e0.bs, e0.bsz, fun b _ _ => noA b, fun b z => absurd z (noA b), e0.funs, e0.frf⟩,
    rfl, e0.bare, Un.kept hk, ⟨_, x.toInCall.ns, fun i y v h1 h2 h3 => ?_⟩, fun y c h => ⟨_, x.cell y c h⟩, e0.hok.fresh (Nat.le_refl _), fun y c h => ?_, fun p hp => absurd (show p ∈ ([] : List (Addr × Obj)) from hp) (by simp), e0.hok.kept hk, ?_⟩
  · exact name_of_addr x.apart (PySem.mem_of_lookup h1) (PySem.mem_of_lookup h2)
  · have hy : scope.names.lookup y = some .cell ∨ scope.names.lookup y = some .free := hy
    rcases hy with hy | hy
    · exact cell_has hy
    · exact absurd rfl (S.nofree _ (PySem.mem_of_lookup hy))
  · exact Nat.le_of_lt (x.above y c (PySem.mem_of_lookup h))
  · have hi : i < vs.length := by
      unfold start at h2
      by_cases hi : i < vs.length
      · exact hi
      · rw [List.getElem?_append_right (by simpa using hi)] at h2
        rw [List.getElem?_replicate] at h2
        split at h2 <;> cases h2
    have ha : vs[i]? = some v := by
      unfold start at h2
      rw [List.getElem?_append_left (by simpa using hi), List.getElem?_map] at h2
      cases e : vs[i]? with
      | none => rw [e] at h2; cases h2
      | some a => rw [e] at h2; cases h2; rfl
    obtain ⟨u, hu, rv⟩ := r.get ha
    have hp : ps[i]? = some y := by
      rw [← S.pre, List.getElem?_take_of_lt (by omega)]; exact h1
    have ndP : ps.Nodup := by rw [← S.pre]; exact S.nd.sublist (List.take_sublist _ _)
    refine ⟨u, rv, ?_⟩
    rcases S.par y (List.mem_of_getElem? hp) with k | k
    · exact .inl ⟨k, bindL_get ndP hp hu k⟩
    · obtain ⟨c, e⟩ := cell_has (n := s.heap.objs.size + 1) k
      refine .inr ⟨.inl k, c, e, ?_⟩
      have q := x.cell y c e
      rw [bindC_get ndP hp hu (by show scope.names.lookup y ≠ _; rw [k]; decide)] at q
      exact q
  · exact e0.hok.fresh (Nat.le_of_lt (x.above y c (PySem.mem_of_lookup h)))
  · unfold start
    show _ = N.length
    rw [List.length_append, List.length_map, List.length_replicate]
    omega

/-- THE RULE: a def (or a method) of the text, by its body. The body's reading t is chosen for each entry; it is run at the parameters' values -/
theorem fn_of {CX : CXT} {P : Program} {w : World} {K : PySem.W.Frag} {mg : Str → Option Value} {base : Heap} {k : Nat} {f : Addr} {name qual : Str} {params : Arguments} {body : List Stmt} {scope : Scope} {dV kV doc pm cdv ct oc : Value} {an od : Option Addr}
    {osl : Array (Option Value)} {N ps : List Str} {sp : Sp} (lk : K.lookup f = some ⟨oc, od, .func (PySem.W.fnOf name qual params body scope dV kV doc pm an cdv ct), osl⟩) (hcd : PySem.W.codeIn K cdv qual = true) (S : FnScope N ps scope)
    (len : ∀ vs H Q E, sp vs H Q E → vs.length = ps.length)
    (hbody : ∀ (A : Around) (outer : List Env) (s : Shared) (H : Hp) (vs : List V) (Q : VK) (E : XK), Room k (A.deeper (envOfC qual scope s.heap.objs.size f cdv)) → sp vs H Q E →
      ∃ t, PSs (cxOf CX P w K mg base N qual scope f cdv A outer s H E) body t ∧ t { nx := fun _ H' => Q .non H', rt := Q } (start N vs) H) :
    FnOk P w K mg base CX (k + 1) f (PySem.W.fnOf name qual params body scope dV kV doc pm an cdv ct) ps sp := by
  refine ⟨len, fun A outer s H args us vs Q E hr e0 hb r hsp => ?_⟩
  have hl := len _ _ _ _ hsp
  have KX : K.In s.heap := e0.mod.kin.keeps fun b o e => (e0.bs b o e).1
  have lim : s.heap.NoLimit := e0.mod.nolimit.keeps fun b o e => (e0.bs b o e).1
  have hkind : ∀ y ∈ ps.zip us, scope.names.lookup y.1 = some .local ∨ (scope.names.lookup y.1 = some .cell ∧ ((cellsFrom (s.heap.objs.size + 1) scope.names []).lookup y.1).isSome = true) := fun ⟨n, v⟩ hy => by
    rcases S.par n (List.of_mem_zip hy).1 with q | q
    · exact .inl q
    · exact .inr ⟨q, PySem.W.cellsFrom_some _ _ _ (.inl q)⟩
  refine codeAny_call_function hr.depth (KX _ _ lk) rfl S.co S.gen rfl (PySem.W.codeRec_of KX hcd) (hb _ _ _ _ ?_)
  refine wpAny_newFunctionEnv_cells S.kind hkind fun env he s1 x => ?_
  subst he
  refine ⟨lim.keeps x.toInCall.keep, codeAny_func ?_⟩
  obtain ⟨t, ht, hq⟩ := hbody A outer s H vs Q E (hr.deeper _) hsp
  have I : Inv (cxOf CX P w K mg base N qual scope f cdv A outer s H E) [] (start N vs) H s1 := inv_start S hr.hd e0 hl r x
  refine wpAny_mono (ht [] s1 (start N vs) H _ I hq) (fun fl s' hs => ?_) fun e s' hs => hs
  have fin : ∀ {σ' : St} {H' : Hp} {v : V} {u : Value}, Inv (cxOf CX P w K mg base N qual scope f cdv A outer s H E) [] σ' H' s' → RelV v u → Q v H' → CE outer P w H s Q u s' :=
    fun {σ' H' v u} J rv q => ⟨v, H', J.os, J.bare, J.base, J.hok, rv, q⟩
  cases fl with
  | ret u =>
    obtain ⟨v, σ', H', J, rv, q⟩ := hs
    exact fin J rv q
  | next =>
    obtain ⟨σ', H', J, q⟩ := hs
    exact fin (v := V.non) (u := Value.none) J rfl q
  | brk =>
    obtain ⟨_, _, _, q⟩ := hs
    exact False.elim q
  | cont =>
    obtain ⟨_, _, _, q⟩ := hs
    exact False.elim q
end L2

namespace L2
open PySem PySem.Spec PyProof.Rows
section
variable {X : Cx} {x : Str} {p pos : Pos} {e : Expr} {es : List Expr} {t : TA} {id T : String} {r : List V → Hp → VK → Prop}

def tCB (r : List V → Hp → VK → Prop) (t : TA) : TE := fun σ H Q => t σ H fun vs H1 => r vs H1 Q
/-- f(e, ..), f a built-in function -/
theorem pe_callB (hc : CallR X (.builtin id) r) (hg : Gl X x) (hm : X.mg x = none) (hv : bootBuiltins x = some (.builtin id)) (ha : PA X (e :: es) t) (hn : x ≠ "__name__" := by decide) (hdb : (x == ("__debug__" : Str)) = false := by decide)
    (he : starEach (e :: es) X.env = (false, eval e X.env) :: starEach es X.env := by rfl) (hpl : (backTo pos (starEach es X.env)).any (·.1) = false := by rfl) : PE X (.Call (.Name x p) (e :: es) [] pos) (tCB r t) := by
  intro pins s σ H Q I h
  refine wpAny_Call_Name_kw (ld_blt I hg hm hv ?_ hn hdb)
  exact PyProof.Rows.callWith_builtin1 (thn (ha pos pins s σ H _ I h) fun us s1 ⟨vs, H1, I1, r1, q1⟩ => hc pins s1 σ H1 vs us Q I1 r1 q1) he hpl
/-- T(e, ..), T a built-in type -/
theorem pe_callTy (hc : CallR X (.type T) r) (hg : Gl X x) (hm : X.mg x = none) (hv : bootBuiltins x = some (.type T)) (ha : PA X (e :: es) t) (hn : x ≠ "__name__" := by decide) (hdb : (x == ("__debug__" : Str)) = false := by decide)
    (he : starEach (e :: es) X.env = (false, eval e X.env) :: starEach es X.env := by rfl) (hpl : (backTo pos (starEach es X.env)).any (·.1) = false := by rfl) : PE X (.Call (.Name x p) (e :: es) [] pos) (tCB r t) := by
  intro pins s σ H Q I h
  refine wpAny_Call_Name_kw (ld_blt I hg hm hv ?_ hn hdb)
  exact PyProof.Rows.callWith_type1 (thn (ha pos pins s σ H _ I h) fun us s1 ⟨vs, H1, I1, r1, q1⟩ => hc pins s1 σ H1 vs us Q I1 r1 q1) he hpl
end
end L2

namespace HT
open PySem PyProof.Rows

section
open PySem.SeqAt
open PySem.AutoSeq1 (wpAny_loadPart')
open PySem.MeetsSeq PySem.MeetsSeq2 PySem.MeetsSeq3

end

section
variable {prog : Program} {w : World} {A : Around} {E : Value → Shared → Prop} {s : Shared}

/-- t + u, t not empty -/
theorem cat_tup {t b : Addr} {vs ws : List Value} {Q : Value → Shared → Prop} (ht : IsTup s.heap t vs.toArray) (hb : IsTup s.heap b ws.toArray) (hv : vs ≠ [])
    (h1 : ws = [] → Q (.ref t) s) (h2 : ws ≠ [] → Q (.ref s.heap.objs.size) { s with heap := s.heap.push { cls := .type "tuple", data := .seq (vs ++ ws).toArray } })
    (hsz : vs.length + ws.length ≤ sizeLine) : wpAny (model prog w) A (binaryOp .Add (.ref t) (.ref b)) Q E s := by
  obtain ⟨⟨cls, dd, data, sl⟩, ho, hc, n, hd⟩ := id ht
  obtain ⟨⟨cls2, dd2, data2, sl2⟩, ho2, hc2, n2, hd2⟩ := id hb
  simp only at hc hd hc2 hd2
  subst hc hd hc2 hd2
  have e : vs.toArray ++ ws.toArray = (vs ++ ws).toArray := by simp
  by_cases hw : ws = []
  · exact concat_meets ⟨_, ho, rfl⟩ ⟨_, ho2, rfl⟩ noFill_tuple_add seq_tuple_add PySem.F.slot_tuple_add PySem.F.entry_tuple_add (PySem.F.args_tuple_add_2 _ _)
      (tuple_addW1 t b vs.toArray ws.toArray n n2 dd dd2 sl sl2 (by simpa using hv) (by simp [hw])) ⟨ho, ho2, h1 hw⟩
  · refine concat_meets ⟨_, ho, rfl⟩ ⟨_, ho2, rfl⟩ noFill_tuple_add seq_tuple_add PySem.F.slot_tuple_add PySem.F.entry_tuple_add (PySem.F.args_tuple_add_2 _ _)
      (tuple_addW2 t b vs.toArray ws.toArray n n2 dd dd2 sl sl2 (by simpa using hv) (by simpa using hw) (by rw [List.size_toArray, List.size_toArray]; exact hsz)) ⟨ho, ho2, ?_⟩
    rw [e]
    exact h2 hw

/-! ### t[a:b], not the whole -/
/-- a slice's bound as a place among n (d where it is left out) -/
def sIx (n d : Nat) : Option Int → Nat
  | none => d
  | some v => if v < 0 then (v + (n : Int)).toNat else min v.toNat n
theorem sIx_none (n d : Nat) : sIx n d none = d := rfl
theorem sIx_nat (n d k : Nat) : sIx n d (some (k : Int)) = min k n := by
  show (if (k : Int) < 0 then ((k : Int) + (n : Int)).toNat else min (k : Int).toNat n) = min k n
  rw [if_neg (by omega), Int.toNat_natCast]
theorem sIx_le (n d : Nat) (hd : d ≤ n) (o : Option Int) : sIx n d o ≤ n := by
  cases o with
  | none => exact hd
  | some v =>
    show (if v < 0 then (v + (n : Int)).toNat else min v.toNat n) ≤ n
    by_cases hv : v < 0
    · rw [if_pos hv]; omega
    · rw [if_neg hv]; exact Nat.min_le_right _ _
theorem clip_eq (v : Int) (n d : Nat) : (if v < 0 then max (v + (n : Int)) 0 else min v (n : Int)) = ((sIx n d (some v) : Nat) : Int) := by
  show (if v < 0 then max (v + (n : Int)) 0 else min v (n : Int)) = (((if v < 0 then (v + (n : Int)).toNat else min v.toNat n) : Nat) : Int)
  by_cases hv : v < 0
  · simp only [if_pos hv]; omega
  · simp only [if_neg hv]; omega
theorem adjust_gen (lo hi : Option Int) (n : Nat) : Builtin.Slice.sliceAdjust lo hi 1 (n : Int) = (((sIx n 0 lo : Nat) : Int), ((sIx n n hi : Nat) : Int)) := by
  have h1 : ¬ ((1 : Int) < 0) := by omega
  unfold Builtin.Slice.sliceAdjust
  simp only [h1, if_false]
  refine Prod.ext ?_ ?_
  · cases lo with
    | none => rfl
    | some v => exact clip_eq v n 0
  · cases hi with
    | none => rfl
    | some v => exact clip_eq v n n
theorem places_gen (i j : Nat) : Builtin.Slice.slicePlaces (i : Int) (j : Int) 1 = j - i := by
  unfold Builtin.Slice.slicePlaces
  have h1 : (1 : Int) > 0 := by omega
  simp only [h1, if_true, Int.ediv_one]
  split <;> omega
theorem slicePart_ {v : Value} {o : Option Int} {Q : Option Int → Shared → Prop} (p : IsPart v o) (h : Q o s) : wpAny (model prog w) A (Builtin.Slice.slicePartIndex v) Q E s := by
  cases p with
  | none => exact slicePart_none h
  | int i t => exact slicePart_int h
theorem sliceApplied_gen {sl : Addr} {vl vu : Value} {lo hi : Option Int} {n : Nat} {Q : Int × Int × Nat → Shared → Prop} (hs : s.heap.IsSliceOf sl vl vu .none) (pl : IsPart vl lo) (pu : IsPart vu hi)
    (h : Q (((sIx n 0 lo : Nat) : Int), 1, sIx n n hi - sIx n 0 lo) s) : wpAny (model prog w) A (Builtin.Slice.sliceApplied (.ref sl) (pure (n : Int))) Q E s := by
  obtain ⟨os, hos, hcs, hds⟩ := id hs
  unfold Builtin.Slice.sliceApplied Builtin.Slice.sliceFields
  refine wpAny_bind (wpAny_bind (wpAny_field hos hds (x := vl) rfl (wpAny_bind (wpAny_field hos hds (x := vu) rfl (wpAny_bind (wpAny_field hos hds (x := .none) rfl (wpAny_pure ?_)))))))
  refine wpAny_bind (slicePart_none ?_)
  show wpAny _ _ (if ((1 : Int) == 0) = true then _ else _) _ _ s
  rw [if_neg (by decide)]
  refine wpAny_bind (slicePart_ pl (wpAny_bind (slicePart_ pu (wpAny_bind (wpAny_pure ?_)))))
  show wpAny _ _ (match Builtin.Slice.sliceAdjust lo hi 1 (n : Int) with | (lo, hi) => pure (lo, (1 : Int), Builtin.Slice.slicePlaces lo hi 1)) _ _ s
  rw [adjust_gen lo hi n]
  show wpAny _ _ (pure (((sIx n 0 lo : Nat) : Int), (1 : Int), Builtin.Slice.slicePlaces ((sIx n 0 lo : Nat) : Int) ((sIx n n hi : Nat) : Int) 1)) _ _ s
  rw [places_gen]
  exact wpAny_pure h
theorem pick_gen (xs : Array Value) (i k : Nat) : ((List.range k).filterMap fun (m : Nat) => xs[((i : Int) + (m : Int) * 1).toNat]?).toArray = ((xs.toList.drop i).take k).toArray := by
  have e : (fun (m : Nat) => xs[((i : Int) + (m : Int) * 1).toNat]?) = fun m => xs[i + m]? := by
    funext m
    have : ((i : Int) + (m : Int) * 1).toNat = i + m := by omega
    rw [this]
  rw [e]
  have := pick_run xs i k
  rw [List.filterMap_map] at this
  have e2 : ((fun x => xs[x]?) ∘ fun x => i + x) = fun m => xs[i + m]? := rfl
  rw [e2] at this
  rw [this]

theorem getItem_tuple_cut {t sl : Addr} {items : Array Value} {vl vu : Value} {lo hi : Option Int} {Q : Value → Shared → Prop} (ht : IsTup s.heap t items) (hs : s.heap.IsSliceOf sl vl vu .none) (pl : IsPart vl lo) (pu : IsPart vu hi)
    (hw : ¬ (sIx items.size 0 lo = 0 ∧ sIx items.size items.size hi = items.size))
    (h : Q (.ref s.heap.objs.size) { s with heap := s.heap.push { cls := .type "tuple", data := .seq ((items.toList.drop (sIx items.size 0 lo)).take (sIx items.size items.size hi - sIx items.size 0 lo)).toArray } })
    (hsz : items.size ≤ sizeLine) : wpAny (model prog w) A (getItem (.ref t) (.ref sl)) Q E s := by
  have htake : sizeOk (.seq ((items.toList.drop (sIx items.size 0 lo)).take (sIx items.size items.size hi - sIx items.size 0 lo)).toArray) := by
    show ((items.toList.drop (sIx items.size 0 lo)).take (sIx items.size items.size hi - sIx items.size 0 lo)).toArray.size ≤ sizeLine
    rw [List.size_toArray, List.length_take, List.length_drop, Array.length_toList]
    omega
  have hj : sIx items.size items.size hi ≤ items.size := sIx_le _ _ (Nat.le_refl _) hi
  obtain ⟨os, hos, hcs, hds⟩ := id hs
  have hTs : s.TypeIs (.ref sl) "slice" := ⟨os, hos, hcs⟩
  unfold getItem
  try with_reducible refine wpAny_holding ?_
  first | refine wpAny_bind (wpAny_pure ?_) | skip
  refine wpAny_bind (wpAny_sequenceKey ht.typeIs (by decide) ?_)
  refine wpAny_bind (wpAny_callSpecial?_slot (name := Str.ofString "__getitem__") ht.typeIs PyProof.Rows.slot_tuple_getitem
    (wpAny_call_entry PyProof.Rows.slot_tuple_getitem ht.typeIs entry_tuple_getitem ?_ (args_tuple_getitem _ _)))
  show wpAny _ _ (Builtin.Tuple.tupleItemsOf (.ref t) >>= _) _ _ s
  refine wpAny_bind (tupleItemsOf_ ht ?_)
  refine wpAny_bind (wpAny_typeOf hTs ?_)
  rw [if_pos (by decide)]
  refine wpAny_bind (sliceApplied_gen hs pl pu ?_)
  have hno : ¬ ((((sIx items.size 0 lo : Nat) : Int) == 0 && (1 : Int) == 1 && (sIx items.size items.size hi - sIx items.size 0 lo) == items.size) = true) := by
    intro q
    rw [Bool.and_eq_true, Bool.and_eq_true] at q
    have q1 : ((sIx items.size 0 lo : Nat) : Int) = 0 := eq_of_beq q.1.1
    have q2 : sIx items.size items.size hi - sIx items.size 0 lo = items.size := eq_of_beq q.2
    exact hw ⟨by omega, by omega⟩
  show wpAny _ _ (if (((sIx items.size 0 lo : Nat) : Int) == 0 && (1 : Int) == 1 && (sIx items.size items.size hi - sIx items.size 0 lo) == items.size) = true then _ else _) _ _ s
  rw [if_neg hno, pick_gen]
  first
    | exact wpAny_bind (m := Builtin.Tuple.tupleExact _) (wpAny_newObj_type (wpAny_pure ⟨_, rfl, wpAny_pure h⟩) htake)
    | exact wpAny_bind (m := Builtin.Tuple.tupleExact _) (wpAny_newObj_type (wpAny_bind (wpAny_pure (wpAny_pure ⟨_, rfl, wpAny_pure h⟩))) htake)
    | exact wpAny_bind (wpAny_bind (m := Builtin.Tuple.tupleExact _) (wpAny_newObj_type (wpAny_pure (wpAny_pure ⟨_, rfl, wpAny_pure h⟩)) htake))
    | exact wpAny_bind (wpAny_bind (m := Builtin.Tuple.tupleExact _) (wpAny_newObj_type (wpAny_pure ⟨_, rfl, wpAny_pure h⟩) htake))
end
end HT

namespace L2
open PySem PySem.Spec PyProof.Rows

/-! ### the parts of a slice -/
abbrev TO := St → Hp → (Option Int → Hp → Prop) → Prop
/-- a slice's part (left out, or an int) -/
def PO (X : Cx) (e : Option Expr) (t : TO) : Prop :=
  ∀ (pins : List (Addr × Obj)) (s : Shared) (σ : St) (H : Hp) (Q : Option Int → Hp → Prop), Inv X pins σ H s → t σ H Q →
    wpAny (model X.prog X.w) X.A (evalPart e X.env) (fun u s' => ∃ o H', Inv X pins σ H' s' ∧ IsPart u o ∧ Q o H') X.xe s
def tNoPart : TO := fun _ H Q => Q none H
def tPart (t : TE) : TO := fun σ H Q => t σ H fun x H1 => ∃ i, x = .int i ∧ Q (some i) H1

theorem intsAre_of {ns : List Int} : ∀ {us : List Value}, Vals (ns.map V.int) us → IntsAre us ns := by
  induction ns with
  | nil => intro us r; rw [List.map_nil] at r; cases r; exact .nil
  | cons n ns ih =>
    intro us r
    rw [List.map_cons] at r
    cases r with
    | cons r1 r2 =>
      obtain ⟨t, e⟩ := r1
      subst e
      exact .cons n t (ih r2)

section
variable {X : Cx} {e : Expr} {te : TE} {lo hi : Option Expr} {tl th : TO} {pos p2 : Pos}

theorem po_none : PO X none tNoPart := by
  intro pins s σ H Q I h
  rw [evalPart_none]
  exact wpAny_pure ⟨none, H, I, .none, h⟩
theorem po_some (h : PE X e te) : PO X (some e) (tPart te) := by
  intro pins s σ H Q I hw
  rw [evalPart_some]
  refine thn (h pins s σ H _ I hw) fun u s1 ⟨x, H1, I1, r1, q1⟩ => ?_
  obtain ⟨i, rfl, q⟩ := q1
  obtain ⟨t, rfl⟩ := r1
  exact ⟨some i, H1, I1, .int i t, q⟩

/-- what a slice of a value is, by values: the slice object stands at sl -/
def SlR (X : Cx) (r : V → Option Int → Option Int → Hp → VK → Prop) : Prop :=
  ∀ (pins : List (Addr × Obj)) (s : Shared) (σ : St) (H : Hp) (x : V) (v vl vu : Value) (lo hi : Option Int) (sl : Addr) (Q : VK), Inv X pins σ H s → RelV x v → s.heap.IsSliceOf sl vl vu .none → IsPart vl lo → IsPart vu hi → r x lo hi H Q →
    ∃ T id, typeLookup (.type T) "__getitem__" = pure (some (.builtin id)) ∧ s.TypeIs v T ∧ wpAny (model X.prog X.w) X.A (getItem v (.ref sl)) (EP X pins σ Q) X.xe s
theorem SlR.or {r r' : V → Option Int → Option Int → Hp → VK → Prop} (h : SlR X r) (h' : SlR X r') : SlR X (fun x lo hi H Q => r x lo hi H Q ∨ r' x lo hi H Q) := by
  intro pins s σ H x v vl vu lo hi sl Q I rx hs pl pu q
  rcases q with q | q
  · exact h pins s σ H x v vl vu lo hi sl Q I rx hs pl pu q
  · exact h' pins s σ H x v vl vu lo hi sl Q I rx hs pl pu q
def tSl (r : V → Option Int → Option Int → Hp → VK → Prop) (te : TE) (tl th : TO) : TE := fun σ H Q => te σ H fun x H1 => tl σ H1 fun l H2 => th σ H2 fun u H3 => r x l u H3 Q
/-- a[lo:hi], any a -/
theorem pe_slice {r : V → Option Int → Option Int → Hp → VK → Prop} (hr : SlR X r) (he : PE X e te) (hl : PO X lo tl) (hu : PO X hi th) : PE X (.Subscript e (.Slice lo hi none p2) pos) (tSl r te tl th) := by
  intro pins s σ H Q I h
  refine Subscript_ (thn (he pins s σ H _ I h) fun v s1 ⟨x, H1, I1, r1, q1⟩ => ?_)
  refine wpAny_Slice (thn (hl pins s1 σ H1 _ I1 q1) fun vl s2 ⟨l, H2, I2, pl, q2⟩ => thn (hu pins s2 σ H2 _ I2 q2) fun vu s3 ⟨u, H3, I3, pu, q3⟩ => ?_)
  rw [evalPart_none]
  refine wpAny_pure ?_
  have I4 : Inv X pins σ H3 { s3 with heap := s3.heap.push { cls := .type "slice", data := .fields #[vl, vu, .none] } } := I3.kept (t' := s3.toks) fun b ob q => Heap.get?_push_of_some _ q
  obtain ⟨T, id, hT, ht, hg⟩ := hr pins { s3 with heap := s3.heap.push { cls := .type "slice", data := .fields #[vl, vu, .none] } } σ H3 x v vl vu l u s3.heap.objs.size Q I4 r1 (Heap.IsSliceOf.new ..) pl pu q3
  show wpAny (model X.prog X.w) X.A (subscriptTail e (.Slice lo hi none p2) v (.ref s3.heap.objs.size)) (EP X pins σ Q) X.xe { s3 with heap := s3.heap.push { cls := .type "slice", data := .fields #[vl, vu, .none] } }
  exact tail_any (ops := [.ref s3.heap.objs.size, v]) ht hT hg (by with_unfolding_all rfl)

/-- the items of xs[lo:hi] -/
def cutV (xs : List V) (lo hi : Option Int) : List V := (xs.drop (HT.sIx xs.length 0 lo)).take (HT.sIx xs.length xs.length hi - HT.sIx xs.length 0 lo)
theorem cutV_length (xs : List V) (lo hi : Option Int) : (cutV xs lo hi).length ≤ xs.length := by
  unfold cutV
  rw [List.length_take, List.length_drop]
  omega
/-- t[lo:hi], not the whole of it (the whole would be t itself) -/
def rSlT (K : PySem.W.Frag) : V → Option Int → Option Int → Hp → VK → Prop := fun x lo hi H Q => ∃ a xs, x = .ref a ∧ SqT K H a xs ∧
  ¬ (HT.sIx xs.length 0 lo = 0 ∧ HT.sIx xs.length xs.length hi = xs.length) ∧ ∀ p, H p = none → Q (.ref p) (upd H p (.tup (cutV xs lo hi)))
theorem sl_tup : SlR X (rSlT X.K) := by
  intro pins s σ H x v vl vu lo hi sl Q I rx hs pl pu h
  obtain ⟨a, xs, rfl, hx, hw, q⟩ := h
  cases rx
  obtain ⟨its, r, ht, hz⟩ := I.tuple hx
  have hlen : its.toArray.size = xs.length := by rw [List.size_toArray]; exact r.length.symm
  refine ⟨"tuple", _, PyProof.Rows.slot_tuple_getitem.lookup, ht.typeIs, ?_⟩
  refine HT.getItem_tuple_cut ht hs pl pu (by rw [hlen]; exact hw) ?_ (by rw [hlen]; exact hz)
  rw [hlen]
  refine ⟨.ref s.heap.objs.size, _, I.laid (t' := s.toks) (o := .tup (cutV xs lo hi)) (fun b ob q => Heap.get?_push_of_some _ q) (Nat.le_refl _) ?_, rfl, q _ (I.hok.fresh (Nat.le_refl _))⟩
  exact ⟨Nat.le_trans (cutV_length xs lo hi) hz, _, (r.drop (HT.sIx xs.length 0 lo)).take (HT.sIx xs.length xs.length hi - HT.sIx xs.length 0 lo), PTup.new _ _⟩

/-! ### t < u, t + u -/
/-- t + u, t not empty: u empty gives t itself -/
def rCatT (K : PySem.W.Frag) : R2 := fun x y H Q => ∃ a b xs ys, x = .ref a ∧ y = .ref b ∧ SqT K H a xs ∧ SqT K H b ys ∧ xs ≠ [] ∧ xs.length + ys.length ≤ sizeLine ∧
  (ys = [] → Q (.ref a) H) ∧ (ys ≠ [] → ∀ p, H p = none → Q (.ref p) (upd H p (.tup (xs ++ ys))))
theorem Vals.nil_iff {xs : List V} {us : List Value} (r : Vals xs us) : us = [] ↔ xs = [] := by
  cases r with
  | nil => simp
  | cons _ _ => simp
theorem op_catT : OpR X (binaryOp .Add) (rCatT X.K) := by
  intro pins s σ H x y v u Q I rx ry h
  obtain ⟨a, b, xs, ys, rfl, rfl, ha, hb, hx, hz, q1, q2⟩ := h
  cases rx
  cases ry
  obtain ⟨its, r1, p1, _⟩ := I.tuple ha
  obtain ⟨its2, r2, p2, _⟩ := I.tuple hb
  refine HT.cat_tup p1 p2 (fun z => hx (r1.nil_iff.mp z)) (fun z => ⟨.ref a, H, I, rfl, q1 (r2.nil_iff.mp z)⟩) (fun z => ?_) (by rw [← r1.length, ← r2.length]; exact hz)
  refine ⟨.ref s.heap.objs.size, _, I.laid (t' := s.toks) (o := .tup (xs ++ ys)) (fun b ob q => Heap.get?_push_of_some _ q) (Nat.le_refl _) ?_, rfl, q2 (fun w => z (r2.nil_iff.mpr w)) _ (I.hok.fresh (Nat.le_refl _))⟩
  exact ⟨by rw [List.length_append]; exact hz, _, r1.append r2, PTup.new _ _⟩
end
end L2

namespace L2
open PySem PySem.Spec PyProof.Rows

/-! ### places -/
/-- the place that an index of any sign means -/
def ixN (n : Nat) (i : Int) : Option Nat := if 0 ≤ i then (if i < n then some i.toNat else none) else if -(n : Int) ≤ i then some (i + n).toNat else none
def atI {α : Type} (xs : List α) (i : Int) : Option α := (ixN xs.length i).bind fun j => xs[j]?
theorem ixN_seq {n : Nat} {i : Int} {j : Nat} (h : ixN n i = some j) : seqIndex? i n = some j ∧ j < n ∧ -(n : Int) ≤ i ∧ i < n := by
  unfold ixN at h
  by_cases h0 : 0 ≤ i
  · rw [if_pos h0] at h
    by_cases h1 : i < n
    · rw [if_pos h1] at h
      have e : i.toNat = j := Option.some.inj h
      exact ⟨by rw [seqIndex_of h0 h1, e], by omega, by omega, h1⟩
    · rw [if_neg h1] at h; cases h
  · rw [if_neg h0] at h
    by_cases h1 : -(n : Int) ≤ i
    · rw [if_pos h1] at h
      have e : (i + n).toNat = j := Option.some.inj h
      exact ⟨by rw [seqIndex_neg (by omega) h1, e], by omega, h1, by omega⟩
    · rw [if_neg h1] at h; cases h
theorem atI_get {α : Type} {xs : List α} {i : Int} {v : α} (h : atI xs i = some v) : ∃ j, seqIndex? i xs.length = some j ∧ xs[j]? = some v ∧ j < xs.length ∧ -(xs.length : Int) ≤ i ∧ i < xs.length := by
  unfold atI at h
  cases e : ixN xs.length i with
  | none => rw [e] at h; cases h
  | some j =>
    rw [e] at h
    obtain ⟨h1, h2, h3, h4⟩ := ixN_seq e
    exact ⟨j, h1, h, h2, h3, h4⟩
theorem atI_nat {α : Type} {xs : List α} {j : Nat} {v : α} (h : xs[j]? = some v) : atI xs (j : Int) = some v := by
  have hj : j < xs.length := (List.getElem?_eq_some_iff.mp h).1
  have e : ixN xs.length (j : Int) = some j := by
    unfold ixN
    rw [if_pos (by omega), if_pos (by omega)]; simp
  unfold atI; rw [e]; exact h
/-! ### what may be subscripted -/
/-- what stands as an index of a plain subscript -/
def PlainIx (b : Expr) : Prop := ∀ o i, subscripted b false o i = operate [o, i] (getItem o i)
/-- a subscript by values -/
def IxR (X : Cx) (r : R2) : Prop :=
  ∀ (value slice : Expr) (pins : List (Addr × Obj)) (s : Shared) (σ : St) (H : Hp) (x y : V) (v u : Value) (Q : VK), Inv X pins σ H s → RelV x v → RelV y u → r x y H Q →
    subscripted slice false v u = operate [v, u] (getItem v u) → wpAny (model X.prog X.w) X.A (subscriptTail value slice v u) (EP X pins σ Q) X.xe s
/-- a call of a builtin's method by values: the receiver, the arguments -/
def MtR (X : Cx) (id : String) (r : V → List V → Hp → VK → Prop) : Prop :=
  ∀ (pins : List (Addr × Obj)) (s : Shared) (σ : St) (H : Hp) (x : V) (xs : List V) (v : Value) (us : List Value) (Q : VK), Inv X pins σ H s → RelV x v → Vals xs us → r x xs H Q →
    wpAny (model X.prog X.w) X.A (call (.builtin id) (v :: us)) (EP X pins σ Q) X.xe s
section
variable {X : Cx} {a b : Expr} {ta tb : TE} {pos : Pos}
theorem IxR.or {r r' : R2} (h : IxR X r) (h' : IxR X r') : IxR X (fun x y H Q => r x y H Q ∨ r' x y H Q) := by
  intro value slice pins s σ H x y v u Q I rx ry q hs
  rcases q with q | q
  · exact h value slice pins s σ H x y v u Q I rx ry q hs
  · exact h' value slice pins s σ H x y v u Q I rx ry q hs
/-- a[b] -/
theorem pe_ix {r : R2} (hr : IxR X r) (ha : PE X a ta) (hb : PE X b tb) (hs : PlainIx b) : PE X (.Subscript a b pos) (tOp r ta tb) := by
  intro pins s σ H Q I h
  exact Subscript_ (binT ha hb I h fun v u s2 x y H2 I2 rx ry q => hr a b pins s2 σ H2 x y v u Q I2 rx ry q (hs _ _))

def rIxL (K : PySem.W.Frag) : R2 := fun x y H Q => ∃ p xs i v, x = .ref p ∧ y = .int i ∧ SqL K H p xs ∧ atI xs i = some v ∧ Q v H
def rIxT (K : PySem.W.Frag) : R2 := fun x y H Q => ∃ p xs i v, x = .ref p ∧ y = .int i ∧ SqT K H p xs ∧ atI xs i = some v ∧ Q v H
def rIxS : R2 := fun x y H Q => ∃ z i c, x = .str z ∧ y = .int i ∧ z.length ≤ sizeLine ∧ atI z.cps.toList i = some c ∧ Q (.str ⟨#[c]⟩) H
theorem ix_list : IxR X (rIxL X.K) := by
  intro value slice pins s σ H x y v u Q I rx ry h hs
  obtain ⟨p, xs, i, z, rfl, rfl, hq, he, q⟩ := h
  cases rx
  obtain ⟨t, rfl⟩ := ry
  obtain ⟨its, r, pl, hz⟩ := I.list hq
  obtain ⟨j, h1, h2, h3, h4, h5⟩ := atI_get he
  obtain ⟨w, ew, rw'⟩ := r.get h2
  have hl := r.length
  have hn := line63
  have fin : EP X pins σ Q w s := ⟨z, H, I, rw', q⟩
  by_cases h0 : 0 ≤ i
  · have hj : i.toNat = j := by
      rw [seqIndex_of h0 h5] at h1
      exact Option.some.inj h1
    exact item_listR pl.isList h0 (by omega) (by rw [hj]; simpa using ew) fin hs
  · have hj : (i + (its.toArray.size : Int)).toNat = j := by
      rw [seqIndex_neg (by omega) h4] at h1
      rw [List.size_toArray, ← hl]
      exact Option.some.inj h1
    exact subscriptTail_builtinR (x := w) pl.isList.typeIs slot_list_getitem.lookup
      (wpAny_getItem_list_neg (Q := fun r s' => r = w ∧ EP X pins σ Q r s') pl.isList (by omega) (by rw [List.size_toArray] <;> omega) (by omega) (by rw [hj]; simpa using ew) ⟨rfl, fin⟩) hs
theorem ix_tup : IxR X (rIxT X.K) := by
  intro value slice pins s σ H x y v u Q I rx ry h hs
  obtain ⟨p, xs, i, z, rfl, rfl, hq, he, q⟩ := h
  cases rx
  obtain ⟨t, rfl⟩ := ry
  obtain ⟨its, r, pl, hz⟩ := I.tuple hq
  obtain ⟨j, h1, h2, h3, h4, h5⟩ := atI_get he
  obtain ⟨w, ew, rw'⟩ := r.get h2
  have hl := r.length
  have hn := line63
  have fin : EP X pins σ Q w s := ⟨z, H, I, rw', q⟩
  exact subscriptTail_builtinR (x := w) pl.typeIs slot_tuple_getitem.lookup
    (getItem_tuple (j := j) (Q := fun r s' => r = w ∧ EP X pins σ Q r s') pl (by omega) (by omega) (by rw [List.size_toArray, ← hl]; exact h1) (by simpa using ew) ⟨rfl, fin⟩) hs
theorem ix_str : IxR X rIxS := by
  intro value slice pins s σ H x y v u Q I rx ry h hs
  obtain ⟨z, i, c, rfl, rfl, hz, he, q⟩ := h
  obtain ⟨t, rfl⟩ := rx
  obtain ⟨t', rfl⟩ := ry
  obtain ⟨j, h1, h2, h3, h4, h5⟩ := atI_get he
  have hl : z.cps.toList.length = z.length := by simp [Str.length]
  rw [hl] at h1 h4 h5
  have hn := line63
  exact tail_any (typeIs_str s z t) slot_str_getitem.lookup (getItem_str (c := c) (by
    have e1 : decide (i < -(2 ^ 63 : Int)) = false := decide_eq_false (by omega)
    have e2 : decide (i ≥ 2 ^ 63) = false := decide_eq_false (by omega)
    rw [e1, e2, Bool.or_false]) (by rw [h1]; simpa using h2) ⟨.str ⟨#[c]⟩, H, I.tok _, ⟨_, rfl⟩, q⟩) hs
/-- list, tuple or str -/
def rIx (K : PySem.W.Frag) : R2 := fun x y H Q => rIxL K x y H Q ∨ rIxT K x y H Q ∨ rIxS x y H Q
theorem ix_seq : IxR X (rIx X.K) := ix_list.or (ix_tup.or ix_str)

/-! ### xs[i] = v, any sign -/
/-- the list's object behind a store -/
theorem mapSeq_set (its : List Value) (n j : Nat) (u : Value) : Obj.mapSeq (·.setIfInBounds j u) { cls := .type "list", data := .seq its.toArray n } = { cls := .type "list", data := .seq (its.set j u).toArray n } := by
  simp [Obj.mapSeq]
theorem Inv.lst {pins : List (Addr × Obj)} {σ : St} {H : Hp} {s : Shared} {p : Addr} {xs : List V} (I : Inv X pins σ H s) (h : H p = some (.lst xs)) :
    ∃ (its : List Value) (n : Nat), Vals xs its ∧ s.heap.get? p = some { cls := .type "list", data := .seq its.toArray n } ∧ xs.length ≤ sizeLine := by
  obtain ⟨z, its, n, r, e⟩ := I.hok p _ h
  exact ⟨its, n, r, e, z⟩
/-- the list at p is written by an update of its object -/
theorem Inv.lstUpd {pins : List (Addr × Obj)} {σ : St} {H : Hp} {s : Shared} {p : Addr} {xs ys : List V} {its its' : List Value} {n n' : Nat} {f : Obj → Obj} (I : Inv X pins σ H s) (h : H p = some (.lst xs))
    (ho : s.heap.get? p = some { cls := .type "list", data := .seq its.toArray n }) (hf : f { cls := .type "list", data := .seq its.toArray n } = { cls := .type "list", data := .seq its'.toArray n' }) (r : Vals ys its') (hz : ys.length ≤ sizeLine) (t : Nat) :
    Inv X pins σ (upd H p (.lst ys)) { s with heap := s.heap.update p f, toks := t } := by
  have e : (s.heap.update p f).get? p = some { cls := .type "list", data := .seq its'.toArray n' } := by
    rw [Heap.get?_update_self f ho (by rw [hf] <;> rfl), hf]
  refine I.write (x := p) (e := p) (by rw [h]; trivial) (.inl rfl) (fun b u hb q => (Heap.get?_update_other _ _ (Ne.symm hb)).trans q) ⟨_, e⟩ ?_
  exact ⟨hz, its', n', r, e⟩
def rSetL : V → V → V → Hp → (Hp → Prop) → Prop := fun o i v H Q => ∃ p xs k j, o = .ref p ∧ i = .int k ∧ H p = some (.lst xs) ∧ ixN xs.length k = some j ∧ Q (upd H p (.lst (xs.set j v)))
theorem set_list : PSet X rSetL := by
  intro pins s σ H o i v ov iv u Q I ro ri rv h
  obtain ⟨p, xs, k, j, rfl, rfl, hp, hj, q⟩ := h
  cases ro
  obtain ⟨t, rfl⟩ := ri
  obtain ⟨its, n, r, ho, hz⟩ := I.lst hp
  obtain ⟨h1, h2, h3, h4⟩ := ixN_seq hj
  have hl := r.length
  have hn := line63
  have I' : Inv X pins σ (upd H p (.lst (xs.set j v))) { s with heap := s.heap.update p (Obj.mapSeq (·.setIfInBounds j u)) } :=
    I.lstUpd hp ho (mapSeq_set its n j u) (r.set rv j) (by rw [List.length_set]; exact hz) s.toks
  by_cases h0 : 0 ≤ k
  · have hk : k.toNat = j := by
      rw [seqIndex_of h0 h4] at h1
      exact Option.some.inj h1
    exact PySem.W.ki_setAt ho h0 (by omega) (by rw [List.size_toArray, ← hl]; exact h4) (by rw [hk]; exact ⟨_, I', q⟩)
  · have hk : (k + (its.toArray.size : Int)).toNat = j := by
      rw [seqIndex_neg (by omega) h3] at h1
      rw [List.size_toArray, ← hl]
      exact Option.some.inj h1
    exact PySem.W.ki_setBack ho (by omega) (by rw [List.size_toArray, ← hl]; exact h3) (by omega) (by rw [hk]; exact ⟨_, I', q⟩)

/-! ### slices -/
theorem slice_bounds (lo hi : Option Int) (n : Nat) : (sliceBounds lo hi none n).1 = ((HT.sIx n 0 lo : Nat) : Int) ∧ (sliceBounds lo hi none n).2.1 = ((HT.sIx n n hi : Nat) : Int) ∧ (sliceBounds lo hi none n).2.2 = 1 := by
  refine ⟨?_, ?_, rfl⟩
  · cases lo with
    | none => simp [sliceBounds, HT.sIx]
    | some i =>
      simp only [sliceBounds, HT.sIx, Option.getD_none, show (1 : Int) > 0 by decide, if_true]
      by_cases h : i < 0
      · simp only [h, if_true] <;> omega
      · simp only [h, if_false] <;> omega
  · cases hi with
    | none => simp [sliceBounds, HT.sIx]
    | some i =>
      simp only [sliceBounds, HT.sIx, Option.getD_none, show (1 : Int) > 0 by decide, if_true]
      by_cases h : i < 0
      · simp only [h, if_true] <;> omega
      · simp only [h, if_false] <;> omega
theorem slicePick_cut (its : List Value) (lo hi : Option Int) : slicePick its.toArray lo hi none = ((its.drop (HT.sIx its.length 0 lo)).take (HT.sIx its.length its.length hi - HT.sIx its.length 0 lo)).toArray := by
  obtain ⟨h1, h2, h3⟩ := slice_bounds lo hi its.toArray.size
  unfold slicePick
  rw [h1, h2, h3]
  simp only [sliceRange_one, pick_run, List.size_toArray] <;> rfl
/-- xs[lo:hi] of a list: a new list -/
def rSlL (K : PySem.W.Frag) : V → Option Int → Option Int → Hp → VK → Prop := fun x lo hi H Q => ∃ a xs, x = .ref a ∧ SqL K H a xs ∧ ∀ p, H p = none → Q (.ref p) (upd H p (.lst (cutV xs lo hi)))
theorem sl_list : SlR X (rSlL X.K) := by
  intro pins s σ H x v vl vu lo hi sl Q I rx hs pl pu h
  obtain ⟨a, xs, rfl, hx, q⟩ := h
  cases rx
  obtain ⟨its, r, ht, hz⟩ := I.list hx
  have hlen := r.length
  refine ⟨"list", _, slot_list_getitem.lookup, ht.isList.typeIs, ?_⟩
  refine wpAny_getItem_list_slice ht.isList hs pl pu .none (by simp) ?_ (by rw [List.size_toArray] <;> omega)
  rw [slicePick_cut, ← hlen]
  refine ⟨.ref s.heap.objs.size, _, I.laid (t' := s.toks) (o := .lst (cutV xs lo hi)) (fun b ob q => Heap.get?_push_of_some _ q) (Nat.le_refl _) ?_, rfl, q _ (I.hok.fresh (Nat.le_refl _))⟩
  exact ⟨Nat.le_trans (cutV_length xs lo hi) hz, _, 0, (r.drop (HT.sIx xs.length 0 lo)).take (HT.sIx xs.length xs.length hi - HT.sIx xs.length 0 lo), Heap.get?_push_size _ rfl⟩

/-! ### in, not in: flat items -/
def flatV : V → Bool
  | .non => true
  | .bl _ => true
  | .int _ => true
  | .str _ => true
  | _ => false
/-- == of flat values -/
def eqV : V → V → Bool
  | .non, .non => true
  | .bl a, .bl b => a == b
  | .bl a, .int b => (if a then 1 else 0) == b
  | .int a, .bl b => a == (if b then 1 else 0)
  | .int a, .int b => a == b
  | .str a, .str b => a == b
  | _, _ => false
theorem eqAt_V {A : Around} {s : Shared} {y x : V} {u v : Value} (ry : RelV y u) (rx : RelV x v) (fy : flatV y = true) (fx : flatV x = true) : SeqAt.EqAt A s u v (eqV y x) := by
  cases y with
  | non =>
    cases ry
    cases x with
    | non => cases rx; exact SeqAt.EqAt.same _
    | bl b => cases rx; exact SeqAt.EqAt.none_bool b
    | int b => obtain ⟨t, rfl⟩ := rx; exact SeqAt.EqAt.none_int b t
    | str b => obtain ⟨t, rfl⟩ := rx; exact SeqAt.EqAt.none_str b t
    | _ => exact absurd (show false = true from fx) Bool.false_ne_true
  | bl a =>
    cases ry
    cases x with
    | non => cases rx; exact SeqAt.EqAt.bool_none a
    | bl b => cases rx; exact SeqAt.EqAt.bool_bool a b
    | int b => obtain ⟨t, rfl⟩ := rx; exact SeqAt.EqAt.bool_int a b t
    | str b => obtain ⟨t, rfl⟩ := rx; exact SeqAt.EqAt.bool_str a b t
    | _ => exact absurd (show false = true from fx) Bool.false_ne_true
  | int a =>
    obtain ⟨t', rfl⟩ := ry
    cases x with
    | non => cases rx; exact SeqAt.EqAt.int_none a t'
    | bl b => cases rx; exact SeqAt.EqAt.int_bool a t' b
    | int b => obtain ⟨t, rfl⟩ := rx; exact SeqAt.EqAt.int_int a t' b t
    | str b => obtain ⟨t, rfl⟩ := rx; exact SeqAt.EqAt.int_str a t' b t
    | _ => exact absurd (show false = true from fx) Bool.false_ne_true
  | str a =>
    obtain ⟨t', rfl⟩ := ry
    cases x with
    | non => cases rx; exact SeqAt.EqAt.str_none a t'
    | bl b => cases rx; exact SeqAt.EqAt.str_bool a t' b
    | int b => obtain ⟨t, rfl⟩ := rx; exact SeqAt.EqAt.str_int a t' b t
    | str b => obtain ⟨t, rfl⟩ := rx; exact SeqAt.EqAt.str_str a t' b t
    | _ => exact absurd (show false = true from fx) Bool.false_ne_true
  | _ => exact absurd (show false = true from fy) Bool.false_ne_true
/-- the items' answers, read off the values (a value's own answer does not lean on its token) -/
def eqU (x : V) (u : Value) : Bool := match u with
  | .none => eqV .non x
  | .bool b => eqV (.bl b) x
  | .int i _ => eqV (.int i) x
  | .str z _ => eqV (.str z) x
  | _ => false
theorem eqU_of {x y : V} {u : Value} (r : RelV y u) (f : flatV y = true) : eqU x u = eqV y x := by
  cases y with
  | non => cases r; rfl
  | bl b => cases r; rfl
  | int i => obtain ⟨t, rfl⟩ := r; rfl
  | str z => obtain ⟨t, rfl⟩ := r; rfl
  | _ => exact absurd (show false = true from f) Bool.false_ne_true
theorem any_eqU {x : V} : ∀ {xs : List V} {us : List Value}, Vals xs us → xs.all flatV = true → us.any (eqU x) = xs.any fun y => eqV y x
  | _, _, .nil, _ => rfl
  | y :: xs, u :: us, .cons r t, f => by
    rw [List.all_cons, Bool.and_eq_true] at f
    rw [List.any_cons, List.any_cons, eqU_of r f.1, any_eqU t f.2]
theorem mem_eqAt {A : Around} {s : Shared} {x : V} {v : Value} (rx : RelV x v) (fx : flatV x = true) : ∀ {xs : List V} {us : List Value}, Vals xs us → xs.all flatV = true → ∀ u ∈ us, SeqAt.EqAt A s u v (eqU x u)
  | _, _, .nil, _ => fun u hu => by cases hu
  | y :: xs, u :: us, .cons r t, f => fun u' hu => by
    rw [List.all_cons, Bool.and_eq_true] at f
    rcases List.mem_cons.mp hu with rfl | hu
    · rw [eqU_of r f.1]; exact eqAt_V r rx f.1 fx
    · exact mem_eqAt rx fx t f.2 u' hu
def inV (x : V) (xs : List V) : Bool := xs.any fun y => eqV y x
/-- x in a list or tuple of flat items -/
def rIn (K : PySem.W.Frag) (neg : Bool) : R2 := fun x y H Q => ∃ p xs, y = .ref p ∧ (SqL K H p xs ∨ SqT K H p xs) ∧ flatV x = true ∧ xs.all flatV = true ∧ Q (.bl (if neg then !inV x xs else inV x xs)) H
theorem op_notIn_seq : OpR X (compareOp .NotIn) (rIn X.K true) := by
  intro pins s σ H x y v u Q I rx ry h
  obtain ⟨p, xs, rfl, hq, fx, fs, q⟩ := h
  cases ry
  rcases hq with hq | hq
  · obtain ⟨its, r, pl, hz⟩ := I.list hq
    refine SeqAt.notIn_listAt (eqU x) pl.isList (fun w hw => mem_eqAt rx fx r fs w (by simpa using hw)) ⟨.bl _, H, I, rfl, ?_⟩
    rw [show its.toArray.any (eqU x) = its.any (eqU x) by simp, any_eqU r fs]
    exact q
  · obtain ⟨its, r, pl, hz⟩ := I.tuple hq
    refine SeqAt.notIn_tupleAt (eqU x) pl (fun w hw => mem_eqAt rx fx r fs w (by simpa using hw)) ⟨.bl _, H, I, rfl, ?_⟩
    rw [show its.toArray.any (eqU x) = its.any (eqU x) by simp, any_eqU r fs]
    exact q
/-! ### len, list(x), tuple(x) of any list or tuple that is read -/
theorem call_tuple_of : CallR X (.type "tuple") (fun xs H Q => ∃ p ys, xs = [.ref p] ∧ ((SqL X.K H p ys ∧ ∀ l, H l = none → Q (.ref l) (upd H l (.tup ys))) ∨ (SqT X.K H p ys ∧ Q (.ref p) H))) := by
  intro pins s σ H xs us Q I r h
  obtain ⟨p, ys, rfl, h⟩ := h
  obtain ⟨u, rfl, rx⟩ := vals1 r
  cases rx
  rcases h with ⟨hq, q⟩ | ⟨hq, q⟩
  · obtain ⟨its, r', pl, hz⟩ := I.list hq
    have hlen := r'.length
    refine call_tuple_list pl.isList (fun h' kp => ?_) (by simp only [List.size_toArray] <;> omega)
    have I1 : Inv X pins σ H { s with heap := h' } := I.kept (t' := s.toks) kp
    have I2 : Inv X pins σ (upd H h'.objs.size (.tup ys)) { s with heap := h'.push { cls := .type "tuple", data := .seq its.toArray } } :=
      I1.laid (t' := s.toks) (fun b o e => Heap.get?_push_of_some _ e) (Nat.le_refl _) (show ObjOk X.prog X.w _ _ _ (.tup ys) from ⟨hz, its, r', PTup.new _ _⟩)
    exact ⟨.ref h'.objs.size, _, I2, rfl, q _ (I1.hok.fresh (Nat.le_refl _))⟩
  · obtain ⟨its, r', pl, hz⟩ := I.tuple hq
    exact call_tuple_same pl ⟨.ref p, H, I, rfl, q⟩

/-! ### the call of a builtin's method: o.m(..) -/
/-- the value is of that builtin type -/
def tyV (K : PySem.W.Frag) (T : String) (x : V) (H : Hp) : Prop := match x with
  | .str _ => T = "str"
  | .int _ => T = "int"
  | .ref p => (T = "list" ∧ ∃ xs, SqL K H p xs) ∨ (T = "tuple" ∧ ∃ o, K.lookup p = some o ∧ o.cls = .type "tuple" ∧ o.dict = none) ∨
      (T = "dict" ∧ ((∃ kvs, H p = some (.dK kvs)) ∨ ∃ kvs, H p = some (.dT kvs))) ∨ (T = "set" ∧ ∃ S n, H p = some (.set S n)) ∨ (T = "tuple" ∧ ∃ xs, H p = some (.tup xs))
  | _ => False
theorem tyV_is {pins : List (Addr × Obj)} {σ : St} {H : Hp} {s : Shared} {T : String} {x : V} {v : Value} (I : Inv X pins σ H s) (r : RelV x v) (ty : tyV X.K T x H) :
    s.TypeIs v T ∧ ∀ a, v = .ref a → ∃ ob, s.heap.get? a = some ob ∧ ob.dict = none := by
  cases x with
  | str z =>
    obtain ⟨t, rfl⟩ := r
    cases (show T = "str" from ty)
    exact ⟨typeIs_str s z t, fun _ e => nomatch e⟩
  | int i =>
    obtain ⟨t, rfl⟩ := r
    cases (show T = "int" from ty)
    exact ⟨typeIs_int s i t, fun _ e => nomatch e⟩
  | ref p =>
    cases r
    rcases ty with ⟨rfl, xs, hq⟩ | ⟨rfl, o, hk, hc, hd⟩ | ⟨rfl, hk⟩ | ⟨rfl, S, n, hk⟩ | ⟨rfl, xs, hk⟩
    rotate_left 4
    · obtain ⟨_, its, _, o, e, c, _, hd⟩ := I.hok p _ hk
      exact ⟨⟨o, e, c⟩, fun a e2 => by cases e2; exact ⟨o, e, hd⟩⟩
    · obtain ⟨its, _, pl, _⟩ := I.list hq
      refine ⟨pl.isList.typeIs, fun a e => ?_⟩
      cases e
      obtain ⟨o, n, e, c, hd, _⟩ := pl
      exact ⟨o, e, hd⟩
    · refine ⟨⟨o, I.kIn p o hk, hc⟩, fun a e => ?_⟩
      cases e
      exact ⟨o, I.kIn _ o hk, hd⟩
    · have z : ∃ o, s.heap.get? p = some o ∧ o.ExactDict := by
        rcases hk with ⟨kvs, hk⟩ | ⟨kvs, hk⟩
        · obtain ⟨_, _, _, _, o, _, _, e, ex, _⟩ := I.hok p _ hk
          exact ⟨o, e, ex⟩
        · obtain ⟨_, _, _, _, o, _, _, e, ex, _⟩ := I.hok p _ hk
          exact ⟨o, e, ex⟩
      obtain ⟨o, e, ex⟩ := z
      refine ⟨⟨o, e, ex.1⟩, fun a e2 => ?_⟩
      cases e2
      exact ⟨o, e, ex.2.1⟩
    · obtain ⟨o, _, _, _, e, ex, _⟩ := I.hok p _ hk
      refine ⟨⟨o, e, ex.1⟩, fun a e2 => ?_⟩
      cases e2
      exact ⟨o, e, ex.2.1⟩
  | _ => exact False.elim ty
def tBM (K : PySem.W.Frag) (T : String) (r : V → List V → Hp → VK → Prop) (to : TE) (t : TA) : TE := fun σ H Q => to σ H fun x H1 => tyV K T x H1 ∧ t σ H1 fun xs H2 => r x xs H2 Q
variable {o e : Expr} {es : List Expr} {to : TE} {t : TA} {name : Str} {apos cpos : Pos} {T id : String} {r : V → List V → Hp → VK → Prop}
theorem pe_bm (pa : PlainAttrs T) (slot : Slot T name id) (hty : typeOf (.builtin id) = pure (.type "method_descriptor")) (hm : MtR X id r) (ho : PE X o to) (ha : PA X (e :: es) t)
    (hbase : attributeBase o name X.env (eval o X.env) = eval o X.env := by rfl)
    (hfew : ((backTo cpos (starEach (e :: es) X.env)).all (fun x => !x.1) && (backToKw cpos (keywordEach [] X.env)).all (fun x => x.1.isSome)
      && decide ((e :: es).length + ([] : List Keyword).length + (if ([] : List Keyword).isEmpty then 0 else 1) < 30)) = true := by rfl)
    (hline : (apos.endLine == cpos.line) = true := by rfl) (hs : starEach (e :: es) X.env = (false, eval e X.env) :: starEach es X.env := by rfl) (hplain : (backTo cpos (starEach es X.env)).any (·.1) = false := by rfl) :
    PE X (.Call (.Attribute o name apos) (e :: es) [] cpos) (tBM X.K T r to t) := by
  intro pins s σ H Q I h
  refine wpAny_Call_method_late hbase hfew hline rfl (thn (ho pins s σ H _ I h) fun v s1 ⟨x, H1, I1, r1, ty, q1⟩ => ?_)
  obtain ⟨h1, h2⟩ := tyV_is I1 r1 ty
  refine ⟨T, id, pa, slot, hty, h1, h2, ?_⟩
  have hA := ha cpos pins s1 σ H1 _ I1 q1
  rw [hs] at hA ⊢
  refine Calls.callWith_builtin (by show (false || (backTo cpos (starEach es X.env)).any (·.1)) = false; rw [hplain] <;> rfl) (Calls.evalArgs_plain ?_)
  exact thn hA fun us s2 ⟨vs, H2, I2, r2, q2⟩ => hm pins s2 σ H2 x vs v us Q I2 r1 r2 q2
/- xs.append(e), list.index on a module's tuple .. are MtR facts of 06m -/
end
end L2

namespace L2
open PySem PySem.Spec PyProof.Rows

def MtM (X : Cx) (id : String) (r : V → List V → Hp → VK → Prop) : Prop :=
  ∀ (pins : List (Addr × Obj)) (s : Shared) (σ : St) (H : Hp) (x : V) (xs : List V) (v : Value) (us : List Value) (Q : VK), Inv X pins σ H s → RelV x v → Vals xs us → r x xs H Q →
    wpAny (model X.prog X.w) X.A (call (.builtin id) (v :: us)) (EP X pins σ Q) X.xe s

/-! ### lists of values -/
theorem Vals.one : ∀ {x : V} {us : List Value}, Vals [x] us → ∃ u, us = [u] ∧ RelV x u
  | _, _, .cons r .nil => ⟨_, rfl, r⟩
section
variable {X : Cx} {pins : List (Addr × Obj)} {σ : St} {H : Hp} {s : Shared} {l b : Addr} {xs ys zs : List V}

/-! ### the two steps: a tracked list is rewritten, a new list is laid -/
theorem Inv.lset {its its' : List Value} {n : Nat} {f : Array Value → Array Value} {t' : Nat} (I : Inv X pins σ H s) (hH : H l = some (.lst xs))
    (e : s.heap.get? l = some { cls := .type "list", data := .seq its.toArray n }) (hf : f its.toArray = its'.toArray) (hv : Vals ys its') (hz : ys.length ≤ sizeLine) :
    Inv X pins σ (upd H l (.lst ys)) { s with heap := s.heap.update l (Obj.mapSeq f), toks := t' } := by
  have q := PySem.IsL.update e f
  rw [hf] at q
  refine I.write (x := l) (e := l) (by rw [hH]; exact trivial) (.inl rfl) (fun b' u hb hu => (Heap.get?_update_other s.heap (Obj.mapSeq f) (Ne.symm hb)).trans hu) ⟨_, q⟩ ?_
  exact ⟨hz, its', _, hv, q⟩
theorem Inv.lnew {its : List Value} {t' : Nat} (I : Inv X pins σ H s) (hv : Vals ys its) (hz : ys.length ≤ sizeLine) :
    Inv X pins σ (upd H s.heap.objs.size (.lst ys)) { s with heap := s.heap.push { cls := .type "list", data := .seq its.toArray }, toks := t' } :=
  I.laid (fun _ _ q => Heap.get?_push_of_some _ q) (Nat.le_refl _) ⟨hz, its, 0, hv, Heap.get?_push_size _ rfl⟩
theorem Inv.fresh (I : Inv X pins σ H s) : H s.heap.objs.size = none := I.hok.fresh (Nat.le_refl _)
theorem Inv.lstM (I : Inv X pins σ H s) (hH : H l = some (.lst xs)) : xs.length ≤ sizeLine ∧ ∃ (its : List Value) (n : Nat), Vals xs its ∧ xs.length = its.length ∧ s.heap.get? l = some { cls := .type "list", data := .seq its.toArray n } := by
  obtain ⟨z, its, n, r, e⟩ := I.hok l _ hH
  exact ⟨z, its, n, r, r.length, e⟩

end

section
variable {X : Cx}

/-! ### methods -/
def rAppend : V → List V → Hp → VK → Prop := fun x vs H Q => ∃ l xs y, x = .ref l ∧ vs = [y] ∧ H l = some (.lst xs) ∧ xs.length < sizeLine ∧ Q .non (upd H l (.lst (xs ++ [y])))
theorem mt_append : MtM X "list.append" rAppend := by
  intro pins s σ H x vs v us Q I rx rv h
  obtain ⟨l, xs, y, rfl, rfl, hH, hz, q⟩ := h
  cases rx
  obtain ⟨u, rfl, ru⟩ := rv.one
  obtain ⟨z, its, n, r, hl, e⟩ := I.lstM hH
  refine call_meets F.slot_list_append ⟨_, e, rfl⟩ F.entry_list_append (F.args_list_append_2 _ _) (PySem.list_append l its.toArray n u (by rw [List.size_toArray]; omega)) ⟨e, ?_⟩
  refine ⟨.non, _, I.lset (its' := its ++ [u]) hH e (by simp) (r.append (.cons ru .nil)) ?_, rfl, q⟩
  rw [List.length_append, List.length_singleton]
  omega

/-! ### list + list, list += list, list * int -/
def rCat : R2 := fun x y H Q => ∃ l b xs zs, x = .ref l ∧ y = .ref b ∧ H l = some (.lst xs) ∧ H b = some (.lst zs) ∧ xs.length + zs.length ≤ sizeLine ∧ ∀ p, H p = none → Q (.ref p) (upd H p (.lst (xs ++ zs)))
theorem op_cat : OpR X (binaryOp .Add) rCat := by
  intro pins s σ H x y v u Q I rx ry h
  obtain ⟨l, b, xs, zs, rfl, rfl, hH, hB, hz, q⟩ := h
  cases rx
  cases ry
  obtain ⟨z, its, n, r, hl, e⟩ := I.lstM hH
  obtain ⟨z2, its2, n2, r2, hl2, e2⟩ := I.lstM hB
  refine PySem.P.add_list e e2 ?_ (by rw [List.size_toArray, List.size_toArray]; omega)
  have ea : its.toArray ++ its2.toArray = (its ++ its2).toArray := by simp
  rw [ea]
  exact ⟨.ref _, _, I.lnew (t' := s.toks) (r.append r2) (by rw [List.length_append]; omega), rfl, q _ I.fresh⟩
/-! ### del xs[i] -/
end

/-! ### xs[a:b] = ys -/
section
variable {prog : Program} {w : World} {A : Around} {E : Value → Shared → Prop} {s : Shared}
set_option maxRecDepth 100000 in
end

section
variable {X : Cx}
end
end L2

namespace Att
open PySem PySem.W PySem.Calls PyProof.Rows

/-! ### the script -/
theorem ints_of_wellAll {P : Params} {h : Heap} : ∀ (ns : List Int) (vs : List Value), WellAll P h vs (ns.map WData.int) → IntsAre vs ns := by
  intro ns
  induction ns with
  | nil =>
    intro vs w
    rw [List.map_nil] at w
    cases w
    exact .nil
  | cons n ns ih =>
    intro vs w
    rw [List.map_cons] at w
    cases w with
    | cons a b =>
      cases a
      exact .cons _ _ (ih _ b)

theorem script_of {l : OpenLaw} {n : Nat} (hn : l.most = some n) {P : Params} {h : Heap} {args : List WData} {vals : List Value}
    (hpre : l.row.toRowW.claim.pre args = true) (hwl : WellAll P h vals args) :
    ∃ a vs ns, vals = [Value.ref a] ∧ args = [WData.list (ns.map WData.int)] ∧ h.get? a = some { cls := .type "list", data := .seq vs.toArray } ∧ IntsAre vs ns ∧ ns.length ≤ n := by
  have hsh : WShape.hasAll [] args [.list .int] = true := (pre_splitW hpre).1
  have hc : l.pre.holds [] { args := args } = true := (pre_splitW hpre).2
  obtain ⟨d, r, rfl, h1, h2⟩ := hasAllW_cons hsh
  obtain rfl := hasAllW_nil h2
  obtain ⟨xs, rfl, h3⟩ := hasW_list h1
  obtain ⟨ns, rfl⟩ := items_int h3
  have hlen : ns.length ≤ n := by
    unfold OpenLaw.pre at hc
    have h4 : (WTm.not (.lt (.lit (.int (n : Int))) (.len (.arg 0)))).holds [] { args := [.list (ns.map .int)] } = true := by
      have h4 := (holds_andW hc).1
      rw [hn] at h4
      exact h4
    have h5 := condW_of h4 (w_not (w_lt w_lit (w_len_list (w_arg rfl))))
    rw [List.length_map] at h5
    refine Nat.le_of_not_lt fun q => ?_
    have q' : (n : Int) < ((ns.length : Nat) : Int) := by omega
    first
      | (rw [decide_eq_true q'] at h5; exact absurd h5 (by decide))
      | (simp at h5; omega)
  cases hwl with
  | cons w1 w2 =>
    cases w2
    cases w1 with
    | list ho hall => exact ⟨_, _, ns, rfl, rfl, ho, ints_of_wellAll ns _ hall, hlen⟩

theorem post_true (l : OpenLaw) (args : List WData) : l.row.toRowW.claim.post args (.bool true) args = true :=
  postW_of (r := l.row.toRowW) (X := (true == true))
    (show WShape.has [] (.bool true) .bool = true by first | rfl | decide | simp [WShape.has, WShape.arms, WShape.armsAll])
    (show (WTm.eq .res (.lit (.bool true))).value [] { args := args, res := some (.bool true), after := args } = some (.bool (true == true)) from w_eq_bool (w_res rfl) w_lit) rfl

/-! ### the attachment: holds_open's last premise (the goal 'hc' behind k_head) from a wpAny of the law's body -/
/-- the same from a codeAny of the CALL (for a layer whose function contracts speak of calls) -/
theorem attach_call {l : OpenLaw} {n : Nat} {q : Program} {loose : List Str} {XP : (Str → Option Value) → Heap → Prop} {YP : World → Heap → Prop} {d : DefRec}
    (hn : l.most = some n) (hdf : d.params.defaults = [])
    (call : ∀ (w : World) (s₀ s₁ : Shared) (mg mb : Str → Option Value) (fa : Addr) (o : Obj) (pm cd doc : Value) (a : Addr) (vs : List Value) (ns : List Int),
      Ground q loose [] XP w s₀ mg mb s₁.heap → YP w s₁.heap →
      s₁.heap.get? fa = some o → o.data = .func (docDef d.name d.params d.body d.scope pm cd doc) → s₁.heap.CodeRec cd d.name → mg d.name = some (.ref fa) →
      s₁.heap.get? a = some { cls := .type "list", data := .seq vs.toArray } → IntsAre vs ns → ns.length ≤ n → s₁.gens = #[] →
      codeAny (model l.prog w) callerA (.call (.ref fa) ⟨[.ref a], []⟩) (fun r s' => r = .ok (.ret (.bool true)) ∧ OldK s₁.heap s'.heap ∧ s'.os = s₁.os ∧ AllBare s'.gens) s₁) :
    WalkO q loose XP YP l.row.toRowW d [] (fun f vs => PySem.call f vs) := by
  intro w s₀ s₁ mg mb G Y fa o pm cd doc dV kV ho hd hcd hD hmg hg args vals as hpre hlay hrd hwl hlo
  obtain rfl : dV = .none := Dflts.none hD hdf
  obtain rfl : kV = .none := Dflts.noKw hD
  obtain ⟨a, vs, ns, rfl, rfl, hobj, hints, hlen⟩ := script_of hn hpre hwl
  refine enter_call (codeAny_mono (call w s₀ s₁ mg mb fa o pm cd doc a vs ns G Y ho (fd_plain hd) hcd hmg hobj hints hlen hg) fun r s' hq => ?_)
  obtain ⟨rfl, h2, h3, h4⟩ := hq
  exact ⟨.inl ⟨.bool true, .bool true, [], rfl, fun _ => rfl, .bool true, post_true l _, fun _ => ⟨List.Pairwise.nil, fun _ hm => (nomatch hm)⟩⟩, h2, h3, h4⟩

/-! ### rules over ANY heap (no ledger) from facts about the written part K: the library's own take a ledger (News) for what they write -/
section
variable {prog : Program} {w : World} {A : Around} {E : Value → Shared → Prop} {s : Shared} {K : Frag}

/-! the whole heap as the ledger: makes every rule that writes through a ledger a rule over any heap -/
end
end Att

namespace L2
open PySem PySem.Spec PyProof.Rows

theorem vals_ints : ∀ {vs : List Value} {ns : List Int}, IntsAre vs ns → Vals (ns.map V.int) vs
  | _, _, .nil => .nil
  | _, _, .cons n t h => .cons ⟨t, rfl⟩ (vals_ints h)

/-- nothing is tracked but the script, known to the object (or it is an object of the module) -/
def Only (H : Hp) : Prop := ∀ b, H b = none ∨ ∃ o xs, H b = some (.frz o (.lst xs))

/-- THE HEAD: the law's promise, at the heap behind the top. F, the promise of the law's def, may use that base is part of the heap (so K.In base, base.Ns mainGlobals mg stand in Mod) -/
theorem law_call {P : Program} {w : World} {K : PySem.W.Frag} {mg mb : Str → Option Value} {CX : CXT} {k : Nat} {fa a : Addr} {fd : FuncData} {x : Str} {sp : Sp} {s₁ : Shared} {vs : List Value} {ns : List Int}
    (KX : K.In s₁.heap) (hns : s₁.heap.Ns mainGlobals mg) (hb : s₁.heap.Ns builtinsNs mb) (hbb : ∀ x : Str, x ≠ "__name__" → mb x = bootBuiltins x) (hlim : s₁.heap.NoLimit) (hg : s₁.gens = #[])
    (ha : s₁.heap.get? a = some { cls := .type "list", data := .seq vs.toArray }) (hi : IntsAre vs ns) (hl : ns.length ≤ sizeLine) (hr : Room k callerA)
    (F : ∀ base : Heap, K.In base → base.Ns mainGlobals mg → FnOk P w K mg base CX k fa fd [x] sp) (hbind : ∀ (s : Shared) (u : Value), BindsTo s fd ⟨[u], []⟩ [(x, u)])
    (hsp : ∀ H : Hp, Only H → SqL K H a (ns.map V.int) → sp [.ref a] H (fun v _ => v = .bl true) fun _ _ _ => False)
    (hCX : ∀ H e s', CX [] H s₁ (fun _ _ _ => False) e s' → False) :
    codeAny (model P w) callerA (.call (.ref fa) ⟨[.ref a], []⟩) (fun r s' => r = .ok (.ret (.bool true)) ∧ OldK s₁.heap s'.heap ∧ s'.os = s₁.os ∧ AllBare s'.gens) s₁ := by
  have rv := vals_ints hi
  have lenV := hi.length
  -- from an abstract heap in which nothing but the script may be tracked
  have core : ∀ H : Hp, Only H → SqL K H a (ns.map V.int) → HOk P w H s₁.heap → (∀ b, H b ≠ none → b = a) → (H a ≠ none → K.lookup a = none) →
      codeAny (model P w) callerA (.call (.ref fa) ⟨[.ref a], []⟩) (fun r s' => r = .ok (.ret (.bool true)) ∧ OldK s₁.heap s'.heap ∧ s'.os = s₁.os ∧ AllBare s'.gens) s₁ := by
    intro H hO hS hok hA hK
    have base_of : ∀ {b : Addr} {o : Obj}, s₁.heap.get? b = some o → H b = none → (hidT s₁.heap H).get? b = some o := fun e n => hidT_get e n
    have noA : ∀ {b : Addr} {o : Obj} {es : Array DictEntry} {ep : Nat}, s₁.heap.get? b = some o → o.data = .dict es ep → H b = none := fun {b o es ep} e d => by
      cases q : H b with
      | none => rfl
      | some u =>
        have e' : b = a := hA b (by rw [q]; simp)
        subst e'
        rw [ha] at e; cases e
        have d' : Data.seq vs.toArray _ = Data.dict es ep := d
        cases d'
    have nsK : ∀ {b : Addr} {m : Str → Option Value}, s₁.heap.Ns b m → (hidT s₁.heap H).Ns b m := fun {b m} ⟨o, es, ep, e, d, r⟩ => ⟨o, es, ep, base_of e (noA e d), d, r⟩
    have hKb : K.In (hidT s₁.heap H) := fun b o e => base_of (KX b o e) (by
      cases q : H b with
      | none => rfl
      | some u =>
        have e' : b = a := hA b (by rw [q]; simp)
        subst e'
        rw [hK (by rw [q]; simp)] at e; cases e)
    have hM : Mod K mg (hidT s₁.heap H) := ⟨hKb, nsK hns, ⟨mb, nsK hb, hbb⟩, let ⟨mc, h1, h2⟩ := hlim; ⟨mc, nsK h1, h2⟩⟩
    have e0 : Env0 P w K mg (hidT s₁.heap H) callerA [] s₁ H := ⟨rfl, hM, fun b o e => of_hidT e, Nat.le_of_eq (hidT_size _ _), trivial, fun b hb => absurd (show b ∈ ([] : List Addr) from hb) (by simp), hok, .of_eq hg⟩
    refine codeAny_mono ((F _ hKb (nsK hns)).run callerA [] s₁ H ⟨[.ref a], []⟩ [.ref a] [.ref a] _ _ hr e0 (hbind s₁ (.ref a)) (.cons rfl .nil) (hsp H hO hS)) fun r s' h => ?_
    cases r with
    | error e => exact (hCX H e s' h).elim
    | ok fl =>
      cases fl with
      | next => exact False.elim h
      | brk => exact False.elim h
      | cont => exact False.elim h
      | ret u =>
        obtain ⟨v, H', os, bare, un, hok', r', q⟩ := h
        have q' : v = .bl true := q
        subst q'
        obtain rfl : u = Value.bool true := r'
        refine ⟨rfl, OldK.of_keep fun b o e => ?_, os, bare⟩
        cases q : H b with
        | none => exact un.keep b o e q (by intro z; exact absurd (show b ∈ ([] : List Addr) from z) (by simp)) (by simp)
        | some u =>
          rcases hO b with z | ⟨ob, xs, z⟩
          · rw [q] at z; cases z
          · have z2 := un.frzs b ob _ z
            obtain ⟨e1, _⟩ := hok b _ z
            obtain ⟨e2, _⟩ := hok' b _ z2
            rw [e] at e1; cases e1
            exact e2
  cases hk : K.lookup a with
  | some o =>
    -- the script is one of the module's own objects
    have e := KX a o hk
    rw [ha] at e
    cases e
    refine core (fun _ => none) (fun _ => .inl rfl) (.inr ⟨_, vs.toArray, _, hk, rfl, rfl, rfl, by rw [List.size_toArray, lenV]; exact hl, by simpa using rv⟩) (fun b u z => by have z' : (none : Option HO) = some u := z; cases z') (fun b z => absurd rfl z) fun z => absurd rfl z
  | none =>
    refine core (fun b => if b = a then some (.frz { cls := .type "list", data := .seq vs.toArray } (.lst (ns.map V.int))) else none) (fun b => ?_) (.inl (.inr ⟨{ cls := .type "list", data := .seq vs.toArray }, if_pos rfl⟩)) (fun b u z => ?_) (fun b z => ?_) fun _ => hk
    · by_cases hb : b = a
      · exact .inr ⟨_, _, if_pos hb⟩
      · exact .inl (if_neg hb)
    · by_cases hb : b = a
      · have z' := (if_pos hb).symm.trans z
        cases z'
        subst hb
        exact ⟨ha, by rw [List.length_map]; exact hl, vs, _, rv, ha⟩
      · have z' := (if_neg hb).symm.trans z
        cases z'
    · by_cases hb : b = a
      · exact hb
      · exact absurd (if_neg hb) z
end L2

namespace L2
open PySem PySem.Spec PyProof.Rows

/-- the goal that k_head leaves (case hc), from the law's promise. F gives the function object fd (K's own) once, then the promise over every base -/
theorem walk_of {l : PySem.W.OpenLaw} {n k : Nat} {q : Program} {loose : List Str} {XP : (Str → Option Value) → Heap → Prop} {YP : World → Heap → Prop} {d : DefRec} {K : Params → PySem.W.Frag} {CX : World → CXT} {sp : World → Sp} {x : Str}
    (hn : l.most = some n) (hn2 : n ≤ sizeLine) (hdf : d.params.defaults = []) (hr : Room k callerA)
    (hY : ∀ (w : World) (h : Heap), YP w h → (K w.params).In h)
    (F : ∀ (w : World) (mg : Str → Option Value) (fa : Addr) (h : Heap), (K w.params).In h → h.Ns mainGlobals mg → mg d.name = some (.ref fa) →
      ∃ fd : FuncData, (∀ (s : Shared) (u : Value), BindsTo s fd ⟨[u], []⟩ [(x, u)]) ∧
        ∀ base : Heap, (K w.params).In base → base.Ns mainGlobals mg → FnOk l.prog w (K w.params) mg base (CX w) k fa fd [x] (sp w))
    (hsp : ∀ (w : World) (H : Hp) (a : Addr) (ns : List Int), ns.length ≤ n → Only H → SqL (K w.params) H a (ns.map V.int) → sp w [.ref a] H (fun v _ => v = .bl true) fun _ _ _ => False)
    (hCX : ∀ (w : World) (H : Hp) (s : Shared) (e : Value) (s' : Shared), CX w [] H s (fun _ _ _ => False) e s' → False) :
    PySem.W.WalkO q loose XP YP l.row.toRowW d [] (fun f vs => PySem.call f vs) := by
  refine Att.attach_call hn hdf fun w s₀ s₁ mg mb fa o pm cd doc a vs ns G Y ho hd hcd hmg hobj hints hlen hg => ?_
  have KX := hY w _ Y
  obtain ⟨fd, hb, hF⟩ := F w mg fa _ KX G.T.g hmg
  exact law_call KX G.T.g G.T.b G.T.builtins G.T.nolimit hg hobj hints (Nat.le_trans hlen hn2) hr hF hb (fun H hO hS => hsp w H a ns hlen hO hS) fun H e s' => hCX w H s₁ e s'
end L2

/- THE LAST THEOREM (shape; LID, My.* are yours):
   My.Adr: a structure of the addresses that your layer names (classes, functions); My.Txt K t: a structure (Prop) of the equations over K;
   My.txt_mk : {K} {implicit addresses ..} (e1 : nsIn K mainGlobals "law" = some (some (.ref f))) (e2 : K.lookup f = some ⟨oc, od, .func (fnOf "law" "law" params body scope dV kV doc pm an cdv ct), sl⟩) (e3 : codeIn K cdv "law" = true) .. : ∃ t, My.Txt K t

set_option maxRecDepth 100000 in
set_option maxHeartbeats 0 in
theorem PySem.Challenge.cw_LID_holds : PySem.Challenge.rw_LID.Holds := by
  w_on; o_law; k_head; (case hw => w_witness2)
  k_fill
  refine L2.walk_of (l := PySem.Challenge.rw_LID) (n := 63) (k := 40) (x := "script") (CX := fun w => ..) (sp := fun _ => My.sp_law) rfl (by decide) rfl ⟨rfl, by decide, by decide⟩ (fun w h Y => PySem.W.kIn_of Y) ?F ?S ?C
  case F =>
    intro w mg fa h KX G hmg
    have T : ∃ t, My.Txt (L2.KOf KX) t := by
      dsimp only [L2.KOf]                          -- K must stand as «<heap const> w.params» for k_is
      refine' My.txt_mk ?e1 ?e2 ?e3 ..
      (case e1 => PySem.W.k_is)                    -- in the order: a name -> its address -> its object -> its parts
      (case e2 => PySem.W.k_is)
      ..
    obtain ⟨t, T⟩ := T
    have e0 := hmg.symm.trans (PySem.W.mg_of KX G T.law)
    cases e0                                       -- fa is the law's own address
    exact ⟨_, fun s u => .of_eq rfl, fun base kb nb => My.law_fn T kb nb⟩     -- if «.of_eq rfl» comes too early: refine' ⟨_, ?b, fun base kb nb => My.law_fn T kb nb⟩; exact fun s u => .of_eq rfl
  case S => exact fun w H a ns hl hO hS => ..
  case C => exact ..
(the tactic k_is has no namespace: write k_is) -/

/-! SHORT WORDS over the layer: a def of the text, its body, what a loop and a test want. -/
namespace L2
open PySem PySem.Spec PyProof.Rows

/-! ### the text by places -/
def defArgs (s : Stmt) : Arguments := match s with
  | .FunctionDef _ a _ _ _ _ _ _ _ _ => a
  | _ => { posonlyargs := [], args := [], vararg := none, kwonlyargs := [], kw_defaults := [], kwarg := none, defaults := [] }
def defBody (s : Stmt) : List Stmt := match s with
  | .FunctionDef _ _ b _ _ _ _ _ _ _ => b
  | _ => []
def defScope (s : Stmt) : Scope := match s with
  | .FunctionDef _ _ _ _ _ _ sc _ _ _ => sc
  | _ => { kind := .function, names := [], isGenerator := false, isCoroutine := false }

/-! ### no exception leaves a def -/
abbrev CX0 : CXT := fun _ _ _ _ _ _ => False
abbrev E0 : XK := fun _ _ _ => False
theorem pass0 {X : Cx} : Passes CX0 X E0 := fun _ _ _ _ _ _ _ h => h.elim

/-! ### a def (or method) of the text as it stands behind the top -/
structure Fun (K : PySem.W.Frag) (x qual : Str) (st : Stmt) (f : Addr) (fd : FuncData) : Prop where
  ex : ∃ (oc : Value) (od : Option Addr) (kV doc pm : Value) (an : Option Addr) (cdv ct : Value) (osl : Array (Option Value)),
    fd = PySem.W.fnOf x qual (defArgs st) (defBody st) (defScope st) .none kV doc pm an cdv ct ∧ K.lookup f = some ⟨oc, od, .func fd, osl⟩ ∧ PySem.W.codeIn K cdv qual = true
  kp : PySem.W.keepIn K (.ref f) = true
section
variable {P : Program} {w : World} {K : PySem.W.Frag} {mg : Str → Option Value} {base : Heap}
/-- THE RULE for a def: its body as a term of rules, and the reading of that term -/
theorem Fun.ok {x qual : Str} {st : Stmt} {f : Addr} {fd : FuncData} {N ps : List Str} {k : Nat} {sp : Sp} (F : Fun K x qual st f fd) (S : FnScope N ps (defScope st)) (len : ∀ vs H Q E, sp vs H Q E → vs.length = ps.length)
    (hbody : ∀ (cdv : Value) (A : Around) (outer : List Env) (s : Shared) (H : Hp) (vs : List V) (Q : VK) (E : XK), Room k (A.deeper (envOfC qual (defScope st) s.heap.objs.size f cdv)) → sp vs H Q E →
      ∃ t, PSs (cxOf CX0 P w K mg base N qual (defScope st) f cdv A outer s H E).nox (defBody st) t ∧ t { nx := fun _ H' => Q .non H', rt := Q } (start N vs) H) : FnOk P w K mg base CX0 (k + 1) f fd ps sp := by
  obtain ⟨oc, od, kV, doc, pm, an, cdv, ct, osl, rfl, lk, hcd⟩ := F.ex
  refine fn_of lk hcd S len fun A outer s H vs Q E hr hsp => ?_
  obtain ⟨t, h, q⟩ := hbody cdv A outer s H vs Q E hr hsp
  exact ⟨t, h.nox, q⟩
/-- how its arguments bind (no defaults): h is «fun _ _ _ _ _ _ us hl => match us, hl with | [_, _], _ => rfl», one _ a parameter -/
theorem Fun.binds {x qual : Str} {st : Stmt} {f : Addr} {fd : FuncData} {ps : List Str} (F : Fun K x qual st f fd)
    (h : ∀ (kV doc pm : Value) (an : Option Addr) (cdv ct : Value) (us : List Value), us.length = ps.length → bindArgs (PySem.W.fnOf x qual (defArgs st) (defBody st) (defScope st) .none kV doc pm an cdv ct) ⟨us, []⟩ = pure (ps.zip us)) : Binds K fd ps [] := by
  obtain ⟨oc, od, kV, doc, pm, an, cdv, ct, osl, rfl, lk, hcd⟩ := F.ex
  exact .all (h kV doc pm an cdv ct)
theorem fun_mk {x qual : Str} {st : Stmt} {f : Addr} {oc : Value} {od an : Option Addr} {osl : Array (Option Value)} {kV doc pm cdv ct : Value} (l : K.lookup f = some ⟨oc, od, .func (PySem.W.fnOf x qual (defArgs st) (defBody st) (defScope st) .none kV doc pm an cdv ct), osl⟩)
    (c : PySem.W.codeIn K cdv qual = true) (k : PySem.W.keepIn K (.ref f) = true) : Fun K x qual st f (PySem.W.fnOf x qual (defArgs st) (defBody st) (defScope st) .none kV doc pm an cdv ct) := ⟨⟨oc, od, kV, doc, pm, an, cdv, ct, osl, rfl, l, c⟩, k⟩
end
theorem small1000 {n : Nat} (h : n ≤ 1000) : n < sizeLine := Nat.lt_of_le_of_lt h (by decide)

/-! ### expressions in short: the name that stands in the i-th slot -/
section
variable {X : Cx}
theorem pv (i : Nat) {x : Str} {pos : Pos} (hN : X.N[i]? = some x := by rfl) (hv : Vis X.env.scope x := by first | exact Or.inl rfl | exact Or.inr (Or.inl rfl) | exact Or.inr (Or.inr rfl)) (hd : (x == ("__debug__" : Str)) = false := by decide)
    (hcd : (x == ("__classdict__" : Str)) = false := by decide) : PE X (.Name x pos) (tVar i) := pe_var hN hv hd hcd
end

/-! ### tests -/
theorem iteF {A B : Prop} (h : B) : if false = true then A else B := by
  rw [if_neg Bool.false_ne_true]
  exact h
theorem iteT {A B : Prop} (h : A) : if true = true then A else B := by
  rw [if_pos rfl]
  exact h
theorem ite2 {c A B : Prop} [Decidable c] (h1 : c → A) (h2 : ¬ c → B) : if c then A else B := by
  by_cases h : c
  · rw [if_pos h]
    exact h1 h
  · rw [if_neg h]
    exact h2 h
theorem iteNS {c A B : Prop} [Decidable c] (hc : c) (h : B) : if (!decide c) = true then A else B := by
  rw [decide_eq_true hc]
  exact iteF h

/-! ### heaps -/
/-- all that was tracked is as it was -/
def Same (H H' : Hp) : Prop := ∀ b o, H b = some o → H' b = some o
theorem Same.trans {H H1 H2 : Hp} (a : Same H H1) (b : Same H1 H2) : Same H H2 := fun c o h => b c o (a c o h)
theorem Same.seq {K : PySem.W.Frag} {H H' : Hp} {a : Addr} {xs : List V} (e : Same H H') (h : SqL K H a xs) : SqL K H' a xs := by
  rcases h with (h | ⟨o, h⟩) | h
  · exact .inl (.inl (e _ _ h))
  · exact .inl (.inr ⟨o, e _ _ h⟩)
  · exact .inr h

end L2

set_option Elab.async false
set_option linter.all false
set_option maxRecDepth 100000
set_option maxHeartbeats 4000000
namespace L2
open PySem PySem.Spec PyProof.Rows

abbrev NoX : Value → Shared → Prop := fun _ _ => False
theorem wpX {α : Type} {M : Model} {A : Around} {t : Sem α} {Q : α → Shared → Prop} {E : Value → Shared → Prop} {s : Shared} (h : wpAny M A t Q NoX s) : wpAny M A t Q E s :=
  wpAny_mono h (fun _ _ q => q) fun _ _ f => f.elim

/-- the tests of a clause -/
def testAll (ifs : List Expr) (env : Env) : Sem Bool :=
  forIn ifs true fun c r => if r = true then do let ok ← isTrue c env (eval c env); pure (ForInStep.yield ok) else pure (ForInStep.yield r)

/-- the loop of a comprehension of one clause, any target; no exception leaves -/
theorem comp_loop_any {prog : Program} {w : World} {A : Around} {R : Result → Shared → Prop} {s : Shared} {elt tg iter : Expr} {ifs : List Expr} {scope : Scope} {pos : Pos} {it acc : Value} {env : Env} (Iv : Nat → Shared → Prop)
    (turn : ∀ n s, Iv n s → wpAny (model prog w) A (pyNext it) (fun r s1 => match r with
      | none => R (.ok .next) s1
      | some v => wpAny (model prog w) A (letOwnedTupleGo tg it v) (fun _ s2 => wpAny (model prog w) A (assign tg env v) (fun _ s3 => wpAny (model prog w) A (testAll ifs env) (fun ok s4 =>
            if ok = true then wpAny (model prog w) A (eval elt env) (fun x s5 => wpAny (model prog w) A (call (.builtin "list.append") [acc, x]) (fun _ s6 => ∃ m, m < n ∧ Iv m s6) NoX s5) NoX s4
            else ∃ m, m < n ∧ Iv m s4) NoX s3) NoX s2) NoX s1) NoX s)
    (n : Nat) (h : Iv n s) : codeAny (model prog w) A (.compLoop (.ListComp elt [⟨tg, iter, ifs, 0⟩] scope pos) 0 it acc env) R s := by
  refine codeAny_loop rfl Iv (fun n s hI => ?_) n h
  show wpAny (model prog w) A ((compTurn (.ListComp elt [⟨tg, iter, ifs, 0⟩] scope pos) 0 it acc env).onRaise (fun x => do noteFrame x env; theTreesLotGoes x)) _ _ s
  refine wpAny_noted (wpX ?_)
  rw [compTurn_list]
  refine wpAny_bind (wpAny_standAt (wpAny_bind (thn (turn n s hI) fun r s1 h1 => ?_)))
  cases r with
  | none => exact wpAny_pure h1
  | some v =>
    refine wpAny_bind (thn h1 fun _ s2 h2 => wpAny_bind (thn h2 fun _ s3 h3 => wpAny_bind (thn h3 fun ok s4 h4 => ?_)))
    cases ok with
    | false => exact wpAny_pure ⟨rfl, h4⟩
    | true => exact wpAny_bind (wpAny_bind (thn h4 fun x s5 h5 => wpAny_bind (thn h5 fun _ s6 h6 => wpAny_pure (wpAny_pure ⟨rfl, h6⟩))))

/-! what a block closes over -/
def stepCap (env : Env) (y : Str × NameKind) (cs : List (Str × Addr)) : List (Str × Addr) := if (y.2 == NameKind.free) = true then (y.1, (env.cells.lookup y.1).getD 0) :: cs else cs
def capOf (env : Env) (scope : Scope) : List (Str × Addr) := scope.names.foldl (fun c y => stepCap env y c) []
theorem forIn_steps {α β : Type} {f : α → β → Sem (ForInStep β)} {g : β → α → β} : ∀ (l : List α) (c : β), (∀ x ∈ l, ∀ c, f x c = pure (.yield (g c x))) → forIn l c f = pure (l.foldl g c)
  | [], c, _ => rfl
  | x :: l, c, h => by
    rw [List.forIn_cons, h x List.mem_cons_self, pure_bind]
    exact forIn_steps l (g c x) fun y hy => h y (List.mem_cons_of_mem _ hy)
theorem closure_is {env : Env} {scope : Scope} (h : ∀ y ∈ scope.names, y.2 = .free → ∃ c, env.cells.lookup y.1 = some c) : closureFor scope env = pure (capOf env scope) := by
  simp only [closureFor]
  rw [forIn_steps (g := fun c y => stepCap env y c) scope.names [] (fun y hy c => ?_)]
  · rfl
  · obtain ⟨n, k⟩ := y
    by_cases hk : k = .free
    · subst hk
      obtain ⟨a, ha⟩ := h _ hy rfl
      have ha' : env.cells.lookup n = some a := ha
      simp [stepCap, cellOf, ha']
    · have hb : (k == NameKind.free) = false := by simpa using hk
      simp only [stepCap, hb, Bool.false_eq_true, if_false]
theorem fold_cap_sub {env : Env} : ∀ (ns : List (Str × NameKind)) (cs : List (Str × Addr)), (∀ y ∈ ns, y.2 = .free → ∃ c, env.cells.lookup y.1 = some c) → (∀ x c, cs.lookup x = some c → env.cells.lookup x = some c) →
    ∀ x c, (ns.foldl (fun c y => stepCap env y c) cs).lookup x = some c → env.cells.lookup x = some c
  | [], _, _, h => h
  | y :: ns, cs, hf, h => by
    refine fold_cap_sub ns (stepCap env y cs) (fun z hz => hf z (List.mem_cons_of_mem _ hz)) fun x c e => ?_
    unfold stepCap at e
    split at e
    · rename_i hk
      have hk' : y.2 = .free := by simpa using hk
      obtain ⟨a, ha⟩ := hf y List.mem_cons_self hk'
      rw [List.lookup_cons] at e
      split at e
      · rename_i hx
        have hx' : x = y.1 := by simpa using hx
        rw [ha] at e
        rw [hx', ha]
        exact e
      · exact h x c e
    · exact h x c e
theorem fold_cap_has {env : Env} (x : Str) : ∀ (ns : List (Str × NameKind)) (cs : List (Str × Addr)), ((x, NameKind.free) ∈ ns ∨ ∃ c, cs.lookup x = some c) → ∃ c, (ns.foldl (fun c y => stepCap env y c) cs).lookup x = some c
  | [], _, h => by
    rcases h with h | h
    · exact absurd h (by simp)
    · exact h
  | y :: ns, cs, h => by
    refine fold_cap_has x ns (stepCap env y cs) ?_
    rcases h with h | ⟨c, h⟩
    · rcases List.mem_cons.mp h with e | h
      · subst e
        exact .inr ⟨(List.lookup x env.cells).getD 0, by simp [stepCap]⟩
      · exact .inl h
    · refine .inr ?_
      unfold stepCap
      split
      · rw [List.lookup_cons]
        split
        · exact ⟨_, rfl⟩
        · exact ⟨c, h⟩
      · exact ⟨c, h⟩
def relK (env : Env) (n : Str) (k : NameKind) : NameKind := if (k == NameKind.free && env.scope.kind == .function && env.kindOf n == some .cell) = true then .cell else k
def relP (env : Env) (y : Str × NameKind) : Str × NameKind := if (y.2 == NameKind.free && env.scope.kind == .function && env.kindOf y.1 == some .cell) = true then (y.1, NameKind.cell) else (y.1, y.2)
theorem relP_eq (env : Env) (y : Str × NameKind) : relP env y = (y.1, relK env y.1 y.2) := by
  unfold relP relK
  split <;> rfl
theorem lookup_rel {env : Env} (x : Str) : ∀ ns : List (Str × NameKind), (ns.map (relP env)).lookup x = (ns.lookup x).map (relK env x)
  | [] => rfl
  | (n, k) :: r => by
    have ih := lookup_rel (env := env) x r
    rw [List.map_cons, relP_eq, List.lookup_cons, List.lookup_cons]
    cases hx : x == n with
    | true =>
      have e : x = n := by simpa using hx
      subst e
      rfl
    | false => exact ih
theorem relabel_lookup {env : Env} {scope : Scope} (x : Str) : (relabel scope env).names.lookup x = (scope.names.lookup x).map (relK env x) := lookup_rel x scope.names

def capOne (N : List Str) (scope : Scope) (p : Option Nat × Str) : Bool := match p.1 with
  | none => true
  | some j => decide (N[j]? = some p.2) && decide (scope.names.lookup p.2 = some .free)
/-- a block's names: its own, and the captured ones with their slots outside -/
structure CompOk (N : List Str) (sc : Scope) (N' : List Str) (ix : List (Option Nat)) (scope : Scope) : Prop where
  kind : scope.kind = .function
  nocell : ∀ y ∈ scope.names, y.2 ≠ .cell
  locs : ∀ y ∈ scope.names, y.2 = .local → scope.names.lookup y.1 = some .local
  frees : ∀ y ∈ scope.names, y.2 = .free → (sc.names.lookup y.1 = some .cell ∨ sc.names.lookup y.1 = some .free)
  nd : N'.Nodup
  len : ix.length = N'.length
  cap : (ix.zip N').all (capOne N scope) = true
def ixSt (ix : List (Option Nat)) (σ : St) : St := ix.map fun o => o.bind fun i => (σ[i]?).join
/-- the context of a comprehension's block -/
def cxComp (X : Cx) (N' : List Str) (scope : Scope) (C : Addr) (fp : List Addr) (s₀ : Shared) (H₀ : Hp) : Cx where
  prog := X.prog
  w := X.w
  K := X.K
  mg := X.mg
  base := X.base
  A := X.A
  N := N'
  s₀ := s₀
  H₀ := H₀
  env := compEnvC scope (capOf X.env scope) C X.env
  outer := X.stack
  stack := X.stack
  ex := fp
  fn := fun _ => false
  calm := X.calm
  pn := []
  xe := NoX

section
variable {X : Cx} {N' : List Str} {ix : List (Option Nat)} {scope : Scope} {pins : List (Addr × Obj)} {σ : St} {H : Hp} {s : Shared} {fp : List Addr}
theorem CompOk.has (S : CompOk X.N X.env.scope N' ix scope) (ok : X.Ok) : ∀ y ∈ scope.names, y.2 = .free → ∃ c, X.env.cells.lookup y.1 = some c := fun y hy hk => ok.has y.1 (S.frees y hy hk)
theorem CompOk.sub (S : CompOk X.N X.env.scope N' ix scope) (ok : X.Ok) : ∀ x c, (capOf X.env scope).lookup x = some c → X.env.cells.lookup x = some c :=
  fold_cap_sub scope.names [] (S.has ok) fun x c e => by simp at e
theorem CompOk.frK (S : CompOk X.N X.env.scope N' ix scope) {x : Str} (h : (relabel scope X.env).names.lookup x = some .cell ∨ (relabel scope X.env).names.lookup x = some .free) : scope.names.lookup x = some .free := by
  rw [relabel_lookup] at h
  cases e : scope.names.lookup x with
  | none => rw [e] at h; simp at h
  | some k =>
    rw [e] at h
    cases k with
    | free => rfl
    | cell => exact absurd rfl (S.nocell _ (PySem.mem_of_lookup e))
    | «local» => simp [relK] at h
    | globalExplicit => simp [relK] at h
    | globalImplicit => simp [relK] at h
/-- into the block -/
theorem comp_enter {h1 : Heap} {m : Str → Option Value} {tk : Nat} (S : CompOk X.N X.env.scope N' ix scope) (I : Inv X pins σ H s) (hf : ∀ b ∈ fp, FpOk X pins H b) (hlt : ∀ b ∈ fp, b < s.heap.objs.size)
    (ns : h1.Ns s.heap.objs.size m) (kp : ∀ b o, s.heap.get? b = some o → h1.get? b = some o) :
    Inv (cxComp X N' scope s.heap.objs.size fp s H) [] (ixSt ix σ) H { s with heap := h1, toks := tk } := by
  have sub := S.sub I.ok
  have cellS : ∀ x c, (capOf X.env scope).lookup x = some c → c < s.heap.objs.size := fun x c e => by
    obtain ⟨v, q⟩ := I.cell x c (sub x c e)
    exact q.lt
  refine ⟨⟨I.ok.mod, S.kind, I.ok.glob, I.ok.blt, Nat.le_refl _, fun x y c h1 h2 => I.ok.inj x y c (sub x c h1) (sub y c h2), fun x hx => ?_, fun x c z _ => ?_, I.ok.hd, I.ok.frames, .inl rfl, fun b hb => ⟨?_, fun x c e => ?_⟩, I.bs, Nat.le_trans I.ok.bsz I.sz, fun b o e hb => ?_, fun b hb z => ?_, I.stack, I.stkFree⟩,
    rfl, I.bare, Un.kept kp, ⟨m, ns, fun i x v h1 h2 h3 => ?_⟩, fun x c e => ?_, I.hok.fresh (Nat.le_refl _), fun x c e => I.freeC x c (sub x c e), fun p hp => absurd (show p ∈ ([] : List (Addr × Obj)) from hp) (by simp), I.hok.kept kp, ?_⟩
  · exact fold_cap_has x scope.names [] (.inl (PySem.mem_of_lookup (S.frK hx)))
  · exact absurd (show false = true from z) (by simp)
  · exact Nat.ne_of_lt (hlt b hb)
  · exact (hf b hb).2.2.2.2.1 x c (sub x c e)
  · rcases (hf b hb).2.2.2.1 with z | z
    · exact I.ok.noex b o e z
    · exact absurd (Nat.lt_of_lt_of_le (Heap.lt_size e) (Nat.le_trans I.ok.bsz z)) (Nat.lt_irrefl _)
  · rcases List.mem_cons.mp (I.stkSub b z) with e | e
    · exact (hf b hb).2.1 e
    · exact (hf b hb).2.2.1 e
  · have hi : i < ix.length := by
      have := (List.getElem?_eq_some_iff.mp h1).1
      rw [S.len]; exact this
    have e1 : ix[i]? = some ix[i] := List.getElem?_eq_getElem hi
    have h2' : (ixSt ix σ)[i]? = some (some v) := h2
    rw [ixSt, List.getElem?_map, e1] at h2'
    have h2'' : (ix[i].bind fun j => (σ[j]?).join) = some v := Option.some.inj h2'
    cases ej : ix[i] with
    | none => rw [ej] at h2''; cases h2''
    | some j =>
      rw [ej] at h2''
      have h2j : (σ[j]?).join = some v := h2''
      have hz : (ix[i], x) ∈ ix.zip N' := by
        have ez : (ix.zip N')[i]? = some (ix[i], x) := by rw [List.getElem?_zip_eq_some]; exact ⟨e1, h1⟩
        exact List.mem_of_getElem? ez
      have cq := List.all_eq_true.mp S.cap _ hz
      have cq' : (decide (X.N[j]? = some x) && decide (scope.names.lookup x = some .free)) = true := by
        unfold capOne at cq
        simp only [ej] at cq
        exact cq
      rw [Bool.and_eq_true] at cq'
      have c1 := of_decide_eq_true cq'.1
      have c2 := of_decide_eq_true cq'.2
      have kx : X.env.scope.names.lookup x = some .cell ∨ X.env.scope.names.lookup x = some .free := S.frees (x, .free) (PySem.mem_of_lookup c2) rfl
      have hs : σ[j]? = some (some v) := by
        cases q : σ[j]? with
        | none => rw [q] at h2j; cases h2j
        | some o => rw [q] at h2j; have : o = some v := h2j; rw [this]
      obtain ⟨m0, hn0, hl0⟩ := I.loc
      obtain ⟨u, ru, lk⟩ := hl0 j x v c1 hs (kx.elim (fun z => .inr (.inl z)) fun z => .inr (.inr z))
      refine ⟨u, ru, .inr ⟨?_, ?_⟩⟩
      · show (relabel scope X.env).names.lookup x = some .cell ∨ (relabel scope X.env).names.lookup x = some .free
        rw [relabel_lookup, c2]
        simp only [Option.map_some, relK]
        split
        · exact .inl rfl
        · exact .inr rfl
      · rcases lk with ⟨k, _⟩ | ⟨_, c, ec, hc⟩
        · have k' : X.env.scope.names.lookup x = some .local := k
          rw [k'] at kx
          rcases kx with z | z <;> cases z
        · obtain ⟨c', ec'⟩ := fold_cap_has (env := X.env) x scope.names [] (.inl (PySem.mem_of_lookup c2))
          have := sub x c' ec'
          rw [ec] at this; cases this
          exact ⟨c, ec', hc.keeps kp⟩
  · obtain ⟨v, q⟩ := I.cell x c (sub x c e)
    exact ⟨v, q.keeps kp⟩
  · show (ixSt ix σ).length = N'.length
    rw [ixSt, List.length_map, S.len]

/-- the tests' readings -/
def PF (X : Cx) (ifs : List Expr) (t : TT) : Prop := ∀ (pins : List (Addr × Obj)) (s : Shared) (σ : St) (H : Hp) (Q : Bool → Hp → Prop), Inv X pins σ H s → t σ H Q → wpAny (model X.prog X.w) X.A (testAll ifs X.env) (TP X pins σ Q) X.xe s
def tYes : TT := fun _ H Q => Q true H
theorem pf_nil : PF X [] tYes := fun _ _ _ H _ I h => wpAny_tests_nil ⟨H, I, h⟩
theorem pf_one {c : Expr} {t : TT} (hc : PT X c t) : PF X [c] t := fun pins s σ H Q I h => wpAny_tests_one (hc pins s σ H Q I h)

/-- [elt for tg in iter if ..]: D is the list that is made -/
def CompGo (J : It) (g : TG) (tt : TT) (te : TE) (σ0 : St) (H1 : Hp) (Q : VK) (D : Addr) : Prop := ∃ W : Nat → Nat → St → Hp → Prop, (∃ m, W 0 m σ0 (upd H1 D (.lst []))) ∧ ∀ i m σ' H', W i m σ' H' →
  (J.stop i H' ∧ Q (.ref D) H') ∨ (J.go i H' ∧ ∀ x H2, J.yld i H' x H2 → g x σ' H2 fun σ2 H3 => tt σ2 H3 fun b H4 =>
    if b = true then te σ2 H4 fun v H5 => ∃ xs, H5 D = some (.lst xs) ∧ xs.length < sizeLine ∧ ∃ m', m' < m ∧ W (i + 1) m' σ2 (upd H5 D (.lst (xs ++ [v]))) else ∃ m', m' < m ∧ W (i + 1) m' σ2 H4)
def tComp (ix : List (Option Nat)) (wi : TI) (g : TG) (tt : TT) (te : TE) : TE := fun σ H Q => wi σ H fun J H1 => ∀ D, H1 D = none → CompGo J g tt te (ixSt ix σ) H1 Q D

/-- the block, from the iterator on; Z: what is wanted behind it, of the new list, the block's names (at C) and the state -/
theorem comp_block {elt tg iter : Expr} {ifs : List Expr} {pos : Pos} {g : TG} {tt : TT} {te : TE} {Q : VK} {Z : Value → Addr → Result → Shared → Prop} {it : Addr} {tn : Nat → Heap → Prop} {J : It}
    (S : CompOk X.N X.env.scope N' ix scope) (hc : X.calm = true)
    (hg : ∀ C fp s₀ H₀, PG (cxComp X N' scope C fp s₀ H₀) tg g) (ht : ∀ C fp s₀ H₀, PF (cxComp X N' scope C fp s₀ H₀) ifs tt) (he : ∀ C fp s₀ H₀, PE (cxComp X N' scope C fp s₀ H₀) elt te)
    (I : Inv X pins σ H s) (T : Turn X.prog X.w X.K tg J fp it tn) (st : tn 0 s.heap) (hf : ∀ b ∈ fp, FpOk X pins H b)
    (h : ∀ D, H D = none → ∃ W : Nat → Nat → St → Hp → Prop, (∃ m, W 0 m (ixSt ix σ) (upd H D (.lst []))) ∧ ∀ i m σ' H', W i m σ' H' →
      (J.stop i H' ∧ Q (.ref D) H') ∨ (J.go i H' ∧ ∀ x H2, J.yld i H' x H2 → g x σ' H2 fun σ2 H3 => tt σ2 H3 fun b H4 =>
        if b = true then te σ2 H4 fun v H5 => ∃ xs, H5 D = some (.lst xs) ∧ xs.length < sizeLine ∧ ∃ m', m' < m ∧ W (i + 1) m' σ2 (upd H5 D (.lst (xs ++ [v]))) else ∃ m', m' < m ∧ W (i + 1) m' σ2 H4))
    (hZ : ∀ D C H' s' m, Inv X pins σ H' s' → s'.heap.Ns C m → H' C = none → s.heap.objs.size ≤ C → Q (.ref D) H' → Z (.ref D) C (.ok .next) s') :
    wpAny (model X.prog X.w) X.A (newList []) (fun acc s3 => wpAny (model X.prog X.w) X.A (newFunctionEnv scope X.env.globals (capOf X.env scope) [] X.env.qual none .none (some X.env)) (fun cenv s4 =>
      codeAny (model X.prog X.w) X.A (.compStart (.ListComp elt [⟨tg, iter, ifs, 0⟩] scope pos) 0 (.ref it) acc { cenv with scope := relabel scope X.env }) (Z acc cenv.locals) s4) X.xe s3) X.xe s := by
  refine wpAny_newObj_type (wpAny_newFunctionEnv S.nocell (by intro y hy; simp at hy) (fun h1 ns1 sb1 => ?_) S.kind)
  have I3 : Inv X pins σ (upd H s.heap.objs.size (.lst [])) { s with heap := s.heap.push { cls := .type "list", data := .seq ([] : List Value).toArray }, toks := s.toks } := I.lnew (ys := []) (its := []) .nil (Nat.zero_le _)
  generalize hs3 : ({ s with heap := s.heap.push { cls := .type "list", data := .seq ([] : List Value).toArray } } : Shared) = s3 at ns1 sb1 ⊢
  have I3 : Inv X pins σ (upd H s.heap.objs.size (.lst [])) s3 := by rw [← hs3]; exact I3
  have hsz : s3.heap.objs.size = s.heap.objs.size + 1 := by rw [← hs3]; exact Heap.size_push _ _
  have st3 : tn 0 s3.heap := by
    rw [← hs3]
    exact T.keep _ _ _ st fun b _ o e => Heap.get?_push_of_some _ e
  have blw : ∀ b ∈ fp, b < s.heap.objs.size := fun b hb => by
    obtain ⟨o, e, _⟩ := T.obj _ _ st b hb
    exact Heap.lt_size e
  have hf3 : ∀ b ∈ fp, FpOk X pins (upd H s.heap.objs.size (.lst [])) b := fun b hb => ⟨by rw [upd_ne (Nat.ne_of_lt (blw b hb))]; exact (hf b hb).1, (hf b hb).2⟩
  obtain ⟨W, ⟨m0, w0⟩, turn⟩ := h s.heap.objs.size I.fresh
  have kp : ∀ b o, s3.heap.get? b = some o → h1.get? b = some o := fun b o e => (sb1.2 b (Nat.ne_of_lt (Heap.lt_size e))).trans (Heap.get?_push_of_some _ e)
  have J0 := comp_enter (tk := s3.toks + ([] : List (Str × Value)).length) S I3 hf3 (fun b hb => by rw [hsz]; exact Nat.lt_succ_of_lt (blw b hb)) ns1 kp
  have st4 : tn 0 h1 := T.keep _ _ _ st3 fun b _ o e => kp b o e
  have stat : ∀ {H' : Hp} {pl : List (Addr × Obj)}, (∀ b ∈ fp, H' b = none) → (∀ b ∈ fp, ∀ p ∈ pl, p.1 ≠ b) → ∀ b ∈ fp, FpOk (cxComp X N' scope s3.heap.objs.size fp s3 (upd H s.heap.objs.size (.lst []))) pl H' b := fun hn hp b hb =>
    ⟨hn b hb, (J0.ok.exf b hb).1, J0.ok.exfs b hb, .inl hb, (J0.ok.exf b hb).2, fun p q => hp b hb p q⟩
  have loop : codeAny (model X.prog X.w) X.A (.compLoop (.ListComp elt [⟨tg, iter, ifs, 0⟩] scope pos) 0 (.ref it) (.ref s.heap.objs.size) (cxComp X N' scope s3.heap.objs.size fp s3 (upd H s.heap.objs.size (.lst []))).env) (Z (.ref s.heap.objs.size) s3.heap.objs.size)
      { s3 with heap := h1, toks := s3.toks + ([] : List (Str × Value)).length } := by
    refine comp_loop_any (fun n s' => ∃ i σ' H', Inv (cxComp X N' scope s3.heap.objs.size fp s3 (upd H s.heap.objs.size (.lst []))) [] σ' H' s' ∧ tn i s'.heap ∧ (∀ b ∈ fp, H' b = none) ∧ W i n σ' H') ?_ m0
      ⟨0, _, _, J0, st4, fun b hb => (hf3 b hb).1, w0⟩
    rintro n s5 ⟨i, σ5, H5, I5, st5, fr5, w5⟩
    rcases turn i n σ5 H5 w5 with ⟨stop, q⟩ | ⟨go, step⟩
    · refine thn (T.done (cxComp X N' scope s3.heap.objs.size fp s3 (upd H s.heap.objs.size (.lst []))) rfl rfl rfl hc i [] s5 σ5 H5 NoX I5 (stat (pl := []) fr5 (fun _ _ p hp => absurd hp (by simp))) st5 stop) fun r s6 ⟨hr, I6⟩ => ?_
      subst hr
      have I7 : Inv X pins σ H5 s6 := I3.call' (ch := fp) I6.os I6.base I6.hok I6.bare fun b hb => ⟨(hf3 b hb).2.2.2.1, (hf3 b hb).2.1, (hf3 b hb).2.2.2.2.1, (hf3 b hb).2.2.2.2.2⟩
      obtain ⟨m6, n6, _⟩ := I6.loc
      exact hZ _ _ H5 s6 m6 I7 n6 I6.free (by rw [hsz]; exact Nat.le_succ _) q
    · refine thn (T.item (cxComp X N' scope s3.heap.objs.size fp s3 (upd H s.heap.objs.size (.lst []))) rfl rfl rfl hc i [] s5 σ5 H5 NoX I5 (stat (pl := []) fr5 (fun _ _ p hp => absurd hp (by simp))) st5 go) fun r s6 ⟨u, hr, h6⟩ => ?_
      subst hr
      refine thn h6 fun _ s7 ⟨x, H7, I7, r7, y7, st7, fr7⟩ => ?_
      have I7' := I7.pinned (stat (pl := []) fr7 (fun _ _ p hp => absurd hp (by simp))) (T.obj _ _ st7)
      refine thn (hg _ _ _ _ _ s7 σ5 H7 x u _ I7' r7 (step x H7 y7)) fun _ s8 ⟨σ8, H8, I8, q8⟩ => ?_
      refine thn (ht _ _ _ _ _ s8 σ8 H8 _ I8 q8) fun b s9 ⟨H9, I9, q9⟩ => ?_
      have again : ∀ {σ' : St} {H' : Hp} {s' : Shared} {m' : Nat}, Inv (cxComp X N' scope s3.heap.objs.size fp s3 (upd H s.heap.objs.size (.lst []))) ([] ++ pinsAt fp s7.heap) σ' H' s' → m' < n → W (i + 1) m' σ' H' →
          ∃ m, m < n ∧ ∃ i σ' H', Inv (cxComp X N' scope s3.heap.objs.size fp s3 (upd H s.heap.objs.size (.lst []))) [] σ' H' s' ∧ tn i s'.heap ∧ (∀ b ∈ fp, H' b = none) ∧ W i m σ' H' := fun {σ' H' s' m'} I' hm w' => by
        refine ⟨m', hm, i + 1, σ', H', I'.unpinned, T.keep _ _ _ st7 fun b hb o e => (I'.pin (b, o) (List.mem_append_right _ (List.mem_append_right _ (mem_pinsAt hb e)))).1, fun b hb => ?_, w'⟩
        obtain ⟨o, e, d⟩ := T.obj _ _ st7 b hb
        exact (I'.pin (b, o) (List.mem_append_right _ (List.mem_append_right _ (mem_pinsAt hb e)))).2.1
      cases b with
      | false =>
        obtain ⟨m', hm, w'⟩ := (show ∃ m', m' < n ∧ W (i + 1) m' σ8 H9 from q9)
        exact again I9 hm w'
      | true =>
        refine thn (he _ _ _ _ _ s9 σ8 H9 _ I9 q9) fun v s10 ⟨y, H10, I10, r10, q10⟩ => ?_
        obtain ⟨xs, hx, hl, m', hm, w'⟩ := q10
        refine thn (mt_append _ s10 σ8 H10 (.ref s.heap.objs.size) [y] (.ref s.heap.objs.size) [v] (fun _ H' => W (i + 1) m' σ8 H') I10 rfl (.cons r10 .nil) ⟨_, xs, y, rfl, rfl, hx, hl, w'⟩) fun _ s11 ⟨_, H11, I11, _, q11⟩ => ?_
        exact again I11 hm q11
  exact codeAny_compStart_list loop (T.self _ _ _ _ _ st4 loop)

/-- as a value -/
theorem pe_comp {elt tg iter : Expr} {ifs : List Expr} {pos : Pos} {wi : TI} {g : TG} {tt : TT} {te : TE} (S : CompOk X.N X.env.scope N' ix scope) (hc : X.calm = true) (hi : PI X tg iter wi)
    (hg : ∀ C fp s₀ H₀, PG (cxComp X N' scope C fp s₀ H₀) tg g) (ht : ∀ C fp s₀ H₀, PF (cxComp X N' scope C fp s₀ H₀) ifs tt) (he : ∀ C fp s₀ H₀, PE (cxComp X N' scope C fp s₀ H₀) elt te)
    (hs : ∀ x, foldedSetIterable iter X.env x = pure x := by intro _; rfl) : PE X (.ListComp elt [⟨tg, iter, ifs, 0⟩] scope pos) (tComp ix wi g tt te) := by
  intro pins s σ H Q I h
  rw [eval_ListComp]
  refine wpAny_comprehension_free (use := none) rfl hs (closure_is (S.has I.ok)) S.kind S.locs (thn (hi pins s σ H _ I h) fun v s1 h1 => thn h1 fun itv s2 h2 => ?_)
  obtain ⟨it, fp, tn, J, H2, e, I2, T, st2, f2, q⟩ := h2
  subst e
  refine comp_block (Z := fun acc C => compPost (model X.prog X.w) X.A X.xe none (EP X pins σ Q) acc C) S hc hg ht he I2 T st2 f2 q ?_
  intro D C H' s' m I' hn hC hz qD
  refine ⟨m, hn, fun h' sb => ?_⟩
  have I'' : Inv X pins σ H' { s' with heap := h', toks := s'.toks } := I'.turned (it := C) (fun b o hb e => (sb.2 b hb).trans e) hC (fun z => absurd (Nat.lt_of_lt_of_le I2.lt (by rw [← z]; exact hz)) (Nat.lt_irrefl _))
    (.inr (Nat.le_trans I2.sz hz)) (fun x c e z => by obtain ⟨v, w⟩ := I2.cell x c e; exact absurd (Nat.lt_of_lt_of_le w.lt (by rw [z]; exact hz)) (Nat.lt_irrefl _)) (fun p hp z => absurd (Nat.lt_of_lt_of_le (Heap.lt_size (I2.pin p hp).1) (by rw [z]; exact hz)) (Nat.lt_irrefl _))
  exact ⟨.ref D, H', I'', rfl, qD⟩
end
end L2

set_option Elab.async false
set_option linter.all false
set_option maxRecDepth 100000
set_option maxHeartbeats 4000000
namespace L2
open PySem PySem.Spec PyProof.Rows
theorem bt_abs : bootBuiltins "abs" = some (.builtin "abs") := by decide +kernel
theorem bt_len : bootBuiltins "len" = some (.builtin "len") := by decide +kernel
theorem bt_sum : bootBuiltins "sum" = some (.builtin "sum") := by decide +kernel
theorem bt_all : bootBuiltins "all" = some (.builtin "all") := by decide +kernel
theorem bt_isinstance : bootBuiltins "isinstance" = some (.builtin "isinstance") := by decide +kernel
theorem bt_int : bootBuiltins "int" = some (.type "int") := by decide +kernel
theorem bt_bool : bootBuiltins "bool" = some (.type "bool") := by decide +kernel
theorem bt_str : bootBuiltins "str" = some (.type "str") := by decide +kernel
theorem bt_tuple : bootBuiltins "tuple" = some (.type "tuple") := by decide +kernel
/-! a def of the text with its promise, as its callers take it -/
def Def (P : Program) (w : World) (K : PySem.W.Frag) (mg : Str → Option Value) (base : Heap) (k : Nat) (x : Str) (ps : List Str) (sp : Sp) : Prop :=
  ∃ (f : Addr) (fd : FuncData), FnOk P w K mg base CX0 k f fd ps sp ∧ mg x = some (.ref f) ∧ PySem.W.keepIn K (.ref f) = true ∧ Binds K fd ps []
section
variable {X : Cx}
theorem pe_def {k k' : Nat} {x : Str} {ps : List Str} {sp : Sp} {e : Expr} {es : List Expr} {t : TA} {p pos : Pos} (D : Def X.prog X.w X.K X.mg X.base k x ps sp) (hr : Room k' X.A) (hk : k ≤ k') (hg : Gl X x) (ha : PA X (e :: es) t)
    (hdb : (x == ("__debug__" : Str)) = false := by decide) (he : starEach (e :: es) X.env = (false, eval e X.env) :: starEach es X.env := by rfl) (hpl : (backTo pos (starEach es X.env)).any (·.1) = false := by rfl) :
    PE X (.Call (.Name x p) (e :: es) [] pos) (tCall sp [] E0 t) := by
  obtain ⟨f, fd, F, m, kp, b⟩ := D
  exact pe_call F (hr.mono hk) hg m kp b .nil pass0 ha hdb he hpl

theorem strsAre_of {ys : List Str} : ∀ {us : List Value}, Vals (ys.map V.str) us → StrsAre us ys := by
  induction ys with
  | nil => intro us r; rw [List.map_nil] at r; cases r; exact .nil
  | cons y ys ih =>
    intro us r
    rw [List.map_cons] at r
    cases r with
    | cons r1 r2 =>
      obtain ⟨t, e⟩ := r1
      subst e
      exact .cons y t (ih r2)
/-- sep.join(a list of texts) -/
def rJoin (K : PySem.W.Frag) : V → List V → Hp → VK → Prop := fun x vs H Q => ∃ z p ys, x = .str z ∧ vs = [.ref p] ∧ SqL K H p (ys.map V.str) ∧ (ys.map (·.length)).sum + ys.length * z.length ≤ 16777216 ∧ Q (.str (PySem.Txt.join z ys)) H
theorem mt_join : MtR X "str.join" (rJoin X.K) := by
  intro pins s σ H x vs v us Q I rx rv h
  obtain ⟨z, p, ys, rfl, rfl, hq, hz, q⟩ := h
  obtain ⟨t, rfl⟩ := rx
  obtain ⟨u, rfl, ru⟩ := vals1 rv
  cases ru
  obtain ⟨its, r, pl, _⟩ := I.list hq
  exact join_list pl.isList (strsAre_of r) hz fun t' k => ⟨.str _, H, I.tok k, ⟨_, rfl⟩, q⟩
theorem countP_eqU {x : V} : ∀ {xs : List V} {us : List Value}, Vals xs us → xs.all flatV = true → us.countP (eqU x) = xs.countP fun y => eqV y x
  | _, _, .nil, _ => rfl
  | y :: xs, u :: us, .cons r t, f => by
    rw [List.all_cons, Bool.and_eq_true] at f
    rw [List.countP_cons, List.countP_cons, eqU_of r f.1, countP_eqU t f.2]
/-- t.count(x), flat items -/
def rCount : V → List V → Hp → VK → Prop := fun x vs H Q => ∃ p xs y, x = .ref p ∧ vs = [y] ∧ H p = some (.tup xs) ∧ flatV y = true ∧ xs.all flatV = true ∧ Q (.int (xs.countP fun z => eqV z y : Nat)) H
theorem mt_count : MtR X "tuple.count" rCount := by
  intro pins s σ H x vs v us Q I rx rv h
  obtain ⟨p, xs, y, rfl, rfl, hq, fy, fx, q⟩ := h
  cases rx
  obtain ⟨u, rfl, ru⟩ := vals1 rv
  obtain ⟨_, its, r, o, e, hc, ⟨n, hd⟩, _⟩ := I.hok p _ hq
  obtain ⟨c, d, dt, sl⟩ := o
  cases hc
  cases hd
  refine call_meets F.slot_tuple_count ⟨_, e, rfl⟩ F.entry_tuple_count (F.args_tuple_count_2 _ _) (SeqAt.tuple_countAt p its.toArray n d sl u (eqU y)) ⟨e, fun w hw => mem_eqAt ru fy r fx w (by simpa using hw), ?_⟩
  refine ⟨.int _, H, I.tok _, ⟨_, rfl⟩, ?_⟩
  have ec : its.toArray.toList.countP (eqU y) = xs.countP fun z => eqV z y := countP_eqU r fx
  rw [ec]
  exact q
/-- sum(a list of ints) -/
theorem call_sum (hc : X.calm = true) : CallR X (.builtin "sum") (fun xs H Q => ∃ (p : Addr) (ns : List Int), xs = [.ref p] ∧ SqL X.K H p (ns.map V.int) ∧ Q (.int ns.sum) H) := by
  intro pins s σ H xs us Q I r h
  obtain ⟨p, ns, rfl, hq, q⟩ := h
  obtain ⟨u, rfl, ru⟩ := vals1 r
  cases ru
  obtain ⟨its, rv, pl, _⟩ := I.list hq
  have hi : IntsAre its ns := intsAre_of rv
  obtain ⟨ys, hys⟩ := (hi.allInts).items
  refine sum_intListG (xs := ys) (I.ok.hd hc) (by rw [← hys]; exact pl.isList) fun h' tk t' hk => ⟨.int _, H, I.kept hk, ⟨t', rfl⟩, ?_⟩
  have e1 : (numsOf its).sum = preSum (numAt ys) ys.size := by
    have e2 : numsOf its.toArray.toList = numsOf (intItems ys).toList := by rw [hys]
    have e3 : numsOf its = numsOf (intItems ys).toList := e2
    rw [e3, nums_intItems, preSum_eq, List.take_of_length_le (by simp)]
  rw [← e1, hi.numsOf]
  exact q
/-- isinstance(x, c), c a built-in type -/
theorem call_isiT : CallR X (.builtin "isinstance") (fun xs H Q => ∃ x n t b, xs = [x, .ty n] ∧ TyOf X.K H x t ∧ PySem.W.kitOne X.K t (.type n) = some b ∧ Q (.bl b) H) := by
  intro pins s σ H xs us Q I r h
  obtain ⟨x, n, t, b, rfl, ty, e, q⟩ := h
  obtain ⟨u, w', rfl, r1, r2⟩ := vals2 r
  cases r2
  exact isinst_ok I r1 ty e fun tk => ⟨.bl b, H, I.tok tk, rfl, q⟩
theorem kit_same {K : PySem.W.Frag} (n : String) : PySem.W.kitOne K (.type n) (.type n) = some true := by simp [PySem.W.kitOne]
theorem kit_int_bool {K : PySem.W.Frag} : PySem.W.kitOne K (.type "int") (.type "bool") = some false := by rfl

/-! a text's signs -/
def Its (z : Str) : It := ⟨fun i _ => i < z.cps.size, fun i H x H' => H' = H ∧ ∃ c, z.cps[i]? = some c ∧ x = .str ⟨#[c]⟩, fun i _ => z.cps.size ≤ i⟩
def iStr (tl : TE) : TI := fun σ H R => tl σ H fun x H1 => ∃ z, x = .str z ∧ R (Its z) H1
theorem turn_str {P : Program} {w : World} {K : PySem.W.Frag} {tg : Expr} {z : Str} {tk : Tok} {it : Addr} {ty : String} (hty : ty = "str_ascii_iterator" ∨ ty = "str_iterator") :
    Turn P w K tg (Its z) [it] it (fun i h => h.IsStrIter it ty z tk i ∧ i ≤ z.cps.size) where
  mem := by simp
  obj := fun i h st b hb => by
    have e : b = it := by simpa using hb
    subst e
    obtain ⟨⟨o, h1, h2, h3⟩, _⟩ := st
    exact ⟨o, h1, fun v q => by rw [h3] at q; cases q⟩
  keep := fun i h h' st k => by
    obtain ⟨⟨o, h1, h2⟩, h3⟩ := st
    exact ⟨⟨o, k it (by simp) o h1, h2⟩, h3⟩
  item := by
    intro X hP hw hK hc i pins s σ H E I hf st hg
    subst hP hw hK
    obtain ⟨f0, f1, f2, f3, f4, f5⟩ := hf it (by simp)
    have fin : ∀ (v : Value) (h' : Heap) (tk' : Nat), SignAt z i v → h'.IsStrIter it ty z tk (i + 1) → (∀ b o, b ∉ [it] → s.heap.get? b = some o → h'.get? b = some o) →
        ∃ u, some v = some u ∧ wpAny (model X.prog X.w) X.A (letOwnedTupleGo tg (.ref it) u) (fun _ s2 => ∃ x H', Inv X pins σ H' s2 ∧ RelV x u ∧ (Its z).yld i H x H' ∧ (s2.heap.IsStrIter it ty z tk (i + 1) ∧ i + 1 ≤ z.cps.size) ∧ ∀ b ∈ [it], H' b = none) E { s with heap := h', toks := tk' } := by
      intro v h' tk' hv st' kk
      obtain ⟨c, t, hcx, rfl⟩ := hv
      have I1 : Inv X pins σ H { s with heap := h', toks := tk' } := I.turned (fun b o hb e => kk b o (by simpa using hb) e) f0 f1 f3 f4 f5
      obtain ⟨o, h1, h2, h3⟩ := id st'
      refine ⟨_, rfl, go_of (s := { s with heap := h', toks := tk' }) (n := ty) h1 h2 h3 ?_ ⟨.str ⟨#[c]⟩, H, I1, ⟨t, rfl⟩, ⟨rfl, c, hcx, rfl⟩, ⟨st', hg⟩, fun b hb => (hf b hb).1⟩⟩
      rcases hty with rfl | rfl <;> decide
    rcases hty with rfl | rfl
    · exact (Walks.strAscii (I.ok.hd hc) it z tk).item i s _ _ hg st.1 fun v h' tk' hv st' kk => fin v h' tk' hv st' kk
    · exact (Walks.strWide (I.ok.hd hc) it z tk).item i s _ _ hg st.1 fun v h' tk' hv st' kk => fin v h' tk' hv st' kk
  done := by
    intro X hP hw hK hc i pins s σ H E I hf st hg
    subst hP hw hK
    obtain ⟨f0, f1, f2, f3, f4, f5⟩ := hf it (by simp)
    have e : i = z.cps.size := Nat.le_antisymm st.2 hg
    subst e
    rcases hty with rfl | rfl
    · exact (Walks.strAscii (I.ok.hd hc) it z tk).done s _ _ st.1 fun h' tk' kk => ⟨rfl, I.turned (fun b o hb e => kk b o (by simpa using hb) e) f0 f1 f3 f4 f5⟩
    · exact (Walks.strWide (I.ok.hd hc) it z tk).done s _ _ st.1 fun h' tk' kk => ⟨rfl, I.turned (fun b o hb e => kk b o (by simpa using hb) e) f0 f1 f3 f4 f5⟩
  self := fun A i s Q E st h => by
    rcases hty with rfl | rfl
    · exact wpAny_pyIter_striter_ascii st.1 h
    · exact wpAny_pyIter_striter_wide st.1 h
theorem pi_str {tg l : Expr} {tl : TE} (hl : PE X l tl) : PI X tg l (iStr tl) := by
  intro pins s σ H R I h
  refine thn (hl pins s σ H _ I h) fun v s1 ⟨x, H1, I1, r1, q1⟩ => ?_
  obtain ⟨z, rfl, q⟩ := q1
  obtain ⟨t, rfl⟩ := r1
  have fin : ∀ ty : String, ty = "str_ascii_iterator" ∨ ty = "str_iterator" → PIE X pins σ tg R (.ref s1.heap.objs.size) { s1 with heap := s1.heap.push { cls := .type ty, data := .fields #[.str z t, .int 0 0] } } := fun ty hty => by
    refine ⟨s1.heap.objs.size, [s1.heap.objs.size], _, _, H1, rfl, I1.kept (t' := s1.toks) fun b o e => Heap.get?_push_of_some _ e, turn_str (z := z) (tk := t) hty, ⟨⟨_, Heap.get?_push_size _ rfl, rfl, rfl⟩, Nat.zero_le _⟩, fun b hb => ?_, q⟩
    have e : b = s1.heap.objs.size := by simpa using hb
    subst e
    exact I1.fpOk (Nat.le_refl _) (I1.hok.fresh (Nat.le_refl _))
  cases ha : z.cps.all (· < 128)
  · exact wpAny_pyIter_wide ha (fin _ (.inr rfl))
  · exact wpAny_pyIter_ascii ha (fin _ (.inl rfl))

/-! z[lo:hi] of a text -/
def rSlS : V → Option Int → Option Int → Hp → VK → Prop := fun x lo hi H Q => ∃ z, x = .str z ∧ z.length ≤ sizeLine ∧ Q (.str (PySem.Txt.slice z lo hi)) H
theorem sl_str : SlR X rSlS := by
  intro pins s σ H x v vl vu lo hi sl Q I rx hs pl pu h
  obtain ⟨z, rfl, hz, q⟩ := h
  obtain ⟨t, rfl⟩ := rx
  refine ⟨"str", _, F.slot_str_getitem.lookup, typeIs_str _ _ _, ?_⟩
  cases pl with
  | none =>
    cases pu with
    | none => exact wpAny_getItem_str_slice (l := none) (u := none) (st := none) hs rfl (post_val_or_str ⟨Nat.le_trans (PySem.Txt.slice_le z _ _) hz, fun t' k => ⟨.str _, H, I.tok k, ⟨t', rfl⟩, q⟩⟩)
    | int j uj => exact wpAny_getItem_str_slice (l := none) (u := some (j, uj)) (st := none) hs rfl (post_val_or_str ⟨Nat.le_trans (PySem.Txt.slice_le z _ _) hz, fun t' k => ⟨.str _, H, I.tok k, ⟨t', rfl⟩, q⟩⟩)
  | int i ui =>
    cases pu with
    | none => exact wpAny_getItem_str_slice (l := some (i, ui)) (u := none) (st := none) hs rfl (post_val_or_str ⟨Nat.le_trans (PySem.Txt.slice_le z _ _) hz, fun t' k => ⟨.str _, H, I.tok k, ⟨t', rfl⟩, q⟩⟩)
    | int j uj => exact wpAny_getItem_str_slice (l := some (i, ui)) (u := some (j, uj)) (st := none) hs rfl (post_val_or_str ⟨Nat.le_trans (PySem.Txt.slice_le z _ _) hz, fun t' k => ⟨.str _, H, I.tok k, ⟨t', rfl⟩, q⟩⟩)
theorem sl_any : SlR X (fun x lo hi H Q => rSlL X.K x lo hi H Q ∨ (rSlT X.K x lo hi H Q ∨ rSlS x lo hi H Q)) := sl_list.or (sl_tup.or sl_str)
end
end L2

set_option Elab.async false
set_option linter.all false
set_option maxRecDepth 100000
set_option maxHeartbeats 4000000
namespace L2
open PySem PySem.Spec PyProof.Rows
/-! comprehensions, by what holds ahead of the i-th turn, of the items so far -/
def cW (R : St → Prop) (P : Nat → List V → Hp → Prop) (n : Nat) (D : Addr) : Nat → Nat → St → Hp → Prop := fun i m σ' H => m = n - i ∧ i ≤ n ∧ R σ' ∧ ∃ ys, P i ys H ∧ H D = some (.lst ys)
def cYes (R : St → Prop) (P : Nat → List V → Hp → Prop) (n : Nat) (D : Addr) (σ : St) (i : Nat) : VK := fun v H5 => ∃ xs, H5 D = some (.lst xs) ∧ xs.length < sizeLine ∧ ∃ m', m' < n - i ∧ cW R P n D (i + 1) m' σ (upd H5 D (.lst (xs ++ [v])))
def cNo (R : St → Prop) (P : Nat → List V → Hp → Prop) (n : Nat) (D : Addr) (σ : St) (i : Nat) : Hp → Prop := fun H4 => ∃ m', m' < n - i ∧ cW R P n D (i + 1) m' σ H4
theorem cyes {R : St → Prop} {P : Nat → List V → Hp → Prop} {n : Nat} {D : Addr} {σ : St} {i : Nat} {ys : List V} {v : V} {H : Hp} (hi : i < n) (r : R σ) (h : H D = some (.lst ys)) (hl : ys.length < sizeLine) (p : P (i + 1) (ys ++ [v]) (upd H D (.lst (ys ++ [v])))) : cYes R P n D σ i v H :=
  ⟨ys, h, hl, n - (i + 1), by omega, rfl, hi, r, _, p, upd_same⟩
theorem cno {R : St → Prop} {P : Nat → List V → Hp → Prop} {n : Nat} {D : Addr} {σ : St} {i : Nat} {ys : List V} {H : Hp} (hi : i < n) (r : R σ) (h : H D = some (.lst ys)) (p : P (i + 1) ys H) : cNo R P n D σ i H :=
  ⟨n - (i + 1), by omega, rfl, hi, r, _, p, h⟩
theorem comp_gen {J : It} {g : TG} {tt : TT} {te : TE} {σ0 : St} {H1 : Hp} {Q : VK} {D : Addr} {n : Nat} {xv : Nat → V} {st : Nat → St} (R : St → Prop) (P : Nat → List V → Hp → Prop) (r0 : R σ0) (h0 : P 0 [] (upd H1 D (.lst [])))
    (hj : ∀ i ys H, i < n → P i ys H → H D = some (.lst ys) → J.go i H ∧ ∀ x H2, J.yld i H x H2 → H2 = H ∧ x = xv i) (he : ∀ ys H, P n ys H → H D = some (.lst ys) → J.stop n H)
    (hg : ∀ i ys σ' H (K : St → Hp → Prop), i < n → R σ' → P i ys H → K (st i) H → g (xv i) σ' H K)
    (hs : ∀ i ys H, i < n → P i ys H → H D = some (.lst ys) → tt (st i) H fun b H4 => if b = true then te (st i) H4 (cYes R P n D (st i) i) else cNo R P n D (st i) i H4)
    (hd : ∀ ys H, P n ys H → H D = some (.lst ys) → Q (.ref D) H) :
    CompGo J g tt te σ0 H1 Q D := by
  refine ⟨cW R P n D, ⟨n, by simp [cW, r0]; exact ⟨_, h0, upd_same⟩⟩, ?_⟩
  rintro i m σ' H' ⟨rfl, hi, r, ys, p, hD⟩
  by_cases hlt : i < n
  · obtain ⟨g1, g2⟩ := hj i ys H' hlt p hD
    refine .inr ⟨g1, fun x H2 y => ?_⟩
    obtain ⟨rfl, rfl⟩ := g2 x H2 y
    exact hg i ys σ' H2 _ hlt r p (hs i ys H2 hlt p hD)
  · have e : i = n := by omega
    subst e
    exact .inl ⟨he ys H' p hD, hd ys H' p hD⟩
/-- the state with the one name set -/
def Rset (t : Nat) (σ0 : St) : St → Prop := fun σ' => ∀ v, σ'.set t v = σ0.set t v
theorem rset0 {t : Nat} {σ0 : St} : Rset t σ0 σ0 := fun _ => rfl
theorem rset1 {t : Nat} {σ0 : St} {x : Option V} : Rset t σ0 (σ0.set t x) := fun v => by rw [List.set_set]
theorem comp_range {t : Nat} {tt : TT} {te : TE} {σ0 : St} {H1 : Hp} {Q : VK} {D : Addr} {lo : Int} {n : Nat} (P : Nat → List V → Hp → Prop) (h0 : P 0 [] (upd H1 D (.lst [])))
    (hs : ∀ i ys H, i < n → P i ys H → H D = some (.lst ys) → tt (σ0.set t (some (.int (lo + i)))) H fun b H4 => if b = true then te (σ0.set t (some (.int (lo + i)))) H4 (cYes (Rset t σ0) P n D (σ0.set t (some (.int (lo + i)))) i) else cNo (Rset t σ0) P n D (σ0.set t (some (.int (lo + i)))) i H4)
    (hd : ∀ ys H, P n ys H → H D = some (.lst ys) → Q (.ref D) H) :
    CompGo (Itr lo n) (gName t) tt te σ0 H1 Q D :=
  comp_gen (xv := fun i => .int (lo + i)) (st := fun i => σ0.set t (some (.int (lo + i)))) (Rset t σ0) P rset0 h0 (fun i _ H hi _ _ => ⟨hi, fun x H2 y => y⟩) (fun _ _ _ _ => Nat.le_refl n)
    (fun i _ σ' H K _ r _ k => by show K (σ'.set t (some (.int (lo + i)))) H; rw [r]; exact k) hs hd
theorem comp_list {K : PySem.W.Frag} {a : Addr} {xs : List V} {t : Nat} {tt : TT} {te : TE} {σ0 : St} {H1 : Hp} {Q : VK} {D : Addr} (P : Nat → List V → Hp → Prop) (h0 : P 0 [] (upd H1 D (.lst []))) (hl : ∀ i ys H, P i ys H → H D = some (.lst ys) → SqL K H a xs)
    (hs : ∀ i ys H x, xs[i]? = some x → P i ys H → H D = some (.lst ys) → tt (σ0.set t (some x)) H fun b H4 => if b = true then te (σ0.set t (some x)) H4 (cYes (Rset t σ0) P xs.length D (σ0.set t (some x)) i) else cNo (Rset t σ0) P xs.length D (σ0.set t (some x)) i H4)
    (hd : ∀ ys H, P xs.length ys H → H D = some (.lst ys) → Q (.ref D) H) :
    CompGo (Itl K a) (gName t) tt te σ0 H1 Q D := by
  have get : ∀ i, i < xs.length → xs[i]? = some (xs.getD i .non) := fun i hi => by simp [List.getD, hi]
  refine comp_gen (xv := fun i => xs.getD i .non) (st := fun i => σ0.set t (some (xs.getD i .non))) (Rset t σ0) P rset0 h0 (fun i ys H hi p hD => ⟨⟨xs, _, hl i ys H p hD, get i hi⟩, fun x H2 y => ⟨y.1, ?_⟩⟩) (fun ys H p hD => ⟨xs, hl _ ys H p hD, Nat.le_refl _⟩)
    (fun i _ σ' H K _ r _ k => by show K (σ'.set t (some (xs.getD i .non))) H; rw [r]; exact k) (fun i ys H hi p hD => hs i ys H _ (get i hi) p hD) hd
  have e := y.2 xs (hl i ys H p hD)
  rw [get i hi] at e
  exact (Option.some.inj e).symm
theorem comp_tup {K : PySem.W.Frag} {a : Addr} {xs : List V} {t : Nat} {tt : TT} {te : TE} {σ0 : St} {H1 : Hp} {Q : VK} {D : Addr} (P : Nat → List V → Hp → Prop) (h0 : P 0 [] (upd H1 D (.lst []))) (hl : ∀ i ys H, P i ys H → H D = some (.lst ys) → SqT K H a xs)
    (hs : ∀ i ys H x, xs[i]? = some x → P i ys H → H D = some (.lst ys) → tt (σ0.set t (some x)) H fun b H4 => if b = true then te (σ0.set t (some x)) H4 (cYes (Rset t σ0) P xs.length D (σ0.set t (some x)) i) else cNo (Rset t σ0) P xs.length D (σ0.set t (some x)) i H4)
    (hd : ∀ ys H, P xs.length ys H → H D = some (.lst ys) → Q (.ref D) H) :
    CompGo (Itt K a) (gName t) tt te σ0 H1 Q D := by
  have get : ∀ i, i < xs.length → xs[i]? = some (xs.getD i .non) := fun i hi => by simp [List.getD, hi]
  refine comp_gen (xv := fun i => xs.getD i .non) (st := fun i => σ0.set t (some (xs.getD i .non))) (Rset t σ0) P rset0 h0 (fun i ys H hi p hD => ⟨⟨xs, _, hl i ys H p hD, get i hi⟩, fun x H2 y => ⟨y.1, ?_⟩⟩) (fun ys H p hD => ⟨xs, hl _ ys H p hD, Nat.le_refl _⟩)
    (fun i _ σ' H K _ r _ k => by show K (σ'.set t (some (xs.getD i .non))) H; rw [r]; exact k) (fun i ys H hi p hD => hs i ys H _ (get i hi) p hD) hd
  have e := y.2 xs (hl i ys H p hD)
  rw [get i hi] at e
  exact (Option.some.inj e).symm
theorem comp_str {z : Str} {t : Nat} {tt : TT} {te : TE} {σ0 : St} {H1 : Hp} {Q : VK} {D : Addr} (P : Nat → List V → Hp → Prop) (h0 : P 0 [] (upd H1 D (.lst [])))
    (hs : ∀ i ys H c, z.cps[i]? = some c → P i ys H → H D = some (.lst ys) → tt (σ0.set t (some (.str ⟨#[c]⟩))) H fun b H4 => if b = true then te (σ0.set t (some (.str ⟨#[c]⟩))) H4 (cYes (Rset t σ0) P z.cps.size D (σ0.set t (some (.str ⟨#[c]⟩))) i) else cNo (Rset t σ0) P z.cps.size D (σ0.set t (some (.str ⟨#[c]⟩))) i H4)
    (hd : ∀ ys H, P z.cps.size ys H → H D = some (.lst ys) → Q (.ref D) H) :
    CompGo (Its z) (gName t) tt te σ0 H1 Q D := by
  have get : ∀ i, i < z.cps.size → z.cps[i]? = some (z.cps.getD i 0) := fun i hi => by simp [Array.getD, hi]
  refine comp_gen (xv := fun i => .str ⟨#[z.cps.getD i 0]⟩) (st := fun i => σ0.set t (some (.str ⟨#[z.cps.getD i 0]⟩))) (Rset t σ0) P rset0 h0 (fun i ys H hi p hD => ⟨hi, fun x H2 y => ⟨y.1, ?_⟩⟩) (fun ys H p hD => Nat.le_refl _)
    (fun i _ σ' H K _ r _ k => by show K (σ'.set t (some (.str ⟨#[z.cps.getD i 0]⟩))) H; rw [r]; exact k) (fun i ys H hi p hD => hs i ys H _ (get i hi) p hD) hd
  obtain ⟨c, e, ex⟩ := y.2
  rw [get i hi] at e
  rw [ex, ← Option.some.inj e]
/-- over a tuple of triples, the block's names being the three -/
theorem comp_tt3 {K : PySem.W.Frag} {a : Addr} {n : Nat} {xs : List V} {ad : Nat → Addr} {v1 v2 v3 : Nat → V} {tt : TT} {te : TE} {H1 : Hp} {Q : VK} {D : Addr} (P : Nat → List V → Hp → Prop) (h0 : P 0 [] (upd H1 D (.lst []))) (hn : xs.length = n) (hx : ∀ i, i < n → xs[i]? = some (.ref (ad i)))
    (hl : ∀ i ys H, P i ys H → H D = some (.lst ys) → SqT K H a xs) (ht : ∀ i ys H, i < n → P i ys H → SqT K H (ad i) [v1 i, v2 i, v3 i])
    (hs : ∀ i ys H, i < n → P i ys H → H D = some (.lst ys) → tt [some (v1 i), some (v2 i), some (v3 i)] H fun b H4 => if b = true then te [some (v1 i), some (v2 i), some (v3 i)] H4 (cYes (fun σ => σ.length = 3) P n D [some (v1 i), some (v2 i), some (v3 i)] i) else cNo (fun σ => σ.length = 3) P n D [some (v1 i), some (v2 i), some (v3 i)] i H4)
    (hd : ∀ ys H, P n ys H → H D = some (.lst ys) → Q (.ref D) H) :
    CompGo (Itt K a) (gTup K 3 (gCons (gName 0) (gCons (gName 1) (gCons (gName 2) gNil)))) tt te [none, none, none] H1 Q D := by
  refine comp_gen (xv := fun i => .ref (ad i)) (st := fun i => [some (v1 i), some (v2 i), some (v3 i)]) (fun σ => σ.length = 3) P rfl h0 (fun i ys H hi p hD => ⟨⟨xs, _, hl i ys H p hD, hx i hi⟩, fun x H2 y => ⟨y.1, ?_⟩⟩) (fun ys H p hD => ⟨xs, hl _ ys H p hD, Nat.le_of_eq hn⟩)
    (fun i ys σ' H K' hi r p k => ?_) hs hd
  · have e := y.2 xs (hl i ys H p hD)
    rw [hx i hi] at e
    exact (Option.some.inj e).symm
  · match σ', r with
    | [s1, s2, s3], _ => exact ⟨ad i, _, rfl, ht i ys H hi p, rfl, _, _, rfl, _, _, rfl, _, _, rfl, rfl, k⟩
end L2
namespace L2
open PySem PySem.Spec PyProof.Rows
theorem yes {σ : St} {H : Hp} {A B : Hp → Prop} (h : A H) : tYes σ H fun b H4 => if b = true then A H4 else B H4 := by
  show if true = true then A H else B H
  rw [if_pos rfl]
  exact h
end L2

set_option Elab.async false
set_option linter.all false
set_option maxRecDepth 100000
set_option maxHeartbeats 4000000
namespace L2
open PySem PySem.Spec PyProof.Rows
/-! the rules that name the written part, with K told: in a block nothing hangs on the block's own context -/
section
variable {X : Cx} (K : PySem.W.Frag)
theorem kix_seq (hK : X.K = K := by rfl) : IxR X (rIx K) := hK ▸ ix_seq
theorem kop_notIn_seq (hK : X.K = K := by rfl) : OpR X (compareOp .NotIn) (rIn K true) := hK ▸ op_notIn_seq
theorem kop_catT (hK : X.K = K := by rfl) : OpR X (binaryOp .Add) (rCatT K) := hK ▸ op_catT
theorem ksl_any (hK : X.K = K := by rfl) : SlR X (fun x lo hi H Q => rSlL K x lo hi H Q ∨ (rSlT K x lo hi H Q ∨ rSlS x lo hi H Q)) := hK ▸ sl_any
theorem kmt_join (hK : X.K = K := by rfl) : MtR X "str.join" (rJoin K) := hK ▸ mt_join
theorem kcall_len (hK : X.K = K := by rfl) : CallR X (.builtin "len") (fun xs H Q => ∃ x n, xs = [x] ∧ LenV K x H n ∧ Q (.int n) H) := hK ▸ call_len
theorem kcall_tuple_of (hK : X.K = K := by rfl) : CallR X (.type "tuple") (fun xs H Q => ∃ p ys, xs = [.ref p] ∧ ((SqL K H p ys ∧ ∀ l, H l = none → Q (.ref l) (upd H l (.tup ys))) ∨ (SqT K H p ys ∧ Q (.ref p) H))) := hK ▸ call_tuple_of
theorem kcall_sum (hc : X.calm = true) (hK : X.K = K := by rfl) : CallR X (.builtin "sum") (fun xs H Q => ∃ (p : Addr) (ns : List Int), xs = [.ref p] ∧ SqL K H p (ns.map V.int) ∧ Q (.int ns.sum) H) := hK ▸ call_sum hc
theorem kcall_isiT (hK : X.K = K := by rfl) : CallR X (.builtin "isinstance") (fun xs H Q => ∃ x n t b, xs = [x, .ty n] ∧ TyOf K H x t ∧ PySem.W.kitOne K t (.type n) = some b ∧ Q (.bl b) H) := hK ▸ call_isiT
theorem kpi_list {tg l : Expr} {tl : TE} (hl : PE X l tl) (hK : X.K = K := by rfl) : PI X tg l (iList K tl) := hK ▸ pi_list hl
theorem kpi_tup {tg l : Expr} {tl : TE} (hl : PE X l tl) (hK : X.K = K := by rfl) : PI X tg l (iTup K tl) := hK ▸ pi_tup hl
theorem kpe_bm {o e : Expr} {es : List Expr} {to : TE} {t : TA} {name : Str} {apos cpos : Pos} {T id : String} {r : V → List V → Hp → VK → Prop} (pa : PlainAttrs T) (slot : Slot T name id) (hty : typeOf (.builtin id) = pure (.type "method_descriptor")) (hm : MtR X id r) (ho : PE X o to) (ha : PA X (e :: es) t)
    (hbase : attributeBase o name X.env (eval o X.env) = eval o X.env := by rfl)
    (hfew : ((backTo cpos (starEach (e :: es) X.env)).all (fun x => !x.1) && (backToKw cpos (keywordEach [] X.env)).all (fun x => x.1.isSome)
      && decide ((e :: es).length + ([] : List Keyword).length + (if ([] : List Keyword).isEmpty then 0 else 1) < 30)) = true := by rfl)
    (hline : (apos.endLine == cpos.line) = true := by rfl) (hs : starEach (e :: es) X.env = (false, eval e X.env) :: starEach es X.env := by rfl) (hplain : (backTo cpos (starEach es X.env)).any (·.1) = false := by rfl) (hK : X.K = K := by rfl) :
    PE X (.Call (.Attribute o name apos) (e :: es) [] cpos) (tBM K T r to t) := hK ▸ pe_bm pa slot hty hm ho ha hbase hfew hline hs hplain
theorem kpg_tup {es : List Expr} {k : Nat} {pos : Pos} {t : TGs} {n : Nat} (hc : X.calm = true) (h : PGs X es t) (hn : (assignEach es X.env).length = n := by rfl) (hst : (assignEach es X.env).findIdx? (·.1) = none := by rfl) (hK : X.K = K := by rfl) : PG X (.Tuple es k pos) (gTup K n t) := hK ▸ pg_tup hc h hn hst
end
end L2

set_option Elab.async false
set_option linter.all false
set_option maxRecDepth 100000
set_option maxHeartbeats 4000000
namespace L2
open PySem PySem.Spec PyProof.Rows

/-! whole numbers of any moderate size -/
section
variable {X : Cx}
end

/-! ### an exception in flight: it is at e, over the frames at l; what was tracked, or stood in the elder heap, is held fast -/
section
variable {X : Cx} {pins : List (Addr × Obj)} {σ : St} {H H' : Hp} {s s' : Shared} {h2 : Heap}
end
section
variable {P : Program} {w : World} {K : PySem.W.Frag} {mg : Str → Option Value} {base : Heap} {N : List Str} {qual : Str} {scope : Scope} {f : Addr} {cd : Value} {A : Around} {outer : List Env} {s : Shared} {H : Hp} {E : XK}
end

/-! ### raise C(..), C an own class without an __init__ of its own -/
section
variable {X : Cx}
end
end L2

set_option Elab.async false
set_option linter.all false
set_option maxRecDepth 100000
set_option maxHeartbeats 4000000
namespace L2
open PySem PySem.Spec PyProof.Rows
section
variable {X : Cx}
end
section
variable {X : Cx} {pins : List (Addr × Obj)} {σ : St} {H : Hp} {s : Shared}
/-- a thing that was made since the entry is looked at from now on -/
theorem Inv.adopt {e : Addr} {u : HO} (I : Inv X pins σ H s) (hn : H e = none) (h0 : X.s₀.heap.get? e = none) (nL : e ≠ X.env.locals) (nC : ∀ x c, X.env.cells.lookup x = some c → c ≠ e) (nP : ∀ p ∈ X.pn ++ pins, p.1 ≠ e)
    (ok : ObjOk X.prog X.w (upd H e u) s.heap e u) : Inv X pins σ (upd H e u) s := by
  have ne : ∀ {b : Addr} {v : HO}, H b = some v → b ≠ e := fun q => ne_of_none q hn
  refine ⟨I.ok, I.os, I.bare, ⟨I.base.keep, I.base.slot, fun b o q n hx => ?_, I.base.there, fun b xs q => ?_, fun b o v q => ?_, fun b ps q => ?_⟩, I.loc, I.cell, ?_, fun x c q => ?_, fun p hp => ?_, fun a o q => ?_, I.len⟩
  · have z : b ≠ e := fun z => by rw [z, h0] at q; cases q
    rw [upd_ne z]
    exact I.base.free b o q n hx
  · have q1 := I.base.tups b xs q
    rw [upd_ne (ne q1)]
    exact q1
  · have q1 := I.base.frzs b o v q
    rw [upd_ne (ne q1)]
    exact q1
  · obtain ⟨more, q1⟩ := I.base.tbls b ps q
    exact ⟨more, by rw [upd_ne (ne q1)]; exact q1⟩
  · rw [upd_ne (Ne.symm nL)]
    exact I.free
  · rw [upd_ne (nC x c q)]
    exact I.freeC x c q
  · obtain ⟨p1, p2, p3⟩ := I.pin p hp
    exact ⟨p1, by rw [upd_ne (nP p hp)]; exact p2, p3⟩
  · by_cases z : a = e
    · subst z
      rw [upd_same] at q
      cases q
      exact ok
    · rw [upd_ne z] at q
      exact (I.hok a o q).stay (fun _ _ _ r => r) (fun c r => by rw [upd_ne (ne r)]; exact r) fun c xs r => by rw [upd_ne (ne r)]; exact r
end
section
variable {X : Cx} {pins : List (Addr × Obj)} {R : Value → St → Hp → Prop} {e : Value} {s' : Shared}
end
section
variable {X : Cx} {pins : List (Addr × Obj)} {σ : St} {H : Hp} {s : Shared} {ea : Addr}
end
end L2
namespace L2
open PySem PySem.Spec PyProof.Rows
/-! a def of the text that raises on some ways -/
section
variable {X : Cx} {k k' : Nat} {x : Str} {ps : List Str} {sp : Sp} {e : Expr} {es : List Expr} {t : TA} {p pos : Pos}
end
section
variable {P : Program} {w : World} {K : PySem.W.Frag} {mg : Str → Option Value} {base : Heap}
end
end L2

set_option Elab.async false
set_option linter.all false
set_option maxRecDepth 100000
set_option maxHeartbeats 4000000
namespace L2
open PySem PySem.Spec PyProof.Rows
/-! isinstance of an exception of an own class -/
section
variable {prog : Program} {w : World} {A : Around} {E : Value → Shared → Prop} {s : Shared} {K : PySem.W.Frag} {e C : Addr} {h : Heap}
end
end L2
namespace L2
open PySem PySem.Spec PyProof.Rows
/-! == of two lists of flat values -/
section
variable {X : Cx}
/-- all(a list of bools) -/
theorem bools_at {bs : List Bool} : ∀ {us : List Value}, Vals (bs.map V.bl) us → us = bs.map Value.bool := by
  induction bs with
  | nil => intro us r; rw [List.map_nil] at r; cases r; rfl
  | cons b bs ih =>
    intro us r
    rw [List.map_cons] at r
    cases r with
    | cons r1 r2 => rw [List.map_cons, ← ih r2]; cases r1; rfl
theorem range_bools : ∀ bs : List Bool, ((List.range bs.length).all fun i => bs.getD i true) = bs.all id
  | [] => rfl
  | b :: bs => by
    have ih := range_bools bs
    rw [List.length_cons, List.range_succ_eq_map, List.all_cons, List.all_map, List.all_cons, ← ih]
    rfl
theorem call_all (hc : X.calm = true) : CallR X (.builtin "all") (fun xs H Q => ∃ (p : Addr) (bs : List Bool), xs = [.ref p] ∧ SqL X.K H p (bs.map V.bl) ∧ Q (.bl (bs.all id)) H) := by
  intro pins s σ H xs us Q I r h
  obtain ⟨p, bs, rfl, hq, q⟩ := h
  obtain ⟨u, rfl, ru⟩ := vals1 r
  cases ru
  obtain ⟨its, rv, pl, _⟩ := I.list hq
  have hl : s.heap.IsList p its.toArray := pl.isList
  have hlt : p < s.heap.objs.size := by obtain ⟨_, e, _⟩ := hl; exact Heap.lt_size e
  refine call_all_walk (wpAny_pyIter_list hl ⟨_, _, _, _, _, _, fun i => bs.getD i true, rfl, Walks.list (A := X.A.in1) (I.ok.hd hc) _ p (Nat.ne_of_lt hlt) its.toArray, ⟨⟨_, Heap.get?_push_size _ rfl, rfl, rfl⟩, hl.push _⟩, fun i v s' Q' E' hv hQ => ?_, fun h' tk hk => ⟨.bl _, H, I.kept (old_kept hk), rfl, ?_⟩⟩)
  · have hv' : its[i]? = some v := by simpa using hv
    rw [bools_at rv, List.getElem?_map] at hv'
    obtain ⟨b, hb, rfl⟩ := Option.map_eq_some_iff.mp hv'
    have e : bs.getD i true = b := by simp [List.getD, hb]
    have z : Q' (bs.getD i true) s' := hQ
    rw [e] at z
    exact wpAny_truthy_bool z
  · have e1 : its.toArray.size = bs.length := by
      have := rv.length
      rw [List.length_map] at this
      simp; omega
    rw [e1]
    have e2 := range_bools bs
    rw [e2]
    exact q
theorem kcall_all (K : PySem.W.Frag) (hc : X.calm = true) (hK : X.K = K := by rfl) : CallR X (.builtin "all") (fun xs H Q => ∃ (p : Addr) (bs : List Bool), xs = [.ref p] ∧ SqL K H p (bs.map V.bl) ∧ Q (.bl (bs.all id)) H) := hK ▸ call_all hc
end
end L2

set_option Elab.async false
set_option linter.all false
set_option maxRecDepth 100000
set_option maxHeartbeats 4000000
namespace L2
open PySem PySem.Spec PyProof.Rows
/-! a range by steps -/
section
variable {X : Cx} {tg : Expr}
/-! (a, b, ..) = a list of that length -/
/-! != of two tuples of flat values -/
end
end L2

set_option Elab.async false
set_option linter.all false
set_option maxRecDepth 100000
set_option maxHeartbeats 4000000
namespace L2
open PySem PySem.Spec PyProof.Rows
/-! sets of texts, made of a list -/
def addK {α : Type} [DecidableEq α] (l : List α) (v : α) : List α := if v ∈ l then l else l ++ [v]
def dedK {α : Type} [DecidableEq α] (vs : List α) : List α := vs.foldl addK []
theorem mem_addK {α : Type} [DecidableEq α] {l : List α} {v x : α} : x ∈ addK l v ↔ x ∈ l ∨ x = v := by
  unfold addK
  split
  · rename_i h
    constructor
    · exact .inl
    · rintro (z | rfl)
      · exact z
      · exact h
  · simp
theorem len_addK {α : Type} [DecidableEq α] {l : List α} {v : α} : (addK l v).length = if v ∈ l then l.length else l.length + 1 := by
  unfold addK
  split <;> simp
theorem dedK_snoc {α : Type} [DecidableEq α] (vs : List α) (v : α) : dedK (vs ++ [v]) = addK (dedK vs) v := by
  unfold dedK
  rw [List.foldl_append]
  rfl
theorem foldK_len {α : Type} [DecidableEq α] : ∀ (vs l : List α), (vs.foldl addK l).length ≤ l.length + vs.length
  | [], l => Nat.le_refl _
  | v :: vs, l => by
    have h := foldK_len vs (addK l v)
    rw [len_addK] at h
    rw [List.foldl_cons, List.length_cons]
    split at h <;> omega
theorem dedK_len {α : Type} [DecidableEq α] (vs : List α) : (dedK vs).length ≤ vs.length := by
  have := foldK_len vs []
  simpa [dedK] using this
/-- as many as there are: no two alike -/
theorem foldK_nodup {α : Type} [DecidableEq α] : ∀ (vs l : List α), vs.Nodup → (∀ x ∈ vs, x ∉ l) → vs.foldl addK l = l ++ vs
  | [], l, _, _ => by simp
  | v :: vs, l, nd, hd => by
    obtain ⟨n1, n2⟩ := List.nodup_cons.mp nd
    have e : addK l v = l ++ [v] := by
      unfold addK
      rw [if_neg (hd v List.mem_cons_self)]
    rw [List.foldl_cons, e, foldK_nodup vs (l ++ [v]) n2 (fun x hx z => ?_), List.append_assoc]
    · rfl
    · rcases List.mem_append.mp z with z | z
      · exact hd x (List.mem_cons_of_mem _ hx) z
      · exact n1 (List.mem_singleton.mp z ▸ hx)
theorem dedK_nodup {α : Type} [DecidableEq α] {vs : List α} (nd : vs.Nodup) : dedK vs = vs := by
  have := foldK_nodup vs [] nd (fun _ _ z => by cases z)
  simpa [dedK] using this
section
variable {prog : Program} {w : World} {A : Around} {E : Value → Shared → Prop} {s : Shared}
abbrev SetIs (prog : Program) (w : World) (h : Heap) (a : Addr) (l : List Str) : Prop := h.SetOf (PySem.strKind prog w) a (fun x => decide (x ∈ l)) l.length
theorem setIs_keep {h h' : Heap} {a : Addr} {l : List Str} (x : SetIs prog w h a l) (k : ∀ o, h.get? a = some o → h'.get? a = some o) : SetIs prog w h' a l := by
  obtain ⟨o, es, ep, t, ho, r⟩ := x
  exact ⟨o, es, ep, t, k o ho, r⟩
theorem set_loop {R : Result → Shared → Prop} {J l a : Addr} {items : Array Value} {ys : List Str} (hh : A.in1.handled = none) (hJ : l ≠ J) (aJ : a ≠ J) (al : a ≠ l) (hv : ∀ (i : Nat) (v : Value), items[i]? = some v → ∃ t, v = .str (ys.getD i "") t) (hn : items.size = ys.length) (hb : ys.length + 1 < scanBound) :
    ∀ (k i : Nat) (s : Shared), ys.length - i = k → i ≤ ys.length → s.heap.IsListIter J l i → s.heap.IsList l items → SetIs prog w s.heap a (dedK (ys.take i)) →
      (∀ h' tk, (∀ b o, b ≠ a → b ≠ J → s.heap.get? b = some o → h'.get? b = some o) → SetIs prog w h' a (dedK ys) → R (.ok (.ret .none)) { s with heap := h', toks := tk }) →
      codeAny (model prog w) A (.builtin "set.update.loop" ⟨[.ref a, .ref J], []⟩) R s := by
  intro k
  induction k with
  | zero =>
    intro i s hk hi h1 h2 h3 hR
    have e : i = ys.length := by omega
    subst e
    refine codeAny_builtin PyProof.Rows.F.entry_set_update_loop ?_
    rw [Around.under_plainId PyProof.Rows.F.plain_set_update_loop _]
    show wpAny _ A.in1 (pyNext (.ref J) >>= _) _ _ s
    refine wpAny_bind (wpAny_pyNext_list_end hh h1 h2 (by first | omega | (simp; omega)) fun h' eb => ?_)
    show wpAny _ A.in1 (ret Value.none) _ _ _
    rw [List.take_length] at h3
    exact wpAny_pure (hR h' s.toks (fun b o _ nb e => eb b o nb e) (setIs_keep h3 fun o e => eb a o aJ e))
  | succ k ih =>
    intro i s hk hi h1 h2 h3 hR
    have hlt : i < ys.length := by omega
    refine codeAny_builtin PyProof.Rows.F.entry_set_update_loop ?_
    rw [Around.under_plainId PyProof.Rows.F.plain_set_update_loop _]
    show wpAny _ A.in1 (pyNext (.ref J) >>= _) _ _ s
    have hi2 : items[i]? = some (items[i]'(by omega)) := by simp [show i < items.size by omega]
    refine wpAny_bind (wpAny_pyNext_list_item h1 h2 hi2 fun h' h1' sb => ?_)
    obtain ⟨t, et⟩ := hv i _ hi2
    rw [et]
    have h3' : SetIs prog w h' a (dedK (ys.take i)) := setIs_keep h3 fun o e => (sb.2 a aJ).trans e
    show wpAny _ A.in1 (holding [Value.str (ys.getD i "") t] (setAdd a (.str (ys.getD i "") t)) >>= _) _ _ _
    refine wpAny_bind (wpAny_holding ?_)
    unfold setAdd
    have is1 : (PySem.strKind prog w).is (ys.getD i "") (.str (ys.getD i "") t) = true := by
      simp [PySem.strKind, Value.isStrOf]
    refine wpAny_holding (wpAny_bind ((PySem.strKind prog w).pyHash (k := ys.getD i "") is1 ?_))
    have room : (dedK (ys.take i)).length + 1 < scanBound := by
      have := dedK_len (ys.take i)
      rw [List.length_take] at this
      omega
    refine wpAny_setAddHashed_of (knd := PySem.strKind prog w) (s := { s with heap := h', toks := s.toks + 1 }) is1 rfl h3' room fun h'' sb2 h4 => ?_
    have ey : ys[i]? = some (ys.getD i "") := by simp [List.getD, hlt]
    have e1 : ys.take (i + 1) = ys.take i ++ [ys.getD i ""] := by rw [List.take_add_one, ey]; rfl
    have h5 : SetIs prog w h'' a (dedK (ys.take (i + 1))) := by
      refine SetOf_congr h4 (fun x => ?_) ?_
      · rw [e1, dedK_snoc]
        by_cases c1 : x ∈ dedK (ys.take i) <;> by_cases c2 : x = ys.getD i "" <;> simp [mem_addK, c1, c2]
      · rw [e1, dedK_snoc, len_addK]
        by_cases c1 : ys.getD i "" ∈ dedK (ys.take i) <;> simp [c1]
    refine wpAny_pure ⟨plainId_quiet PyProof.Rows.F.plain_set_update_loop _, ih (i + 1) { s with heap := h'', toks := s.toks + 1 } (by omega) hlt ?_ ?_ h5 fun h6 tk k6 s6 => hR h6 tk (fun b o na nJ e => k6 b o na nJ ((sb2.2 b na).trans ((sb.2 b nJ).trans e))) s6⟩
    · obtain ⟨o, q1, q2⟩ := h1'
      exact ⟨o, (sb2.2 J (Ne.symm aJ)).trans q1, q2⟩
    · obtain ⟨o, q1, q2⟩ := h2
      exact ⟨o, (sb2.2 l (Ne.symm al)).trans ((sb.2 l hJ).trans q1), q2⟩
theorem strs_at : ∀ {us : List Value} {ys : List Str}, StrsAre us ys → ∀ (i : Nat) (v : Value), us[i]? = some v → ∃ t, v = .str (ys.getD i "") t
  | _, _, .nil, i, v, h => by simp at h
  | _, _, .cons y t r, 0, v, h => ⟨t, (Option.some.inj h).symm⟩
  | _, _, .cons y t r, i + 1, v, h => by
    obtain ⟨t', e⟩ := strs_at r i v (by simpa using h)
    exact ⟨t', by rw [e]; rfl⟩
def freshSet (b : Bool) : Obj := { cls := .type "set", dict := none, data := .set #[] 0 (.fresh 0 0 b) }
theorem set_made {l : Addr} {items : Array Value} {ys : List Str} {Q : Value → Shared → Prop} (hh : A.handled = none) (hl : s.heap.IsList l items) (hi : StrsAre items.toList ys) (hb : ys.length + 1 < scanBound)
    (h : ∀ h' tk, SetIs prog w h' s.heap.objs.size (dedK ys) → (∀ b o, b < s.heap.objs.size → s.heap.get? b = some o → h'.get? b = some o) → Q (.ref s.heap.objs.size) { s with heap := h', toks := tk }) :
    wpAny (model prog w) A (call (.type "set") [.ref l]) Q E s := by
  obtain ⟨c0, tl0, hmro⟩ := PySem.F.called_set.mro
  have made := PySem.F.called_set.made; have subs := PySem.F.called_set.sub
  have nt := PySem.F.called_set.notType; have cc := PySem.F.called_set.canCreate; have tcall := PySem.F.typeCall_set_1 (.ref l)
  refine wpAny_call (codeAny_of_tree ?_)
  show wpAny _ _ (callAny (.type "set") ⟨[.ref l], []⟩) _ _ _
  refine wpAny_pure ⟨Code.quiet_builtin _ (by decide +kernel), codeAny_builtin PySem.F.entry_type_call ?_⟩
  rw [Around.under_plain (weight_type_call_type "set" [.ref l] []) rfl]
  repeat (any_goals (first | assumption | wp_step))
  refine codeAny_mono (code_set_new_1 (.ref l) (E := E) (Q₁ := fun v s1 => ∃ b : Bool, v = .ref s.heap.objs.size ∧ s1 = { s with heap := s.heap.push (freshSet b) }) fun b => ⟨b, rfl, rfl⟩) fun r s1 hr => ?_
  match r, hr with
  | .error e, hr => exact hr
  | .ok (.ret v), hr =>
    obtain ⟨b, ev, es⟩ := hr
    subst ev es
    have at0 : (s.heap.push (freshSet b)).get? s.heap.objs.size = some (freshSet b) := Heap.get?_push_size _ rfl
    have ty0 : Shared.TypeIs { s with heap := s.heap.push (freshSet b) } (.ref s.heap.objs.size) "set" := ⟨_, at0, rfl⟩
    have il := PySem.F.called_set.init.lookup
    have ib := PySem.F.called_set.init.bind (.ref s.heap.objs.size)
    repeat (any_goals (first | assumption | wp_step))
    refine codeAny_mono (codeAny_call_builtin (R := wants (fun r s2 => r = .none ∧ ∃ h' tk, s2 = { s with heap := h', toks := tk } ∧ SetIs prog w h' s.heap.objs.size (dedK ys) ∧ ∀ b o, b < s.heap.objs.size → s.heap.get? b = some o → h'.get? b = some o) E) PySem.F.called_set.init.plain PySem.F.entry_set_init (check_set_init_1 ty0 ?_)) fun r2 s2 hr2 => ?_
    · obtain ⟨⟨oc, od, odt, osl⟩, hol, hcl, nl, hdl⟩ := id hl
      have hcl' : oc = _ := hcl; have hdl' : odt = _ := hdl
      subst hcl' hdl'
      have hol1 : (s.heap.push (freshSet b)).get? l = some { cls := .type "list", dict := od, data := .seq items nl, slots := osl } := Heap.get?_push_of_some _ hol
      have n1 := PySem.F.sub_list_set; have n2 := PySem.F.sub_list_frozenset
      have n3 : (Value.type "list" == Value.type "dict") = false := by decide
      have hl1 : (s.heap.push (freshSet b)).IsList l items := ⟨_, hol1, rfl, nl, rfl⟩
      have lS : l < s.heap.objs.size := Heap.lt_size hol
      have jS : (s.heap.push (freshSet b)).objs.size = s.heap.objs.size + 1 := Heap.size_push ..
      unfold Builtin.«set.__init__» noKeywords Builtin.Frozenset.updateFrom
      generalize ePI : pyIter = PI
      wp_walk
      subst ePI
      refine wpAny_pyIter_list hl1 (wpAny_bind (wpAny_runValue ?_))
      have hn : items.size = ys.length := by
        have := hi.length
        simpa using this
      refine set_loop (J := (s.heap.push (freshSet b)).objs.size) (l := l) (a := s.heap.objs.size) (items := items) (ys := ys) (by simp [hh]) (Nat.ne_of_lt (by rw [jS]; exact Nat.lt_succ_of_lt lS)) (Nat.ne_of_lt (by rw [jS]; exact Nat.lt_succ_self _)) (Nat.ne_of_gt lS) (fun i v hv => ?_) hn hb (ys.length - 0) 0 _ rfl (Nat.zero_le _) ⟨_, Heap.get?_push_size _ rfl, rfl, rfl⟩ (hl1.push _) ?_ fun h' tk hk hS => ?_
      · exact strs_at hi i v (by rw [Array.getElem?_toList]; exact hv)
      · exact SetOf_congr ((PyProof.Rows.setObjOf_fresh (knd := PySem.strKind prog w) b).setOf (Heap.get?_push_of_some _ at0) (by unfold scanBound; omega)) (fun x => by simp [dedK]) rfl
      · show wpAny _ _ _ _ _ _
        refine wpAny_pure ?_
        show wpAny _ _ (ret Value.none) _ _ _
        refine wpAny_pure ⟨rfl, h', tk, rfl, hS, fun c o hc e => hk c o (Nat.ne_of_lt hc) (Nat.ne_of_lt (by rw [jS]; exact Nat.lt_succ_of_lt hc)) (Heap.get?_push_of_some _ (Heap.get?_push_of_some _ e))⟩
    · match r2, hr2 with
      | .error e, hr2 => exact hr2
      | .ok (.ret v), hr2 =>
        obtain ⟨ev, h', tk, es, hS, hk⟩ := hr2
        subst ev es
        repeat (any_goals (first | assumption | wp_step))
        exact h _ _ hS hk
      | .ok .next, hr2 => exact hr2.elim
      | .ok .brk, hr2 => exact hr2.elim
      | .ok .cont, hr2 => exact hr2.elim
  | .ok .next, hr => exact hr.elim
  | .ok .brk, hr => exact hr.elim
  | .ok .cont, hr => exact hr.elim
end
/-- a set of texts, tracked: its members -/
def StrSet (P : Program) (w : World) (a : Addr) (l : List Str) : HO := .ext fun h => SetIs P w h a l
section
variable {X : Cx}
theorem bt_set : bootBuiltins "set" = some (.type "set") := by decide +kernel
theorem kcall_setS (K : PySem.W.Frag) (hc : X.calm = true) (hK : X.K = K := by rfl) : CallR X (.type "set") (fun xs H Q => ∃ p ys, xs = [.ref p] ∧ SqL K H p (ys.map V.str) ∧ ys.length ≤ 1000 ∧ ∀ a, H a = none → Q (.ref a) (upd H a (StrSet X.prog X.w a (dedK ys)))) := by
  subst hK
  intro pins s σ H xs us Q I r h
  obtain ⟨p, ys, rfl, hq, hz, q⟩ := h
  obtain ⟨u, rfl, ru⟩ := vals1 r
  cases ru
  obtain ⟨its, rv, pl, _⟩ := I.list hq
  have hb : ys.length + 1 < scanBound := by unfold scanBound; omega
  refine set_made (I.ok.hd hc) pl.isList (strsAre_of rv) hb fun h' tk hS hk => ?_
  have fr := I.hok.fresh (Nat.le_refl s.heap.objs.size)
  refine ⟨.ref s.heap.objs.size, _, I.laid (t' := tk) (o := StrSet X.prog X.w s.heap.objs.size (dedK ys)) (fun b o e => hk b o (Heap.lt_size e) e) (Nat.le_refl _) ⟨hS, ?_, fun h1 h2 z k => setIs_keep z k⟩, rfl, q _ fr⟩
  obtain ⟨o, _, _, _, ho, _⟩ := hS
  exact ⟨o, ho⟩
theorem call_lenS : CallR X (.builtin "len") (fun xs H Q => ∃ a l, xs = [.ref a] ∧ H a = some (StrSet X.prog X.w a l) ∧ Q (.int (l.length : Nat)) H) := by
  intro pins s σ H xs us Q I r h
  obtain ⟨a, l, rfl, ha, q⟩ := h
  obtain ⟨u, rfl, ru⟩ := vals1 r
  cases ru
  obtain ⟨o, es, ep, t, ho, hex, hd, _, _, hsz, hf, hn⟩ := (I.hok a _ ha).1
  have hb : (es.size : Int) < 2 ^ 63 := by
    unfold scanBound at hsz
    omega
  refine call_len_set ho hex hd hf hb ⟨.int _, H, I.tok _, ⟨_, rfl⟩, ?_⟩
  rw [hn]
  exact q
end
end L2

set_option Elab.async false
set_option linter.all false
set_option maxRecDepth 100000
set_option maxHeartbeats 4000000
namespace L2
open PySem PySem.Spec PyProof.Rows
/-! zip(t, u) of two tuples -/
section
variable {prog : Program} {w : World} {A : Around} {E : Value → Shared → Prop} {s : Shared}
theorem nextOf_tupI {it t : Addr} {k : Nat} {items : Array Value} {x : Value} {Q : Value → Shared → Prop} (hi : s.heap.IsTupleIter it t k) (ht : s.heap.IsTuple t items) (hx : items[k]? = some x)
    (q : ∀ h', h'.IsTupleIter it t (k + 1) → Heap.SameBut it s.heap h' → Q x { s with heap := h' }) : wpAny (model prog w) A (Builtin.SmallTypes.nextOf (.ref it)) Q E s := by
  obtain ⟨oi, a1, a2, a3⟩ := id hi
  obtain ⟨ot, b1, _, nt, b3⟩ := ht
  unfold Builtin.SmallTypes.nextOf
  refine wpAny_bind (wpAny_callSpecial?_slot (name := Str.ofString "__next__") hi.typeIs PySem.F.slot_tuple_iterator_next (wpAny_call_entry PySem.F.slot_tuple_iterator_next hi.typeIs PySem.F.entry_tuple_iterator_next ?_ (PySem.F.args_tuple_iterator_next_1 _)))
  refine wpAny_bind (m := field (.ref it) 0) (wpAny_field a1 a3 (x := .ref t) rfl ?_)
  show wpAny _ _ (if (Value.ref t == Value.none) = true then _ else field (.ref it) 1 >>= _) _ _ s
  rw [if_neg (show ¬ ((Value.ref t == Value.none) = true) from Bool.false_ne_true)]
  refine wpAny_bind (wpAny_field a1 a3 (x := .int k 0) rfl (wpAny_bind (m := seqItems? (.ref t)) (wpAny_seqItems b1 b3 ?_)))
  simp only [Int.toNat_natCast, hx]
  refine wpAny_bind (wpAny_setField a1 a3 (by simp) (wpAny_pure ⟨x, rfl, wpAny_pure (q _ ⟨_, Heap.get?_update_self _ a1 (Obj.isFreed_of_fields (Obj.data_mapFields a3 _)), (Obj.cls_mapFields ..).trans a2, ?_⟩ (Heap.SameBut.update ..))⟩))
  rw [Obj.data_mapFields a3]; simp [rawInt]
theorem nextOf_tupE {it t : Addr} {k : Nat} {items : Array Value} {Q : Value → Shared → Prop} (hh : A.handled = none) (hi : s.heap.IsTupleIter it t k) (ht : s.heap.IsTuple t items) (hx : items[k]? = none)
    (q : ∀ h' e, Heap.ExtBut it s.heap h' → (∃ o, h'.get? e = some o ∧ o.cls = .type "StopIteration") → E (.ref e) { s with heap := h' }) : wpAny (model prog w) A (Builtin.SmallTypes.nextOf (.ref it)) Q E s := by
  obtain ⟨oi, a1, a2, a3⟩ := id hi
  obtain ⟨ot, b1, _, nt, b3⟩ := ht
  unfold Builtin.SmallTypes.nextOf
  refine wpAny_bind (wpAny_callSpecial?_slot (name := Str.ofString "__next__") hi.typeIs PySem.F.slot_tuple_iterator_next (wpAny_call_entry PySem.F.slot_tuple_iterator_next hi.typeIs PySem.F.entry_tuple_iterator_next ?_ (PySem.F.args_tuple_iterator_next_1 _)))
  refine wpAny_bind (m := field (.ref it) 0) (wpAny_field a1 a3 (x := .ref t) rfl ?_)
  show wpAny _ _ (if (Value.ref t == Value.none) = true then _ else field (.ref it) 1 >>= _) _ _ s
  rw [if_neg (show ¬ ((Value.ref t == Value.none) = true) from Bool.false_ne_true)]
  refine wpAny_bind (wpAny_field a1 a3 (x := .int k 0) rfl (wpAny_bind (m := seqItems? (.ref t)) (wpAny_seqItems b1 b3 ?_)))
  simp only [Int.toNat_natCast, hx]
  refine wpAny_bind (wpAny_rule (wpAny_bind (wpAny_setField a1 a3 (by simp) (wpAny_bind (m := newExc (.type "StopIteration") []) ?_))))
  simp only [newExc, newTuple]; refine wpAny_bind (wpAny_newObj_type (wpAny_bind (m := firstArgMember _ _) (wpAny_of_eq (a := Value.none) (by first | rfl | (simp only [firstArgMember]; rfl)) (wpAny_newObj_type ?_ (by size_fits)))) (by size_fits))
  simp only [raiseNew]; refine wpAny_bind (wpAny_handled ?_)
  first | rw [show A.in1.handled = none from hh] | rw [hh]
  exact wpAny_bind (wpAny_pure (wpAny_throw (q _ _ (((Heap.SameBut.update ..).extBut.push _).push _) ⟨_, Heap.get?_push_size _ rfl, rfl⟩)))
/-- the zip at z stands ahead of the k-th pair -/
structure ZipAt (z TI TO i1 i2 t1 t2 : Addr) (xs ys : Array Value) (f0 : Value) (k1 k2 : Nat) (h : Heap) : Prop where
  zi : IsZip h z TI TO f0
  ti : IsPair h TI (.ref i1) (.ref i2)
  to : ∃ a b, IsPair h TO a b
  a1 : h.IsTupleIter i1 t1 k1
  a2 : h.IsTupleIter i2 t2 k2
  b1 : h.IsTuple t1 xs
  b2 : h.IsTuple t2 ys
structure Far (z TI TO i1 i2 t1 t2 : Addr) : Prop where
  nd : [z, TI, TO, i1, i2].Nodup
  f1 : t1 ∉ [z, TO, i1, i2]
  f2 : t2 ∉ [z, TO, i1, i2]
def Kept4 (z TO i1 i2 : Addr) (h h' : Heap) : Prop := ∀ c o, c ∉ [z, TO, i1, i2] → h.get? c = some o → h'.get? c = some o
variable {z TI TO i1 i2 t1 t2 : Addr} {xs ys : Array Value} {k1 k2 : Nat}
theorem zip_item {x y : Value} {Q : Value → Shared → Prop} (D : Far z TI TO i1 i2 t1 t2) (Z : ZipAt z TI TO i1 i2 t1 t2 xs ys .none k1 k2 s.heap) (hx : xs[k1]? = some x) (hy : ys[k2]? = some y)
    (q : ∀ h', ZipAt z TI TO i1 i2 t1 t2 xs ys (rawInt s.heap.objs.size) (k1 + 1) (k2 + 1) h' → IsPair h' s.heap.objs.size x y → Kept4 z TO i1 i2 s.heap h' → Q (.ref s.heap.objs.size) { s with heap := h' }) :
    wpAny (model prog w) A (Builtin.«zip.__next__» ⟨[.ref z], []⟩) (fun fin s' => ∃ v, fin = .done (.ret v) ∧ Q v s') E s := by
  obtain ⟨nd, f1, f2⟩ := D
  simp only [List.nodup_cons, List.mem_cons, List.not_mem_nil, or_false, not_or, List.nodup_nil, and_true, not_false_eq_true] at nd f1 f2
  obtain ⟨⟨nzI, nzO, nz1, nz2⟩, ⟨nIO, nI1, nI2⟩, ⟨nO1, nO2⟩, n12⟩ := nd
  obtain ⟨p1z, p1O, p11, p12⟩ := f1
  obtain ⟨p2z, p2O, p21, p22⟩ := f2
  obtain ⟨zi, ti, ⟨a, b, to⟩, a1, a2, b1, b2⟩ := Z
  refine wpAny_bind (m := field (.ref z) 2) (wpAny_field zi rfl (x := .bool false) rfl ?_)
  refine wpAny_bind (m := field (.ref z) 3) (wpAny_field zi rfl (x := .ref TI) rfl (wpAny_bind (wpAny_seqItems ti rfl ?_)))
  refine wpAny_bind (m := Builtin.SmallTypes.ownedTupleIsFree (.ref z)) ?_
  unfold Builtin.SmallTypes.ownedTupleIsFree; refine wpAny_bind (wpAny_field zi rfl (x := .none) rfl (wpAny_pure ?_))
  simp only [if_true]; refine wpAny_bind (wpAny_rule (wpAny_bind (wpAny_field zi rfl (x := .ref TO) rfl (wpAny_bind (wpAny_setField_rec zi (by simp) fun g1 zi1' s1 => ?_)))))
  have zi1 : IsZip g1 z TI TO .ellipsis := zi1'
  refine wpAny_bind ?_
  simp only [List.zipIdx_cons, List.zipIdx_nil, List.forIn_cons, List.forIn_nil]
  refine wpAny_bind (wpAny_bind (wpAny_onRaise (wpAny_bind (m := Builtin.SmallTypes.nextOf (.ref i1)) ?_)))
  refine nextOf_tupI (a1.extBut s1.extBut (Ne.symm nz1)) (b1.extBut s1.extBut p1z) hx fun g2 a1' s2 => wpAny_pure ?_
  have to2 : IsPair g2 TO a b := s2.extBut _ _ nO1 (s1.extBut _ _ (Ne.symm nzO) to)
  refine wpAny_bind (wpAny_seqItems to2 rfl (wpAny_bind (wpAny_updateSeq_pair to2 fun g3 to3' s3 => wpAny_bind (wpAny_letGo (wpAny_pure ?_)))))
  have to3 : IsPair g3 TO x b := to3'
  refine wpAny_bind (wpAny_bind (wpAny_onRaise (wpAny_bind (m := Builtin.SmallTypes.nextOf (.ref i2)) ?_)))
  refine nextOf_tupI (((a2.extBut s1.extBut (Ne.symm nz2)).extBut s2.extBut (Ne.symm n12)).extBut s3.extBut (Ne.symm nO2)) (((b2.extBut s1.extBut p2z).extBut s2.extBut p21).extBut s3.extBut p2O) hy fun g4 a2' s4 => wpAny_pure ?_
  have to4 : IsPair g4 TO x b := s4.extBut _ _ nO2 to3
  refine wpAny_bind (wpAny_seqItems to4 rfl (wpAny_bind (wpAny_updateSeq_pair to4 fun g5 to5' s5 => wpAny_bind (wpAny_letGo (wpAny_pure (wpAny_pure ?_))))))
  have to5 : IsPair g5 TO x y := to5'
  refine wpAny_bind (wpAny_seqItems to5 rfl (wpAny_bind (wpAny_newTuple ?_)))
  have sz : g5.objs.size = s.heap.objs.size := by rw [s5.1, s4.1, s3.1, s2.1, s1.1]
  have zi5 : IsZip g5 z TI TO .ellipsis := s5.extBut _ _ nzO (s4.extBut _ _ nz2 (s3.extBut _ _ nzO (s2.extBut _ _ nz1 zi1)))
  have k5 : ∀ c o, c ≠ z → c ≠ TO → c ≠ i1 → c ≠ i2 → s.heap.get? c = some o → g5.get? c = some o := fun c o c1 c2 c3 c4 e => s5.extBut _ _ c2 (s4.extBut _ _ c4 (s3.extBut _ _ c2 (s2.extBut _ _ c3 (s1.extBut _ _ c1 e))))
  have a15 : g5.IsTupleIter i1 t1 (k1 + 1) := ((a1'.extBut s3.extBut (Ne.symm nO1)).extBut s4.extBut n12).extBut s5.extBut (Ne.symm nO1)
  have a25 : g5.IsTupleIter i2 t2 (k2 + 1) := a2'.extBut s5.extBut (Ne.symm nO2)
  refine wpAny_bind (m := Builtin.SmallTypes.ownedTupleHandOut (.ref z) (.ref g5.objs.size)) ?_
  unfold Builtin.SmallTypes.ownedTupleHandOut
  have zi6 : IsZip (g5.push { cls := .type "tuple", data := .seq #[x, y] }) z TI TO .ellipsis := Heap.get?_push_of_some _ zi5
  refine wpAny_bind (wpAny_setField_rec zi6 (by simp) fun g7 zi7' s7 => ?_)
  have zi7 : IsZip g7 z TI TO (rawInt g5.objs.size) := zi7'
  refine wpAny_setField_rec zi7 (by simp) fun g8 zi8' s8 => ?_
  have zi8 : IsZip g8 z TI TO (rawInt g5.objs.size) := zi8'
  have up : ∀ c o, c ≠ z → g5.get? c = some o → g8.get? c = some o := fun c o c1 e => s8.extBut _ _ c1 (s7.extBut _ _ c1 (Heap.get?_push_of_some _ e))
  have new : IsPair g8 g5.objs.size x y := s8.extBut _ _ (Nat.ne_of_gt (Heap.lt_size zi5)) (s7.extBut _ _ (Nat.ne_of_gt (Heap.lt_size zi5)) (Heap.get?_push_size _ rfl))
  have tp : ∀ {c : Addr} {us : Array Value}, c ≠ z → c ≠ TO → c ≠ i1 → c ≠ i2 → s.heap.IsTuple c us → g8.IsTuple c us := fun {c us} c1 c2 c3 c4 ⟨o, e, r⟩ => ⟨o, up c o c1 (k5 c o c1 c2 c3 c4 e), r⟩
  have il : ∀ {c u : Addr} {n : Nat}, c ≠ z → g5.IsTupleIter c u n → g8.IsTupleIter c u n := fun {c u n} c1 ⟨o, e, r⟩ => ⟨o, up c o c1 e, r⟩
  refine wpAny_pure ⟨_, rfl, ?_⟩
  have fin := q g8 ⟨by rw [← sz]; exact zi8, up _ _ (Ne.symm nzI) (k5 _ _ (Ne.symm nzI) nIO nI1 nI2 ti), ⟨x, y, up _ _ (Ne.symm nzO) to5⟩, il (Ne.symm nz1) a15, il (Ne.symm nz2) a25, tp p1z p1O p11 p12 b1, tp p2z p2O p21 p22 b2⟩ (by rw [← sz]; exact new) fun c o hc e => by
    simp only [List.mem_cons, List.not_mem_nil, or_false, not_or] at hc
    obtain ⟨c1, c2, c3, c4⟩ := hc
    exact up c o c1 (k5 c o c1 c2 c3 c4 e)
  rw [← sz] at fin
  exact fin
theorem zip_end {Q : Fin → Shared → Prop} (hh : A.handled = none) (D : Far z TI TO i1 i2 t1 t2) (Z : ZipAt z TI TO i1 i2 t1 t2 xs ys .none k1 k2 s.heap) (hend : xs[k1]? = none ∨ ys[k2]? = none)
    (q : ∀ h' e, Kept4 z TO i1 i2 s.heap h' → (∃ o, h'.get? e = some o ∧ o.cls = .type "StopIteration") → E (.ref e) { s with heap := h' }) : wpAny (model prog w) A (Builtin.«zip.__next__» ⟨[.ref z], []⟩) Q E s := by
  obtain ⟨nd, f1, f2⟩ := D
  simp only [List.nodup_cons, List.mem_cons, List.not_mem_nil, or_false, not_or, List.nodup_nil, and_true, not_false_eq_true] at nd f1 f2
  obtain ⟨⟨nzI, nzO, nz1, nz2⟩, ⟨nIO, nI1, nI2⟩, ⟨nO1, nO2⟩, n12⟩ := nd
  obtain ⟨p1z, p1O, p11, p12⟩ := f1
  obtain ⟨p2z, p2O, p21, p22⟩ := f2
  obtain ⟨zi, ti, ⟨a, b, to⟩, a1, a2, b1, b2⟩ := Z
  refine wpAny_bind (m := field (.ref z) 2) (wpAny_field zi rfl (x := .bool false) rfl ?_)
  refine wpAny_bind (m := field (.ref z) 3) (wpAny_field zi rfl (x := .ref TI) rfl (wpAny_bind (wpAny_seqItems ti rfl ?_)))
  refine wpAny_bind (m := Builtin.SmallTypes.ownedTupleIsFree (.ref z)) ?_
  unfold Builtin.SmallTypes.ownedTupleIsFree; refine wpAny_bind (wpAny_field zi rfl (x := .none) rfl (wpAny_pure ?_))
  simp only [if_true]; refine wpAny_bind (wpAny_rule (wpAny_bind (wpAny_field zi rfl (x := .ref TO) rfl (wpAny_bind (wpAny_setField_rec zi (by simp) fun g1 zi1' s1 => ?_)))))
  have zi1 : IsZip g1 z TI TO .ellipsis := zi1'
  refine wpAny_bind ?_
  simp only [List.zipIdx_cons, List.zipIdx_nil, List.forIn_cons, List.forIn_nil]
  refine wpAny_bind (wpAny_bind (wpAny_onRaise (wpAny_bind (m := Builtin.SmallTypes.nextOf (.ref i1)) ?_)))
  cases hx : xs[k1]? with
  | none =>
    refine nextOf_tupE hh (a1.extBut s1.extBut (Ne.symm nz1)) (b1.extBut s1.extBut p1z) hx fun g2 e s2 ⟨oe, oe1, oe2⟩ => ?_
    have zi2 : IsZip g2 z TI TO .ellipsis := s2 _ _ nz1 zi1
    have ez : e ≠ z := fun c => by rw [c, zi2] at oe1; cases oe1; simp at oe2
    refine wpAny_setField_rec zi2 (by simp) fun g3 _ s3 => q g3 e (fun c o hc e' => ?_) ⟨oe, s3.extBut _ _ ez oe1, oe2⟩
    simp only [List.mem_cons, List.not_mem_nil, or_false, not_or] at hc
    exact s3.extBut _ _ hc.1 (s2 _ _ hc.2.2.1 (s1.extBut _ _ hc.1 e'))
  | some x =>
    have hy : ys[k2]? = none := hend.elim (fun c => by rw [hx] at c; cases c) id
    refine nextOf_tupI (a1.extBut s1.extBut (Ne.symm nz1)) (b1.extBut s1.extBut p1z) hx fun g2 a1' s2 => wpAny_pure ?_
    have to2 : IsPair g2 TO a b := s2.extBut _ _ nO1 (s1.extBut _ _ (Ne.symm nzO) to)
    refine wpAny_bind (wpAny_seqItems to2 rfl (wpAny_bind (wpAny_updateSeq_pair to2 fun g3 to3' s3 => wpAny_bind (wpAny_letGo (wpAny_pure ?_)))))
    refine wpAny_bind (wpAny_bind (wpAny_onRaise (wpAny_bind (m := Builtin.SmallTypes.nextOf (.ref i2)) ?_)))
    refine nextOf_tupE hh (((a2.extBut s1.extBut (Ne.symm nz2)).extBut s2.extBut (Ne.symm n12)).extBut s3.extBut (Ne.symm nO2)) (((b2.extBut s1.extBut p2z).extBut s2.extBut p21).extBut s3.extBut p2O) hy fun g4 e s4 ⟨oe, oe1, oe2⟩ => ?_
    have zi4 : IsZip g4 z TI TO .ellipsis := s4 _ _ nz2 (s3.extBut _ _ nzO (s2.extBut _ _ nz1 zi1))
    have ez : e ≠ z := fun c => by rw [c, zi4] at oe1; cases oe1; simp at oe2
    refine wpAny_setField_rec zi4 (by simp) fun g5 _ s5 => q g5 e (fun c o hc e' => ?_) ⟨oe, s5.extBut _ _ ez oe1, oe2⟩
    simp only [List.mem_cons, List.not_mem_nil, or_false, not_or] at hc
    exact s5.extBut _ _ hc.1 (s4 _ _ hc.2.2.2 (s3.extBut _ _ hc.2.1 (s2.extBut _ _ hc.2.2.1 (s1.extBut _ _ hc.1 e'))))
theorem pyNext_zipI {x y : Value} {Q : Option Value → Shared → Prop} (D : Far z TI TO i1 i2 t1 t2) (Z : ZipAt z TI TO i1 i2 t1 t2 xs ys .none k1 k2 s.heap) (hx : xs[k1]? = some x) (hy : ys[k2]? = some y)
    (q : ∀ h', ZipAt z TI TO i1 i2 t1 t2 xs ys (rawInt s.heap.objs.size) (k1 + 1) (k2 + 1) h' → IsPair h' s.heap.objs.size x y → Kept4 z TO i1 i2 s.heap h' → Q (some (.ref s.heap.objs.size)) { s with heap := h' }) : wpAny (model prog w) A (pyNext (.ref z)) Q E s := by
  have ty : s.TypeIs (.ref z) "zip" := ⟨_, Z.zi, rfl⟩
  unfold pyNext
  exact wpAny_bind (wpAny_attempt (wpAny_callSpecial?_slot (name := Str.ofString "__next__") ty PySem.F.slot_zip_next (wpAny_call_entry PySem.F.slot_zip_next ty PySem.F.entry_zip_next (zip_item D Z hx hy fun h' u1 u2 u3 => wpAny_pure (q h' u1 u2 u3)) (PySem.F.args_zip_next_1 _))))
theorem pyNext_zipE {Q : Option Value → Shared → Prop} (hh : A.handled = none) (D : Far z TI TO i1 i2 t1 t2) (Z : ZipAt z TI TO i1 i2 t1 t2 xs ys .none k1 k2 s.heap) (hend : xs[k1]? = none ∨ ys[k2]? = none)
    (q : ∀ h', Kept4 z TO i1 i2 s.heap h' → Q none { s with heap := h' }) : wpAny (model prog w) A (pyNext (.ref z)) Q E s := by
  have ty : s.TypeIs (.ref z) "zip" := ⟨_, Z.zi, rfl⟩
  unfold pyNext
  refine wpAny_bind (wpAny_attempt (wpAny_callSpecial?_slot (name := Str.ofString "__next__") ty PySem.F.slot_zip_next (wpAny_call_entry PySem.F.slot_zip_next ty PySem.F.entry_zip_next (zip_end hh D Z hend fun h' e hk ⟨o, o1, o2⟩ => ?_) (PySem.F.args_zip_next_1 _))))
  exact wpAny_bind (wpAny_isInstance (T := "StopIteration") (b := true) ⟨o, o1, o2⟩ isSubtype_stop (wpAny_pure (q h' hk)))
/-- the heap behind zip(t1, t2) -/
def zp1 (h : Heap) (t1 : Addr) : Heap := h.push { cls := .type "tuple_iterator", data := .fields #[.ref t1, .int 0 0] }
def zp2 (h : Heap) (t1 t2 : Addr) : Heap := (zp1 h t1).push { cls := .type "tuple_iterator", data := .fields #[.ref t2, .int 0 0] }
def zp3 (h : Heap) (t1 t2 : Addr) : Heap := (zp2 h t1 t2).push { cls := .type "tuple", data := .seq #[.ref h.objs.size, .ref (zp1 h t1).objs.size] }
def zp4 (h : Heap) (t1 t2 : Addr) : Heap := (zp3 h t1 t2).push { cls := .type "tuple", data := .seq #[.none, .none] }
def zp5 (h : Heap) (t1 t2 : Addr) : Heap := (zp4 h t1 t2).push { cls := .type "zip", data := .fields #[.none, .bool false, .bool false, .ref (zp2 h t1 t2).objs.size, .ref (zp3 h t1 t2).objs.size] }
theorem zip_new (t1 t2 : Addr) (xs ys : Array Value) : Meets (Builtin.«zip.__new__» ⟨[.type "zip", .ref t1, .ref t2], []⟩) (fun _ R s => s.heap.IsTuple t1 xs ∧ s.heap.IsTuple t2 ys ∧ R (.ok (.ret (.ref (zp4 s.heap t1 t2).objs.size))) { s with heap := zp5 s.heap t1 t2 }) :=
  .of_wp fun prog w A R s h => by
    obtain ⟨hp, g, d, tk, os⟩ := s
    obtain ⟨u1, u2, h⟩ := h
    have subz := PySem.sub_zip
    have T1 : Heap.IsTuple (Shared.heap ⟨hp, g, d, tk, os⟩) t1 xs := u1
    have T2 : Heap.IsTuple (Shared.heap ⟨hp.push { cls := .type "tuple_iterator", data := .fields #[.ref t1, .int 0 0] }, g, d, tk, os⟩) t2 ys := Heap.IsTuple.push u2 _
    wp_walk using wpAny_pyIter_tuple T1, wpAny_pyIter_tuple T2
    exact ⟨_, rfl, h⟩
theorem call_zipT {Q : Value → Shared → Prop} (h1 : s.heap.IsTuple t1 xs) (h2 : s.heap.IsTuple t2 ys)
    (q : ∀ h' z TI TO i1 i2, Far z TI TO i1 i2 t1 t2 → ZipAt z TI TO i1 i2 t1 t2 xs ys .none 0 0 h' → (∀ b ∈ [z, TI, TO, i1, i2], s.heap.objs.size ≤ b) → (∀ c o, s.heap.get? c = some o → h'.get? c = some o) → Q (.ref z) { s with heap := h' }) :
    wpAny (model prog w) A (call (.type "zip") [.ref t1, .ref t2]) Q E s := by
  refine callType_new PySem.F.called_zip (by decide) (PySem.F.typeCall_zip_2 _ _) (PySem.F.newCall_zip_2 _ _) (fun obj => PySem.F.args_object_init_3 obj _ _) PySem.F.entry_zip_new (zip_new t1 t2 xs ys) ⟨h1, h2, ?_⟩
  have l1 : t1 < s.heap.objs.size := by obtain ⟨_, e, _⟩ := h1; exact Heap.lt_size e
  have l2 : t2 < s.heap.objs.size := by obtain ⟨_, e, _⟩ := h2; exact Heap.lt_size e
  have z1 : (zp1 s.heap t1).objs.size = s.heap.objs.size + 1 := Heap.size_push ..
  have z2 : (zp2 s.heap t1 t2).objs.size = s.heap.objs.size + 2 := by unfold zp2; rw [Heap.size_push, z1]
  have z3 : (zp3 s.heap t1 t2).objs.size = s.heap.objs.size + 3 := by unfold zp3; rw [Heap.size_push, z2]
  have z4 : (zp4 s.heap t1 t2).objs.size = s.heap.objs.size + 4 := by unfold zp4; rw [Heap.size_push, z3]
  have kp : ∀ c o, s.heap.get? c = some o → (zp5 s.heap t1 t2).get? c = some o := fun c o e => Heap.get?_push_of_some _ (Heap.get?_push_of_some _ (Heap.get?_push_of_some _ (Heap.get?_push_of_some _ (Heap.get?_push_of_some _ e))))
  have g5 : (zp5 s.heap t1 t2).get? (zp4 s.heap t1 t2).objs.size = some _ := Heap.get?_push_size _ rfl
  have g4 : (zp5 s.heap t1 t2).get? (zp3 s.heap t1 t2).objs.size = some _ := Heap.get?_push_of_some _ (Heap.get?_push_size _ rfl)
  have g3 : (zp5 s.heap t1 t2).get? (zp2 s.heap t1 t2).objs.size = some _ := Heap.get?_push_of_some _ (Heap.get?_push_of_some _ (Heap.get?_push_size _ rfl))
  have g2 : (zp5 s.heap t1 t2).get? (zp1 s.heap t1).objs.size = some _ := Heap.get?_push_of_some _ (Heap.get?_push_of_some _ (Heap.get?_push_of_some _ (Heap.get?_push_size _ rfl)))
  have g1 : (zp5 s.heap t1 t2).get? s.heap.objs.size = some _ := Heap.get?_push_of_some _ (Heap.get?_push_of_some _ (Heap.get?_push_of_some _ (Heap.get?_push_of_some _ (Heap.get?_push_size _ rfl))))
  refine ⟨⟨_, g5, rfl⟩, q _ _ (zp2 s.heap t1 t2).objs.size (zp3 s.heap t1 t2).objs.size s.heap.objs.size (zp1 s.heap t1).objs.size ⟨?_, ?_, ?_⟩ ⟨g5, g3, ⟨_, _, g4⟩, ⟨_, g1, rfl, rfl⟩, ⟨_, g2, rfl, rfl⟩, ?_, ?_⟩ ?_ kp⟩
  · rw [z1, z2, z3, z4]
    generalize s.heap.objs.size = n
    simp
  · rw [z1, z3, z4]
    generalize s.heap.objs.size = n at *
    have : ∀ a b : Nat, a < b → ¬ (a = b) := fun a b h => Nat.ne_of_lt h
    simp only [List.mem_cons, List.not_mem_nil, or_false, not_or]
    exact ⟨this _ _ (Nat.lt_of_lt_of_le l1 (Nat.le_add_right ..)), this _ _ (Nat.lt_of_lt_of_le l1 (Nat.le_add_right ..)), this _ _ l1, this _ _ (Nat.lt_of_lt_of_le l1 (Nat.le_add_right ..))⟩
  · rw [z1, z3, z4]
    generalize s.heap.objs.size = n at *
    have : ∀ a b : Nat, a < b → ¬ (a = b) := fun a b h => Nat.ne_of_lt h
    simp only [List.mem_cons, List.not_mem_nil, or_false, not_or]
    exact ⟨this _ _ (Nat.lt_of_lt_of_le l2 (Nat.le_add_right ..)), this _ _ (Nat.lt_of_lt_of_le l2 (Nat.le_add_right ..)), this _ _ l2, this _ _ (Nat.lt_of_lt_of_le l2 (Nat.le_add_right ..))⟩
  · obtain ⟨o, e, r⟩ := h1
    exact ⟨o, kp _ _ e, r⟩
  · obtain ⟨o, e, r⟩ := h2
    exact ⟨o, kp _ _ e, r⟩
  · rw [z1, z2, z3, z4]
    generalize s.heap.objs.size = n
    intro b hb
    simp only [List.mem_cons, List.not_mem_nil, or_false] at hb
    rcases hb with rfl | rfl | rfl | rfl | rfl
    · exact Nat.le_add_right ..
    · exact Nat.le_add_right ..
    · exact Nat.le_add_right ..
    · exact Nat.le_refl _
    · exact Nat.le_add_right ..
end
end L2
namespace L2
open PySem PySem.Spec PyProof.Rows
/-- the pairs of the tuples at p and q, each pair a new tuple -/
def Itz (K : PySem.W.Frag) (p q : Addr) : It :=
  ⟨fun i H => ∃ xs ys x y, SqT K H p xs ∧ SqT K H q ys ∧ xs[i]? = some x ∧ ys[i]? = some y,
   fun i H v H' => ∃ T x y, H T = none ∧ v = .ref T ∧ H' = upd H T (.tup [x, y]) ∧ ∀ xs ys, SqT K H p xs → SqT K H q ys → xs[i]? = some x ∧ ys[i]? = some y,
   fun i H => ∃ xs ys, SqT K H p xs ∧ SqT K H q ys ∧ (xs.length ≤ i ∨ ys.length ≤ i)⟩
/-- what the turning zip leaves: all but four records -/
theorem Inv.zipped {X : Cx} {pins : List (Addr × Obj)} {σ : St} {H : Hp} {s : Shared} {z TO i1 i2 : Addr} {h' : Heap} {t' : Nat} (I : Inv X pins σ H s) (hf : ∀ b ∈ [z, TO, i1, i2], FpOk X pins H b) (k : Kept4 z TO i1 i2 s.heap h') : Inv X pins σ H { s with heap := h', toks := t' } := by
  have nt : ∀ b u, H b = some u → b ∉ [z, TO, i1, i2] := fun b u e hb => by
    rw [(hf b hb).1] at e
    cases e
  have nl : X.env.locals ∉ [z, TO, i1, i2] := fun hb => (hf _ hb).2.1 rfl
  refine I.step (g' := s.gens) (d' := s.drawn) (ch := [z, TO, i1, i2]) (fun b hb => ⟨(hf b hb).2.2.2.1, (hf b hb).2.1, (hf b hb).2.2.2.2.1, (hf b hb).2.2.2.2.2⟩) (fun b o _ _ hc e _ => k b o hc e) (fun b o _ _ hc e _ => ⟨o.slots, k b o hc e⟩) (fun _ _ _ _ n => n)
    (fun b o hc e => ⟨o, k b o hc e⟩) (fun _ _ e => e) (fun _ _ _ e => e) (fun b ps e => ⟨#[], by rw [e]; simp⟩) (fun m hm => ?_) (fun b u e => ?_) I.bare
  · obtain ⟨o, es, ep, ho, r⟩ := hm
    exact ⟨o, es, ep, k _ o nl ho, r⟩
  · refine (I.hok b u e).stay (fun c v hc q => k c v ?_ q) (fun _ q => q) fun _ _ q => q
    rcases hc with z | z
    · rw [z]; exact nt b u e
    · exact nt c _ z
structure ZipTn (z TI TO i1 i2 t1 t2 : Addr) (k : Nat) (h : Heap) : Prop where
  zi : IsZip h z TI TO .none
  ti : IsPair h TI (.ref i1) (.ref i2)
  to : ∃ a b, IsPair h TO a b
  a1 : h.IsTupleIter i1 t1 k
  a2 : h.IsTupleIter i2 t2 k
theorem turn_zip {P : Program} {w : World} {K : PySem.W.Frag} {elts : List Expr} {kk : Nat} {pos : Pos} {z TI TO i1 i2 t1 t2 : Addr} (D : Far z TI TO i1 i2 t1 t2) :
    Turn P w K (.Tuple elts kk pos) (Itz K t1 t2) [z, TI, TO, i1, i2] z (fun i h => ZipTn z TI TO i1 i2 t1 t2 i h) where
  mem := by simp
  obj := fun i h st b hb => by
    obtain ⟨u1, u2, ⟨a, c, u3⟩, ⟨o4, u4, _, d4⟩, ⟨o5, u5, _, d5⟩⟩ := st
    simp only [List.mem_cons, List.not_mem_nil, or_false] at hb
    rcases hb with rfl | rfl | rfl | rfl | rfl
    · exact ⟨_, u1, fun v zz => by cases zz⟩
    · exact ⟨_, u2, fun v zz => by cases zz⟩
    · exact ⟨_, u3, fun v zz => by cases zz⟩
    · exact ⟨_, u4, fun v zz => by rw [d4] at zz; cases zz⟩
    · exact ⟨_, u5, fun v zz => by rw [d5] at zz; cases zz⟩
  keep := fun i h h' st k => by
    obtain ⟨u1, u2, ⟨a, c, u3⟩, ⟨o4, u4, r4⟩, ⟨o5, u5, r5⟩⟩ := st
    exact ⟨k _ (by simp) _ u1, k _ (by simp) _ u2, ⟨a, c, k _ (by simp) _ u3⟩, ⟨o4, k _ (by simp) _ u4, r4⟩, ⟨o5, k _ (by simp) _ u5, r5⟩⟩
  item := by
    intro X hP hw hK hc i pins s σ H E I hf st hg
    subst hP hw hK
    obtain ⟨xs, ys, x, y, hq1, hq2, hx, hy⟩ := hg
    obtain ⟨its1, rv1, p1, hz1⟩ := I.tuple hq1
    obtain ⟨its2, rv2, p2, hz2⟩ := I.tuple hq2
    obtain ⟨u, hu, ru⟩ := rv1.get hx
    obtain ⟨v, hv, rv⟩ := rv2.get hy
    refine pyNext_zipI (s := s) D ⟨st.zi, st.ti, st.to, st.a1, st.a2, p1, p2⟩ (x := u) (y := v) (by simpa using hu) (by simpa using hv) fun h' Z hp hk => ⟨_, rfl, wpAny_letOwnedTupleGo_zip Z.zi fun h2 z2 sb => ?_⟩
    have hf4 : ∀ b ∈ [z, TO, i1, i2], FpOk X pins H b := fun b hb => hf b (by simp only [List.mem_cons, List.not_mem_nil, or_false] at hb ⊢; rcases hb with e | e | e | e <;> simp [e])
    have k2 : Kept4 z TO i1 i2 s.heap h2 := fun c o hc e => (sb.2 c (fun zz => hc (by simp [zz]))).trans (hk c o hc e)
    have I1 : Inv X pins σ H { s with heap := h2 } := I.zipped (t' := s.toks) hf4 k2
    have zlt : z < s.heap.objs.size := Heap.lt_size st.zi
    have at2 : IsPair h2 s.heap.objs.size u v := (sb.2 _ (Nat.ne_of_gt zlt)).trans hp
    have Hn : H s.heap.objs.size = none := I.hok.fresh (Nat.le_refl _)
    have I2 : Inv X pins σ (upd H s.heap.objs.size (.tup [x, y])) { s with heap := h2 } := by
      refine I1.adopt Hn (Heap.get?_none_of_le I.sz) (Nat.ne_of_gt I.lt) (fun xx cc e zz => ?_) (fun p hp zz => ?_) ⟨by show 2 ≤ sizeLine; decide, [u, v], .cons ru (.cons rv .nil), ⟨_, at2, rfl, ⟨0, rfl⟩, rfl⟩⟩
      · obtain ⟨_, q⟩ := I.cell xx cc e
        exact absurd q.lt (by rw [zz]; exact Nat.lt_irrefl _)
      · exact absurd (Heap.lt_size (I.pin p hp).1) (by rw [zz]; exact Nat.lt_irrefl _)
    have n5 : ∀ b ∈ [z, TI, TO, i1, i2], b ≠ s.heap.objs.size := fun b hb zz => by
      obtain ⟨u1, u2, ⟨a, c, u3⟩, ⟨o4, u4, _⟩, ⟨o5, u5, _⟩⟩ := st
      simp only [List.mem_cons, List.not_mem_nil, or_false] at hb
      rcases hb with e | e | e | e | e
      · rw [e] at zz; exact absurd (Heap.lt_size u1) (by rw [zz]; exact Nat.lt_irrefl _)
      · rw [e] at zz; exact absurd (Heap.lt_size u2) (by rw [zz]; exact Nat.lt_irrefl _)
      · rw [e] at zz; exact absurd (Heap.lt_size u3) (by rw [zz]; exact Nat.lt_irrefl _)
      · rw [e] at zz; exact absurd (Heap.lt_size u4) (by rw [zz]; exact Nat.lt_irrefl _)
      · rw [e] at zz; exact absurd (Heap.lt_size u5) (by rw [zz]; exact Nat.lt_irrefl _)
    obtain ⟨nd, _, _⟩ := D
    simp only [List.nodup_cons, List.mem_cons, List.not_mem_nil, or_false, not_or, List.nodup_nil, and_true, not_false_eq_true] at nd
    obtain ⟨⟨nzI, nzO, nz1, nz2⟩, _, _, _⟩ := nd
    obtain ⟨a, b, to⟩ := Z.to
    refine ⟨.ref s.heap.objs.size, _, I2, rfl, ⟨_, x, y, Hn, rfl, rfl, fun xs' ys' h1 h2 => ?_⟩, ⟨z2, (sb.2 _ (Ne.symm nzI)).trans Z.ti, ⟨a, b, (sb.2 _ (Ne.symm nzO)).trans to⟩, Z.a1.extBut sb.extBut (Ne.symm nz1), Z.a2.extBut sb.extBut (Ne.symm nz2)⟩, fun b hb => ?_⟩
    · rw [I.tuple_inj h1 hq1, I.tuple_inj h2 hq2]
      exact ⟨hx, hy⟩
    · rw [upd_ne (n5 b hb)]
      exact (hf b hb).1
  done := by
    intro X hP hw hK hc i pins s σ H E I hf st hg
    subst hP hw hK
    obtain ⟨xs, ys, hq1, hq2, hx⟩ := hg
    obtain ⟨its1, rv1, p1, hz1⟩ := I.tuple hq1
    obtain ⟨its2, rv2, p2, hz2⟩ := I.tuple hq2
    have l1 := rv1.length
    have l2 := rv2.length
    have hf4 : ∀ b ∈ [z, TO, i1, i2], FpOk X pins H b := fun b hb => hf b (by simp only [List.mem_cons, List.not_mem_nil, or_false] at hb ⊢; rcases hb with e | e | e | e <;> simp [e])
    exact pyNext_zipE (I.ok.hd hc) D ⟨st.zi, st.ti, st.to, st.a1, st.a2, p1, p2⟩ (by rcases hx with h | h; exact .inl (by simp; omega); exact .inr (by simp; omega)) fun h' hk => ⟨rfl, I.zipped (t' := s.toks) hf4 hk⟩
  self := fun A i s Q E st h => wpAny_pyIter_zip st.zi h
section
variable {X : Cx}
theorem bt_zip : bootBuiltins "zip" = some (.type "zip") := by decide +kernel
def iZip (K : PySem.W.Frag) (ta : TA) : TI := fun σ H R => ta σ H fun vs H1 => ∃ p q xs ys, vs = [.ref p, .ref q] ∧ SqT K H1 p xs ∧ SqT K H1 q ys ∧ R (Itz K p q) H1
theorem kpi_zip (K : PySem.W.Frag) {elts : List Expr} {kk : Nat} {tpos : Pos} {a b : Expr} {ta : TA} {p pos : Pos} (hg : Gl X "zip") (hm : X.mg "zip" = none) (ha : PA X [a, b] ta) (hs : starEach [a, b] X.env = [(false, eval a X.env), (false, eval b X.env)] := by rfl) (hs2 : starEach [b] X.env = [(false, eval b X.env)] := by rfl) (hK : X.K = K := by rfl) :
    PI X (.Tuple elts kk tpos) (.Call (.Name "zip" p) [a, b] [] pos) (iZip K ta) := by
  subst hK
  intro pins s σ H R I h
  refine Call_ (ld_blt I hg hm bt_zip (PyProof.Rows.callWith_type1 (thn (ha pos pins s σ H _ I h) fun us s1 ⟨vs, H1, I1, r1, q1⟩ => ?_) (by rw [hs, hs2]) (by rw [hs2]; rfl)))
  obtain ⟨p1, p2, xs, ys, e, hq1, hq2, q⟩ := q1
  subst e
  obtain ⟨u1, u2, rfl, r1, r2⟩ := vals2 r1
  cases r1
  cases r2
  obtain ⟨its1, rv1, t1, _⟩ := I1.tuple hq1
  obtain ⟨its2, rv2, t2, _⟩ := I1.tuple hq2
  refine call_zipT t1 t2 fun h' z TI TO i1 i2 D Z new kp => wpAny_pyIter_zip Z.zi ?_
  have I2 : Inv X pins σ H1 { s1 with heap := h' } := I1.kept (t' := s1.toks) kp
  exact ⟨z, [z, TI, TO, i1, i2], _, Itz X.K p1 p2, H1, rfl, I2, turn_zip D, ⟨Z.zi, Z.ti, Z.to, Z.a1, Z.a2⟩, fun b hb => I1.fpOk (new b hb) (I1.hok.fresh (new b hb)), q⟩
end
end L2

set_option Elab.async false
set_option linter.all false
set_option maxRecDepth 100000
set_option maxHeartbeats 4000000
namespace L2
open PySem PySem.Spec PyProof.Rows
/-- a comprehension over the pairs of two tuples, its block's names being the two -/
theorem comp_zip {K : PySem.W.Frag} {p q : Addr} {xs ys : List V} {n : Nat} {tt : TT} {te : TE} {H1 : Hp} {Q : VK} {D : Addr} (P : Nat → List V → Hp → Prop) (hn : n = min xs.length ys.length) (h0 : P 0 [] (upd H1 D (.lst [])))
    (hp : ∀ i zs H, P i zs H → H D = some (.lst zs) → SqT K H p xs ∧ SqT K H q ys)
    (hs : ∀ i zs H T x y, xs[i]? = some x → ys[i]? = some y → i < n → P i zs H → H D = some (.lst zs) → H T = none → tt [some x, some y] (upd H T (.tup [x, y])) fun b H4 => if b = true then te [some x, some y] H4 (cYes (fun σ => σ.length = 2) P n D [some x, some y] i) else cNo (fun σ => σ.length = 2) P n D [some x, some y] i H4)
    (hd : ∀ zs H, P n zs H → H D = some (.lst zs) → Q (.ref D) H) :
    CompGo (Itz K p q) (gTup K 2 (gCons (gName 0) (gCons (gName 1) gNil))) tt te [none, none] H1 Q D := by
  refine ⟨cW (fun σ => σ.length = 2) P n D, ⟨n, by simp [cW]; exact ⟨_, h0, upd_same⟩⟩, ?_⟩
  rintro i m σ' H' ⟨rfl, hi, r, zs, pp, hD⟩
  obtain ⟨q1, q2⟩ := hp i zs H' pp hD
  by_cases hlt : i < n
  · have k1 : xs[i]? = some (xs.getD i .non) := by simp [List.getD, show i < xs.length by omega]
    have k2 : ys[i]? = some (ys.getD i .non) := by simp [List.getD, show i < ys.length by omega]
    refine .inr ⟨⟨xs, ys, _, _, q1, q2, k1, k2⟩, ?_⟩
    rintro v H2 ⟨T, x, y, hT, rfl, rfl, hall⟩
    obtain ⟨e1, e2⟩ := hall xs ys q1 q2
    match σ', r with
    | [s1, s2], _ => exact ⟨T, _, rfl, SqT.of upd_same, rfl, _, _, rfl, _, _, rfl, rfl, hs i zs H' T x y e1 e2 hlt pp hD hT⟩
  · have e : i = n := by omega
    subst e
    exact .inl ⟨⟨xs, ys, q1, q2, by omega⟩, hd zs H' pp hD⟩
section
variable {X : Cx}
theorem op_le_str : OpR X (compareOp .LtE) (fun x y H Q => ∃ i j, x = .str i ∧ y = .str j ∧ Q (.bl (!decide (j.cps.toList < i.cps.toList))) H) := by
  intro pins s σ H x y v u Q I rx ry h
  obtain ⟨i, j, rfl, rfl, q⟩ := h
  obtain ⟨t, rfl⟩ := rx
  obtain ⟨t', rfl⟩ := ry
  exact PySem.P.le_str (fin_bl I q rfl)
theorem vals_strs : ∀ (tk : Tok) (ys : List Str), Vals (ys.map V.str) (strsFrom tk ys)
  | _, [] => .nil
  | tk, y :: ys => .cons ⟨_, rfl⟩ (vals_strs (tk + 1) ys)
/-- z.split(y) -/
def rSplit : V → List V → Hp → VK → Prop := fun x vs H Q => ∃ z y, x = .str z ∧ vs = [.str y] ∧ (y.length == 0) = false ∧ z.length + 2 ≤ sizeLine ∧ ∀ l, H l = none → Q (.ref l) (upd H l (.lst ((PySem.Txt.split z y).map V.str)))
theorem mt_split : MtR X "str.split" rSplit := by
  intro pins s σ H x vs v us Q I rx rv h
  obtain ⟨z, y, rfl, rfl, hy, hz, q⟩ := h
  obtain ⟨t, rfl⟩ := rx
  obtain ⟨u, rfl, t', rfl⟩ := vals1 rv
  have fr := I.hok.fresh (Nat.le_refl s.heap.objs.size)
  have hl := PyProof.Rows.split_le z y
  have fin : ∀ (us : List Value) (tk : Nat), Vals ((PySem.Txt.split z y).map V.str) us → EP X pins σ Q (.ref s.heap.objs.size) { s with heap := s.heap.push { cls := .type "list", data := .seq us.toArray }, toks := tk } := fun us tk r =>
    ⟨.ref s.heap.objs.size, _, I.laid (t' := tk) (o := .lst ((PySem.Txt.split z y).map V.str)) (fun b o e => Heap.get?_push_of_some _ e) (Nat.le_refl _) ⟨by rw [List.length_map]; omega, us, 0, r, Heap.get?_push_size _ rfl⟩, rfl, q _ fr⟩
  cases h1 : (decide (z.length < y.length) || decide (Builtin.Str.strKind z < Builtin.Str.strKind y))
  · cases hf : (Builtin.Str.occurrences z y 0 z.length (z.length + 1)).isEmpty
    · have es : PySem.Txt.split z y = Builtin.Str.partsBetween z (Builtin.Str.occurrences z y 0 z.length (z.length + 1)) y.length := by
        unfold PySem.Txt.split
        rw [h1, hf]
        rfl
      refine call_meets F.slot_str_split (typeIs_str _ _ _) F.entry_str_split (F.args_str_split_2 _ _) (meets_str_split_sep z y t t' h1 hy hf (by omega) (by rw [← es]; omega)) ?_
      exact fin _ _ (by rw [es]; exact vals_strs _ _)
    · have es : PySem.Txt.split z y = [z] := by
        unfold PySem.Txt.split
        rw [h1, hf]
        rfl
      exact call_meets F.slot_str_split (typeIs_str _ _ _) F.entry_str_split (F.args_str_split_2 _ _) (meets_str_split_not_found z y t t' h1 hy hf) (fin [.str z t] s.toks (by rw [es]; exact .cons ⟨t, rfl⟩ .nil))
  · have es : PySem.Txt.split z y = [z] := by
      unfold PySem.Txt.split
      rw [h1]
      rfl
    exact call_meets F.slot_str_split (typeIs_str _ _ _) F.entry_str_split (F.args_str_split_2 _ _) (meets_str_split_cannot_occur z y t t' h1) (fin [.str z t] s.toks (by rw [es]; exact .cons ⟨t, rfl⟩ .nil))
/-- z.find(y) -/
def rFind : V → List V → Hp → VK → Prop := fun x vs H Q => ∃ z y, x = .str z ∧ vs = [.str y] ∧ Q (.int (PySem.Txt.find z y)) H
theorem mt_find : MtR X "str.find" rFind := by
  intro pins s σ H x vs v us Q I rx rv h
  obtain ⟨z, y, rfl, rfl, q⟩ := h
  obtain ⟨t, rfl⟩ := rx
  obtain ⟨u, rfl, t', rfl⟩ := vals1 rv
  exact SC.find ⟨.int _, H, I.tok _, ⟨_, rfl⟩, q⟩
end
/-! == and != of things that are alike, tuples within tuples -/
def Alike (H : Hp) : Nat → V → V → Prop
  | 0, v, u => v = u ∧ flatV v = true
  | n + 1, v, u => (v = u ∧ flatV v = true) ∨ ∃ a b xs ys, v = .ref a ∧ u = .ref b ∧ H a = some (.tup xs) ∧ H b = some (.tup ys) ∧ Paired (Alike H n) xs ys
theorem eqV_self {v : V} (h : flatV v = true) : eqV v v = true := by
  cases v with
  | non => rfl
  | bl b => simp [eqV]
  | int i => simp [eqV]
  | str x => simp [eqV]
  | _ => cases h
theorem Paired.at {α β : Type} {F : α → β → Prop} : ∀ {l₁ : List α} {l₂ : List β}, Paired F l₁ l₂ → ∀ (i : Nat) (x : α) (y : β), l₁[i]? = some x → l₂[i]? = some y → F x y
  | _, _, .nil, i, x, y, h, _ => by simp at h
  | _, _, .cons r t, 0, x, y, h, k => by simp at h k; subst h k; exact r
  | _, _, .cons r t, i + 1, x, y, h, k => Paired.at t i x y (by simpa using h) (by simpa using k)
section
variable {X : Cx} {pins : List (Addr × Obj)} {σ : St} {H : Hp} {s : Shared}
theorem alike_parts {A : Around} {n : Nat} {xs ys : List V} {us vs : List Value} (ih : ∀ {v u : V} {v' u' : Value}, RelV v v' → RelV u u' → Alike H n v u → SeqAt.EqAt A s v' u' true) (r1 : Vals xs us) (r2 : Vals ys vs) (pr : Paired (Alike H n) xs ys) (j : Nat) (h1 : j < us.toArray.size) (h2 : j < vs.toArray.size) :
    SeqAt.EqAt A s us.toArray[j] vs.toArray[j] true := by
  have l1 := r1.length
  have l2 := r2.length
  have g1 : j < us.length := by simpa using h1
  have g2 : j < vs.length := by simpa using h2
  have k1 : xs[j]? = some (xs.getD j .non) := by simp [List.getD, show j < xs.length by omega]
  have k2 : ys[j]? = some (ys.getD j .non) := by simp [List.getD, show j < ys.length by omega]
  obtain ⟨u, e1, q1⟩ := r1.get k1
  obtain ⟨v, e2, q2⟩ := r2.get k2
  have w1 : us.toArray[j] = u := by
    rw [List.getElem?_eq_getElem g1] at e1
    simpa using Option.some.inj e1
  have w2 : vs.toArray[j] = v := by
    rw [List.getElem?_eq_getElem g2] at e2
    simpa using Option.some.inj e2
  rw [w1, w2]
  exact ih q1 q2 (Paired.at pr j _ _ k1 k2)
theorem alike_eq (I : Inv X pins σ H s) : ∀ (n : Nat) {A : Around} {v u : V} {v' u' : Value}, A.units + n < cLine → RelV v v' → RelV u u' → Alike H n v u → SeqAt.EqAt A s v' u' true
  | 0, A, v, u, v', u', _, r1, r2, h => by
    obtain ⟨rfl, f⟩ := h
    have := eqAt_V (A := A) (s := s) r1 r2 f f
    rw [eqV_self f] at this
    exact this
  | n + 1, A, v, u, v', u', hu, r1, r2, h => by
    rcases h with ⟨rfl, f⟩ | ⟨a, b, xs, ys, rfl, rfl, ha, hb, pr⟩
    · have := eqAt_V (A := A) (s := s) r1 r2 f f
      rw [eqV_self f] at this
      exact this
    · cases r1
      cases r2
      by_cases ab : a = b
      · subst ab
        exact SeqAt.EqAt.same _
      · obtain ⟨_, us, q1, p1⟩ := I.hok a _ ha
        obtain ⟨_, vs, q2, p2⟩ := I.hok b _ hb
        have ln := Paired.length pr
        have l1 := q1.length
        have l2 := q2.length
        have z := SeqAt.RcAt.tuples (A := A) (s := s) (e := fun _ => true) p1.isTup p2.isTup (by omega) (alike_parts (A := A.in1) (fun {v u v' u'} a1 a2 a3 => alike_eq I n (A := A.in1) (by show A.units + 1 + n < cLine; omega) a1 a2 a3) q1 q2 pr)
        have e : ((List.range (min us.toArray.size vs.toArray.size)).all (fun _ => true) && us.toArray.size == vs.toArray.size) = true := by
          simp; omega
        rw [e] at z
        exact SeqAt.EqAt.of_refs ab z
def rNeD (n : Nat) : R2 := fun x y H Q => ∃ a b xs ys, x = .ref a ∧ y = .ref b ∧ H a = some (.tup xs) ∧ H b = some (.tup ys) ∧ Paired (Alike H n) xs ys ∧ Q (.bl false) H
theorem op_neD (n : Nat) {k : Nat} (hr : Room k X.A) (hn : n ≤ 20) : OpR X (compareOp .NotEq) (rNeD n) := by
  intro pins s σ H x y v u Q I rx ry h
  obtain ⟨a, b, xs, ys, rfl, rfl, ha, hb, pr, q⟩ := h
  cases rx
  cases ry
  have hu : X.A.units + 64 < cLine := hr.units
  obtain ⟨_, us, q1, p1⟩ := I.hok a _ ha
  obtain ⟨_, vs, q2, p2⟩ := I.hok b _ hb
  have ln := Paired.length pr
  have l1 := q1.length
  have l2 := q2.length
  have z := SeqAt.RcNeAt.tuples (A := X.A) (s := s) (e := fun _ => true) p1.isTup p2.isTup (by omega) (alike_parts (A := X.A.in1) (fun {v u v' u'} a1 a2 a3 => alike_eq I n (A := X.A.in1) (by show X.A.units + 1 + n < cLine; omega) a1 a2 a3) q1 q2 pr)
  have e : (!((List.range (min us.toArray.size vs.toArray.size)).all (fun _ => true) && us.toArray.size == vs.toArray.size)) = false := by
    simp; omega
  rw [e] at z
  exact z X.prog X.w _ _ ⟨.bl _, H, I, rfl, q⟩
end
end L2

set_option Elab.async false
set_option linter.all false
set_option maxRecDepth 100000
set_option maxHeartbeats 4000000
namespace L2
open PySem PySem.Spec PyProof.Rows
end L2

set_option Elab.async false
set_option linter.all false
set_option maxRecDepth 100000
set_option maxHeartbeats 4000000
namespace L4
open PySem L2
/-! pools: a list of three ints, of which nothing more is known -/
def Pool (H : Hp) (p : Addr) : Prop := ∃ r a b : Int, H p = some (.lst [.int r, .int a, .int b])
/-- all that was tracked is as it was, but for p -/
def Off (p : Addr) (H H' : Hp) : Prop := ∀ b o, b ≠ p → H b = some o → H' b = some o
/-- tuples stay -/
def Tk (H H' : Hp) : Prop := ∀ b xs, H b = some (.tup xs) → H' b = some (.tup xs)
theorem Off.refl {p : Addr} {H : Hp} : Off p H H := fun _ _ _ h => h
theorem Off.trans {p : Addr} {H H1 H2 : Hp} (a : Off p H H1) (b : Off p H1 H2) : Off p H H2 := fun c o n h => b c o n (a c o n h)
theorem Off.put {p : Addr} {H : Hp} {o : HO} : Off p H (upd H p o) := fun c u n h => by rw [upd_ne n]; exact h
theorem Off.new {p t : Addr} {H : Hp} {o : HO} (h : H t = none) : Off p H (upd H t o) := fun c u n q => by rw [upd_ne (ne_of_none q h)]; exact q
theorem Off.tk {p : Addr} {H H' : Hp} (o : Off p H H') (h : Pool H p) : Tk H H' := fun b xs q => by
  obtain ⟨r, a, c, e⟩ := h
  exact o b _ (ne_of q e (by intro z; cases z)) q
theorem Tk.trans {H H1 H2 : Hp} (a : Tk H H1) (b : Tk H1 H2) : Tk H H2 := fun c xs h => b c xs (a c xs h)
theorem Tk.new {t : Addr} {H : Hp} {o : HO} (h : H t = none) : Tk H (upd H t o) := fun c u q => by rw [upd_ne (ne_of_none q h)]; exact q
theorem Tk.put {t : Addr} {H : Hp} {xs : List V} {o : HO} (h : H t = some (.lst xs)) : Tk H (upd H t o) := fun c u q => by rw [upd_ne (ne_of q h (by intro z; cases z))]; exact q
theorem Pool.put {H : Hp} {p : Addr} {r a b : Int} : Pool (upd H p (.lst [.int r, .int a, .int b])) p := ⟨r, a, b, upd_same⟩
theorem Pool.new {H : Hp} {p t : Addr} {o : HO} (h : Pool H p) (n : H t = none) : Pool (upd H t o) p := by
  obtain ⟨r, a, b, e⟩ := h
  exact ⟨r, a, b, by rw [upd_ne (ne_of_none e n)]; exact e⟩
theorem Pool.off {H : Hp} {p t : Addr} {o : HO} (h : Pool H p) (n : p ≠ t) : Pool (upd H t o) p := by
  obtain ⟨r, a, b, e⟩ := h
  exact ⟨r, a, b, by rw [upd_ne n]; exact e⟩
def spPool : Sp := fun vs H Q _ => ∃ c : Int, vs = [.int c] ∧ ∀ p r a b, H p = none → Q (.ref p) (upd H p (.lst [.int r, .int a, .int b]))
def spDraw : Sp := fun vs H Q _ => ∃ (p : Addr) (m : Int), vs = [.ref p, .int m] ∧ Pool H p ∧ 0 < m ∧ m < 1073741824 ∧ ∀ v H', 0 ≤ v → v < m → Off p H H' → Pool H' p → Q (.int v) H'
theorem same_new {H : Hp} {p : Addr} (h : H p = none) (o : HO) : Same H (upd H p o) := fun b u q => by rw [upd_ne (ne_of_none q h)]; exact q
theorem Off.fresh {p f : Addr} {H H' : Hp} {o : HO} (h : Off p H H') (n : H f = none) : Off p H (upd H' f o) := fun b u hb q => by rw [upd_ne (ne_of_none q n)]; exact h b u hb q
theorem Off.of {p : Addr} {H H' : Hp} (s : Same H H') : Off p H H' := fun b o _ q => s b o q
theorem Tk.of {H H' : Hp} (s : Same H H') : Tk H H' := fun b xs q => s b _ q
theorem take_snoc {α : Type} {xs : List α} {i : Nat} {x : α} (h : xs[i]? = some x) : xs.take (i + 1) = xs.take i ++ [x] := by rw [List.take_add_one, h]; rfl
theorem small9 {n : Nat} (h : n ≤ 1000) : n ≤ sizeLine := Nat.le_of_lt (small1000 h)
end L4

set_option Elab.async false
set_option linter.all false
set_option maxRecDepth 100000
set_option maxHeartbeats 4000000
namespace Fr
end Fr
namespace Fr
end Fr
namespace L4
open PySem L2
/-! fractions at the heap: pairs in lowest terms, of at most n bits -/
end L4

set_option Elab.async false
set_option linter.all false
namespace L2
open PySem PySem.Spec PyProof.Rows
variable {X : Cx}
theorem pe_globR {x : Str} {v : V} {pos : Pos} (hg : Gl X x) (hm : ∃ u, X.mg x = some u ∧ RelV v u) (hd : (x == ("__debug__" : Str)) = false := by decide) : PE X (.Name x pos) (tC v) := by
  obtain ⟨u, h, r⟩ := hm
  exact pe_glob hg h r hd
end L2

set_option Elab.async false
set_option linter.all false
set_option maxRecDepth 100000
set_option maxHeartbeats 4000000
namespace HT
open PySem PyProof.Rows
open PySem.SeqAt
open PySem.AutoSeq1 (wpAny_loadPart')
open PySem.MeetsSeq PySem.MeetsSeq2 PySem.MeetsSeq3
variable {prog : Program} {w : World} {A : Around} {E : Value → Shared → Prop} {s : Shared}
theorem getItem_tuple_whole {t sl : Addr} {items : Array Value} {vl vu : Value} {lo hi : Option Int} {Q : Value → Shared → Prop} (ht : IsTup s.heap t items) (hs : s.heap.IsSliceOf sl vl vu .none) (pl : IsPart vl lo) (pu : IsPart vu hi)
    (hw : sIx items.size 0 lo = 0 ∧ sIx items.size items.size hi = items.size)
    (h : Q (.ref t) s) : wpAny (model prog w) A (getItem (.ref t) (.ref sl)) Q E s := by
  obtain ⟨os, hos, hcs, hds⟩ := id hs
  have hTs : s.TypeIs (.ref sl) "slice" := ⟨os, hos, hcs⟩
  unfold getItem
  try with_reducible refine wpAny_holding ?_
  first | refine wpAny_bind (wpAny_pure ?_) | skip
  refine wpAny_bind (wpAny_sequenceKey ht.typeIs (by decide) ?_)
  refine wpAny_bind (wpAny_callSpecial?_slot (name := Str.ofString "__getitem__") ht.typeIs PyProof.Rows.slot_tuple_getitem
    (wpAny_call_entry PyProof.Rows.slot_tuple_getitem ht.typeIs entry_tuple_getitem ?_ (args_tuple_getitem _ _)))
  show wpAny _ _ (Builtin.Tuple.tupleItemsOf (.ref t) >>= _) _ _ s
  refine wpAny_bind (tupleItemsOf_ ht ?_)
  refine wpAny_bind (wpAny_typeOf hTs ?_)
  rw [if_pos (by decide)]
  refine wpAny_bind (sliceApplied_gen hs pl pu ?_)
  have hyes : (((sIx items.size 0 lo : Nat) : Int) == 0 && (1 : Int) == 1 && (sIx items.size items.size hi - sIx items.size 0 lo) == items.size) = true := by
    rw [hw.1, hw.2]
    simp
  show wpAny _ _ (if (((sIx items.size 0 lo : Nat) : Int) == 0 && (1 : Int) == 1 && (sIx items.size items.size hi - sIx items.size 0 lo) == items.size) = true then _ else _) _ _ s
  rw [if_pos hyes]
  refine wpAny_bind (m := Builtin.Tuple.tupleIsExact _) (wpAny_bind (wpAny_typeOf ht.typeIs (wpAny_pure ?_)))
  rw [if_pos (by decide)]
  first
    | exact wpAny_bind (wpAny_rule (wpAny_pure ⟨_, rfl, wpAny_pure h⟩))
    | exact wpAny_rule (wpAny_pure ⟨_, rfl, wpAny_pure h⟩)
    | exact wpAny_bind (wpAny_rule ⟨_, rfl, wpAny_pure h⟩)
    | exact wpAny_pure ⟨_, rfl, wpAny_pure h⟩
end HT
namespace L2
open PySem PySem.Spec PyProof.Rows
variable {X : Cx}
def rSlTW (K : PySem.W.Frag) : V → Option Int → Option Int → Hp → VK → Prop := fun x lo hi H Q => ∃ a xs, x = .ref a ∧ SqT K H a xs ∧
  (HT.sIx xs.length 0 lo = 0 ∧ HT.sIx xs.length xs.length hi = xs.length) ∧ Q (.ref a) H
theorem sl_tupW : SlR X (rSlTW X.K) := by
  intro pins s σ H x v vl vu lo hi sl Q I rx hs pl pu h
  obtain ⟨a, xs, rfl, hx, hw, q⟩ := h
  cases rx
  obtain ⟨its, r, ht, hz⟩ := I.tuple hx
  have hlen : its.toArray.size = xs.length := by rw [List.size_toArray]; exact r.length.symm
  refine ⟨"tuple", _, PyProof.Rows.slot_tuple_getitem.lookup, ht.typeIs, ?_⟩
  exact HT.getItem_tuple_whole ht hs pl pu (by rw [hlen]; exact hw) ⟨.ref a, H, I, rfl, q⟩
theorem ksl_tupA (K : PySem.W.Frag) (hK : X.K = K := by rfl) : SlR X (fun x lo hi H Q => rSlT K x lo hi H Q ∨ rSlTW K x lo hi H Q) := hK ▸ sl_tup.or sl_tupW
end L2

set_option Elab.async false
set_option linter.all false
set_option maxRecDepth 100000
set_option maxHeartbeats 4000000
namespace L2
open PySem PySem.Spec PyProof.Rows
section
variable {X : Cx}
theorem op_isB : OpR X (compareOp .Is) (fun x y H Q => ∃ a b, x = .bl a ∧ y = .bl b ∧ Q (.bl (a == b)) H) := by
  intro pins s σ H x y v u Q I rx ry h
  obtain ⟨a, b, rfl, rfl, q⟩ := h
  cases rx
  cases ry
  exact is_bool (fin_bl I q rfl)
theorem op_notB : OpR X (compareOp .IsNot) (fun x y H Q => ∃ a b, x = .bl a ∧ y = .bl b ∧ Q (.bl (a != b)) H) := by
  intro pins s σ H x y v u Q I rx ry h
  obtain ⟨a, b, rfl, rfl, q⟩ := h
  cases rx
  cases ry
  exact isnot_bool (fin_bl I q rfl)
/-- t + u -/
def rCatA (K : PySem.W.Frag) : R2 := fun x y H Q => ∃ a b xs ys, x = .ref a ∧ y = .ref b ∧ SqT K H a xs ∧ SqT K H b ys ∧ xs.length + ys.length ≤ sizeLine ∧
  (xs = [] → Q (.ref b) H) ∧ (xs ≠ [] → ys = [] → Q (.ref a) H) ∧ (xs ≠ [] → ys ≠ [] → ∀ p, H p = none → Q (.ref p) (upd H p (.tup (xs ++ ys))))
theorem op_catA (K : PySem.W.Frag) (hK : X.K = K := by rfl) : OpR X (binaryOp .Add) (rCatA K) := by
  subst hK
  intro pins s σ H x y v u Q I rx ry h
  obtain ⟨a, b, xs, ys, rfl, rfl, ha, hb, hz, q0, q1, q2⟩ := h
  by_cases hx : xs = []
  · cases rx
    cases ry
    obtain ⟨its, r1, p1, _⟩ := I.tuple ha
    obtain ⟨its2, r2, p2, _⟩ := I.tuple hb
    obtain ⟨⟨cls, dd, data, sl⟩, ho, hc, n, hd⟩ := id p1
    obtain ⟨⟨cls2, dd2, data2, sl2⟩, ho2, hc2, n2, hd2⟩ := id p2
    simp only at hc hd hc2 hd2
    subst hc hd hc2 hd2
    have hv : its = [] := (Vals.nil_iff r1).mpr hx
    exact concat_meets ⟨_, ho, rfl⟩ ⟨_, ho2, rfl⟩ noFill_tuple_add seq_tuple_add PySem.F.slot_tuple_add PySem.F.entry_tuple_add (PySem.F.args_tuple_add_2 _ _)
      (tuple_addW0 a b its.toArray its2.toArray n n2 dd dd2 sl sl2 (by simp [hv])) ⟨ho, ho2, ⟨.ref b, H, I, rfl, q0 hx⟩⟩
  · exact op_catT pins s σ H _ _ v u Q I rx ry ⟨a, b, xs, ys, rfl, rfl, ha, hb, hx, hz, q1 hx, q2 hx⟩
end
end L2

set_option Elab.async false
set_option linter.all false
set_option maxRecDepth 100000
set_option maxHeartbeats 4000000
namespace L4
open PySem L2
/-! names and pigeons -/
theorem le_of_sub : ∀ (l ns : List Str), l.Nodup → (∀ x ∈ l, x ∈ ns) → l.length ≤ ns.length
  | [], ns, _, _ => Nat.zero_le _
  | x :: l, ns, nd, h => by
    obtain ⟨n1, n2⟩ := List.nodup_cons.mp nd
    have ih := le_of_sub l (ns.erase x) n2 fun y hy => (List.mem_erase_of_ne (fun (e : y = x) => n1 (e ▸ hy))).mpr (h y (List.mem_cons_of_mem _ hy))
    have hx := h x List.mem_cons_self
    have e := List.length_erase_of_mem hx
    have pos : 0 < ns.length := List.length_pos_of_mem hx
    rw [List.length_cons]
    omega
def glue (z : Str) (c : Nat) : Str := z ++ ⟨#[c]⟩
theorem glue_inj {z : Str} {c d : Nat} (h : glue z c = glue z d) : c = d := by
  have e : z.cps ++ #[c] = z.cps ++ #[d] := congrArg Str.cps h
  have e2 := congrArg Array.toList e
  simp at e2
  exact e2
theorem nodup_glue (z : Str) : ∀ cs : List Nat, cs.Nodup → (cs.map (glue z)).Nodup
  | [], _ => List.nodup_nil
  | c :: cs, nd => by
    obtain ⟨n1, n2⟩ := List.nodup_cons.mp nd
    rw [List.map_cons]
    refine List.nodup_cons.mpr ⟨fun hm => ?_, nodup_glue z cs n2⟩
    obtain ⟨d, hd, e⟩ := List.mem_map.mp hm
    exact n1 (glue_inj e ▸ hd)
theorem pick_new (z : Str) (cs : List Nat) (nd : cs.Nodup) (ns : List Str) (h : ns.length < cs.length) : ∃ c ∈ cs, glue z c ∉ ns := by
  refine Classical.byContradiction fun hn => ?_
  have all : ∀ x ∈ cs.map (glue z), x ∈ ns := fun x hx => by
    obtain ⟨c, hc, e⟩ := List.mem_map.mp hx
    refine Classical.byContradiction fun hx' => hn ⟨c, hc, e ▸ hx'⟩
  have := le_of_sub _ ns (nodup_glue z cs nd) all
  rw [List.length_map] at this
  omega
/-! half tables as data -/
structure Conn where
  nm : Str
  pl : Int
  cs : List (Option Int)
def cellV : Option Int → V
  | none => .non
  | some i => .int i
def Conns (H : Hp) : List Conn → List V → Prop
  | [], vs => vs = []
  | c :: r, vs => ∃ t u rest, vs = .ref t :: rest ∧ H t = some (.tup [.str c.nm, .int c.pl, .ref u]) ∧ H u = some (.tup (c.cs.map cellV)) ∧ Conns H r rest
theorem Conns.tk {H H' : Hp} (k : Tk H H') : ∀ {cs : List Conn} {vs : List V}, Conns H cs vs → Conns H' cs vs
  | [], _, h => h
  | _ :: _, _, ⟨t, u, rest, e, h1, h2, h3⟩ => ⟨t, u, rest, e, k _ _ h1, k _ _ h2, h3.tk k⟩
theorem Conns.len {H : Hp} : ∀ {cs : List Conn} {vs : List V}, Conns H cs vs → vs.length = cs.length
  | [], _, h => by cases h; rfl
  | _ :: _, _, ⟨t, u, rest, e, h1, h2, h3⟩ => by rw [e, List.length_cons, List.length_cons, h3.len]
theorem Conns.snoc {H : Hp} {c : Conn} {t u : Addr} (h1 : H t = some (.tup [.str c.nm, .int c.pl, .ref u])) (h2 : H u = some (.tup (c.cs.map cellV))) : ∀ {cs : List Conn} {vs : List V}, Conns H cs vs → Conns H (cs ++ [c]) (vs ++ [.ref t])
  | [], _, h => by cases h; exact ⟨t, u, [], rfl, h1, h2, rfl⟩
  | _ :: _, _, ⟨t', u', rest, e, q1, q2, q3⟩ => ⟨t', u', rest ++ [.ref t], by rw [e]; rfl, q1, q2, q3.snoc h1 h2⟩
theorem Conns.get {H : Hp} : ∀ {cs : List Conn} {vs : List V} {i : Nat} {c : Conn}, Conns H cs vs → cs[i]? = some c → ∃ t u, vs[i]? = some (.ref t) ∧ H t = some (.tup [.str c.nm, .int c.pl, .ref u]) ∧ H u = some (.tup (c.cs.map cellV))
  | [], _, _, _, _, e => by simp at e
  | _ :: _, _, 0, _, ⟨t, u, rest, e, h1, h2, h3⟩, q => by
    simp at q
    subst q
    exact ⟨t, u, by rw [e]; rfl, h1, h2⟩
  | _ :: _, _, i + 1, _, ⟨t, u, rest, e, h1, h2, h3⟩, q => by
    obtain ⟨t', u', a, b⟩ := h3.get (i := i) (by simpa using q)
    exact ⟨t', u', by rw [e]; simpa using a, b⟩
structure Half where
  m : Int
  ws : List Int
  cs : List Conn
def IsHalf (H : Hp) (v : V) (T : Half) : Prop := ∃ a w c vs, v = .ref a ∧ H a = some (.tup [.int T.m, .ref w, .ref c]) ∧ H w = some (.tup (T.ws.map .int)) ∧ H c = some (.tup vs) ∧ Conns H T.cs vs
theorem IsHalf.tk {H H' : Hp} {v : V} {T : Half} (k : Tk H H') (h : IsHalf H v T) : IsHalf H' v T := by
  obtain ⟨a, w, c, vs, e, h1, h2, h3, h4⟩ := h
  exact ⟨a, w, c, vs, e, k _ _ h1, k _ _ h2, k _ _ h3, h4.tk k⟩
def isN : Option Int → Bool
  | none => true
  | some _ => false
def nonesC (c : Conn) : Nat := c.cs.countP isN
def nones (T : Half) : Nat := (T.cs.map nonesC).sum
theorem flat_cells (cs : List (Option Int)) : (cs.map cellV).all flatV = true := by
  rw [List.all_eq_true]
  intro x hx
  obtain ⟨c, _, rfl⟩ := List.mem_map.mp hx
  cases c <;> rfl
theorem count_cells (cs : List (Option Int)) : ((cs.map cellV).countP fun z => eqV z .non) = cs.countP isN := by
  induction cs with
  | nil => rfl
  | cons c cs ih =>
    rw [List.map_cons, List.countP_cons, List.countP_cons, ih]
    cases c <;> rfl
/-- of moderate size -/
def Fits (T : Half) : Prop := 1 ≤ T.m ∧ T.m ≤ 9 ∧ T.ws.length ≤ 9 ∧ T.cs.length ≤ 8 ∧ ∀ c ∈ T.cs, c.cs.length ≤ 81
theorem nonesC_le (c : Conn) : nonesC c ≤ c.cs.length := List.countP_le_length
theorem nones_le : ∀ (cs : List Conn), (∀ c ∈ cs, c.cs.length ≤ 81) → (cs.map nonesC).sum ≤ cs.length * 81
  | [], _ => Nat.zero_le _
  | c :: cs, h => by
    have h1 := nones_le cs fun d hd => h d (List.mem_cons_of_mem _ hd)
    have h2 := h c List.mem_cons_self
    have h3 := nonesC_le c
    rw [List.map_cons, List.sum_cons, List.length_cons]
    omega
theorem Fits.nones {T : Half} (h : Fits T) : nones T ≤ 648 := by
  obtain ⟨_, _, _, h1, h2⟩ := h
  have := nones_le T.cs h2
  unfold L4.nones
  omega
end L4

set_option Elab.async false
set_option linter.all false
set_option maxRecDepth 100000
set_option maxHeartbeats 4000000
namespace L4
open PySem L2 PySem.StrLaws
/-! texts put together and taken apart again -/
theorem join_codes (y p q : Str) (r : List Str) : (Str.join y (p :: q :: r)).cps.toList = p.cps.toList ++ (y.cps.toList ++ (Str.join y (q :: r)).cps.toList) := by
  show ((p ++ y) ++ Str.join y (q :: r)).cps.toList = _
  simp [Str.cps_append]
theorem at_codes {x y : Str} {k : Nat} : At x y x.length k ↔ k + y.length ≤ x.length ∧ (x.cps.toList.drop k).take y.length = y.cps.toList := by
  unfold At
  rw [subAt_eq]
  constructor
  · rintro ⟨a, b⟩
    exact ⟨a, eq_of_beq b⟩
  · rintro ⟨a, b⟩
    exact ⟨a, beq_iff_eq.mpr b⟩
theorem at_head {x y : Str} {c k : Nat} {yt : List Nat} (hy : y.cps.toList = c :: yt) (h : At x y x.length k) : x.cps.toList[k]? = some c := by
  have e := (at_codes.mp h).2
  have hl : y.length = (c :: yt).length := by rw [← hy]; simp [Str.length]
  rw [hy, hl] at e
  have e0 := congrArg (fun l => l[0]?) e
  simpa using e0
theorem sub_codes {x : Str} {a b : Nat} : (Builtin.Str.strSub x a b).cps.toList = (x.cps.toList.drop a).take (b - a) := strSub_toList ..
theorem str_of_codes {p q : Str} (h : p.cps.toList = q.cps.toList) : p = q := by
  apply Str.ext'
  exact Array.toList_inj.mp h
theorem chain_parts {x y : Str} {c : Nat} {yt : List Nat} (hy : y.cps.toList = c :: yt) : ∀ (ps : List Str) (a f : Nat) (cuts : List Nat), ps ≠ [] → (∀ p ∈ ps, c ∉ p.cps.toList) → a ≤ x.length →
    x.cps.toList.drop a = (Str.join y ps).cps.toList → ChainG x y x.length a cuts f → (∀ k, f ≤ k → ¬ At x y x.length k) → partsFrom x y.length a cuts = ps
  | [], _, _, _, h, _, _, _, _, _ => absurd rfl h
  | [p], a, f, cuts, _, fr, ha, hd, ch, hn => by
    have hx : x.cps.toList.length = x.length := by simp [Str.length]
    have hd' : x.cps.toList.drop a = p.cps.toList := hd
    cases cuts with
    | nil =>
      show [Builtin.Str.strSub x a x.length] = [p]
      congr 1
      apply str_of_codes
      rw [sub_codes, ← hd', List.take_of_length_le]
      rw [List.length_drop, hx]
      exact Nat.le_refl _
    | cons d r =>
      exfalso
      obtain ⟨h1, h2, _⟩ := ch
      have h3 := at_head hy h2
      apply fr p List.mem_cons_self
      rw [← hd']
      have : (x.cps.toList.drop a)[d - a]? = some c := by rw [List.getElem?_drop]; rw [show a + (d - a) = d by omega]; exact h3
      exact List.mem_of_getElem? this
  | p :: q :: r, a, f, cuts, _, fr, ha, hd, ch, hn => by
    have hx : x.cps.toList.length = x.length := by simp [Str.length]
    rw [join_codes] at hd
    have hyl : y.length = y.cps.toList.length := by simp [Str.length]
    have hlen := congrArg List.length hd
    rw [List.length_drop, hx, List.length_append, List.length_append, ← hyl] at hlen
    have hA : At x y x.length (a + p.cps.toList.length) := by
      refine at_codes.mpr ⟨by omega, ?_⟩
      rw [← List.drop_drop, hd, List.drop_left, hyl, List.take_left]
    have before : ∀ k, a ≤ k → k < a + p.cps.toList.length → ¬ At x y x.length k := fun k k1 k2 hk => by
      have h3 := at_head hy hk
      apply fr p List.mem_cons_self
      have : (x.cps.toList.drop a)[k - a]? = some c := by rw [List.getElem?_drop]; rw [show a + (k - a) = k by omega]; exact h3
      rw [hd, List.getElem?_append_left (by omega)] at this
      exact List.mem_of_getElem? this
    cases cuts with
    | nil =>
      have e : f = a := ch
      exact absurd hA (hn _ (by omega))
    | cons d s =>
      obtain ⟨h1, h2, h3, h4⟩ := ch
      have ed : d = a + p.cps.toList.length := by
        by_cases z : d < a + p.cps.toList.length
        · exact absurd h2 (before d h1 z)
        · by_cases z2 : a + p.cps.toList.length < d
          · exact absurd hA (h3 _ (by omega) z2)
          · omega
      subst ed
      have ih := chain_parts hy (q :: r) (a + p.cps.toList.length + y.length) f s (by simp) (fun z hz => fr z (List.mem_cons_of_mem _ hz)) hA.1 (by
        rw [← List.drop_drop, ← List.drop_drop, hd, List.drop_left, hyl, List.drop_left]) h4 hn
      show Builtin.Str.strSub x a (a + p.cps.toList.length) :: partsFrom x y.length (a + p.cps.toList.length + y.length) s = p :: q :: r
      rw [ih]
      congr 1
      apply str_of_codes
      rw [sub_codes, hd, show a + p.cps.toList.length - a = p.cps.toList.length by omega, List.take_left]
theorem split_join {y : Str} {c : Nat} {yt : List Nat} (hy : y.cps.toList = c :: yt) (hk : Builtin.Str.strKind y = 1) {ps : List Str} (hne : ps ≠ []) (fr : ∀ p ∈ ps, c ∉ p.cps.toList) :
    Txt.split (Txt.join y ps) y = ps := by
  have ej : Txt.join y ps = Str.join y ps := glued_eq_join _ _
  rw [ej]
  generalize hx : Str.join y ps = x
  have hyl : y.length = yt.length + 1 := by
    have : y.length = y.cps.toList.length := by simp [Str.length]
    rw [this, hy]; rfl
  obtain ⟨f, hG, hn⟩ := occ_tight x y (by omega)
  have key := chain_parts hy ps 0 f _ hne fr (Nat.zero_le _) (by rw [List.drop_zero, hx]) hG hn
  have one : (x.length < y.length → [x] = ps) := fun hlt => by
    match ps, hne with
    | [p], _ => rw [← hx]; rfl
    | p :: q :: r, _ =>
      exfalso
      have := congrArg List.length (join_codes y p q r)
      rw [hx] at this
      have hxl : x.cps.toList.length = x.length := by simp [Str.length]
      have hyl2 : y.cps.toList.length = y.length := by simp [Str.length]
      rw [hxl, List.length_append, List.length_append, hyl2] at this
      omega
  have knd : 1 ≤ Builtin.Str.strKind x := by
    unfold Builtin.Str.strKind
    split
    · omega
    · split <;> omega
  unfold Txt.split
  split
  · rename_i hc
    rw [Bool.or_eq_true, decide_eq_true_eq, decide_eq_true_eq] at hc
    rcases hc with h | h
    · exact one h
    · rw [hk] at h
      omega
  · split
    · rename_i he
      have e0 : Builtin.Str.occurrences x y 0 x.length (x.length + 1) = [] := List.isEmpty_iff.mp he
      rw [e0] at key
      rw [← key]
      show [x] = [Builtin.Str.strSub x 0 x.length]
      rw [sub_whole]
    · rw [partsBetween_eq]
      exact key
/-! figures -/
def fig (d : Int) : Str := Str.ofString (toString d)
def figures : Str := Str.ofString "0123456789"
theorem fig_is {d : Int} (h0 : 0 ≤ d) (h9 : d ≤ 9) : (fig d).length = 1 ∧ 32 ∉ (fig d).cps.toList ∧ 59 ∉ (fig d).cps.toList ∧ Txt.find figures (fig d) = d := by
  have e : d = 0 ∨ d = 1 ∨ d = 2 ∨ d = 3 ∨ d = 4 ∨ d = 5 ∨ d = 6 ∨ d = 7 ∨ d = 8 ∨ d = 9 := by omega
  rcases e with rfl | rfl | rfl | rfl | rfl | rfl | rfl | rfl | rfl | rfl <;> decide +kernel
end L4

set_option Elab.async false
set_option linter.all false
set_option maxRecDepth 100000
set_option maxHeartbeats 4000000
namespace L4
open PySem L2 PySem.StrLaws
/-! good names, good half tables -/
def Small (x : Str) : Prop := ∀ c ∈ x.cps.toList, 97 ≤ c ∧ c ≤ 122
def IsName (x : Str) : Prop := 2 ≤ x.length ∧ x.length ≤ 8 ∧ Small x
def CellOk (m : Int) (o : Option Int) : Prop := ∀ i, o = some i → 0 ≤ i ∧ i < m
structure GoodC (m : Int) (c : Conn) : Prop where
  nm : IsName c.nm
  p0 : 0 ≤ c.pl
  p2 : c.pl ≤ 2
  len : (c.cs.length : Int) = m ^ c.pl.toNat
  cells : ∀ o ∈ c.cs, CellOk m o
structure Good (T : Half) : Prop where
  m1 : 1 ≤ T.m
  m9 : T.m ≤ 9
  ws : ∀ w ∈ T.ws, 0 ≤ w ∧ w < T.m
  rising : T.ws.Pairwise (· < ·)
  wl : T.ws.length ≤ 9
  few : T.cs.length ≤ 8
  nd : (T.cs.map (·.nm)).Nodup
  each : ∀ c ∈ T.cs, GoodC T.m c
def Full (T : Half) : Prop := ∀ c ∈ T.cs, ∀ o ∈ c.cs, o ≠ none
theorem len_codes (x : Str) : x.cps.toList.length = x.length := by simp [Str.length]
theorem slice7 (x : Str) : (Txt.slice x none (some 7)).cps.toList = x.cps.toList.take 7 := by
  by_cases h : (7 : Int) ≤ x.length
  · have := beq_iff_eq.mp (PyProof.Rows.slice_closes_toL (x := x) (j := 7) (by decide) h)
    rw [this]
    simp
  · rw [PyProof.Rows.slice_to_beyond (by omega), beq_iff_eq.mp (PyProof.Rows.slice_closes_toL (x := x) (j := (x.length : Int)) (by omega) (Int.le_refl _))]
    have hl := len_codes x
    rw [List.take_of_length_le (l := x.cps.toList) (i := 7) (by omega)]
    show ((x.cps.toList.drop 0).take ((x.length : Int) - 0).toNat).toArray.toList = _
    rw [List.drop_zero, show ((x.length : Int) - 0).toNat = x.cps.toList.length by omega, List.take_length]
theorem glue_codes (z : Str) (c : Nat) : (glue z c).cps.toList = z.cps.toList ++ [c] := by
  show (z ++ ⟨#[c]⟩ : Str).cps.toList = _
  simp [Str.cps_append]
theorem glue_name {z : Str} {c : Nat} (h : IsName z) (h0 : 97 ≤ c) (h1 : c ≤ 122) : IsName (glue (Txt.slice z none (some 7)) c) := by
  obtain ⟨a, b, s⟩ := h
  have e := glue_codes (Txt.slice z none (some 7)) c
  rw [slice7] at e
  have hl := len_codes (glue (Txt.slice z none (some 7)) c)
  have hz := len_codes z
  rw [e, List.length_append, List.length_take, List.length_singleton] at hl
  refine ⟨by omega, by omega, fun d hd => ?_⟩
  rw [e] at hd
  rcases List.mem_append.mp hd with q | q
  · exact s d (List.mem_of_mem_take q)
  · rw [List.mem_singleton.mp q]
    exact ⟨h0, h1⟩
theorem join0_codes : ∀ cs : List Nat, (Txt.join (Str.ofString "") (cs.map fun c => (⟨#[c]⟩ : Str))).cps.toList = cs := by
  intro cs
  have e2 : ∀ ps, Txt.join (Str.ofString "") ps = Str.join (Str.ofString "") ps := fun ps => glued_eq_join _ _
  rw [e2]
  have e0 : (Str.ofString "").cps.toList = [] := by decide +kernel
  induction cs with
  | nil => rfl
  | cons c cs ih =>
    cases cs with
    | nil => rfl
    | cons d ds =>
      rw [List.map_cons, List.map_cons, join_codes, e0, List.nil_append]
      rw [List.map_cons] at ih
      rw [ih]
      rfl
/-- a name's codes are no blanks and no semicolons -/
theorem Small.free {x : Str} (h : Small x) : 32 ∉ x.cps.toList ∧ 59 ∉ x.cps.toList := by
  refine ⟨fun z => ?_, fun z => ?_⟩
  · have := (h _ z).1
    omega
  · have := (h _ z).1
    omega
theorem name_words : IsName (Str.ofString "grades") ∧ IsName (Str.ofString "wished") := by
  refine ⟨⟨by decide +kernel, by decide +kernel, ?_⟩, ⟨by decide +kernel, by decide +kernel, ?_⟩⟩
  · unfold Small
    decide +kernel
  · unfold Small
    decide +kernel
theorem Conns.same {H H' : Hp} (k : Same H H') {cs : List Conn} {vs : List V} (h : Conns H cs vs) : Conns H' cs vs := h.tk (Tk.of k)
theorem IsHalf.same {H H' : Hp} {v : V} {T : Half} (k : Same H H') (h : IsHalf H v T) : IsHalf H' v T := h.tk (Tk.of k)
/-- the texts of a table -/
def gsOf (c : Conn) : List Int := c.cs.map fun o => o.getD 0
theorem full_cells : ∀ {cs : List (Option Int)}, (∀ o ∈ cs, o ≠ none) → cs.map cellV = (cs.map fun o => o.getD 0).map V.int
  | [], _ => rfl
  | none :: cs, h => absurd rfl (h none List.mem_cons_self)
  | some i :: cs, h => by
    rw [List.map_cons, List.map_cons, List.map_cons, full_cells fun o ho => h o (List.mem_cons_of_mem _ ho)]
    rfl
def sp1 : Str := Str.ofString " "
def sp2 : Str := Str.ofString "; "
def wordsOf (w : Str) (ns : List Int) : List Str := w :: ns.map fig
def partOf (w : Str) (ns : List Int) : Str := Txt.join sp1 (wordsOf w ns)
def wordsC (c : Conn) : List Str := wordsOf c.nm (c.pl :: gsOf c)
def wordsT (T : Half) : List (List Str) := wordsOf (Str.ofString "grades") [T.m] :: wordsOf (Str.ofString "wished") T.ws :: T.cs.map wordsC
def partsT (T : Half) : List Str := (wordsT T).map (Txt.join sp1)
def textT (T : Half) : Str := Txt.join sp2 (partsT T)
def Fig (i : Int) : Prop := 0 ≤ i ∧ i ≤ 9
theorem Good.figs {T : Half} (g : Good T) : ∀ ws ∈ wordsT T, ∃ w ns, ws = wordsOf w ns ∧ IsName w ∧ (∀ i ∈ ns, Fig i) ∧ ns.length ≤ 82 := by
  intro ws h
  have hm := g.m9
  have hm1 := g.m1
  rcases List.mem_cons.mp h with rfl | h
  · exact ⟨_, _, rfl, name_words.1, fun i hi => by rw [List.mem_singleton.mp hi]; exact ⟨by omega, hm⟩, by show 1 ≤ 82; decide⟩
  rcases List.mem_cons.mp h with rfl | h
  · exact ⟨_, _, rfl, name_words.2, fun i hi => by have := g.ws i hi; exact ⟨this.1, by omega⟩, by have := g.wl; omega⟩
  · obtain ⟨c, hc, rfl⟩ := List.mem_map.mp h
    have gc := g.each c hc
    refine ⟨_, _, rfl, gc.nm, fun i hi => ?_, ?_⟩
    · rcases List.mem_cons.mp hi with rfl | hi
      · exact ⟨gc.p0, by have := gc.p2; omega⟩
      · obtain ⟨o, ho, rfl⟩ := List.mem_map.mp hi
        have k := gc.cells o ho
        cases o with
        | none => exact ⟨by decide, by decide⟩
        | some j => have := k j rfl; exact ⟨this.1, by show j ≤ 9; omega⟩
    · have hl := gc.len
      have e : c.pl.toNat = 0 ∨ c.pl.toNat = 1 ∨ c.pl.toNat = 2 := by have := gc.p2; omega
      have hb : T.m ^ c.pl.toNat ≤ 81 := by
        have hmm : T.m * T.m ≤ 81 := Int.le_trans (Int.mul_le_mul_of_nonneg_right hm (by omega)) (by omega)
        rcases e with e | e | e <;> rw [e]
        · rw [Int.pow_zero]; decide
        · rw [Int.pow_succ, Int.pow_zero, Int.one_mul]; omega
        · rw [Int.pow_succ, Int.pow_succ, Int.pow_zero, Int.one_mul]; exact hmm
      show (c.pl :: gsOf c).length ≤ 82
      rw [List.length_cons]
      unfold gsOf
      rw [List.length_map]
      omega
theorem words_free {w : Str} {ns : List Int} (hw : IsName w) (h : ∀ i ∈ ns, Fig i) {x : Str} (hx : x ∈ wordsOf w ns) : 32 ∉ x.cps.toList ∧ 59 ∉ x.cps.toList := by
  rcases List.mem_cons.mp hx with rfl | hx
  · exact hw.2.2.free
  · obtain ⟨i, hi, rfl⟩ := List.mem_map.mp hx
    have := fig_is (h i hi).1 (h i hi).2
    exact ⟨this.2.1, this.2.2.1⟩
theorem join_free {c : Nat} {y : Str} (hy : c ∉ y.cps.toList) : ∀ ps : List Str, (∀ p ∈ ps, c ∉ p.cps.toList) → c ∉ (Txt.join y ps).cps.toList := by
  intro ps h
  have ej : Txt.join y ps = Str.join y ps := glued_eq_join _ _
  rw [ej]
  induction ps with
  | nil => intro z; exact absurd z (by show c ∉ (Str.empty).cps.toList; simp [Str.empty])
  | cons p ps ih =>
    cases ps with
    | nil => exact h p List.mem_cons_self
    | cons q r =>
      rw [join_codes]
      intro z
      rcases List.mem_append.mp z with z | z
      · exact h p List.mem_cons_self z
      rcases List.mem_append.mp z with z | z
      · exact hy z
      · exact ih (fun a ha => h a (List.mem_cons_of_mem _ ha)) (glued_eq_join _ _) z
theorem part_split {w : Str} {ns : List Int} (hw : IsName w) (h : ∀ i ∈ ns, Fig i) : Txt.split (partOf w ns) sp1 = wordsOf w ns :=
  split_join (c := 32) (yt := []) (by decide +kernel) (by decide +kernel) (by simp [wordsOf]) fun p hp => (words_free hw h hp).1
theorem text_split {T : Half} (g : Good T) : Txt.split (textT T) sp2 = partsT T := by
  refine split_join (c := 59) (yt := [32]) (by decide +kernel) (by decide +kernel) (by simp [partsT, wordsT]) fun p hp => ?_
  obtain ⟨ws, hws, rfl⟩ := List.mem_map.mp hp
  obtain ⟨w, ns, rfl, h1, h2, _⟩ := g.figs ws hws
  exact join_free (by decide +kernel) _ fun x hx => (words_free h1 h2 hx).2
theorem sum_ones : ∀ ns : List Int, (∀ i ∈ ns, Fig i) → ((ns.map fig).map (·.length)).sum = ns.length
  | [], _ => rfl
  | i :: ns, h => by
    have := (fig_is (h i List.mem_cons_self).1 (h i List.mem_cons_self).2).1
    rw [List.map_cons, List.map_cons, List.sum_cons, sum_ones ns fun j hj => h j (List.mem_cons_of_mem _ hj), List.length_cons]
    omega
theorem part_len {w : Str} {ns : List Int} (hw : IsName w) (h : ∀ i ∈ ns, Fig i) (hl : ns.length ≤ 82) : ((wordsOf w ns).map (·.length)).sum + (wordsOf w ns).length * sp1.length ≤ 200 ∧ (partOf w ns).length ≤ 200 := by
  have e : sp1.length = 1 := by decide +kernel
  have b : ((wordsOf w ns).map (·.length)).sum + (wordsOf w ns).length * sp1.length ≤ 200 := by
    unfold wordsOf
    rw [List.map_cons, List.sum_cons, sum_ones ns h, List.length_cons, List.length_map, e]
    have := hw.2.1
    omega
  refine ⟨b, ?_⟩
  have j := StrLaws.join_length_le sp1 (wordsOf w ns)
  have ej : Txt.join sp1 (wordsOf w ns) = Str.join sp1 (wordsOf w ns) := glued_eq_join _ _
  unfold partOf
  rw [ej]
  omega
theorem sum_le : ∀ (ps : List Str), (∀ p ∈ ps, p.length ≤ 200) → (ps.map (·.length)).sum ≤ ps.length * 200
  | [], _ => Nat.zero_le _
  | p :: ps, h => by
    have h1 := h p List.mem_cons_self
    have h2 := sum_le ps fun q hq => h q (List.mem_cons_of_mem _ hq)
    rw [List.map_cons, List.sum_cons, List.length_cons]
    omega
theorem parts_len {T : Half} (g : Good T) : (∀ p ∈ partsT T, p.length ≤ 200) ∧ (partsT T).length ≤ 10 := by
  refine ⟨fun p hp => ?_, ?_⟩
  · obtain ⟨ws, hws, rfl⟩ := List.mem_map.mp hp
    obtain ⟨w, ns, rfl, h1, h2, h3⟩ := g.figs ws hws
    exact (part_len h1 h2 h3).2
  · have := g.few
    unfold partsT wordsT
    rw [List.length_map, List.length_cons, List.length_cons, List.length_map]
    omega
theorem text_len {T : Half} (g : Good T) : ((partsT T).map (·.length)).sum + (partsT T).length * sp2.length ≤ 2100 ∧ (textT T).length ≤ 2100 := by
  have e : sp2.length = 2 := by decide +kernel
  obtain ⟨h1, h2⟩ := parts_len g
  have hs := sum_le _ h1
  have b : ((partsT T).map (·.length)).sum + (partsT T).length * sp2.length ≤ 2100 := by
    rw [e]
    omega
  refine ⟨b, ?_⟩
  have j := StrLaws.join_length_le sp2 (partsT T)
  have ej : Txt.join sp2 (partsT T) = Str.join sp2 (partsT T) := glued_eq_join _ _
  unfold textT
  rw [ej]
  omega
end L4

set_option Elab.async false
set_option linter.all false
set_option maxRecDepth 100000
set_option maxHeartbeats 4000000
namespace L4
open PySem L2
/-! comprehensions that only tell: every part by itself -/
theorem map_tup {α : Type} {K : PySem.W.Frag} {a D : Addr} {t : Nat} {te : TE} {σ0 : St} {H1 : Hp} {Q : VK} (as : List α) (g h : α → V) (ha : H1 a = some (.tup (as.map g))) (hl : as.length ≤ 1000) (hD : H1 D = none)
    (he : ∀ z ∈ as, ∀ H' Q', Same H1 H' → (∀ H'', Same H' H'' → Q' (h z) H'') → te (σ0.set t (some (g z))) H' Q')
    (q : ∀ H', Same H1 H' → H' D = some (.lst (as.map h)) → Q (.ref D) H') : CompGo (Itt K a) (gName t) tYes te σ0 H1 Q D := by
  refine comp_tup (xs := as.map g) (fun i ys H' => Same H1 H' ∧ ys = (as.take i).map h) ⟨same_new hD _, rfl⟩ (fun i ys H' hh _ => SqT.of (hh.1 _ _ ha)) ?_ ?_
  · rintro i ys H' x hx ⟨s1, rfl⟩ hD'
    have hi : i < (as.map g).length := (List.getElem?_eq_some_iff.mp hx).1
    rw [List.getElem?_map] at hx
    obtain ⟨z, hz, rfl⟩ := Option.map_eq_some_iff.mp hx
    refine yes (he z (List.mem_of_getElem? hz) H' _ s1 fun H'' s2 => ?_)
    rw [List.length_map] at hi
    refine cyes (by rw [List.length_map]; exact hi) rset1 (s2 _ _ hD') (by rw [List.length_map, List.length_take]; exact small1000 (by omega)) ⟨fun b o qb => ?_, ?_⟩
    · rw [upd_ne (ne_of_none qb hD)]
      exact s2 b o (s1 b o qb)
    · rw [take_snoc hz, List.map_append]
      rfl
  · rintro ys H' ⟨s1, rfl⟩ hD'
    rw [List.length_map, List.take_length] at hD'
    exact q H' s1 hD'
theorem map_list {α : Type} {K : PySem.W.Frag} {a D : Addr} {t : Nat} {te : TE} {σ0 : St} {H1 : Hp} {Q : VK} (as : List α) (g h : α → V) (ha : H1 a = some (.lst (as.map g))) (hl : as.length ≤ 1000) (hD : H1 D = none)
    (he : ∀ z ∈ as, ∀ H' Q', Same H1 H' → (∀ H'', Same H' H'' → Q' (h z) H'') → te (σ0.set t (some (g z))) H' Q')
    (q : ∀ H', Same H1 H' → H' D = some (.lst (as.map h)) → Q (.ref D) H') : CompGo (Itl K a) (gName t) tYes te σ0 H1 Q D := by
  refine comp_list (xs := as.map g) (fun i ys H' => Same H1 H' ∧ ys = (as.take i).map h) ⟨same_new hD _, rfl⟩ (fun i ys H' hh _ => SqL.of (hh.1 _ _ ha)) ?_ ?_
  · rintro i ys H' x hx ⟨s1, rfl⟩ hD'
    have hi : i < (as.map g).length := (List.getElem?_eq_some_iff.mp hx).1
    rw [List.getElem?_map] at hx
    obtain ⟨z, hz, rfl⟩ := Option.map_eq_some_iff.mp hx
    refine yes (he z (List.mem_of_getElem? hz) H' _ s1 fun H'' s2 => ?_)
    rw [List.length_map] at hi
    refine cyes (by rw [List.length_map]; exact hi) rset1 (s2 _ _ hD') (by rw [List.length_map, List.length_take]; exact small1000 (by omega)) ⟨fun b o qb => ?_, ?_⟩
    · rw [upd_ne (ne_of_none qb hD)]
      exact s2 b o (s1 b o qb)
    · rw [take_snoc hz, List.map_append]
      rfl
  · rintro ys H' ⟨s1, rfl⟩ hD'
    rw [List.length_map, List.take_length] at hD'
    exact q H' s1 hD'
theorem map_str {z : Str} {D : Addr} {t : Nat} {te : TE} {σ0 : St} {H1 : Hp} {Q : VK} (h : Nat → V) (hl : z.length ≤ 1000) (hD : H1 D = none)
    (he : ∀ c ∈ z.cps.toList, ∀ H' Q', Same H1 H' → (∀ H'', Same H' H'' → Q' (h c) H'') → te (σ0.set t (some (.str ⟨#[c]⟩))) H' Q')
    (q : ∀ H', Same H1 H' → H' D = some (.lst (z.cps.toList.map h)) → Q (.ref D) H') : CompGo (Its z) (gName t) tYes te σ0 H1 Q D := by
  refine comp_str (fun i ys H' => Same H1 H' ∧ ys = (z.cps.toList.take i).map h) ⟨same_new hD _, rfl⟩ ?_ ?_
  · rintro i ys H' c hc ⟨s1, rfl⟩ hD'
    have hi : i < z.cps.size := (Array.getElem?_eq_some_iff.mp hc).1
    have hc' : z.cps.toList[i]? = some c := by simpa using hc
    have hs : z.cps.size = z.length := rfl
    refine yes (he c (List.mem_of_getElem? hc') H' _ s1 fun H'' s2 => ?_)
    refine cyes hi rset1 (s2 _ _ hD') (by rw [List.length_map, List.length_take]; exact small1000 (by omega)) ⟨fun b o qb => ?_, ?_⟩
    · rw [upd_ne (ne_of_none qb hD)]
      exact s2 b o (s1 b o qb)
    · rw [take_snoc hc', List.map_append]
      rfl
  · rintro ys H' ⟨s1, rfl⟩ hD'
    rw [List.take_of_length_le (by simp)] at hD'
    exact q H' s1 hD'
theorem trues {α : Type} (as : List α) : as.map (fun _ => V.bl true) = (as.map fun _ => true).map V.bl := by rw [List.map_map]; rfl
theorem all_trues {α : Type} (as : List α) : (as.map fun _ => true).all id = true := by
  rw [List.all_eq_true]
  intro x hx
  obtain ⟨_, _, rfl⟩ := List.mem_map.mp hx
  rfl
theorem Same.rfl' {H : Hp} : Same H H := fun _ _ h => h
end L4

set_option Elab.async false
set_option linter.all false
set_option maxRecDepth 100000
set_option maxHeartbeats 4000000
namespace L4
open PySem L2 PySem.StrLaws
/-! things of any kind -/
/-! what the document says of them -/
end L4

set_option Elab.async false
set_option linter.all false
set_option maxRecDepth 100000
set_option maxHeartbeats 4000000
namespace L4
open PySem L2 PySem.StrLaws
end L4

set_option Elab.async false
set_option linter.all false
set_option maxRecDepth 100000
set_option maxHeartbeats 4000000
namespace L4
open PySem L2 PySem.StrLaws
/-! a thing that is a half table, as data -/
end L4

set_option Elab.async false
set_option linter.all false
set_option maxRecDepth 100000
set_option maxHeartbeats 4000000
namespace L4
open PySem L2
/-! displays that make things; X: lists that are still written on, which no thing has -/
open Classical in
section
variable {X : Addr → Prop} {H0 : Hp} {σ : St}
end
end L4

set_option Elab.async false
set_option linter.all false
set_option maxRecDepth 100000
set_option maxHeartbeats 4000000
namespace L4
open PySem L2
end L4

set_option Elab.async false
set_option linter.all false
set_option maxRecDepth 100000
set_option maxHeartbeats 4000000
namespace L4
open PySem L2
end L4

set_option Elab.async false
set_option linter.all false
set_option maxRecDepth 100000
set_option maxHeartbeats 4000000
namespace L2
open PySem PySem.Spec PyProof.Rows
open Builtin
section
variable {X : Cx}
end
end L2

set_option Elab.async false
set_option linter.all false
set_option maxRecDepth 100000
set_option maxHeartbeats 4000000
namespace L4
open PySem L2
/-! the same for any predicate and any slot -/
section
end
end L4

set_option Elab.async false
set_option linter.all false
set_option maxRecDepth 100000
set_option maxHeartbeats 4000000
namespace L4
open PySem L2 PySem.StrLaws
/-! any text, read as a table's -/
/-! how long the parts are -/
/-! how a text fails -/
end L4

set_option Elab.async false
set_option linter.all false
set_option maxRecDepth 100000
set_option maxHeartbeats 4000000
namespace L2
open PySem PySem.Spec PyProof.Rows
/-! the count of tokens never goes back -/
end L2

set_option Elab.async false
set_option linter.all false
set_option maxRecDepth 100000
set_option maxHeartbeats 4000000
namespace L2
open PySem PySem.Spec PyProof.Rows PySem.Builtin PySem.Builtin.Str
/-! rules where a token has been drawn -/
section
variable {X : Cx} {e : Expr} {es : List Expr} {te ta tb : TE} {t : TA} {pos : Pos} {a b : Expr} {st : Stmt} {rest : List Stmt} {ts us : TS}
end
end L2

set_option Elab.async false
set_option linter.all false
set_option maxRecDepth 100000
set_option maxHeartbeats 4000000
namespace L2
open PySem PySem.Spec PyProof.Rows PySem.Builtin PySem.Builtin.Str
section
variable {X : Cx}
end
end L2

set_option Elab.async false
set_option linter.all false
set_option maxRecDepth 100000
set_option maxHeartbeats 4000000
namespace L4
open PySem L2 PySem.StrLaws
/-! texts put together of parts of words, and taken apart -/
/-! no "; " within -/
end L4

set_option Elab.async false
set_option linter.all false
set_option maxRecDepth 100000
set_option maxHeartbeats 4000000
namespace L4
open PySem L2 PySem.StrLaws
/-! the words of a good table -/
/-! cells that are none -/
/-! A: a part more -/
/-! B: the last word -/
end L4

set_option Elab.async false
set_option linter.all false
set_option maxRecDepth 100000
set_option maxHeartbeats 4000000
namespace L4
open PySem L2 PySem.StrLaws
section
variable {T : Half} (g : Good T)
include g
end
end L4

set_option Elab.async false
set_option linter.all false
set_option maxRecDepth 100000
set_option maxHeartbeats 4000000
namespace L4
open PySem L2
section
/-! slices and repetitions that make things -/
end
end L4

set_option Elab.async false
set_option linter.all false
set_option maxRecDepth 100000
set_option maxHeartbeats 4000000
namespace L4
open PySem L2
end L4

set_option Elab.async false
set_option linter.all false
set_option maxRecDepth 100000
set_option maxHeartbeats 4000000
namespace L4
open PySem L2
end L4
namespace L4
open PySem L2
end L4

set_option Elab.async false
set_option linter.all false
set_option maxRecDepth 100000
set_option maxHeartbeats 4000000
namespace L4
open PySem L2
/-! good half tables, as things -/
end L4

set_option Elab.async false
set_option linter.all false
set_option maxRecDepth 100000
set_option maxHeartbeats 4000000
namespace L4
open PySem L2 PySem.StrLaws
section
variable {T : Half} (g : Good T)
include g
/-! D: parts put otherwise -/
/-! E: where there are connectives -/
end
end L4

set_option Elab.async false
set_option linter.all false
set_option maxRecDepth 100000
set_option maxHeartbeats 4000000
namespace L4
open PySem L2 PySem.StrLaws
/-! displays that make texts, and lists of texts -/
section
variable {X : Addr → Prop} {H0 : Hp} {σ : St} {K : PySem.W.Frag}
end
end L4

set_option Elab.async false
set_option linter.all false
set_option maxRecDepth 100000
set_option maxHeartbeats 4000000
namespace L4
open PySem L2 PySem.StrLaws
section
variable {T : Half} (g : Good T) (m4 : T.m ≤ 4) (c4 : T.cs.length ≤ 4)
include g m4
end
section
variable {T : Half} (g : Good T)
include g
end
/-! a great letter -/
/-! the good text -/
/-! two of the same thing are alike -/
end L4

set_option Elab.async false
set_option linter.all false
set_option maxRecDepth 100000
set_option maxHeartbeats 4000000
namespace L2
open PySem PySem.Spec PyProof.Rows
section
variable {X : Cx}
end
end L2
namespace L4
open PySem L2
/-! the chains' connectives -/
end L4
namespace Fr
end Fr

set_option Elab.async false
set_option linter.all false
set_option maxRecDepth 100000
set_option maxHeartbeats 4000000
namespace PySem
open Sem (wp)
section
variable {prog : Program} {w : World} {A : Around} {E : Value → Shared → Prop} {s : Shared}
theorem wpAny_collect_range {Q : List Value → Shared → Prop} {it : Addr} {a b c : Int} {t u v : Tok} {n : Nat} (hh : A.handled = none) (hr : IsRange s.heap it a b c t u v) (hsmall : Builtin.Range.small a b c = true)
    (hn : Builtin.Range.rangeSize a b c = n) (hlen : n ≤ 2 ^ 24)
    (hQ : ∀ h' tk (acc : Array Value), (∀ b o', s.heap.get? b = some o' → h'.get? b = some o') → ItemsOf (fun i v => ∃ t, v = .int (a + i * c) t) acc n → Q acc.toList { s with heap := h', toks := tk }) :
    wpAny (model prog w) A (collect (.ref it)) Q E s := by
  unfold collect
  refine wpAny_bind (wpAny_runValue (codeAny_builtin F.entry_proto_collect ?_))
  rw [Around.under_plainId F.plain_proto_collect _]
  show wpAny _ A.in1 (newList [] >>= fun l => again (.builtin "list.__iadd__" ⟨[l, .ref it], []⟩)) _ _ s
  refine wpAny_bind (wpAny_newObj_type ?_)
  refine wpAny_pure ⟨plainId_quiet F.plain_list_iadd _, codeAny_builtin F.entry_list_iadd ?_⟩
  rw [Around.under_plainId F.plain_list_iadd _]
  show wpAny _ A.in1 (Builtin.List.listExtendWith (.ref s.heap.objs.size) (.ref it) (.ref s.heap.objs.size)) _ _ _
  have hS : (s.heap.push { cls := .type "list", data := .seq ([] : List Value).toArray }).get? s.heap.objs.size = some { cls := .type "list", data := .seq #[] 0 } := Heap.get?_push_size _ rfl
  have fin' : ∀ (s' : Shared), (∃ h' tk acc c', s' = { s with heap := h', toks := tk } ∧ (∀ b o, b ≠ s.heap.objs.size → (s.heap.push { cls := .type "list", data := .seq ([] : List Value).toArray }).get? b = some o → h'.get? b = some o) ∧ h'.get? s.heap.objs.size = some { cls := .type "list", dict := none, data := .seq acc c', slots := #[] } ∧ ItemsOf (fun i v => ∃ t, v = .int (a + i * c) t) acc n) → wpAny (model prog w) A (match Value.ref s.heap.objs.size with
      | Value.ref a => do
        match (← load a).data with
          | Data.seq xs _ => pure xs.toList
          | _ => unsupported "internal:collect"
      | _ => unsupported "internal:collect") Q E s' := by
    rintro s' ⟨h', tk, acc, c', rfl, kp, e, hacc⟩
    show wpAny _ A (load s.heap.objs.size >>= _) _ _ _
    refine wpAny_bind (wpAny_load e ?_)
    refine wpAny_pure ?_
    exact hQ h' tk acc (fun b o' hb => kp b o' (Nat.ne_of_lt (Heap.lt_size hb)) (Heap.get?_push_of_some _ hb)) hacc
  refine wpAny_mono (wpAny_extend_range (A := A) (R := fun r s' => r = .ok (.ret (.ref s.heap.objs.size)) ∧ ∃ h' tk acc c', s' = { s with heap := h', toks := tk } ∧ (∀ b o, b ≠ s.heap.objs.size → (s.heap.push { cls := .type "list", data := .seq ([] : List Value).toArray }).get? b = some o → h'.get? b = some o) ∧ h'.get? s.heap.objs.size = some { cls := .type "list", dict := none, data := .seq acc c', slots := #[] } ∧ ItemsOf (fun i v => ∃ t, v = .int (a + i * c) t) acc n)
    (s := { s with heap := s.heap.push { cls := .type "list", data := .seq ([] : List Value).toArray } }) hh (Heap.get?_push_of_some _ hr) hsmall hn hlen _ _ 0 hS fun h' tk acc' c' k1 k2 k3 => ⟨rfl, h', tk, acc', c', rfl, k1, k2, k3⟩) (fun fin s' h => ?_) (fun e s' h => ?_)
  · cases fin with
    | done f =>
      obtain ⟨e, h⟩ := h
      cases e
      exact fin' _ h
    | again c' => exact ⟨h.1, codeAny_mono h.2 fun r s'' hr => by obtain ⟨rfl, hr⟩ := hr; exact fin' _ hr⟩
  · exact absurd h.1 (by simp)
end
theorem meets_tuple_new_range (l : Addr) (a b c : Int) (t u v : Tok) (n : Nat) (hsmall : Builtin.Range.small a b c = true) (hn : Builtin.Range.rangeSize a b c = n) (hlen : n ≤ 2 ^ 20) :
    Meets (Builtin.«tuple.__new__» ⟨[.type "tuple", .ref l], []⟩)
      (fun A R s => A.handled = none ∧ IsRange s.heap l a b c t u v ∧ ∀ (h' : Heap) (tk : Nat) (acc : Array Value), (∀ b o', s.heap.get? b = some o' → h'.get? b = some o') → ItemsOf (fun i v => ∃ t, v = .int (a + i * c) t) acc n → R (.ok (.ret (.ref h'.objs.size))) { s with heap := h'.push { cls := .type "tuple", data := .seq acc }, toks := tk }) :=
  .of_wp fun prog w A R s h => by
    obtain ⟨hp, g, d, tk, os⟩ := s; obtain ⟨hh, ht, h⟩ := h
    have hsub := sub_tuple_self
    have hinit := init_tuple_lookup
    have hmh := madeHere_tuple
    have hT : Shared.TypeIs ⟨hp, g, d, tk, os⟩ (.ref l) "range" := ⟨_, ht, rfl⟩
    wp_walk using AutoSeq1.wpAny_loadPart' ht, wpAny_typeOf hT, wpAny_collect_range (A := A.in1) hh ht hsmall hn (by omega)
    intro h' tk' acc hk hacc
    show wpAny _ _ (Builtin.Tuple.tupleExact acc.toList.toArray >>= fun v => ret v) _ _ _
    unfold Builtin.Tuple.tupleExact
    have hsz : acc.size ≤ sizeLine := by rw [hacc.1]; exact Nat.le_trans hlen (by decide +kernel)
    refine wpAny_bind (wpAny_newObj_type ?_ (by show acc.toList.toArray.size ≤ sizeLine; simpa using hsz))
    refine wpAny_pure ⟨_, rfl, ?_⟩
    have e : acc.toList.toArray = acc := by simp
    rw [e]
    exact h h' tk' acc hk hacc
section
variable {prog : Program} {w : World} {A : Around} {E : Value → Shared → Prop} {s : Shared}
theorem call_tuple_range {l : Addr} {a b c : Int} {t u v : Tok} {n : Nat} {Q : Value → Shared → Prop} (hh : A.handled = none) (hr : IsRange s.heap l a b c t u v) (hsmall : Builtin.Range.small a b c = true) (hn : Builtin.Range.rangeSize a b c = n) (hlen : n ≤ 2 ^ 20)
    (h : ∀ (h' : Heap) (tk : Nat) (acc : Array Value), (∀ b o', s.heap.get? b = some o' → h'.get? b = some o') → ItemsOf (fun i v => ∃ t, v = .int (a + i * c) t) acc n → Q (.ref h'.objs.size) { s with heap := h'.push { cls := .type "tuple", data := .seq acc }, toks := tk }) :
    wpAny (model prog w) A (call (.type "tuple") [.ref l]) Q E s :=
  callType_new F.called_tuple (by decide) (F.typeCall_tuple_1 _) (F.newCall_tuple_1 _) (fun obj => F.args_object_init_2 obj _) F.entry_tuple_new
    (meets_tuple_new_range l a b c t u v n hsmall hn hlen) ⟨hh, hr, fun h' tk acc hk hacc => ⟨⟨_, Heap.get?_push_size _ rfl, rfl⟩, h h' tk acc hk hacc⟩⟩
end
end PySem
namespace PySem.SeqAt
open PySem
theorem wpAny_forRange {M : Model} {A : Around} {E : Value → Shared → Prop} {s : Shared} {β : Type} {a b : Nat} (f : Nat → β → Sem (ForInStep β)) (I : Nat → β → Shared → Prop) (Q : β → Shared → Prop)
    (turn : ∀ i c s, a ≤ i → i < b → I i c s → wpAny M A (f i c) (fun r s' => match r with | .yield c' => I (i + 1) c' s' | .done c' => Q c' s') E s)
    (fin : ∀ c s, I (max a b) c s → Q c s) (c : β) (h : I a c s) : wpAny M A (forIn [a:b] c f) Q E s := by
  rw [Std.Legacy.Range.forIn_eq_forIn_range']
  have hsz : ([a:b] : Std.Legacy.Range).size = b - a := by simp [Std.Legacy.Range.size]
  show wpAny M A (forIn (List.range' a ([a:b] : Std.Legacy.Range).size 1) c f) Q E s
  rw [hsz]
  refine wpAny_forIn_list f (fun l c st => ∃ i, a ≤ i ∧ i ≤ max a b ∧ l = List.range' i (max a b - i) 1 ∧ I i c st) Q ?_ ?_ _ c ⟨a, Nat.le_refl _, by omega, by congr 1; omega, h⟩
  · rintro x rest c st ⟨i, hai, hib, hl, hI⟩
    have hlt : i < max a b := by
      rcases Nat.lt_or_ge i (max a b) with h' | h'
      · exact h'
      · rw [show max a b - i = 0 by omega] at hl; simp at hl
    obtain ⟨n, hn⟩ : ∃ n, max a b - i = n + 1 := ⟨max a b - i - 1, by omega⟩
    rw [hn, List.range'_succ] at hl
    obtain ⟨rfl, rfl⟩ := List.cons.inj hl
    refine wpAny_mono (turn x c st hai (by omega) hI) (fun r st' h' => ?_) fun _ _ h' => h'
    cases r with
    | done c' => exact h'
    | yield c' => exact ⟨x + 1, by omega, by omega, by congr 1; omega, h'⟩
  · rintro c st ⟨i, hai, hib, hl, hI⟩
    have : i = max a b := by
      rcases Nat.lt_or_ge i (max a b) with h' | h'
      · obtain ⟨n, hn⟩ : ∃ n, max a b - i = n + 1 := ⟨max a b - i - 1, by omega⟩
        rw [hn, List.range'_succ] at hl
        cases hl
      · omega
    rw [this] at hI
    exact fin c st hI
theorem tuple_indexAt (l : Addr) (items : Array Value) (n : Nat) (dd : Option Addr) (sl : Array (Option Value)) (x : Value) (e : Value → Bool) (j : Nat) (hj : j < items.size)
    (hit : e items[j] = true) (hno : ∀ m (hm : m < items.size), m < j → e items[m] = false) :
    Meets (Builtin.«tuple.index» ⟨[.ref l, x], []⟩)
      (fun A R s => s.heap.get? l = some { cls := .type "tuple", dict := dd, data := .seq items n, slots := sl } ∧ (∀ y, y ∈ items → EqAt A.in1 s y x (e y)) ∧ R (.ok (.ret (.int j s.toks))) { s with toks := s.toks + 1 }) :=
  .of_wp fun prog w A R s h => by
    obtain ⟨hp, g, d, tk, os⟩ := s; obtain ⟨hl, he, h⟩ := h
    wp_walk using AutoSeq1.wpAny_loadPart' hl, wpAny_forRange _ (fun i c s' => c = (none, ()) ∧ s' = ⟨hp, g, d, tk, os⟩ ∧ i ≤ j) _
    case turn =>
      rintro i c s' hi1 hi2 ⟨rfl, rfl, hij⟩
      have hi : i < items.size := by omega
      rw [Array.getElem?_eq_getElem hi]
      refine wpAny_bind (he _ (Array.getElem_mem hi) prog w _ _ ?_)
      rcases Nat.lt_or_ge i j with h' | h'
      · rw [hno i hi h']
        wp_walk
        exact ⟨rfl, rfl, h'⟩
      · have e1 : i = j := by omega
        subst e1
        rw [hit]
        wp_walk
        exact ⟨_, rfl, h⟩
    case fin =>
      rintro c s' ⟨rfl, rfl, hij⟩
      omega
    case h =>
      exact ⟨rfl, rfl, Nat.zero_le _⟩
end PySem.SeqAt
namespace L2
open PySem PySem.Spec PyProof.Rows
section
variable {X : Cx}
/-- == of two tuples of parts that are alike -/
def rEqD (n : Nat) : R2 := fun x y H Q => ∃ a b xs ys, x = .ref a ∧ y = .ref b ∧ H a = some (.tup xs) ∧ H b = some (.tup ys) ∧ Paired (Alike H n) xs ys ∧ Q (.bl true) H
theorem op_eqD (n : Nat) {k : Nat} (hr : Room k X.A) (hn : n ≤ 20) : OpR X (compareOp .Eq) (rEqD n) := by
  intro pins s σ H x y v u Q I rx ry h
  obtain ⟨a, b, xs, ys, rfl, rfl, ha, hb, pr, q⟩ := h
  cases rx
  cases ry
  have hu : X.A.units + 64 < cLine := hr.units
  obtain ⟨_, us, q1, p1⟩ := I.hok a _ ha
  obtain ⟨_, vs, q2, p2⟩ := I.hok b _ hb
  have ln := Paired.length pr
  have l1 := q1.length
  have l2 := q2.length
  have z := SeqAt.RcAt.tuples (A := X.A) (s := s) (e := fun _ => true) p1.isTup p2.isTup (by omega) (alike_parts (A := X.A.in1) (fun {v u v' u'} a1 a2 a3 => alike_eq I n (A := X.A.in1) (by show X.A.units + 1 + n < cLine; omega) a1 a2 a3) q1 q2 pr)
  have e : ((List.range (min us.toArray.size vs.toArray.size)).all (fun _ => true) && us.toArray.size == vs.toArray.size) = true := by
    simp; omega
  rw [e] at z
  exact z X.prog X.w _ _ ⟨.bl _, H, I, rfl, q⟩
end
end L2

set_option Elab.async false
set_option linter.all false
set_option maxRecDepth 100000
set_option maxHeartbeats 4000000
namespace L2
open PySem PySem.Spec PyProof.Rows
/-! enumerate(a list) -/
section
variable {X : Cx}
end
end L2

set_option Elab.async false
set_option linter.all false
set_option maxRecDepth 100000
set_option maxHeartbeats 4000000
namespace L2
open PySem PySem.Spec PyProof.Rows
end L2
namespace L4
open PySem L2
/-! the wells of draws: a list of two ints, of which nothing more is known -/
end L4

set_option linter.all false
namespace Tn
end Tn

set_option Elab.async false
set_option linter.all false
set_option maxRecDepth 100000
set_option maxHeartbeats 4000000
namespace L2
open PySem PySem.Spec PyProof.Rows
/-! zip(t, u) of two tuples -/
section
variable {prog : Program} {w : World} {A : Around} {E : Value → Shared → Prop} {s : Shared}
variable {z TI TO i1 i2 t1 t2 : Addr} {xs ys : Array Value} {k1 k2 : Nat}
end
end L2
namespace L2
open PySem PySem.Spec PyProof.Rows
section
variable {X : Cx}
end
end L2

set_option Elab.async false
set_option linter.all false
set_option maxRecDepth 100000
set_option maxHeartbeats 4000000
namespace L2
open PySem PySem.Spec PyProof.Rows
section
variable {X : Cx}
/-- t == () -/
def rEqE : R2 := fun x y H Q => ∃ a b xs, x = .ref a ∧ y = .ref b ∧ H a = some (.tup xs) ∧ H b = some (.tup []) ∧ Q (.bl xs.isEmpty) H
theorem op_eqE {k : Nat} (hr : Room k X.A) : OpR X (compareOp .Eq) rEqE := by
  intro pins s σ H x y v u Q I rx ry h
  obtain ⟨a, b, xs, rfl, rfl, ha, hb, q⟩ := h
  cases rx
  cases ry
  have hu : X.A.units + 64 < cLine := hr.units
  obtain ⟨_, us, q1, p1⟩ := I.hok a _ ha
  obtain ⟨_, vs, q2, p2⟩ := I.hok b _ hb
  have l1 := q1.length
  have l2 := q2.length
  have z := SeqAt.RcAt.tuples (A := X.A) (s := s) (e := fun _ => true) p1.isTup p2.isTup (by omega) (fun j h1 h2 => by
    rw [List.size_toArray, ← l2] at h2
    exact absurd h2 (Nat.not_lt_zero _))
  have e : ((List.range (min us.toArray.size vs.toArray.size)).all (fun _ => true) && us.toArray.size == vs.toArray.size) = xs.isEmpty := by
    rw [List.size_toArray, List.size_toArray, ← l1, ← l2]
    cases xs with
    | nil => rfl
    | cons x xs => simp
  rw [e] at z
  exact z X.prog X.w _ _ ⟨.bl _, H, I, rfl, q⟩
end
end L2

set_option Elab.async false
set_option linter.all false
set_option maxRecDepth 100000
namespace L2
open PySem
/-! the table of a set: rising places -/
abbrev Rs (xs : Array Nat) : Prop := xs.toList.Pairwise (· < ·)
def cntB (xs : List Nat) (j : Nat) : Nat := (xs.filter fun x => decide (x < j)).length
theorem cnt_le (xs : List Nat) (j : Nat) : cntB xs j ≤ xs.length := List.length_filter_le _ _
/-- in a rising list those below j stand ahead -/
theorem cnt_iff : ∀ (xs : List Nat) (j i : Nat) (x : Nat), xs.Pairwise (· < ·) → xs[i]? = some x → (x < j ↔ i < cntB xs j)
  | [], j, i, x, _, h => by simp at h
  | y :: xs, j, 0, x, hp, h => by
    obtain rfl : y = x := by simpa using h
    unfold cntB
    rw [List.filter_cons]
    by_cases hy : y < j
    · simp [hy]
    · have : xs.filter (fun x => decide (x < j)) = [] := by
        rw [List.filter_eq_nil_iff]
        intro z hz
        have := (List.pairwise_cons.mp hp).1 z hz
        simp
        omega
      simp [hy, this]
  | y :: xs, j, i + 1, x, hp, h => by
    have h' : xs[i]? = some x := by simpa using h
    have ih := cnt_iff xs j i x (List.pairwise_cons.mp hp).2 h'
    have hyx := (List.pairwise_cons.mp hp).1 x (List.mem_of_getElem? h')
    unfold cntB at ih ⊢
    rw [List.filter_cons]
    by_cases hy : y < j
    · simp only [hy, decide_true, if_true, List.length_cons]
      rw [ih]
      omega
    · simp only [hy, decide_false, Bool.false_eq_true, if_false]
      constructor
      · intro hx
        omega
      · intro hi
        have := ih.mpr (by omega)
        omega
theorem below_go {xs : Array Nat} {j : Nat} (hr : Rs xs) : ∀ (fuel lo hi : Nat), hi - lo ≤ fuel → lo ≤ cntB xs.toList j → cntB xs.toList j ≤ hi → hi ≤ xs.size → SetTable.below.go xs j fuel lo hi = cntB xs.toList j
  | 0, lo, hi, h1, h2, h3, h4 => by
    unfold SetTable.below.go
    omega
  | fuel + 1, lo, hi, h1, h2, h3, h4 => by
    unfold SetTable.below.go
    by_cases hlt : lo < hi
    · rw [if_pos hlt]
      have hm : (lo + hi) / 2 < xs.size := by omega
      have hx : xs.toList[(lo + hi) / 2]? = some xs[(lo + hi) / 2] := by simp [hm]
      have hc := cnt_iff xs.toList j _ _ hr hx
      have eg : xs.getD ((lo + hi) / 2) j = xs[(lo + hi) / 2] := by simp [Array.getD, hm]
      dsimp only
      rw [eg]
      by_cases hy : xs[(lo + hi) / 2] < j
      · rw [if_pos hy]
        have := hc.mp hy
        exact below_go hr fuel _ _ (by omega) (by omega) h3 h4
      · rw [if_neg hy]
        have : ¬ (lo + hi) / 2 < cntB xs.toList j := fun z => hy (hc.mpr z)
        exact below_go hr fuel _ _ (by omega) h2 (by omega) (by omega)
    · rw [if_neg hlt]
      omega
theorem below_eq {xs : Array Nat} (hr : Rs xs) (j : Nat) : SetTable.below xs j = cntB xs.toList j := by
  unfold SetTable.below
  have := cnt_le xs.toList j
  exact below_go hr _ _ _ (by omega) (Nat.zero_le _) (by simpa using this) (Nat.le_refl _)
theorem at_below {xs : Array Nat} (hr : Rs xs) {j : Nat} : xs[SetTable.below xs j]? = some j ↔ j ∈ xs.toList := by
  rw [below_eq hr]
  constructor
  · intro h
    have : xs.toList[cntB xs.toList j]? = some j := by simpa using h
    exact List.mem_of_getElem? this
  · intro h
    obtain ⟨i, hi⟩ := List.mem_iff_getElem?.mp h
    have h1 : ¬ i < cntB xs.toList j := fun z => Nat.lt_irrefl _ ((cnt_iff _ _ _ _ hr hi).mpr z)
    have hil := (List.getElem?_eq_some_iff.mp hi).1
    have hcl : cntB xs.toList j ≤ i := by omega
    have hc : cntB xs.toList j < xs.toList.length := by omega
    have hx : xs.toList[cntB xs.toList j]? = some xs.toList[cntB xs.toList j] := List.getElem?_eq_getElem hc
    have h2 : ¬ xs.toList[cntB xs.toList j] < j := fun z => Nat.lt_irrefl _ ((cnt_iff _ _ _ _ hr hx).mp z)
    have e : cntB xs.toList j = i := by
      rcases Nat.lt_or_eq_of_le hcl with h3 | h3
      · exfalso
        have := List.pairwise_iff_getElem.mp hr (cntB xs.toList j) i hc hil h3
        have ei : xs.toList[i] = j := (List.getElem?_eq_some_iff.mp hi).2
        omega
      · exact h3
    rw [e]
    simpa using hi
theorem ins_list {α : Type} (xs : Array α) (p : Nat) (x : α) : (SetTable.insertAt xs p x).toList = xs.toList.take p ++ x :: xs.toList.drop p := by
  unfold SetTable.insertAt
  simp
  exact List.take_of_length_le (by simp)
theorem ins_rising {xs : Array Nat} (hr : Rs xs) {j : Nat} (hj : j ∉ xs.toList) : Rs (SetTable.insertAt xs (SetTable.below xs j) j) := by
  unfold Rs
  rw [ins_list, below_eq hr]
  have hle := cnt_le xs.toList j
  rw [List.pairwise_append]
  refine ⟨hr.sublist (List.take_sublist _ _), ?_, ?_⟩
  · rw [List.pairwise_cons]
    refine ⟨fun y hy => ?_, hr.sublist (List.drop_sublist _ _)⟩
    obtain ⟨i, hi⟩ := List.mem_iff_getElem?.mp hy
    rw [List.getElem?_drop] at hi
    have h1 : ¬ y < j := fun z => by
      have := (cnt_iff _ j _ _ hr hi).mp z
      omega
    have h2 : y ≠ j := fun z => hj (z ▸ List.mem_of_getElem? hi)
    omega
  · intro a ha b hb
    obtain ⟨i, hi⟩ := List.mem_iff_getElem?.mp ha
    have hil := (List.getElem?_eq_some_iff.mp hi).1
    rw [List.length_take] at hil
    rw [List.getElem?_take_of_lt (by omega)] at hi
    have haj : a < j := (cnt_iff _ j _ _ hr hi).mpr (by omega)
    rcases List.mem_cons.mp hb with rfl | hb
    · exact haj
    · obtain ⟨i', hi'⟩ := List.mem_iff_getElem?.mp hb
      rw [List.getElem?_drop] at hi'
      have h1 : ¬ b < j := fun z => by
        have := (cnt_iff _ j _ _ hr hi').mp z
        omega
      omega
end L2

set_option Elab.async false
set_option linter.all false
set_option maxRecDepth 100000
set_option maxHeartbeats 4000000
namespace L2
open PySem
structure TabI (t : SetTable) (b : Bool) : Prop where
  dum : t.dummies = #[]
  rs : Rs t.place
  led : t.led = b
theorem TabI.fresh (b : Bool) : TabI (.fresh 0 0 b) b := ⟨rfl, List.Pairwise.nil, rfl⟩
theorem has_nil (j : Nat) : SetTable.has #[] j = false := by
  unfold SetTable.has
  simp
theorem slot_empty {t : SetTable} {b : Bool} (h : TabI t b) {j : Nat} (e : t.slot j = .empty) : j ∉ t.place.toList := fun hm => by
  unfold SetTable.slot at e
  have := (at_below h.rs).mpr hm
  dsimp only at e
  rw [this] at e
  simp at e
theorem slot_ndummy {t : SetTable} {b : Bool} (h : TabI t b) {j : Nat} : t.slot j ≠ .dummy := fun e => by
  unfold SetTable.slot at e
  rw [h.dum, has_nil] at e
  dsimp only at e
  split at e
  · cases e
  · simp at e
theorem TabI.put {t : SetTable} {b : Bool} (h : TabI t b) {sl : Nat} (hs : sl ∉ t.place.toList) : TabI (t.put sl).1 b := by
  unfold SetTable.put
  refine ⟨?_, ins_rising h.rs hs, h.led⟩
  dsimp only
  rw [h.dum, has_nil]
  rfl
theorem rs_filter {f : Nat → Option Nat} : ∀ (n : Nat), (((List.range n).filterMap fun j => (f j).map (j, ·)).map (·.1)).Pairwise (· < ·) := by
  intro n
  have e : (((List.range n).filterMap fun j => (f j).map (j, ·)).map (·.1)) = (List.range n).filter fun j => (f j).isSome := by
    induction List.range n with
    | nil => rfl
    | cons a l ih =>
      rw [List.filterMap_cons, List.filter_cons]
      cases hf : f a with
      | none => simpa using ih
      | some k => simpa using ih
  rw [e]
  exact List.Pairwise.filter _ List.pairwise_lt_range
section
variable {prog : Program} {w : World} {K : Type} [DecidableEq K] {knd : KeyKind prog w K} {A : Around} {E : Value → Shared → Prop} {s : Shared}
end
end L2

set_option Elab.async false
set_option linter.all false
set_option maxRecDepth 100000
set_option maxHeartbeats 4000000
namespace L2
open PySem
/-! a set's table whose keys lie in the heap: the search comes to an end -/
def lp (m i : Nat) : Nat := (i * 5 + 1) % (m + 1)
def lpN (m : Nat) : Nat → Nat → Nat
  | 0, i => i
  | n + 1, i => lpN m n (lp m i)
def orbl (m : Nat) : Nat → Nat → List Nat
  | 0, _ => []
  | n + 1, i => i :: orbl m n (lp m i)
def GM (m : Nat) : Prop := m = 7 ∨ m = 31 ∨ m = 127 ∨ m = 511
theorem lpN_add (m : Nat) : ∀ (a b i : Nat), lpN m (a + b) i = lpN m b (lpN m a i)
  | 0, b, i => by rw [Nat.zero_add]; rfl
  | a + 1, b, i => by
    rw [show a + 1 + b = (a + b) + 1 by omega]
    exact lpN_add m a b (lp m i)
theorem mem_orbl (m : Nat) : ∀ (k i j : Nat), j ∈ orbl m k i → ∃ n, n < k ∧ lpN m n i = j
  | 0, i, j, h => by cases h
  | k + 1, i, j, h => by
    rcases List.mem_cons.mp h with rfl | h
    · exact ⟨0, by omega, rfl⟩
    · obtain ⟨n, h1, h2⟩ := mem_orbl m k (lp m i) j h
      exact ⟨n + 1, by omega, h2⟩
theorem orb_all : ((List.range 8).all fun j => (orbl 7 8 0).contains j) = true ∧ ((List.range 32).all fun j => (orbl 31 32 0).contains j) = true ∧ ((List.range 128).all fun j => (orbl 127 128 0).contains j) = true ∧ ((List.range 512).all fun j => (orbl 511 512 0).contains j) = true := by decide +kernel
theorem orb_back : lpN 7 8 0 = 0 ∧ lpN 31 32 0 = 0 ∧ lpN 127 128 0 = 0 ∧ lpN 511 512 0 = 0 := by decide +kernel
theorem gm_orb {m : Nat} (h : GM m) : ((List.range (m + 1)).all fun j => (orbl m (m + 1) 0).contains j) = true ∧ lpN m (m + 1) 0 = 0 := by
  obtain ⟨a, b, c, d⟩ := orb_all
  obtain ⟨a', b', c', d'⟩ := orb_back
  rcases h with rfl | rfl | rfl | rfl
  · exact ⟨a, a'⟩
  · exact ⟨b, b'⟩
  · exact ⟨c, c'⟩
  · exact ⟨d, d'⟩
theorem lp_zero {m : Nat} (h : GM m) {j : Nat} (hj : j ≤ m) : ∃ n, n ≤ m ∧ lpN m n 0 = j := by
  have h1 := List.all_eq_true.mp (gm_orb h).1 j (List.mem_range.mpr (by omega))
  obtain ⟨n, h2, h3⟩ := mem_orbl m _ 0 j (List.contains_iff_mem.mp h1)
  exact ⟨n, by omega, h3⟩
theorem lp_reach {m : Nat} (h : GM m) {i j : Nat} (hi : i ≤ m) (hj : j ≤ m) : ∃ n, n ≤ m ∧ lpN m n i = j := by
  obtain ⟨a, ha, ea⟩ := lp_zero h hi
  obtain ⟨b, hb, eb⟩ := lp_zero h hj
  by_cases hab : a ≤ b
  · refine ⟨b - a, by omega, ?_⟩
    rw [← ea, ← lpN_add, show a + (b - a) = b by omega]
    exact eb
  · refine ⟨b + (m + 1) - a, by omega, ?_⟩
    rw [← ea, ← lpN_add, show a + (b + (m + 1) - a) = (m + 1) + b by omega, lpN_add, (gm_orb h).2]
    exact eb
def leapN (m : Nat) : Nat → Nat × Nat → Nat × Nat
  | 0, x => x
  | n + 1, x => leapN m n (SetTable.leap m x.1 x.2)
theorem leapN_add (m : Nat) : ∀ (a b : Nat) (x : Nat × Nat), leapN m (a + b) x = leapN m b (leapN m a x)
  | 0, b, x => by rw [Nat.zero_add]; rfl
  | a + 1, b, x => by
    rw [show a + 1 + b = (a + b) + 1 by omega]
    exact leapN_add m a b _
theorem leapN_snd (m : Nat) : ∀ (n : Nat) (x : Nat × Nat), (leapN m n x).2 = x.2 / 32 ^ n
  | 0, x => by simp [leapN]
  | n + 1, x => by
    show (leapN m n (SetTable.leap m x.1 x.2)).2 = _
    rw [leapN_snd m n]
    show x.2 / 32 / 32 ^ n = _
    rw [Nat.div_div_eq_div_mul, Nat.pow_succ, Nat.mul_comm]
theorem leapN_le {m : Nat} : ∀ (n : Nat) (x : Nat × Nat), x.1 ≤ m → (leapN m n x).1 ≤ m
  | 0, x, h => h
  | n + 1, x, h => by
    refine leapN_le n _ ?_
    have := Nat.mod_lt (x.1 * 5 + 1 + x.2 / 32) (show 0 < m + 1 by omega)
    show (x.1 * 5 + 1 + x.2 / 32) % (m + 1) ≤ m
    omega
theorem leapN_lp {m : Nat} : ∀ (n : Nat) (x : Nat × Nat), x.2 / 32 = 0 → (leapN m n x).1 = lpN m n x.1
  | 0, x, _ => rfl
  | n + 1, x, h => by
    show (leapN m n (SetTable.leap m x.1 x.2)).1 = lpN m n (lp m x.1)
    rw [leapN_lp n _ (by show x.2 / 32 / 32 = 0; rw [h])]
    show lpN m n ((x.1 * 5 + 1 + x.2 / 32) % (m + 1)) = lpN m n ((x.1 * 5 + 1) % (m + 1))
    rw [h, Nat.add_zero]
theorem leap_reach {m : Nat} (h : GM m) {i p j : Nat} (hi : i ≤ m) (hp : p < 2 ^ 64) (hj : j ≤ m) : ∃ n, n ≤ m + 12 ∧ (leapN m n (i, p)).1 = j := by
  have h12 : (leapN m 12 (i, p)).2 / 32 = 0 := by
    rw [leapN_snd, Nat.div_div_eq_div_mul]
    exact Nat.div_eq_of_lt (Nat.lt_of_lt_of_le hp (by decide))
  obtain ⟨n, hn, e⟩ := lp_reach h (leapN_le 12 (i, p) hi) hj
  refine ⟨12 + n, by omega, ?_⟩
  rw [leapN_add, leapN_lp n _ h12]
  exact e
/-! the search slot by slot -/
abbrev Prb := SetTable.Probe
def advN (t : SetTable) : Nat → Prb → Prb
  | 0, p => p
  | n + 1, p => advN t n (t.advance p)
theorem advN_add (t : SetTable) : ∀ (a b : Nat) (p : Prb), advN t (a + b) p = advN t b (advN t a p)
  | 0, b, p => by rw [Nat.zero_add]; rfl
  | a + 1, b, p => by
    rw [show a + 1 + b = (a + b) + 1 by omega]
    exact advN_add t a b _
def runS (m : Nat) (x : Nat × Nat) (d : Option Nat) : Prb := { j := x.1, more := SetTable.runEnd m x.1 - x.1, i := x.1, perturb := x.2, dummy := d }
theorem adv_run (t : SetTable) : ∀ (k : Nat) (p : Prb), p.more = k → advN t (k + 1) p = runS t.mask (SetTable.leap t.mask p.i p.perturb) p.dummy
  | 0, p, h => by
    show t.advance p = _
    unfold SetTable.advance
    rw [if_neg (by omega)]
    rfl
  | k + 1, p, h => by
    show advN t (k + 1) (t.advance p) = _
    have e : t.advance p = { p with j := p.j + 1, more := p.more - 1 } := by
      unfold SetTable.advance
      rw [if_pos (by omega)]
    rw [e, adv_run t k _ (by show p.more - 1 = k; omega)]
theorem run_le (m i : Nat) : SetTable.runEnd m i - i ≤ 9 := by
  unfold SetTable.runEnd
  split <;> omega
theorem adv_runs (t : SetTable) (d : Option Nat) : ∀ (n : Nat) (x : Nat × Nat), ∃ k, k ≤ 10 * n ∧ advN t k (runS t.mask x d) = runS t.mask (leapN t.mask n x) d
  | 0, x => ⟨0, Nat.zero_le _, rfl⟩
  | n + 1, x => by
    have h1 := adv_run t _ (runS t.mask x d) rfl
    have h9 := run_le t.mask x.1
    obtain ⟨k, hk, e⟩ := adv_runs t d n (SetTable.leap t.mask x.1 x.2)
    have em : (runS t.mask x d).more = SetTable.runEnd t.mask x.1 - x.1 := rfl
    rw [em] at h1
    refine ⟨SetTable.runEnd t.mask x.1 - x.1 + 1 + k, by omega, ?_⟩
    rw [advN_add, h1]
    exact e
theorem bits_lt (h : Int) : SetTable.bits h < 2 ^ 64 := by
  unfold SetTable.bits
  have h1 := Int.emod_nonneg h (show (2 ^ 64 : Int) ≠ 0 by decide)
  have h2 := Int.emod_lt_of_pos h (show (0 : Int) < 2 ^ 64 by decide)
  omega
theorem probe_reach (t : SetTable) (hm : GM t.mask) (h : Int) {j : Nat} (hj : j ≤ t.mask) : ∃ k, k ≤ 10 * (t.mask + 12) ∧ (advN t k (t.probeStart h)).j = j := by
  have hi : SetTable.bits h % (t.mask + 1) ≤ t.mask := by
    have := Nat.mod_lt (SetTable.bits h) (show 0 < t.mask + 1 by omega)
    omega
  obtain ⟨n, hn, e⟩ := leap_reach hm hi (bits_lt h) hj
  obtain ⟨k, hk, e2⟩ := adv_runs t none n (SetTable.bits h % (t.mask + 1), SetTable.bits h)
  refine ⟨k, by omega, ?_⟩
  have e3 : t.probeStart h = runS t.mask (SetTable.bits h % (t.mask + 1), SetTable.bits h) none := rfl
  rw [e3, e2]
  exact e
/-- a probe stays within the table -/
def PIn (t : SetTable) (p : Prb) : Prop := p.i ≤ t.mask ∧ p.j + p.more ≤ t.mask ∧ p.dummy = none
theorem runEnd_le {m i : Nat} (h : i ≤ m) : i + (SetTable.runEnd m i - i) ≤ m := by
  unfold SetTable.runEnd
  split <;> omega
theorem PIn.start (t : SetTable) (h : Int) : PIn t (t.probeStart h) := by
  have hi : SetTable.bits h % (t.mask + 1) ≤ t.mask := by
    have := Nat.mod_lt (SetTable.bits h) (show 0 < t.mask + 1 by omega)
    omega
  exact ⟨hi, runEnd_le hi, rfl⟩
theorem PIn.adv {t : SetTable} {p : Prb} (h : PIn t p) : PIn t (t.advance p) := by
  obtain ⟨h1, h2, h3⟩ := h
  unfold SetTable.advance
  split
  · exact ⟨h1, by show p.j + 1 + (p.more - 1) ≤ t.mask; omega, h3⟩
  · have hi : (p.i * 5 + 1 + p.perturb / 32) % (t.mask + 1) ≤ t.mask := by
      have := Nat.mod_lt (p.i * 5 + 1 + p.perturb / 32) (show 0 < t.mask + 1 by omega)
      omega
    exact ⟨hi, runEnd_le hi, h3⟩
theorem slot_live {t : SetTable} {j i : Nat} (e : t.slot j = .live i) : t.place[i]? = some j := by
  unfold SetTable.slot at e
  dsimp only at e
  split at e
  · rename_i h
    injection e with e
    rw [← e]
    exact eq_of_beq h
  · split at e <;> cases e
theorem slot_free {t : SetTable} {b : Bool} (h : TabI t b) {j : Nat} (hj : j ∉ t.place.toList) : t.slot j = .empty := by
  unfold SetTable.slot
  dsimp only
  rw [h.dum, has_nil]
  have : ¬ t.place[SetTable.below t.place j]? = some j := fun z => hj ((at_below h.rs).mp z)
  rw [if_neg (by simpa using this)]
  rfl
theorem go_ok {t : SetTable} {b : Bool} (ht : TabI t b) {f : Nat → Int} {x : Int} : ∀ (F k : Nat) (p : Prb), k < F → t.slot (advN t k p).j = .empty → PIn t p →
    (∃ j, SetTable.probe.go t f x F p = some (.empty j none) ∧ t.slot j = .empty ∧ j ≤ t.mask) ∨
    (∃ j i q k', SetTable.probe.go t f x F p = some (.candidate j i q) ∧ t.slot j = .live i ∧ k' < k ∧ t.slot (advN t k' q).j = .empty ∧ PIn t q)
  | 0, k, p, h, _, _ => absurd h (Nat.not_lt_zero _)
  | F + 1, k, p, h, e, hp => by
    unfold SetTable.probe.go
    cases hs : t.slot p.j with
    | empty =>
      refine .inl ⟨p.j, ?_, hs, ?_⟩
      · dsimp only
        rw [hp.2.2]
      · have := hp.2.1
        omega
    | dummy => exact absurd hs (slot_ndummy ht)
    | live i =>
      have hk : k ≠ 0 := fun z => by
        subst z
        have e' : t.slot p.j = .empty := e
        rw [hs] at e'
        cases e'
      obtain ⟨k', rfl⟩ : ∃ k', k = k' + 1 := ⟨k - 1, by omega⟩
      have e' : t.slot (advN t k' (t.advance p)).j = .empty := e
      dsimp only
      by_cases hf : (f i == x) = true
      · rw [if_pos hf]
        exact .inr ⟨p.j, i, t.advance p, k', rfl, hs, by omega, e', hp.adv⟩
      · rw [if_neg hf]
        rcases go_ok ht F k' (t.advance p) (by omega) e' hp.adv with h1 | ⟨j, i', q, k'', h1, h2, h3, h4⟩
        · exact .inl h1
        · exact .inr ⟨j, i', q, k'', h1, h2, by omega, h4⟩
theorem le_of_subN : ∀ (l ns : List Nat), l.Nodup → (∀ x ∈ l, x ∈ ns) → l.length ≤ ns.length
  | [], ns, _, _ => Nat.zero_le _
  | x :: l, ns, nd, h => by
    obtain ⟨n1, n2⟩ := List.nodup_cons.mp nd
    have ih := le_of_subN l (ns.erase x) n2 fun y hy => (List.mem_erase_of_ne (fun (e : y = x) => n1 (e ▸ hy))).mpr (h y (List.mem_cons_of_mem _ hy))
    have hx := h x List.mem_cons_self
    have e := List.length_erase_of_mem hx
    have pos : 0 < ns.length := List.length_pos_of_mem hx
    rw [List.length_cons]
    omega
/-- what is to be known of a table that holds n keys -/
structure TabG (t : SetTable) (n : Nat) : Prop where
  ti : ∃ b, TabI t b
  gm : GM t.mask
  sz : t.place.size = n
  room : n * 5 < t.mask * 3
  low : ∀ j ∈ t.place.toList, j ≤ t.mask
theorem TabG.gap {t : SetTable} {n : Nat} (h : TabG t n) : ∃ j, j ≤ t.mask ∧ t.slot j = .empty := by
  obtain ⟨b, ti⟩ := h.ti
  have hn := h.room
  have hs := h.sz
  by_cases hx : ∃ j, j ≤ t.mask ∧ j ∉ t.place.toList
  · obtain ⟨j, h1, h2⟩ := hx
    exact ⟨j, h1, slot_free ti h2⟩
  · exfalso
    have hall : ∀ j ∈ List.range (t.mask + 1), j ∈ t.place.toList := fun j hj => by
      have h1 := List.mem_range.mp hj
      exact Classical.byContradiction fun z => hx ⟨j, by omega, z⟩
    have := le_of_subN _ _ List.nodup_range hall
    rw [List.length_range, Array.length_toList] at this
    omega
theorem TabG.start {t : SetTable} {n : Nat} (h : TabG t n) (x : Int) : ∃ k, k < 10 * SetTable.turns t.mask ∧ t.slot (advN t k (t.probeStart x)).j = .empty := by
  obtain ⟨j, hj, e⟩ := h.gap
  obtain ⟨k, hk, e2⟩ := probe_reach t h.gm x hj
  refine ⟨k, by unfold SetTable.turns; omega, ?_⟩
  rw [e2]
  exact e
theorem TabG.fresh (b : Bool) : TabG (.fresh 0 0 b) 0 := ⟨⟨b, TabI.fresh b⟩, .inl rfl, rfl, by show 0 * 5 < 7 * 3; decide, fun j hj => by cases hj⟩
theorem TabG.fits {t : SetTable} {n : Nat} (h : TabG t n) : t.fits n = true := by
  obtain ⟨b, ti⟩ := h.ti
  have := h.sz
  have := h.room
  unfold SetTable.fits SetTable.fill
  rw [ti.dum]
  simp
  omega
theorem TabG.odd {t : SetTable} {n : Nat} (h : TabG t n) : t.gaveWay = false := by
  unfold SetTable.gaveWay
  rcases h.gm with e | e | e | e <;> rw [e] <;> rfl
end L2

set_option Elab.async false
set_option linter.all false
set_option maxRecDepth 100000
set_option maxHeartbeats 4000000
namespace L2
open PySem
/-! a set's table laid anew -/
abbrev Own := Array (Option Nat)
def cntS (o : Own) : Nat := o.toList.countP Option.isSome
theorem own_gap {o : Own} {m : Nat} (hs : o.size = m + 1) (hc : cntS o ≤ m) : ∃ j, j ≤ m ∧ o.getD j (some 0) = none := by
  by_cases h : ∃ j, j ≤ m ∧ o.getD j (some 0) = none
  · exact h
  · exfalso
    have : cntS o = o.toList.length := by
      unfold cntS
      rw [List.countP_eq_length]
      intro a ha
      obtain ⟨i, hi⟩ := List.getElem?_of_mem ha
      have hl := (List.getElem?_eq_some_iff.mp hi).1
      rw [Array.length_toList, hs] at hl
      cases a with
      | some v => rfl
      | none =>
        refine absurd ⟨i, by omega, ?_⟩ h
        rw [Array.getElem?_toList] at hi
        rw [Array.getD_eq_getD_getElem?, hi]
        rfl
    rw [Array.length_toList, hs] at this
    omega
theorem free_ok {m : Nat} {o : Own} {j0 : Nat} (h0 : o.getD j0 (some 0) = none) : ∀ (F n i p : Nat), n < F → (leapN m n (i, p)).1 = j0 → ∃ j, SetTable.layClean.free m o F i p = some j ∧ o.getD j (some 0) = none
  | 0, n, i, p, h, _ => absurd h (Nat.not_lt_zero _)
  | F + 1, n, i, p, h, e => by
    unfold SetTable.layClean.free
    cases hf : (List.range (SetTable.runEnd m i + 1 - i)).find? fun k => (o.getD (i + k) (some 0)).isNone with
    | some k =>
      refine ⟨i + k, rfl, ?_⟩
      have := List.find?_some hf
      exact Option.isNone_iff_eq_none.mp this
    | none =>
      have hn : n ≠ 0 := fun z => by
        subst z
        have e' : i = j0 := e
        have h1 := List.find?_eq_none.mp hf 0 (List.mem_range.mpr (by unfold SetTable.runEnd; split <;> omega))
        rw [Nat.add_zero, e', h0] at h1
        exact h1 rfl
      obtain ⟨n', rfl⟩ : ∃ n', n = n' + 1 := ⟨n - 1, by omega⟩
      exact free_ok h0 F n' _ _ (by omega) e
structure OwnI (m : Nat) (o : Own) (k : Nat) : Prop where
  sz : o.size = m + 1
  cnt : cntS o = k
  val : ∀ j v, o.getD j none = some v → v < k
theorem own_step {m : Nat} (hm : GM m) {o : Own} {k : Nat} (h : OwnI m o k) (hk : k ≤ m) (x : Int) :
    ∃ j, SetTable.layClean.free m o (SetTable.turns m) (SetTable.bits x % (m + 1)) (SetTable.bits x) = some j ∧ OwnI m (o.setIfInBounds j (some k)) (k + 1) := by
  obtain ⟨j0, hj0, e0⟩ := own_gap h.sz (by rw [h.cnt]; exact hk)
  have hi : SetTable.bits x % (m + 1) ≤ m := by
    have := Nat.mod_lt (SetTable.bits x) (show 0 < m + 1 by omega)
    omega
  obtain ⟨n, hn, e⟩ := leap_reach hm hi (bits_lt x) hj0
  obtain ⟨j, h1, h2⟩ := free_ok e0 (SetTable.turns m) n _ _ (by unfold SetTable.turns; omega) e
  refine ⟨j, h1, ?_⟩
  have hj : j < o.size := by
    refine Classical.byContradiction fun z => ?_
    rw [Array.getD_eq_getD_getElem?, Array.getElem?_eq_none_iff.mpr (by omega)] at h2
    cases h2
  have hoj : o[j] = none := by
    rw [Array.getD_eq_getD_getElem?, Array.getElem?_eq_getElem hj] at h2
    exact h2
  refine ⟨by rw [Array.size_setIfInBounds]; exact h.sz, ?_, fun i v hv => ?_⟩
  · have hc := h.cnt
    unfold cntS at hc ⊢
    rw [Array.toList_setIfInBounds, List.countP_set (by simpa using hj)]
    have : o.toList[j]'(by simpa using hj) = none := by simpa using hoj
    rw [this, hc]
    simp
  · rw [Array.getD_eq_getD_getElem?, Array.getElem?_setIfInBounds] at hv
    split at hv
    · have : k = v := Option.some.inj hv
      omega
    · have := h.val i v (by rw [Array.getD_eq_getD_getElem?]; exact hv)
      omega
theorem lay_fold {m : Nat} (hm : GM m) : ∀ (hs : List Int) (o : Own) (k : Nat), OwnI m o k → k + hs.length ≤ m + 1 → ∃ o', OwnI m o' (k + hs.length) ∧
    hs.foldl (fun (acc : Option (Own × Nat)) h => do
      let (owner, k) ← acc
      let j ← SetTable.layClean.free m owner (SetTable.turns m) (SetTable.bits h % (m + 1)) (SetTable.bits h)
      pure (owner.setIfInBounds j (some k), k + 1)) (some (o, k)) = some (o', k + hs.length)
  | [], o, k, h, _ => ⟨o, h, rfl⟩
  | x :: hs, o, k, h, hk => by
    rw [List.length_cons] at hk
    obtain ⟨j, e, h'⟩ := own_step hm h (by omega) x
    obtain ⟨o', h1, h2⟩ := lay_fold hm hs _ (k + 1) h' (by omega)
    refine ⟨o', ?_, ?_⟩
    · rw [List.length_cons, show k + (hs.length + 1) = k + 1 + hs.length by omega]
      exact h1
    · rw [List.foldl_cons, List.length_cons, show k + (hs.length + 1) = k + 1 + hs.length by omega, ← h2]
      congr 1
      show (do let j ← SetTable.layClean.free m o (SetTable.turns m) (SetTable.bits x % (m + 1)) (SetTable.bits x); pure (o.setIfInBounds j (some k), k + 1)) = _
      rw [e]
      rfl
theorem lay_ok {m : Nat} (hm : GM m) (hs : Array Int) (h : hs.size ≤ m + 1) : ∃ o, SetTable.layClean m hs = some o ∧ OwnI m o hs.size := by
  have h0 : OwnI m (Array.replicate (m + 1) none) 0 := by
    refine ⟨by simp, ?_, fun j v hv => ?_⟩
    · unfold cntS
      rw [Array.toList_replicate, List.countP_replicate]
      rfl
    · rw [Array.getD_eq_getD_getElem?, Array.getElem?_replicate] at hv
      split at hv <;> cases hv
  obtain ⟨o, h1, h2⟩ := lay_fold hm hs.toList _ 0 h0 (by rw [Array.length_toList]; omega)
  rw [Nat.zero_add, Array.length_toList] at h1 h2
  refine ⟨o, ?_, h1⟩
  unfold SetTable.layClean
  rw [← Array.foldl_toList, h2]
  rfl
theorem live_len (l : List (Option Nat)) : ((List.range l.length).filterMap fun j => (l[j]?.getD none).map (j, ·)).length = l.countP Option.isSome := by
  rw [List.length_filterMap_eq_countP]
  have e : (List.range l.length).map (fun j => l[j]?.getD none) = l := by
    refine List.ext_getElem (by simp) fun i h1 h2 => ?_
    simp [List.getElem?_eq_getElem h2]
  have h2 : l.countP Option.isSome = ((List.range l.length).map (fun j => l[j]?.getD none)).countP Option.isSome := by rw [e]
  rw [h2, List.countP_map]
  congr 1
  funext j
  simp
theorem laid_ok {m : Nat} (hm : GM m) (fi mv : Nat) (led pl : Bool) (hs : Array Int) (h : hs.size ≤ m + 1) : ∃ t' order, SetTable.laid m fi mv led pl hs = some (t', order) ∧
    t'.mask = m ∧ TabI t' led ∧ t'.place.size = hs.size ∧ (∀ j ∈ t'.place.toList, j ≤ m) ∧ order.size = hs.size ∧ ∀ x ∈ order.toList, x < hs.size := by
  obtain ⟨o, e, ho⟩ := lay_ok hm hs h
  have hl : ((List.range (m + 1)).filterMap fun j => (o.getD j none).map (j, ·)).length = hs.size := by
    have h1 := live_len o.toList
    have hz : o.toList.length = m + 1 := by rw [Array.length_toList, ho.sz]
    rw [hz] at h1
    have h2 := ho.cnt
    unfold cntS at h2
    rw [h2] at h1
    rw [← h1]
    congr 2
    funext j
    rw [Array.getD_eq_getD_getElem?, Array.getElem?_toList]
  unfold SetTable.laid
  rw [e]
  refine ⟨_, _, rfl, rfl, ⟨rfl, rs_filter (f := fun j => o.getD j none) _, rfl⟩, ?_, ?_, ?_, ?_⟩
  · show (List.map _ _).toArray.size = _
    rw [List.size_toArray, List.length_map]
    exact hl
  · intro j hj
    have hj' : j ∈ ((List.range (m + 1)).filterMap fun j => (o.getD j none).map (j, ·)).map (·.1) := by simpa using hj
    obtain ⟨p, hp, rfl⟩ := List.mem_map.mp hj'
    obtain ⟨j', hj1, hj2⟩ := List.mem_filterMap.mp hp
    obtain ⟨v, _, rfl⟩ := Option.map_eq_some_iff.mp hj2
    have := List.mem_range.mp hj1
    show j' ≤ m
    omega
  · show (List.map _ _).toArray.size = _
    rw [List.size_toArray, List.length_map]
    exact hl
  · intro x hx
    have hx' : x ∈ ((List.range (m + 1)).filterMap fun j => (o.getD j none).map (j, ·)).map (·.2) := by simpa using hx
    obtain ⟨p, hp, rfl⟩ := List.mem_map.mp hx'
    obtain ⟨j', hj1, hj2⟩ := List.mem_filterMap.mp hp
    obtain ⟨v, hv, rfl⟩ := Option.map_eq_some_iff.mp hj2
    exact ho.val j' v hv
theorem order_len {α : Type} (es : Array α) (order : Array Nat) (h : ∀ x ∈ order.toList, x < es.size) : (order.filterMap (es[·]?)).size = order.size := by
  rw [← Array.length_toList, Array.toList_filterMap, List.length_filterMap_eq_countP, ← Array.length_toList, List.countP_eq_length]
  intro x hx
  rw [Array.getElem?_eq_getElem (h x hx)]
  rfl
/-- the next mask -/
theorem grow_ok {m n : Nat} (hm : GM m) (h1 : n * 5 < m * 3) (h2 : m * 3 ≤ (n + 1) * 5) (h3 : n + 1 ≤ 100) : GM (SetTable.sizeAbove (SetTable.grown (n + 1)) - 1) ∧ (n + 1) * 5 < (SetTable.sizeAbove (SetTable.grown (n + 1)) - 1) * 3 ∧ SetTable.sizeAbove (SetTable.grown (n + 1)) ≤ 512 := by
  rcases hm with rfl | rfl | rfl | rfl
  · obtain rfl : n = 4 := by omega
    exact ⟨.inr (.inl (by decide)), by decide, by decide⟩
  · obtain rfl : n = 18 := by omega
    exact ⟨.inr (.inr (.inl (by decide))), by decide, by decide⟩
  · obtain rfl : n = 76 := by omega
    exact ⟨.inr (.inr (.inr (by decide))), by decide, by decide⟩
  · omega
end L2

set_option Elab.async false
set_option linter.all false
set_option maxRecDepth 100000
set_option maxHeartbeats 4000000
namespace L2
open PySem PySem.Spec PyProof.Rows
/-! tuples within tuples, of whole numbers and texts, as they lie in the heap -/
def DeepR (h : Heap) : Nat → Value → Prop
  | 0, v => ∃ k, keyIs k v = true
  | n + 1, v => (∃ k, keyIs k v = true) ∨ ∃ a its, v = .ref a ∧ PTup h a its ∧ ∀ u ∈ its.toList, DeepR h n u
def EqRR (h : Heap) : Nat → Value → Value → Bool → Prop
  | 0, v, u, b => ∃ x y : V, RelV x v ∧ RelV y u ∧ flatV x = true ∧ flatV y = true ∧ b = eqV x y
  | n + 1, v, u, b => (∃ x y : V, RelV x v ∧ RelV y u ∧ flatV x = true ∧ flatV y = true ∧ b = eqV x y) ∨
      ∃ a c xs ys, v = .ref a ∧ u = .ref c ∧ PTup h a xs ∧ PTup h c ys ∧ (a = c → b = true) ∧ ∃ e : Nat → Bool, (∀ j (h1 : j < xs.size) (h2 : j < ys.size), EqRR h n xs[j] ys[j] (e j)) ∧ b = ((List.range (min xs.size ys.size)).all e && xs.size == ys.size)
theorem PTup.keep {h h' : Heap} (k : ∀ b o, o.cls = .type "tuple" → h.get? b = some o → h'.get? b = some o) {a : Addr} {its : Array Value} (x : PTup h a its) : PTup h' a its := by
  obtain ⟨o, e, c, r⟩ := x
  exact ⟨o, k a o c e, c, r⟩
theorem DeepR.keep {h h' : Heap} (k : ∀ b o, o.cls = .type "tuple" → h.get? b = some o → h'.get? b = some o) : ∀ {n : Nat} {v : Value}, DeepR h n v → DeepR h' n v
  | 0, v, x => x
  | n + 1, v, x => by
    rcases x with x | ⟨a, its, e, p, q⟩
    · exact .inl x
    · exact .inr ⟨a, its, e, p.keep k, fun u hu => (q u hu).keep k⟩
theorem EqRR.keep {h h' : Heap} (k : ∀ b o, o.cls = .type "tuple" → h.get? b = some o → h'.get? b = some o) : ∀ {n : Nat} {v u : Value} {b : Bool}, EqRR h n v u b → EqRR h' n v u b
  | 0, v, u, b, x => x
  | n + 1, v, u, b, x => by
    rcases x with x | ⟨a, c, xs, ys, e1, e2, p1, p2, hac, e, he, hb⟩
    · exact .inl x
    · exact .inr ⟨a, c, xs, ys, e1, e2, p1.keep k, p2.keep k, hac, e, fun j h1 h2 => (he j h1 h2).keep k, hb⟩
section
variable {prog : Program} {w : World} {E : Value → Shared → Prop}
theorem eqrr_at {s : Shared} : ∀ (n : Nat) {A : Around} {v u : Value} {b : Bool}, A.units + n < cLine → EqRR s.heap n v u b → SeqAt.EqAt A s v u b
  | 0, A, v, u, b, _, h => by
    obtain ⟨x, y, r1, r2, f1, f2, rfl⟩ := h
    exact eqAt_V r1 r2 f1 f2
  | n + 1, A, v, u, b, hu, h => by
    rcases h with ⟨x, y, r1, r2, f1, f2, rfl⟩ | ⟨a, c, xs, ys, rfl, rfl, p1, p2, hac, e, he, hb⟩
    · exact eqAt_V r1 r2 f1 f2
    · by_cases ac : a = c
      · rw [hac ac]
        subst ac
        exact SeqAt.EqAt.same _
      · have z := SeqAt.RcAt.tuples (A := A) (s := s) (e := e) p1.isTup p2.isTup (by omega) fun j h1 h2 => eqrr_at n (A := A.in1) (by show A.units + 1 + n < cLine; omega) (he j h1 h2)
        rw [← hb] at z
        exact SeqAt.EqAt.of_refs ac z
theorem hash_deep : ∀ (n : Nat) {A : Around} {s : Shared} {v : Value} {Q : Int → Shared → Prop}, A.units + n < cLine → DeepR s.heap n v → (∀ i tk, Q i { s with toks := tk }) → wpAny (model prog w) A (pyHash v) Q E s
  | 0, A, s, v, Q, hu, ⟨k, hk⟩, h => (mixKind prog w).pyHash (k := k) hk (h _ _)
  | n + 1, A, s, v, Q, hu, hv, h => by
    rcases hv with ⟨k, hk⟩ | ⟨a, its, rfl, pt, hd⟩
    · exact (mixKind prog w).pyHash (k := k) hk (h _ _)
    obtain ⟨o, ho, hc, ⟨nn, hdt⟩, _⟩ := pt
    have hT : s.TypeIs (.ref a) "tuple" := ⟨o, ho, hc⟩
    unfold pyHash
    first | unfold pyHashByItsType | skip
    first | refine wpAny_bind (wpAny_cRoomFor_or (.inr (by omega)) ?_) | skip
    refine wpAny_bind (wpAny_specialOf hT PySem.F.slot_tuple_hash.lookup ?_)
    show wpAny _ _ (if (some (Value.builtin "tuple.__hash__") == some Value.none) = true then _ else _) Q E s
    rw [if_neg (by rw [beq_builtin_none]; exact Bool.false_ne_true)]
    refine wpAny_bind (wpAny_specialOf hT PySem.F.slot_tuple_hash.lookup ?_)
    show wpAny _ _ (callSpecialIfBoundUnlessNone? (.ref a) "__hash__" _ >>= _) Q E s
    refine wpAny_bind (wpAny_callSpecialIfBoundUnlessNone?_slot hT PySem.F.slot_tuple_hash (wpAny_call_entry PySem.F.slot_tuple_hash hT PySem.F.entry_tuple_hash ?_ (PySem.F.args_tuple_hash_1 _)))
    show wpAny _ _ (Builtin.Tuple.tupleItemsOf (.ref a) >>= _) _ _ s
    refine wpAny_bind (wpAny_tupleItemsOf ho hdt ?_)
    refine wpAny_bind ?_
    rw [← Array.forIn_toList]
    refine wpAny_forIn_list _ (fun rest (b : Array Int) s' => (∀ u ∈ rest, DeepR s.heap n u) ∧ ∃ tk, s' = { s with toks := tk }) _ ?_ ?_ _ _ ⟨hd, s.toks, rfl⟩
    · rintro x rest b s' ⟨hl, tk, rfl⟩
      refine wpAny_bind (hash_deep n (A := A.in1) (by show A.units + 1 + n < cLine; omega) (hl x List.mem_cons_self) fun i tk' => ?_)
      first
        | exact wpAny_pure ⟨fun u hu => hl u (List.mem_cons_of_mem _ hu), tk', rfl⟩
        | exact wpAny_bind (wpAny_pure (wpAny_pure ⟨fun u hu => hl u (List.mem_cons_of_mem _ hu), tk', rfl⟩))
    · rintro b s' ⟨_, tk, rfl⟩
      show wpAny _ _ (retInt (Builtin.Tuple.tupleHashOf b.toList)) _ _ _
      refine wpAny_ret_mkInt ?_
      show wpAny _ _ (if (decide (-(2 : Int) ^ 63 ≤ Builtin.Tuple.tupleHashOf b.toList) && decide (Builtin.Tuple.tupleHashOf b.toList < 2 ^ 63)) = true then _ else _) Q E _
      by_cases hr : (decide (-(2 : Int) ^ 63 ≤ Builtin.Tuple.tupleHashOf b.toList) && decide (Builtin.Tuple.tupleHashOf b.toList < 2 ^ 63)) = true
      · rw [if_pos hr]
        exact wpAny_pure (h _ _)
      · rw [if_neg hr]
        exact wpAny_bind (wpAny_rule (wpAny_pure (h _ _)))
theorem quiet_deep {s : Shared} : ∀ (n m : Nat) {A : Around} {v : Value} {Q : Bool → Shared → Prop}, n ≤ m → DeepR s.heap n v → Q true s → wpAny (model prog w) A (eqIsQuiet m v) Q E s
  | 0, m, A, v, Q, _, ⟨k, hk⟩, h => by
    rcases keyIs_shape hk with ⟨i, t, rfl, rfl⟩ | ⟨x, t, rfl, rfl⟩
    · rw [eqIsQuiet_byValue _ rfl]; exact wpAny_pure h
    · rw [eqIsQuiet_byValue _ rfl]; exact wpAny_pure h
  | n + 1, m, A, v, Q, hm, hv, h => by
    rcases hv with ⟨k, hk⟩ | ⟨a, its, rfl, pt, hd⟩
    · rcases keyIs_shape hk with ⟨i, t, rfl, rfl⟩ | ⟨x, t, rfl, rfl⟩
      · rw [eqIsQuiet_byValue _ rfl]; exact wpAny_pure h
      · rw [eqIsQuiet_byValue _ rfl]; exact wpAny_pure h
    obtain ⟨m, rfl⟩ : ∃ m', m = m' + 1 := ⟨m - 1, by omega⟩
    obtain ⟨o, ho, hc, ⟨nn, hdt⟩, _⟩ := pt
    have hT : s.TypeIs (.ref a) "tuple" := ⟨o, ho, hc⟩
    unfold eqIsQuiet
    refine wpAny_bind (wpAny_specialOf hT PySem.F.slot_tuple_eq.lookup ?_)
    show wpAny _ _ (isInstance (.ref a) (.type "tuple") >>= _) _ _ s
    refine wpAny_bind (wpAny_isInstance hT isSubtype_tuple_tuple ?_)
    simp only [Bool.not_true, Bool.false_eq_true, if_false]
    refine wpAny_bind (wpAny_seqItems ho hdt ?_)
    refine wpAny_bind ?_
    show wpAny _ _ (forIn its _ _) _ _ s
    rw [← Array.forIn_toList]
    refine wpAny_forIn_list _ (fun rest r s' => r.1 = none ∧ s' = s ∧ ∀ u ∈ rest, DeepR s.heap n u) _ ?_ ?_ _ _ ⟨rfl, rfl, hd⟩
    · rintro v rest r s' ⟨hr, rfl, hall⟩
      refine wpAny_bind (quiet_deep n m (by omega) (hall v List.mem_cons_self) ?_)
      simp only [Bool.not_true, Bool.false_eq_true, if_false]
      exact wpAny_pure ⟨rfl, rfl, fun u hu' => hall u (List.mem_cons_of_mem _ hu')⟩
    · rintro ⟨r1, r2⟩ s' ⟨hr, rfl, _⟩
      simp only at hr
      subst hr
      exact wpAny_pure h
theorem noclass_deep {s : Shared} : ∀ (n m : Nat) {A : Around} {v : Value} {Q : Bool → Shared → Prop}, n < m → DeepR s.heap n v → Q false s → wpAny (model prog w) A (ofAClassStatement m v) Q E s
  | 0, m, A, v, Q, _, ⟨k, hk⟩, h => by
    rcases keyIs_shape hk with ⟨i, t, rfl, rfl⟩ | ⟨x, t, rfl, rfl⟩
    · unfold ofAClassStatement; exact wpAny_pure h
    · unfold ofAClassStatement; exact wpAny_pure h
  | n + 1, m, A, v, Q, hm, hv, h => by
    rcases hv with ⟨k, hk⟩ | ⟨a, its, rfl, pt, hd⟩
    · rcases keyIs_shape hk with ⟨i, t, rfl, rfl⟩ | ⟨x, t, rfl, rfl⟩
      · unfold ofAClassStatement; exact wpAny_pure h
      · unfold ofAClassStatement; exact wpAny_pure h
    obtain ⟨m, rfl⟩ : ∃ m', m = m' + 1 := ⟨m - 1, by omega⟩
    obtain ⟨o, ho, hc, ⟨nn, hdt⟩, _⟩ := pt
    have hT : s.TypeIs (.ref a) "tuple" := ⟨o, ho, hc⟩
    unfold ofAClassStatement
    refine wpAny_bind (wpAny_typeOf hT ?_)
    dsimp only
    simp only [beq_self_eq_true, if_true]
    refine wpAny_bind (wpAny_pure ?_)
    simp only [Bool.not_true, Bool.false_eq_true, if_false]
    refine wpAny_bind (wpAny_seqItems ho hdt ?_)
    dsimp only
    refine wpAny_bind ?_
    rw [← Array.forIn_toList]
    refine wpAny_forIn_list _ (fun rest r s' => r.1 = none ∧ s' = s ∧ ∀ u ∈ rest, DeepR s.heap n u) _ ?_ ?_ _ _ ⟨rfl, rfl, hd⟩
    · rintro v rest r s' ⟨hr, rfl, hall⟩
      refine wpAny_bind (noclass_deep n m (by omega) (hall v List.mem_cons_self) ?_)
      simp only [Bool.false_eq_true, if_false]
      exact wpAny_pure ⟨rfl, rfl, fun u hu' => hall u (List.mem_cons_of_mem _ hu')⟩
    · rintro ⟨r1, r2⟩ s' ⟨hr, rfl, _⟩
      simp only at hr
      subst hr
      exact wpAny_pure h
theorem byvalue_deep {s : Shared} : ∀ (n m : Nat) {A : Around} {v : Value} {Q : Bool → Shared → Prop}, n < m → DeepR s.heap n v → (∀ b, Q b s) → wpAny (model prog w) A (hashByValue m v) Q E s
  | 0, m, A, v, Q, _, ⟨k, hk⟩, h => by
    rcases keyIs_shape hk with ⟨i, t, rfl, rfl⟩ | ⟨x, t, rfl, rfl⟩
    · unfold hashByValue; exact wpAny_pure (h _)
    · unfold hashByValue; exact wpAny_pure (h _)
  | n + 1, m, A, v, Q, hm, hv, h => by
    rcases hv with ⟨k, hk⟩ | ⟨a, its, rfl, pt, hd⟩
    · rcases keyIs_shape hk with ⟨i, t, rfl, rfl⟩ | ⟨x, t, rfl, rfl⟩
      · unfold hashByValue; exact wpAny_pure (h _)
      · unfold hashByValue; exact wpAny_pure (h _)
    obtain ⟨m, rfl⟩ : ∃ m', m = m' + 1 := ⟨m - 1, by omega⟩
    obtain ⟨o, ho, hc, ⟨nn, hdt⟩, _⟩ := pt
    have hT : s.TypeIs (.ref a) "tuple" := ⟨o, ho, hc⟩
    unfold hashByValue
    refine wpAny_bind (wpAny_specialOf hT PySem.F.slot_tuple_hash.lookup ?_)
    show wpAny _ _ (seqItems? (.ref a) >>= _) _ _ s
    refine wpAny_bind (wpAny_seqItems ho hdt ?_)
    refine wpAny_bind ?_
    show wpAny _ _ (forIn its _ _) _ _ s
    rw [← Array.forIn_toList]
    refine wpAny_forIn_list _ (fun rest r s' => r.1 = none ∧ s' = s ∧ ∀ u ∈ rest, DeepR s.heap n u) _ ?_ ?_ _ _ ⟨rfl, rfl, hd⟩
    · rintro v rest r s' ⟨hr, rfl, hall⟩
      refine wpAny_bind (byvalue_deep n m (by omega) (hall v List.mem_cons_self) fun b => ?_)
      cases b with
      | true =>
        simp only [Bool.not_true, Bool.false_eq_true, if_false]
        exact wpAny_pure ⟨rfl, rfl, fun u hu' => hall u (List.mem_cons_of_mem _ hu')⟩
      | false =>
        simp only [Bool.not_false, if_true]
        exact wpAny_pure (wpAny_pure (h false))
    · rintro ⟨r1, r2⟩ s' ⟨hr, rfl, _⟩
      simp only at hr
      subst hr
      exact wpAny_pure (h true)
theorem seen_deep {s : Shared} {n : Nat} (hn : n ≤ 7) {A : Around} {x : Value} (hx : DeepR s.heap n x) : ∀ (l : List Value) {Q : Bool → Shared → Prop}, (∀ y ∈ l, DeepR s.heap n y) → Q false s → wpAny (model prog w) A (searchCouldBeSeen x l) Q E s := by
  intro l Q hl h
  unfold searchCouldBeSeen
  refine wpAny_bind ?_
  refine wpAny_forIn_list _ (fun rest r s' => r.1 = none ∧ s' = s ∧ ∀ u ∈ rest, DeepR s.heap n u) _ ?_ ?_ _ _ ⟨rfl, rfl, hl⟩
  · rintro y rest r s' ⟨hr, rfl, hall⟩
    have hy := hall y List.mem_cons_self
    have hrest : ∀ u ∈ rest, DeepR s'.heap n u := fun u hu' => hall u (List.mem_cons_of_mem _ hu')
    dsimp only
    refine wpAny_ite_split (fun _ => ?_) (fun _ => ?_)
    · exact wpAny_pure ⟨rfl, rfl, hrest⟩
    · refine wpAny_bind (quiet_deep n 8 (by omega) hx ?_)
      simp only [Bool.not_true, Bool.false_eq_true, if_false]
      refine wpAny_bind (quiet_deep n 8 (by omega) hy ?_)
      simp only [Bool.not_true, Bool.false_eq_true, if_false]
      refine wpAny_bind (noclass_deep n 8 (by omega) hx ?_)
      simp only [Bool.false_eq_true, if_false]
      refine wpAny_bind (noclass_deep n 8 (by omega) hy ?_)
      simp only [Bool.false_eq_true, if_false]
      exact wpAny_pure ⟨rfl, rfl, hrest⟩
  · rintro ⟨r1, r2⟩ s' ⟨hr, rfl, _⟩
    simp only at hr
    subst hr
    exact wpAny_pure h
end
end L2

set_option Elab.async false
set_option linter.all false
set_option maxRecDepth 100000
set_option maxHeartbeats 4000000
namespace L2
open PySem PySem.Spec PyProof.Rows
section
variable {prog : Program} {w : World} {E : Value → Shared → Prop}
/-- the search for a key that is not there finds a free place -/
theorem search_free {a : Addr} {x : Value} {h : Int} {A : Around} {s : Shared} {o : Obj} {es : Array (Int × Value)} {ep : Nat} {t : SetTable} {n : Nat} (ho : s.heap.get? a = some o) (hd : o.data = .set es ep t) (hg : TabG t n) (hz : es.size = n) (hu : A.units + 8 < cLine)
    {dn : Nat} (h7 : dn ≤ 7) (hx : DeepR s.heap dn x) (hes : ∀ e ∈ es.toList, DeepR s.heap dn e.2 ∧ (∃ c, e.2 = .ref c) ∧ EqRR s.heap dn e.2 x false) {Q : SetFound → Shared → Prop}
    (q : ∀ j, j ≤ t.mask → t.slot j = .empty → Q (.free j false) s) : ∀ (fuel k : Nat) (stand : Option Prb), k < fuel → k < 10 * SetTable.turns t.mask → PIn t (stand.getD (t.probeStart h)) → t.slot (advN t k (stand.getD (t.probeStart h))).j = .empty →
      wpAny (model prog w) A (setSearchFrom a x h true fuel stand) Q E s
  | 0, k, stand, hk, _, _, _ => absurd hk (Nat.not_lt_zero _)
  | fuel + 1, k, stand, hk, hk2, hp, he => by
    obtain ⟨bb, ti⟩ := hg.ti
    have hf : t.fits es.size = true := by rw [hz]; exact hg.fits
    unfold setSearchFrom
    refine wpAny_bind (wpAny_setState_of ho hd hf ?_)
    dsimp only
    rw [hg.odd]
    simp only [Bool.false_eq_true, if_false]
    have key : ∀ f r, t.probe f h (stand.getD (t.probeStart h)) = r → (∃ j, r = some (.empty j none) ∧ t.slot j = .empty ∧ j ≤ t.mask) ∨ (∃ j i p k', r = some (.candidate j i p) ∧ t.slot j = .live i ∧ k' < k ∧ t.slot (advN t k' p).j = .empty ∧ PIn t p) := fun f r e => by
      subst e
      exact go_ok ti _ k _ hk2 he hp
    generalize hr : t.probe _ h (stand.getD (t.probeStart h)) = r
    rcases key _ _ hr with ⟨j, rfl, e1, e2⟩ | ⟨j, i, p, k', rfl, e1, e2, e3, e4⟩
    · dsimp only
      exact wpAny_pure (q j e2 e1)
    · dsimp only
      have hi : i < es.size := by
        have h1 := (Array.getElem?_eq_some_iff.mp (slot_live e1)).1
        have h2 := hg.sz
        omega
      obtain ⟨hh, y, hey⟩ : ∃ hh y, es[i] = (hh, y) := ⟨_, _, rfl⟩
      have hei : es[i]? = some (hh, y) := by rw [Array.getElem?_eq_getElem hi, hey]
      obtain ⟨d1, ⟨c, rfl⟩, q1⟩ : DeepR s.heap dn y ∧ (∃ c, y = .ref c) ∧ EqRR s.heap dn y x false := hes (hh, y) (by rw [← hey]; exact Array.getElem_mem_toList hi)
      have sm : t.sameMemory t.moves t.mask = some true := by unfold SetTable.sameMemory; simp
      have again := fun (z : k' < fuel) => search_free (h := h) ho hd hg hz hu h7 hx hes q fuel k' (some p) z (by omega) e4 e3
      refine wpAny_ite_split (fun _ => wpAny_bind (seen_deep h7 hx _ ?_ ?_)) (fun _ => ?_)
      · intro z hz'
        obtain ⟨e, he', rfl⟩ := List.mem_map.mp hz'
        exact (hes e (by simpa using (Array.mem_filter.mp (Array.mem_toList_iff.mp he')).1)).1
      all_goals
        try simp only [Bool.false_eq_true, if_false]
        rw [hei]
        dsimp only
        refine wpAny_bind (wpAny_holding (eqrr_at dn (by omega) q1 prog w E _ ?_))
        refine wpAny_bind (wpAny_setState_of ho hd hf ?_)
        dsimp only
        simp only [Bool.and_false, Bool.false_eq_true, if_false]
        rw [sm]
        dsimp only
        rw [if_pos rfl, e1]
        dsimp only
        rw [hei]
        dsimp only
        refine wpAny_bind (wpAny_isSame_ref_self ?_)
        simp only [if_true]
        refine wpAny_bind (wpAny_pure ?_)
        dsimp only
        exact again (by omega)
/-- what is to be known of a set of n keys that lie in the heap -/
def SetH (h : Heap) (a : Addr) (n : Nat) (φ : Value → Prop) : Prop := ∃ o es ep t, h.get? a = some o ∧ o.ExactSet ∧ o.data = .set es ep t ∧ es.size = n ∧ TabG t n ∧ ∀ e ∈ es.toList, φ e.2
/-- a table that may be too full -/
structure TabQ (t : SetTable) (n : Nat) : Prop where
  ti : ∃ b, TabI t b
  gm : GM t.mask
  sz : t.place.size = n
  low : ∀ j ∈ t.place.toList, j ≤ t.mask
  fit : n ≤ t.mask
theorem TabQ.fits {t : SetTable} {n : Nat} (h : TabQ t n) : t.fits n = true := by
  obtain ⟨b, ti⟩ := h.ti
  have := h.sz
  have := h.fit
  unfold SetTable.fits SetTable.fill
  rw [ti.dum]
  simp
  omega
theorem TabQ.full {t : SetTable} {n : Nat} (h : TabQ t n) : t.tooFull = decide (t.mask * 3 ≤ n * 5) := by
  obtain ⟨b, ti⟩ := h.ti
  have := h.sz
  unfold SetTable.tooFull SetTable.fill
  rw [ti.dum, this]
  rfl
theorem TabG.put {t : SetTable} {n j : Nat} (h : TabG t n) (hj : j ≤ t.mask) (he : t.slot j = .empty) : TabQ (t.put j).1 (n + 1) := by
  obtain ⟨b, ti⟩ := h.ti
  have hp : (t.put j).1.place.toList = t.place.toList.take (SetTable.below t.place j) ++ j :: t.place.toList.drop (SetTable.below t.place j) := ins_list _ _ _
  refine ⟨⟨b, ti.put (slot_empty ti he)⟩, h.gm, ?_, fun i hi => ?_, ?_⟩
  · rw [← Array.length_toList, hp, List.length_append, List.length_cons, List.length_take, List.length_drop, Array.length_toList]
    have := h.sz
    have := cnt_le t.place.toList j
    rw [← below_eq ti.rs, Array.length_toList] at this
    omega
  · rw [hp] at hi
    rcases List.mem_append.mp hi with hi | hi
    · exact h.low i (List.mem_of_mem_take hi)
    · rcases List.mem_cons.mp hi with rfl | hi
      · exact hj
      · exact h.low i (List.mem_of_mem_drop hi)
  · have := h.room
    show n + 1 ≤ t.mask
    rcases h.gm with e | e | e | e <;> omega
theorem TabQ.plain {t : SetTable} {n : Nat} (h : TabQ t n) (b : Bool) : TabQ { t with plain := b } n := by
  obtain ⟨b', ti⟩ := h.ti
  exact ⟨⟨b', ti.dum, ti.rs, ti.led⟩, h.gm, h.sz, h.low, h.fit⟩
theorem stored {h : Heap} {a : Addr} {o : Obj} {es : Array (Int × Value)} {ep : Nat} {t : SetTable} (ho : h.get? a = some o) (hd : o.data = .set es ep t) (es' : Array (Int × Value)) (t' : SetTable) :
    (h.update a (Obj.putSet es' t')).get? a = some { o with data := .set es' (ep + 1) t' } := by
  have := Heap.get?_update_self (Obj.putSet es' t') ho (by rw [putSet_of es' t' hd]; rfl)
  rw [putSet_of es' t' hd] at this; exact this
theorem relayH {a : Addr} {A : Around} {s : Shared} {n : Nat} {o : Obj} {es : Array (Int × Value)} {ep : Nat} {t : SetTable} (ho : s.heap.get? a = some o) (hd : o.data = .set es ep t) (hz : es.size = n + 1) (hq : TabQ t (n + 1)) (h1 : n * 5 < t.mask * 3) (h2 : t.mask * 3 ≤ (n + 1) * 5) (h3 : n + 1 ≤ 100)
    {Q : Unit → Shared → Prop} (q : ∀ es' t', es'.size = n + 1 → TabG t' (n + 1) → (∀ e ∈ es'.toList, e ∈ es.toList) → Q () { s with heap := s.heap.update a (Obj.putSet es' t') }) : wpAny (model prog w) A (setRelay a (SetTable.grown (n + 1))) Q E s := by
  obtain ⟨g1, g2, g3⟩ := grow_ok hq.gm h1 h2 h3
  have hf : t.fits es.size = true := by rw [hz]; exact hq.fits
  unfold setRelay
  refine wpAny_bind (wpAny_setState_of ho hd hf ?_)
  dsimp only
  have hsl : ¬ SetTable.sizeAbove (SetTable.grown (n + 1)) > sizeLine := by rw [sizeLine_eq]; omega
  rw [if_neg hsl]
  have hroom : (es.map (·.1)).size ≤ SetTable.sizeAbove (SetTable.grown (n + 1)) - 1 + 1 := by rw [Array.size_map, hz]; omega
  obtain ⟨t', order, e1, e2, e3, e4, e5, e6, e7⟩ := laid_ok g1 t.finger (t.movedTo (SetTable.sizeAbove (SetTable.grown (n + 1)) - 1)) t.led t.plain (es.map (·.1)) hroom
  have er : t.relaid (es.map (·.1)) (SetTable.grown (n + 1)) = some (t', order) := e1
  rw [er]
  rw [Array.size_map, hz] at e4 e6
  have hol : (order.filterMap (es[·]?)).size = es.size := by
    rw [order_len es order (fun x hx => by have := e7 x hx; rw [Array.size_map] at this; exact this), e6, hz]
  show wpAny _ _ ((if ((order.filterMap (es[·]?)).size != es.size) = true then (unsupported "internal:set-table-lost-an-element" >>= fun _ => pure (order.filterMap (es[·]?), t')) else pure (order.filterMap (es[·]?), t')) >>= _) _ _ _
  rw [if_neg (by rw [hol]; simp)]
  refine wpAny_bind (wpAny_pure ?_)
  dsimp only
  refine wpAny_storeSet_of ho hd (q _ _ (by rw [hol]; exact hz) ⟨⟨_, e3⟩, by rw [e2]; exact g1, e4, by rw [e2]; exact g2, by rw [e2]; exact e5⟩ fun e he => ?_) (by rw [hol, hz, sizeLine_eq]; omega)
  rw [Array.toList_filterMap] at he
  obtain ⟨x, _, hx⟩ := List.mem_filterMap.mp he
  exact Array.mem_toList_iff.mpr (Array.mem_of_getElem? hx)
theorem addTailH {a : Addr} {A : Around} {s : Shared} {n : Nat} {o : Obj} {es : Array (Int × Value)} {ep : Nat} {t : SetTable} (ho : s.heap.get? a = some o) (hex : o.ExactSet) (hd : o.data = .set es ep t) {es1 : Array (Int × Value)} {t2 : SetTable} {φ : Value → Prop} (hz : es1.size = n + 1) (hq : TabQ t2 (n + 1)) (h1 : n * 5 < t2.mask * 3) (h3 : n + 1 ≤ 100)
    (hφ : ∀ e ∈ es1.toList, φ e.2) {Q : Bool → Shared → Prop} (q : ∀ h', Heap.SameBut a s.heap h' → SetH h' a (n + 1) φ → Q true { s with heap := h' }) :
    wpAny (model prog w) A (do
      storeSet a es1 t2
      if (!false && t2.tooFull) = true then do
          setRelay a (SetTable.grown (n + 1))
          pure true
        else pure true) Q E s := by
  refine wpAny_bind (wpAny_storeSet_of ho hd ?_ (by rw [hz, sizeLine_eq]; omega))
  have ho1 := stored ho hd es1 t2
  have hsb1 := Heap.SameBut.update s.heap a (Obj.putSet es1 t2)
  refine wpAny_ite_split (fun c => ?_) (fun c => ?_)
  · have c' : t2.tooFull = true := by simpa using c
    rw [hq.full] at c'
    refine wpAny_bind (relayH (n := n) ho1 rfl hz hq h1 (of_decide_eq_true c') h3 fun es' t' z1 z2 z3 => ?_)
    refine wpAny_pure (q _ (hsb1.trans (Heap.SameBut.update _ a _)) ⟨_, es', _, t', stored ho1 rfl es' t', hex, rfl, z1, z2, fun e he => hφ e (z3 e he)⟩)
  · have c' : ¬ t2.tooFull = true := by simpa using c
    rw [hq.full] at c'
    have hlt : (n + 1) * 5 < t2.mask * 3 := by
      have : ¬ t2.mask * 3 ≤ (n + 1) * 5 := fun z => c' (decide_eq_true z)
      omega
    exact wpAny_pure (q _ hsb1 ⟨_, es1, _, t2, ho1, hex, rfl, hz, ⟨hq.ti, hq.gm, hq.sz, hlt, hq.low⟩, hφ⟩)
theorem mem_insertAt {α : Type} {xs : Array α} {p : Nat} {x y : α} (h : y ∈ (SetTable.insertAt xs p x).toList) : y = x ∨ y ∈ xs.toList := by
  rw [ins_list] at h
  rcases List.mem_append.mp h with h | h
  · exact .inr (List.mem_of_mem_take h)
  · rcases List.mem_cons.mp h with h | h
    · exact .inl h
    · exact .inr (List.mem_of_mem_drop h)
theorem size_insertAt {α : Type} {xs : Array α} {p : Nat} {x : α} : (SetTable.insertAt xs p x).size = xs.size + 1 := by
  rw [← Array.length_toList, ins_list, List.length_append, List.length_cons, List.length_take, List.length_drop, Array.length_toList]
  omega
theorem addH {a : Addr} {x : Value} {h : Int} {A : Around} {s : Shared} {n : Nat} {φ : Value → Prop} (hS : SetH s.heap a n φ) (hu : A.units + 8 < cLine) (hn : n < 90)
    {dn : Nat} (h7 : dn ≤ 7) (hx : DeepR s.heap dn x) (hrx : ∃ c, x = .ref c) (hφ : ∀ y, φ y → DeepR s.heap dn y ∧ (∃ c, y = .ref c) ∧ EqRR s.heap dn y x false) {Q : Bool → Shared → Prop}
    (q : ∀ h', Heap.SameBut a s.heap h' → SetH h' a (n + 1) (fun y => φ y ∨ y = x) → Q true { s with heap := h' }) : wpAny (model prog w) A (setAddHashed a x h) Q E s := by
  obtain ⟨o, es, ep, t, ho, hex, hd, hz, hg, hes⟩ := hS
  obtain ⟨c, rfl⟩ := hrx
  have hf : t.fits es.size = true := by rw [hz]; exact hg.fits
  unfold setAddHashed setAddHashedIn
  refine wpAny_holding (wpAny_bind (wpAny_setState_of ho hd hf ?_))
  dsimp only
  have hb : byScan (.ref c) es = false := by unfold byScan Value.scannable; rfl
  rw [hb]
  simp only [Bool.false_eq_true, if_false]
  unfold setSearch
  obtain ⟨k, hk, hk2⟩ := hg.start h
  have hmask : t.mask ≤ 511 := by rcases hg.gm with e | e | e | e <;> omega
  refine wpAny_bind (search_free ho hd hg hz hu h7 hx (fun e he => hφ _ (hes e he)) (fun j hj hj2 => ?_) 100000 k none (by unfold SetTable.turns at hk; omega) hk (PIn.start t h) hk2)
  dsimp only
  refine wpAny_bind (wpAny_setState_of ho hd hf ?_)
  dsimp only
  have hq := hg.put hj hj2
  have hz1 : (SetTable.insertAt es (t.put j).2 (h, Value.ref c)).size = n + 1 := by rw [size_insertAt, hz]
  have hφ1 : ∀ e ∈ (SetTable.insertAt es (t.put j).2 (h, Value.ref c)).toList, φ e.2 ∨ e.2 = .ref c := fun e he => by
    rcases mem_insertAt he with rfl | he
    · exact .inr rfl
    · exact .inl (hes e he)
  rw [hz]
  refine wpAny_ite_split (fun _ => ?_) (fun _ => ?_)
  · refine wpAny_bind (byvalue_deep dn 8 (by omega) hx fun b => ?_)
    cases b with
    | true => exact addTailH ho hex hd hz1 hq hg.room (by omega) hφ1 q
    | false => exact addTailH ho hex hd hz1 (hq.plain false) hg.room (by omega) hφ1 q
  · refine wpAny_bind (wpAny_pure ?_)
    exact addTailH ho hex hd hz1 hq hg.room (by omega) hφ1 q
theorem set_loopH {R : Result → Shared → Prop} {J l a : Addr} {items : Array Value} {A : Around} {h0 : Heap} {dn : Nat} (h7 : dn ≤ 7) (hu : A.in1.units + 8 < cLine) (hh : A.in1.handled = none) (hJ : l ≠ J) (aJ : a ≠ J) (al : a ≠ l) (hb : items.size ≤ 90)
    (hlo : ∀ b o, h0.get? b = some o → b ≠ a ∧ b ≠ J) (hv : ∀ (i : Nat) (v : Value), items[i]? = some v → DeepR h0 dn v ∧ ∃ c, v = .ref c) (hne : ∀ (i j : Nat) (u v : Value), i < j → items[i]? = some u → items[j]? = some v → EqRR h0 dn u v false) :
    ∀ (k i : Nat) (s : Shared), items.size - i = k → i ≤ items.size → s.heap.IsListIter J l i → s.heap.IsList l items → SetH s.heap a i (fun y => ∃ j, j < i ∧ items[j]? = some y) → (∀ b o, h0.get? b = some o → s.heap.get? b = some o) →
      (∀ h' tk, (∀ b o, b ≠ a → b ≠ J → s.heap.get? b = some o → h'.get? b = some o) → SetH h' a items.size (fun _ => True) → R (.ok (.ret .none)) { s with heap := h', toks := tk }) →
      codeAny (model prog w) A (.builtin "set.update.loop" ⟨[.ref a, .ref J], []⟩) R s := by
  intro k
  induction k with
  | zero =>
    intro i s hk hi h1 h2 h3 h4 hR
    have e : i = items.size := by omega
    subst e
    refine codeAny_builtin PyProof.Rows.F.entry_set_update_loop ?_
    rw [Around.under_plainId PyProof.Rows.F.plain_set_update_loop _]
    show wpAny _ A.in1 (pyNext (.ref J) >>= _) _ _ s
    refine wpAny_bind (wpAny_pyNext_list_end hh h1 h2 (by simp) fun h' eb => ?_)
    show wpAny _ A.in1 (ret Value.none) _ _ _
    refine wpAny_pure (hR h' s.toks (fun b o _ nb e => eb b o nb e) ?_)
    obtain ⟨o, es, ep, t, ho, hex, hd, hz, hg, _⟩ := h3
    exact ⟨o, es, ep, t, eb a o aJ ho, hex, hd, hz, hg, fun _ _ => trivial⟩
  | succ k ih =>
    intro i s hk hi h1 h2 h3 h4 hR
    have hlt : i < items.size := by omega
    refine codeAny_builtin PyProof.Rows.F.entry_set_update_loop ?_
    rw [Around.under_plainId PyProof.Rows.F.plain_set_update_loop _]
    show wpAny _ A.in1 (pyNext (.ref J) >>= _) _ _ s
    have hi2 : items[i]? = some items[i] := Array.getElem?_eq_getElem hlt
    refine wpAny_bind (wpAny_pyNext_list_item h1 h2 hi2 fun h' h1' sb => ?_)
    obtain ⟨dv, c, ec⟩ := hv i _ hi2
    generalize items[i] = v at hi2 dv ec
    have h3' : SetH h' a i (fun y => ∃ j, j < i ∧ items[j]? = some y) := by
      obtain ⟨o, es, ep, t, ho, r⟩ := h3
      exact ⟨o, es, ep, t, (sb.2 a aJ).trans ho, r⟩
    have k1 : ∀ b o, o.cls = .type "tuple" → h0.get? b = some o → h'.get? b = some o := fun b o _ e => (sb.2 b (hlo b o e).2).trans (h4 b o e)
    show wpAny _ A.in1 (holding [v] (setAdd a v) >>= _) _ _ _
    refine wpAny_bind (wpAny_holding ?_)
    unfold setAdd
    refine wpAny_holding (wpAny_bind (hash_deep dn (by omega) (dv.keep k1) fun hs tk => ?_))
    refine addH (s := { s with heap := h', toks := tk }) h3' hu (by omega) h7 (dv.keep k1) ⟨c, ec⟩ (fun y hy => ?_) fun h'' sb2 h5 => ?_
    · obtain ⟨j, hj, ej⟩ := hy
      obtain ⟨d1, d2⟩ := hv j y ej
      exact ⟨d1.keep k1, d2, (hne j i y v hj ej hi2).keep k1⟩
    · have h6 : SetH h'' a (i + 1) (fun y => ∃ j, j < i + 1 ∧ items[j]? = some y) := by
        obtain ⟨o, es, ep, t, ho, hex, hd, hz, hg, hφ⟩ := h5
        refine ⟨o, es, ep, t, ho, hex, hd, hz, hg, fun e he => ?_⟩
        rcases hφ e he with ⟨j, hj, ej⟩ | ej
        · exact ⟨j, by omega, ej⟩
        · exact ⟨i, by omega, by rw [ej]; exact hi2⟩
      refine wpAny_pure ⟨plainId_quiet PyProof.Rows.F.plain_set_update_loop _, ih (i + 1) { s with heap := h'', toks := tk } (by omega) hlt ?_ ?_ h6 (fun b o e => (sb2.2 b (hlo b o e).1).trans ((sb.2 b (hlo b o e).2).trans (h4 b o e))) fun h6 tk k6 s6 => hR h6 tk (fun b o na nJ e => k6 b o na nJ ((sb2.2 b na).trans ((sb.2 b nJ).trans e))) s6⟩
      · obtain ⟨o, q1, q2⟩ := h1'
        exact ⟨o, (sb2.2 J (Ne.symm aJ)).trans q1, q2⟩
      · obtain ⟨o, q1, q2⟩ := h2
        exact ⟨o, (sb2.2 l (Ne.symm al)).trans ((sb.2 l hJ).trans q1), q2⟩
variable {A : Around} {s : Shared}
theorem set_madeH {l : Addr} {items : Array Value} {dn : Nat} {Q : Value → Shared → Prop} (h7 : dn ≤ 7) (hu : A.units + 40 < cLine) (hh : A.handled = none) (hl : s.heap.IsList l items) (hb : items.size ≤ 90)
    (hv : ∀ (i : Nat) (v : Value), items[i]? = some v → DeepR s.heap dn v ∧ ∃ c, v = .ref c) (hne : ∀ (i j : Nat) (u v : Value), i < j → items[i]? = some u → items[j]? = some v → EqRR s.heap dn u v false)
    (h : ∀ h' tk, SetH h' s.heap.objs.size items.size (fun _ => True) → (∀ b o, b < s.heap.objs.size → s.heap.get? b = some o → h'.get? b = some o) → Q (.ref s.heap.objs.size) { s with heap := h', toks := tk }) :
    wpAny (model prog w) A (call (.type "set") [.ref l]) Q E s := by
  obtain ⟨c0, tl0, hmro⟩ := PySem.F.called_set.mro
  have made := PySem.F.called_set.made; have subs := PySem.F.called_set.sub
  have nt := PySem.F.called_set.notType; have cc := PySem.F.called_set.canCreate; have tcall := PySem.F.typeCall_set_1 (.ref l)
  refine wpAny_call (codeAny_of_tree ?_)
  show wpAny _ _ (callAny (.type "set") ⟨[.ref l], []⟩) _ _ _
  refine wpAny_pure ⟨Code.quiet_builtin _ (by decide +kernel), codeAny_builtin PySem.F.entry_type_call ?_⟩
  rw [Around.under_plain (weight_type_call_type "set" [.ref l] []) rfl]
  repeat (any_goals (first | assumption | wp_step))
  refine codeAny_mono (code_set_new_1 (.ref l) (E := E) (Q₁ := fun v s1 => ∃ b : Bool, v = .ref s.heap.objs.size ∧ s1 = { s with heap := s.heap.push (freshSet b) }) fun b => ⟨b, rfl, rfl⟩) fun r s1 hr => ?_
  match r, hr with
  | .error e, hr => exact hr
  | .ok (.ret v), hr =>
    obtain ⟨b, ev, es⟩ := hr
    subst ev es
    have at0 : (s.heap.push (freshSet b)).get? s.heap.objs.size = some (freshSet b) := Heap.get?_push_size _ rfl
    have ty0 : Shared.TypeIs { s with heap := s.heap.push (freshSet b) } (.ref s.heap.objs.size) "set" := ⟨_, at0, rfl⟩
    have il := PySem.F.called_set.init.lookup
    have ib := PySem.F.called_set.init.bind (.ref s.heap.objs.size)
    repeat (any_goals (first | assumption | wp_step))
    refine codeAny_mono (codeAny_call_builtin (R := wants (fun r s2 => r = .none ∧ ∃ h' tk, s2 = { s with heap := h', toks := tk } ∧ SetH h' s.heap.objs.size items.size (fun _ => True) ∧ ∀ b o, b < s.heap.objs.size → s.heap.get? b = some o → h'.get? b = some o) E) PySem.F.called_set.init.plain PySem.F.entry_set_init (check_set_init_1 ty0 ?_)) fun r2 s2 hr2 => ?_
    · obtain ⟨⟨oc, od, odt, osl⟩, hol, hcl, nl, hdl⟩ := id hl
      have hcl' : oc = _ := hcl; have hdl' : odt = _ := hdl
      subst hcl' hdl'
      have hol1 : (s.heap.push (freshSet b)).get? l = some { cls := .type "list", dict := od, data := .seq items nl, slots := osl } := Heap.get?_push_of_some _ hol
      have n1 := PySem.F.sub_list_set; have n2 := PySem.F.sub_list_frozenset
      have n3 : (Value.type "list" == Value.type "dict") = false := by decide
      have hl1 : (s.heap.push (freshSet b)).IsList l items := ⟨_, hol1, rfl, nl, rfl⟩
      have lS : l < s.heap.objs.size := Heap.lt_size hol
      have jS : (s.heap.push (freshSet b)).objs.size = s.heap.objs.size + 1 := Heap.size_push ..
      unfold Builtin.«set.__init__» noKeywords Builtin.Frozenset.updateFrom
      generalize ePI : pyIter = PI
      wp_walk
      subst ePI
      refine wpAny_pyIter_list hl1 (wpAny_bind (wpAny_runValue ?_))
      refine set_loopH (J := (s.heap.push (freshSet b)).objs.size) (l := l) (a := s.heap.objs.size) (items := items) (h0 := s.heap) (dn := dn) h7 ?hunits (by simp [hh]) (Nat.ne_of_lt (by rw [jS]; exact Nat.lt_succ_of_lt lS)) (Nat.ne_of_lt (by rw [jS]; exact Nat.lt_succ_self _)) (Nat.ne_of_gt lS) hb (fun b' o e => ?_) hv hne (items.size - 0) 0 _ rfl (Nat.zero_le _) ⟨_, Heap.get?_push_size _ rfl, rfl, rfl⟩ (hl1.push _) ?_ (fun b' o e => Heap.get?_push_of_some _ (Heap.get?_push_of_some _ e)) fun h' tk hk hS => ?_
      case hunits => show A.units + 1 + 1 + 1 + 8 < cLine; omega
      · have := Heap.lt_size e
        exact ⟨Nat.ne_of_lt this, Nat.ne_of_lt (by rw [jS]; exact Nat.lt_succ_of_lt this)⟩
      · exact ⟨freshSet b, #[], 0, _, Heap.get?_push_of_some _ at0, ⟨rfl, rfl, rfl⟩, rfl, rfl, TabG.fresh b, fun e he => by cases he⟩
      · show wpAny _ _ _ _ _ _
        refine wpAny_pure ?_
        show wpAny _ _ (ret Value.none) _ _ _
        refine wpAny_pure ⟨rfl, h', tk, rfl, hS, fun c o hc e => hk c o (Nat.ne_of_lt hc) (Nat.ne_of_lt (by rw [jS]; exact Nat.lt_succ_of_lt hc)) (Heap.get?_push_of_some _ (Heap.get?_push_of_some _ e))⟩
    · match r2, hr2 with
      | .error e, hr2 => exact hr2
      | .ok (.ret v), hr2 =>
        obtain ⟨ev, h', tk, es, hS, hk⟩ := hr2
        subst ev es
        repeat (any_goals (first | assumption | wp_step))
        exact h _ _ hS hk
      | .ok .next, hr2 => exact hr2.elim
      | .ok .brk, hr2 => exact hr2.elim
      | .ok .cont, hr2 => exact hr2.elim
  | .ok .next, hr => exact hr.elim
  | .ok .brk, hr => exact hr.elim
  | .ok .cont, hr => exact hr.elim
end
/-- tuples within tuples as the abstract heap has them -/
def DeepV (H : Hp) : Nat → V → Prop
  | 0, v => (∃ i, v = .int i) ∨ ∃ x, v = .str x
  | n + 1, v => ((∃ i, v = .int i) ∨ ∃ x, v = .str x) ∨ ∃ a xs, v = .ref a ∧ H a = some (.tup xs) ∧ ∀ x ∈ xs, DeepV H n x
def EqV (H : Hp) : Nat → V → V → Bool → Prop
  | 0, v, u, b => flatV v = true ∧ flatV u = true ∧ b = eqV v u
  | n + 1, v, u, b => (flatV v = true ∧ flatV u = true ∧ b = eqV v u) ∨ ∃ a c xs ys, v = .ref a ∧ u = .ref c ∧ H a = some (.tup xs) ∧ H c = some (.tup ys) ∧ (a = c → b = true) ∧ ∃ e : Nat → Bool, (∀ j x y, xs[j]? = some x → ys[j]? = some y → EqV H n x y (e j)) ∧ b = ((List.range (min xs.length ys.length)).all e && xs.length == ys.length)
section
variable {X : Cx} {pins : List (Addr × Obj)} {σ : St} {H : Hp} {s : Shared}
theorem Vals.get' {xs : List V} {us : List Value} {i : Nat} {u : Value} (r : Vals xs us) (h : us[i]? = some u) : ∃ x, xs[i]? = some x ∧ RelV x u := by
  have hl := r.length
  have hi := (List.getElem?_eq_some_iff.mp h).1
  have hx : xs[i]? = some (xs[i]'(by omega)) := List.getElem?_eq_getElem (by omega)
  obtain ⟨u', e, q⟩ := r.get hx
  rw [h] at e
  cases e
  exact ⟨_, hx, q⟩
theorem deep_of (I : Inv X pins σ H s) : ∀ (n : Nat) {v : V} {u : Value}, RelV v u → DeepV H n v → DeepR s.heap n u
  | 0, v, u, r, h => by
    rcases h with ⟨i, rfl⟩ | ⟨x, rfl⟩
    · obtain ⟨t, rfl⟩ := r
      exact ⟨.inl i, keyIs_int i t⟩
    · obtain ⟨t, rfl⟩ := r
      exact ⟨.inr x, keyIs_str x t⟩
  | n + 1, v, u, r, h => by
    rcases h with (⟨i, rfl⟩ | ⟨x, rfl⟩) | ⟨a, xs, rfl, ha, hx⟩
    · obtain ⟨t, rfl⟩ := r
      exact .inl ⟨.inl i, keyIs_int i t⟩
    · obtain ⟨t, rfl⟩ := r
      exact .inl ⟨.inr x, keyIs_str x t⟩
    · cases r
      obtain ⟨_, us, q1, p1⟩ := I.hok a _ ha
      refine .inr ⟨a, us.toArray, rfl, p1, fun u hu => ?_⟩
      obtain ⟨i, hi⟩ := List.getElem?_of_mem (show u ∈ us by simpa using hu)
      obtain ⟨x, e, rx⟩ := q1.get' hi
      exact deep_of I n rx (hx x (List.mem_of_getElem? e))
theorem eq_of (I : Inv X pins σ H s) : ∀ (n : Nat) {v v' : V} {u u' : Value} {b : Bool}, RelV v u → RelV v' u' → EqV H n v v' b → EqRR s.heap n u u' b
  | 0, v, v', u, u', b, r, r', ⟨h1, h2, h3⟩ => ⟨v, v', r, r', h1, h2, h3⟩
  | n + 1, v, v', u, u', b, r, r', h => by
    rcases h with ⟨h1, h2, h3⟩ | ⟨a, c, xs, ys, rfl, rfl, ha, hc, hac, e, he, hb⟩
    · exact .inl ⟨v, v', r, r', h1, h2, h3⟩
    · cases r
      cases r'
      obtain ⟨_, us, q1, p1⟩ := I.hok a _ ha
      obtain ⟨_, us', q2, p2⟩ := I.hok c _ hc
      refine .inr ⟨a, c, us.toArray, us'.toArray, rfl, rfl, p1, p2, hac, e, fun j h1 h2 => ?_, ?_⟩
      · obtain ⟨x, e1, rx⟩ := q1.get' (i := j) (u := us.toArray[j]) (by simp)
        obtain ⟨y, e2, ry⟩ := q2.get' (i := j) (u := us'.toArray[j]) (by simp)
        exact eq_of I n rx ry (he j x y e1 e2)
      · rw [hb, List.size_toArray, List.size_toArray, q1.length, q2.length]
end
/-- a set of n unlike things, tracked: how many they are -/
def SizSet (a : Addr) (n : Nat) : HO := .ext fun h => SetH h a n (fun _ => True)
theorem SetH.keep {h h' : Heap} {a : Addr} {n : Nat} {φ : Value → Prop} (x : SetH h a n φ) (k : ∀ o, h.get? a = some o → h'.get? a = some o) : SetH h' a n φ := by
  obtain ⟨o, es, ep, t, ho, r⟩ := x
  exact ⟨o, es, ep, t, k o ho, r⟩
section
variable {X : Cx}
theorem kcall_setH (K : PySem.W.Frag) (n : Nat) {k : Nat} (hr : Room k X.A) (hn : n ≤ 7) (hc : X.calm = true) (hK : X.K = K := by rfl) : CallR X (.type "set") (fun xs H Q => ∃ p ys, xs = [.ref p] ∧ SqL K H p ys ∧ ys.length ≤ 90 ∧ (∀ y ∈ ys, DeepV H n y ∧ ∃ c, y = .ref c) ∧ (∀ (i j : Nat) x y, i < j → ys[i]? = some x → ys[j]? = some y → EqV H n x y false) ∧ ∀ a, H a = none → Q (.ref a) (upd H a (SizSet a ys.length))) := by
  subst hK
  intro pins s σ H xs us Q I r h
  obtain ⟨p, ys, rfl, hq, hz, hd, he, q⟩ := h
  obtain ⟨u, rfl, ru⟩ := vals1 r
  cases ru
  obtain ⟨its, rv, pl, _⟩ := I.list hq
  have hu : X.A.units + 64 < cLine := hr.units
  have hl := rv.length
  refine set_madeH (dn := n) hn (by omega) (I.ok.hd hc) pl.isList (by simp; omega) (fun i v hv => ?_) (fun i j u v hij hu hv => ?_) fun h' tk hS hk => ?_
  · obtain ⟨x, e, rx⟩ := rv.get' (i := i) (u := v) (by simpa using hv)
    obtain ⟨d1, c, rfl⟩ := hd x (List.mem_of_getElem? e)
    exact ⟨deep_of I n rx d1, c, rx⟩
  · obtain ⟨x, e1, rx⟩ := rv.get' (i := i) (u := u) (by simpa using hu)
    obtain ⟨y, e2, ry⟩ := rv.get' (i := j) (u := v) (by simpa using hv)
    exact eq_of I n rx ry (he i j x y hij e1 e2)
  have fr := I.hok.fresh (Nat.le_refl s.heap.objs.size)
  have hS' : SetH h' s.heap.objs.size ys.length (fun _ => True) := by
    have : its.toArray.size = ys.length := by rw [List.size_toArray, hl]
    rw [this] at hS
    exact hS
  refine ⟨.ref s.heap.objs.size, _, I.laid (t' := tk) (o := SizSet s.heap.objs.size ys.length) (fun b o e => hk b o (Heap.lt_size e) e) (Nat.le_refl _) ⟨hS', ?_, fun h1 h2 z k => z.keep k⟩, rfl, q _ fr⟩
  obtain ⟨o, _, _, _, ho, _⟩ := hS'
  exact ⟨o, ho⟩
theorem call_lenH : CallR X (.builtin "len") (fun xs H Q => ∃ a n, xs = [.ref a] ∧ H a = some (SizSet a n) ∧ n ≤ 1000 ∧ Q (.int (n : Nat)) H) := by
  intro pins s σ H xs us Q I r h
  obtain ⟨a, n, rfl, ha, hn, q⟩ := h
  obtain ⟨u, rfl, ru⟩ := vals1 r
  cases ru
  obtain ⟨o, es, ep, t, ho, hex, hd, hz, hg, _⟩ := (I.hok a _ ha).1
  have hf : t.fits es.size = true := by rw [hz]; exact hg.fits
  refine call_len_set ho hex hd hf (by omega) ⟨.int _, H, I.tok _, ⟨_, rfl⟩, ?_⟩
  rw [hz]
  exact q
end
end L2

set_option Elab.async false
set_option linter.all false
set_option maxRecDepth 100000
set_option maxHeartbeats 4000000
namespace L4
open PySem L2
/-! cells of half tables put otherwise; all fillings -/
def cellAt (T : Half) (r a : Nat) : Option (Option Int) := (T.cs[r]?).bind fun c => c.cs[a]?
def putC (c : Conn) (a : Nat) (o : Option Int) : Conn := ⟨c.nm, c.pl, c.cs.set a o⟩
def putT (T : Half) (r a : Nat) (o : Option Int) : Half := ⟨T.m, T.ws, T.cs.modify r (putC · a o)⟩
theorem cell_some {T : Half} {r a : Nat} {o : Option Int} (h : cellAt T r a = some o) : ∃ c, T.cs[r]? = some c ∧ c.cs[a]? = some o := by
  unfold cellAt at h
  cases e : T.cs[r]? with
  | none => rw [e] at h; cases h
  | some c => rw [e] at h; exact ⟨c, rfl, h⟩
theorem cell_mk {T : Half} {r a : Nat} {o : Option Int} {c : Conn} (h1 : T.cs[r]? = some c) (h2 : c.cs[a]? = some o) : cellAt T r a = some o := by
  unfold cellAt
  rw [h1]
  exact h2
theorem put_get (T : Half) (r a : Nat) (o : Option Int) (i : Nat) : (putT T r a o).cs[i]? = (T.cs[i]?).map fun c => if r = i then putC c a o else c := by
  show (T.cs.modify r (putC · a o))[i]? = _
  rw [List.getElem?_modify]
  cases T.cs[i]? <;> rfl
theorem cell_put (T : Half) (r a : Nat) (o : Option Int) (i j : Nat) : cellAt (putT T r a o) i j = if r = i ∧ a = j then (cellAt T i j).map fun _ => o else cellAt T i j := by
  unfold cellAt
  rw [put_get]
  cases e : T.cs[i]? with
  | none => simp
  | some c =>
    simp only [Option.map_some, Option.bind_some]
    by_cases hr : r = i
    · rw [if_pos hr]
      show (c.cs.set a o)[j]? = _
      rw [List.getElem?_set]
      by_cases ha : a = j
      · rw [if_pos (show r = i ∧ a = j from ⟨hr, ha⟩), ha]
        by_cases hj : j < c.cs.length
        · simp [hj]
        · simp [hj]
      · rw [if_neg ha, if_neg (fun z => ha z.2)]
    · rw [if_neg hr, if_neg (fun z => hr z.1)]
theorem half_ext {T U : Half} (h1 : T.m = U.m) (h2 : T.ws = U.ws) (h3 : T.cs = U.cs) : T = U := by
  cases T; cases U; cases h1; cases h2; cases h3; rfl
theorem conn_ext {c d : Conn} (h1 : c.nm = d.nm) (h2 : c.pl = d.pl) (h3 : c.cs = d.cs) : c = d := by
  cases c; cases d; cases h1; cases h2; cases h3; rfl
theorem put_back {T : Half} {r a : Nat} {o o' : Option Int} (h : cellAt T r a = some o) : putT (putT T r a o') r a o = T := by
  obtain ⟨c, h1, h2⟩ := cell_some h
  refine half_ext rfl rfl (List.ext_getElem? fun i => ?_)
  rw [put_get, put_get]
  cases e : T.cs[i]? with
  | none => rfl
  | some d =>
    simp only [Option.map_some]
    by_cases hr : r = i
    · rw [if_pos hr]
      congr 1
      subst hr
      rw [e] at h1
      have hcd : d = c := Option.some.inj h1
      subst hcd
      rw [if_pos rfl]
      refine conn_ext rfl rfl ?_
      show (d.cs.set a o').set a o = d.cs
      rw [List.set_set]
      refine List.ext_getElem? fun j => ?_
      rw [List.getElem?_set]
      by_cases ha : a = j
      · subst ha
        rw [if_pos rfl, h2]
        have := (List.getElem?_eq_some_iff.mp h2).1
        rw [if_pos this]
      · rw [if_neg ha]
    · rw [if_neg hr]
      simp [hr]
theorem good_put {T : Half} (g : Good T) {r a : Nat} {o : Option Int} (ho : CellOk T.m o) : Good (putT T r a o) := by
  have hnm : (putT T r a o).cs.map (·.nm) = T.cs.map (·.nm) := by
    refine List.ext_getElem? fun i => ?_
    rw [List.getElem?_map, List.getElem?_map, put_get]
    cases T.cs[i]? with
    | none => rfl
    | some c =>
      simp only [Option.map_some]
      by_cases hr : r = i
      · rw [if_pos hr]; rfl
      · rw [if_neg hr]
  refine ⟨g.m1, g.m9, g.ws, g.rising, g.wl, ?_, by rw [hnm]; exact g.nd, fun c hc => ?_⟩
  · show (T.cs.modify r (putC · a o)).length ≤ 8
    rw [List.length_modify]
    exact g.few
  · obtain ⟨i, hi⟩ := List.getElem?_of_mem hc
    rw [put_get] at hi
    obtain ⟨d, hd, rfl⟩ := Option.map_eq_some_iff.mp hi
    have gd := g.each d (List.mem_of_getElem? hd)
    by_cases hr : r = i
    · rw [if_pos hr]
      refine ⟨gd.nm, gd.p0, gd.p2, ?_, fun x hx => ?_⟩
      · show ((d.cs.set a o).length : Int) = _
        rw [List.length_set]
        exact gd.len
      · rcases List.mem_or_eq_of_mem_set hx with hx | rfl
        · exact gd.cells x hx
        · exact ho
    · rw [if_neg hr]
      exact gd
/-- the open cells, each once -/
def Open (T : Half) (ps : List (Nat × Nat)) : Prop := ps.Nodup ∧ ∀ r a, cellAt T r a = some none ↔ (r, a) ∈ ps
theorem Open.put {T : Half} {l1 l2 : List (Nat × Nat)} {p : Nat × Nat} (h : Open T (l1 ++ p :: l2)) (g : Int) : Open (putT T p.1 p.2 (some g)) (l1 ++ l2) := by
  obtain ⟨nd, h⟩ := h
  have nd' : (p :: (l1 ++ l2)).Nodup := (List.perm_middle.nodup_iff).mp nd
  obtain ⟨n1, n2⟩ := List.nodup_cons.mp nd'
  refine ⟨n2, fun r a => ?_⟩
  rw [cell_put]
  by_cases c : p.1 = r ∧ p.2 = a
  · rw [if_pos c]
    have ep : (r, a) = p := by rw [← c.1, ← c.2]
    constructor
    · intro z
      obtain ⟨_, _, z2⟩ := Option.map_eq_some_iff.mp z
      cases z2
    · intro z
      rw [ep] at z
      exact absurd z n1
  · rw [if_neg c, h r a]
    have ep : (r, a) ≠ p := fun z => c (by rw [← z]; exact ⟨rfl, rfl⟩)
    constructor
    · intro z
      rcases List.mem_append.mp z with z | z
      · exact List.mem_append_left _ z
      · rcases List.mem_cons.mp z with z | z
        · exact absurd z ep
        · exact List.mem_append_right _ z
    · intro z
      rcases List.mem_append.mp z with z | z
      · exact List.mem_append_left _ z
      · exact List.mem_append_right _ (List.mem_cons_of_mem _ z)
theorem Open.full {T : Half} (h : Open T []) : Full T := fun c hc o ho z => by
  obtain ⟨r, hr⟩ := List.getElem?_of_mem hc
  obtain ⟨a, ha⟩ := List.getElem?_of_mem ho
  rw [z] at ha
  have := (h.2 r a).mp (cell_mk hr ha)
  cases this
theorem Open.of_full {T : Half} (h : Full T) : Open T [] := ⟨List.nodup_nil, fun r a => ⟨fun z => by
    obtain ⟨c, h1, h2⟩ := cell_some z
    exact absurd rfl (h c (List.mem_of_getElem? h1) none (List.mem_of_getElem? h2)), fun z => by cases z⟩⟩
theorem Open.one {T : Half} (h : Full T) {r a : Nat} {o : Option Int} (hc : cellAt T r a = some o) : Open (putT T r a none) [(r, a)] := by
  refine ⟨by simp, fun i j => ?_⟩
  rw [cell_put]
  by_cases c : r = i ∧ a = j
  · obtain ⟨rfl, rfl⟩ := c
    rw [if_pos ⟨rfl, rfl⟩, hc]
    simp
  · rw [if_neg c, (Open.of_full h).2 i j]
    constructor
    · intro z; cases z
    · intro z
      have := List.mem_singleton.mp z
      exact absurd ⟨(congrArg Prod.fst this).symm, (congrArg Prod.snd this).symm⟩ c
/-! the list of open cells -/
def rowN (r : Nat) (cs : List (Option Int)) (k : Nat) : List (Nat × Nat) := ((List.range k).filter fun a => decide (cs[a]? = some none)).map fun a => (r, a)
def cellsOf (T : Half) (r : Nat) : List (Option Int) := ((T.cs[r]?).map (·.cs)).getD []
def nonesL (T : Half) (k : Nat) : List (Nat × Nat) := (List.range k).flatMap fun r => rowN r (cellsOf T r) (cellsOf T r).length
theorem rowN_succ (r : Nat) (cs : List (Option Int)) (k : Nat) : rowN r cs (k + 1) = rowN r cs k ++ if cs[k]? = some none then [(r, k)] else [] := by
  unfold rowN
  rw [List.range_succ, List.filter_append, List.map_append]
  congr 1
  by_cases h : cs[k]? = some none
  · rw [if_pos h]; simp [h]
  · rw [if_neg h]; simp [h]
theorem nonesL_succ (T : Half) (k : Nat) : nonesL T (k + 1) = nonesL T k ++ rowN k (cellsOf T k) (cellsOf T k).length := by
  unfold nonesL
  rw [List.range_succ, List.flatMap_append]
  simp
theorem mem_rowN {r : Nat} {cs : List (Option Int)} {k : Nat} {p : Nat × Nat} : p ∈ rowN r cs k ↔ p.1 = r ∧ p.2 < k ∧ cs[p.2]? = some none := by
  unfold rowN
  constructor
  · intro h
    obtain ⟨a, ha, rfl⟩ := List.mem_map.mp h
    obtain ⟨h1, h2⟩ := List.mem_filter.mp ha
    exact ⟨rfl, List.mem_range.mp h1, of_decide_eq_true h2⟩
  · rintro ⟨rfl, h1, h2⟩
    exact List.mem_map.mpr ⟨p.2, List.mem_filter.mpr ⟨List.mem_range.mpr h1, decide_eq_true h2⟩, rfl⟩
theorem mem_nonesL {T : Half} {k : Nat} {p : Nat × Nat} : p ∈ nonesL T k ↔ p.1 < k ∧ cellAt T p.1 p.2 = some none := by
  unfold nonesL
  rw [List.mem_flatMap]
  constructor
  · rintro ⟨r, hr, h⟩
    obtain ⟨rfl, h1, h2⟩ := mem_rowN.mp h
    refine ⟨List.mem_range.mp hr, ?_⟩
    unfold cellsOf at h2
    unfold cellAt
    cases e : T.cs[p.1]? with
    | none => rw [e] at h2; simp at h2
    | some c => rw [e] at h2; exact h2
  · rintro ⟨h1, h2⟩
    refine ⟨p.1, List.mem_range.mpr h1, mem_rowN.mpr ⟨rfl, ?_, ?_⟩⟩
    · obtain ⟨c, e1, e2⟩ := cell_some h2
      unfold cellsOf
      rw [e1]
      exact (List.getElem?_eq_some_iff.mp e2).1
    · obtain ⟨c, e1, e2⟩ := cell_some h2
      unfold cellsOf
      rw [e1]
      exact e2
theorem nodup_rowN (r : Nat) (cs : List (Option Int)) (k : Nat) : (rowN r cs k).Nodup := by
  unfold rowN
  have h : ((List.range k).filter fun a => decide (cs[a]? = some none)).Nodup := List.Pairwise.filter _ List.nodup_range
  exact List.Pairwise.map _ (fun a b (hab : a ≠ b) z => hab (congrArg Prod.snd z)) h
theorem nodup_nonesL (T : Half) : ∀ k, (nonesL T k).Nodup
  | 0 => List.nodup_nil
  | k + 1 => by
    rw [nonesL_succ]
    refine List.nodup_append.mpr ⟨nodup_nonesL T k, nodup_rowN _ _ _, fun p hp q hq z => ?_⟩
    have h1 := (mem_nonesL.mp hp).1
    have h2 := (mem_rowN.mp hq).1
    rw [z] at h1
    omega
theorem open_nones (T : Half) : Open T (nonesL T T.cs.length) := by
  refine ⟨nodup_nonesL T _, fun r a => ?_⟩
  rw [mem_nonesL]
  constructor
  · intro h
    obtain ⟨c, e1, _⟩ := cell_some h
    exact ⟨(List.getElem?_eq_some_iff.mp e1).1, h⟩
  · exact fun h => h.2
theorem rowN_len (r : Nat) (cs : List (Option Int)) : (rowN r cs cs.length).length = cs.countP isN := by
  unfold rowN
  rw [List.length_map, ← List.countP_eq_length_filter]
  have e : (List.range cs.length).map (fun j => cs[j]?) = cs.map some := by
    refine List.ext_getElem (by simp) fun i h1 h2 => ?_
    simp
  have h1 : cs.countP isN = (cs.map some).countP (fun x => decide (x = some none)) := by
    rw [List.countP_map]
    congr 1
    funext o
    cases o <;> simp [isN]
  rw [h1, ← e, List.countP_map]
  rfl
theorem nonesL_len (T : Half) : ∀ k, k ≤ T.cs.length → (nonesL T k).length = ((T.cs.take k).map nonesC).sum
  | 0, _ => rfl
  | k + 1, h => by
    have hk : T.cs[k]? = some T.cs[k] := List.getElem?_eq_getElem (by omega)
    rw [nonesL_succ, List.length_append, nonesL_len T k (by omega), rowN_len, take_snoc hk, List.map_append, List.sum_append]
    unfold cellsOf
    rw [hk]
    simp [nonesC]
theorem le_of_subG {α : Type} [DecidableEq α] : ∀ (l ns : List α), l.Nodup → (∀ x ∈ l, x ∈ ns) → l.length ≤ ns.length
  | [], ns, _, _ => Nat.zero_le _
  | x :: l, ns, nd, h => by
    obtain ⟨n1, n2⟩ := List.nodup_cons.mp nd
    have ih := le_of_subG l (ns.erase x) n2 fun y hy => (List.mem_erase_of_ne (fun (e : y = x) => n1 (e ▸ hy))).mpr (h y (List.mem_cons_of_mem _ hy))
    have hx := h x List.mem_cons_self
    have e := List.length_erase_of_mem hx
    have pos : 0 < ns.length := List.length_pos_of_mem hx
    rw [List.length_cons]
    omega
theorem open_len {T : Half} {ps : List (Nat × Nat)} (h : Open T ps) : nones T = ps.length := by
  have h0 := open_nones T
  have e : (nonesL T T.cs.length).length = nones T := by
    rw [nonesL_len T _ (Nat.le_refl _), List.take_length]
    rfl
  rw [← e]
  exact Nat.le_antisymm (le_of_subG _ _ h0.1 fun p hp => (h.2 p.1 p.2).mp ((h0.2 p.1 p.2).mpr hp)) (le_of_subG _ _ h.1 fun p hp => (h0.2 p.1 p.2).mp ((h.2 p.1 p.2).mpr hp))
/-! all fillings -/
def rowW (m : Nat) (p : Nat × Nat) (t : Half) : List Half := (List.range m).map fun (g : Nat) => putT t p.1 p.2 (some (g : Int))
def stepW (m : Nat) (p : Nat × Nat) (ts : List Half) : List Half := ts.flatMap (rowW m p)
def walkW (m : Nat) (ps : List (Nat × Nat)) (ts : List Half) : List Half := ps.foldl (fun ts p => stepW m p ts) ts
theorem walkW_snoc (m : Nat) (ps : List (Nat × Nat)) (p : Nat × Nat) (ts : List Half) : walkW m (ps ++ [p]) ts = stepW m p (walkW m ps ts) := by
  unfold walkW
  rw [List.foldl_append]
  rfl
theorem stepW_len (m : Nat) (p : Nat × Nat) : ∀ ts : List Half, (stepW m p ts).length = ts.length * m
  | [] => by simp [stepW]
  | t :: ts => by
    have := stepW_len m p ts
    unfold stepW at this ⊢
    rw [List.flatMap_cons, List.length_append, this, List.length_cons, rowW, List.length_map, List.length_range, Nat.succ_mul, Nat.add_comm]
theorem rowW_nodup {m : Nat} {p : Nat × Nat} {t : Half} {o : Option Int} (h : cellAt t p.1 p.2 = some o) : (rowW m p t).Nodup := by
  unfold rowW
  refine List.Pairwise.map _ (fun a b hab z => hab ?_) List.nodup_range
  have h1 := cell_put t p.1 p.2 (some (a : Int)) p.1 p.2
  have h2 := cell_put t p.1 p.2 (some (b : Int)) p.1 p.2
  rw [if_pos ⟨rfl, rfl⟩, h] at h1 h2
  rw [z, h2] at h1
  simp at h1
  omega
theorem stepW_nodup {m : Nat} {p : Nat × Nat} : ∀ {ts : List Half}, ts.Nodup → (∀ t ∈ ts, cellAt t p.1 p.2 = some none) → (stepW m p ts).Nodup
  | [], _, _ => List.nodup_nil
  | t :: ts, nd, h => by
    obtain ⟨n1, n2⟩ := List.nodup_cons.mp nd
    have ih := stepW_nodup (m := m) n2 fun u hu => h u (List.mem_cons_of_mem _ hu)
    unfold stepW at ih ⊢
    rw [List.flatMap_cons]
    refine List.nodup_append.mpr ⟨rowW_nodup (h t List.mem_cons_self), ih, fun x hx y hy z => ?_⟩
    subst z
    obtain ⟨u, hu, hxu⟩ := List.mem_flatMap.mp hy
    unfold rowW at hx hxu
    obtain ⟨g, _, e1⟩ := List.mem_map.mp hx
    obtain ⟨g', _, e2⟩ := List.mem_map.mp hxu
    have b1 := put_back (o' := some (g : Int)) (h t List.mem_cons_self)
    have b2 := put_back (o' := some (g' : Int)) (h u (List.mem_cons_of_mem _ hu))
    rw [e1] at b1
    rw [e2, b1] at b2
    exact n1 (b2 ▸ hu)
/-- of tables of the same number of grades, open at the same cells -/
def Same8 (m : Int) (zs : List Int) (n : Nat) (ps : List (Nat × Nat)) (t : Half) : Prop := Good t ∧ t.m = m ∧ t.cs.length = n ∧ Open t ps ∧ t.ws = zs
theorem walk_gen {m : Nat} {zs : List Int} {n : Nat} {qs : List (Nat × Nat)} : ∀ (ps : List (Nat × Nat)) (ts : List Half), (∀ t ∈ ts, Same8 m zs n (ps ++ qs) t) → ts.Nodup → (∀ t ∈ walkW m ps ts, Same8 m zs n qs t) ∧ (walkW m ps ts).Nodup ∧ (walkW m ps ts).length = ts.length * m ^ ps.length
  | [], ts, h, nd => ⟨h, nd, by simp [walkW]⟩
  | p :: ps, ts, h, nd => by
    have h1 : ∀ t ∈ stepW m p ts, Same8 m zs n (ps ++ qs) t := fun t ht => by
      obtain ⟨u, hu, hx⟩ := List.mem_flatMap.mp ht
      unfold rowW at hx
      obtain ⟨g, hg, rfl⟩ := List.mem_map.mp hx
      obtain ⟨g1, g2, g3, g4, g5⟩ := h u hu
      have hgm := List.mem_range.mp hg
      refine ⟨good_put g1 fun i hi => ?_, g2, ?_, ?_, g5⟩
      · have := Option.some.inj hi
        omega
      · show (u.cs.modify _ _).length = n
        rw [List.length_modify]
        exact g3
      · exact Open.put (l1 := []) g4 _
    have h2 := stepW_nodup (m := m) (p := p) nd fun t ht => ((h t ht).2.2.2.1.2 p.1 p.2).mpr List.mem_cons_self
    obtain ⟨r1, r2, r3⟩ := walk_gen ps (stepW m p ts) h1 h2
    refine ⟨r1, r2, ?_⟩
    show (walkW m ps (stepW m p ts)).length = _
    rw [r3, stepW_len, List.length_cons, Nat.pow_succ, Nat.mul_assoc, Nat.mul_comm m]
theorem walk_one {m : Nat} {T : Half} {ps qs : List (Nat × Nat)} (g : Good T) (hm : T.m = m) (ho : Open T (ps ++ qs)) : (∀ t ∈ walkW m ps [T], Same8 m T.ws T.cs.length qs t) ∧ (walkW m ps [T]).Nodup ∧ (walkW m ps [T]).length = m ^ ps.length := by
  obtain ⟨r1, r2, r3⟩ := walk_gen (m := m) (zs := T.ws) (n := T.cs.length) (qs := qs) ps [T] (fun t ht => by rw [List.mem_singleton.mp ht]; exact ⟨g, hm, rfl, ho, rfl⟩) (by simp)
  exact ⟨r1, r2, by rw [r3]; simp⟩
/-! two half tables held against one another -/
noncomputable def cD (P : Prop) : Bool := @decide P (Classical.propDecidable P)
theorem cD_iff {P : Prop} : (cD P = true) = P := by
  unfold cD
  exact propext ⟨fun z => @of_decide_eq_true P (Classical.propDecidable P) z, fun z => @decide_eq_true P (Classical.propDecidable P) z⟩
theorem of_cD {P : Prop} (h : cD P = true) : P := by rw [cD_iff] at h; exact h
theorem cD_true {P : Prop} (h : P) : cD P = true := by rw [cD_iff]; exact h
theorem cD_false {P : Prop} (h : ¬ P) : cD P = false := by
  cases e : cD P with
  | false => rfl
  | true => exact absurd (of_cD e) h
theorem dec_congr {P Q : Prop} (h : P ↔ Q) : cD P = cD Q := by rw [propext h]
theorem eqv_tup {H : Hp} {n : Nat} {a c : Addr} {xs ys : List V} {P : Nat → Prop} (ha : H a = some (.tup xs)) (hc : H c = some (.tup ys)) (hs : a = c → ∀ j, j < xs.length → P j) (he : ∀ j x y, xs[j]? = some x → ys[j]? = some y → EqV H n x y (cD (P j))) :
    EqV H (n + 1) (.ref a) (.ref c) (cD (xs.length = ys.length ∧ ∀ j, j < xs.length → P j)) := by
  refine .inr ⟨a, c, xs, ys, rfl, rfl, ha, hc, fun z => ?_, fun j => cD (P j), he, ?_⟩
  · refine cD_true ⟨?_, hs z⟩
    subst z
    rw [ha] at hc
    cases hc
    rfl
  · by_cases hl : xs.length = ys.length
    · rw [← hl, Nat.min_self, beq_self_eq_true, Bool.and_true, Bool.eq_iff_iff, List.all_eq_true, cD_iff]
      constructor
      · rintro ⟨_, h⟩ j hj
        exact cD_true (h j (List.mem_range.mp hj))
      · intro h
        exact ⟨rfl, fun j hj => of_cD (h j (List.mem_range.mpr hj))⟩
    · rw [show (xs.length == ys.length) = false from beq_eq_false_iff_ne.mpr hl, Bool.and_false]
      exact cD_false fun z => hl z.1
theorem cellV_inj {o o' : Option Int} (h : cellV o = cellV o') : o = o' := by
  cases o <;> cases o' <;> simp [cellV] at h ⊢
  exact h
theorem flat_cell (o : Option Int) : flatV (cellV o) = true := by cases o <;> rfl
theorem eqv_cell {H : Hp} {n : Nat} (o o' : Option Int) {P : Prop} (hp : P ↔ o = o') : EqV H n (cellV o) (cellV o') (cD P) := by
  have e : cD P = eqV (cellV o) (cellV o') := by
    rw [Bool.eq_iff_iff, cD_iff, hp]
    cases o <;> cases o' <;> simp [cellV, eqV]
  cases n with
  | zero => exact ⟨flat_cell _, flat_cell _, e⟩
  | succ n => exact .inl ⟨flat_cell _, flat_cell _, e⟩
theorem eqv_int {H : Hp} {n : Nat} (i j : Int) {P : Prop} (hp : P ↔ i = j) : EqV H n (.int i) (.int j) (cD P) := eqv_cell (some i) (some j) (hp.trans (by simp))
theorem eqv_str {H : Hp} {n : Nat} (x y : Str) {P : Prop} (hp : P ↔ x = y) : EqV H n (.str x) (.str y) (cD P) := by
  have e : cD P = eqV (.str x) (.str y) := by
    rw [Bool.eq_iff_iff, cD_iff, hp]
    simp [eqV]
  cases n with
  | zero => exact ⟨rfl, rfl, e⟩
  | succ n => exact .inl ⟨rfl, rfl, e⟩
theorem ext_lt {α : Type} {l l' : List α} (h : l.length = l'.length) (k : ∀ j, j < l.length → l[j]? = l'[j]?) : l = l' := by
  refine List.ext_getElem? fun j => ?_
  by_cases hj : j < l.length
  · exact k j hj
  · rw [List.getElem?_eq_none (by omega), List.getElem?_eq_none (by omega)]
theorem map_inj {α β : Type} {f : α → β} (hf : ∀ x y, f x = f y → x = y) : ∀ {l l' : List α}, l.map f = l'.map f → l = l'
  | [], [], _ => rfl
  | [], _ :: _, h => by cases h
  | _ :: _, [], h => by cases h
  | x :: l, y :: l', h => by
    rw [List.map_cons, List.map_cons] at h
    injection h with h1 h2
    rw [hf x y h1, map_inj hf h2]
theorem eqv_cells {H : Hp} {n : Nat} {a c : Addr} {cs ds : List (Option Int)} (ha : H a = some (.tup (cs.map cellV))) (hc : H c = some (.tup (ds.map cellV))) : EqV H (n + 1) (.ref a) (.ref c) (cD (cs = ds)) := by
  have h := eqv_tup (n := n) (P := fun j => cs[j]? = ds[j]?) ha hc (fun z j hj => ?_) (fun j x y hx hy => ?_)
  · have e : (cs = ds) ↔ ((cs.map cellV).length = (ds.map cellV).length ∧ ∀ j, j < (cs.map cellV).length → cs[j]? = ds[j]?) := by
      rw [List.length_map, List.length_map]
      exact ⟨fun z => by rw [z]; exact ⟨rfl, fun _ _ => rfl⟩, fun z => ext_lt z.1 z.2⟩
    rw [dec_congr e]
    exact h
  · subst z
    rw [ha] at hc
    have := Option.some.inj hc
    injection this with this
    rw [map_inj (fun _ _ => cellV_inj) this]
  · rw [List.getElem?_map] at hx hy
    obtain ⟨o, ho, rfl⟩ := Option.map_eq_some_iff.mp hx
    obtain ⟨o', ho', rfl⟩ := Option.map_eq_some_iff.mp hy
    refine eqv_cell o o' ?_
    rw [ho, ho']
    simp
theorem ints_cells (ws : List Int) : ws.map V.int = (ws.map some).map cellV := by
  rw [List.map_map]
  rfl
theorem eqv_conn {H : Hp} {n : Nat} {t t' u u' : Addr} {c d : Conn} (h1 : H t = some (.tup [.str c.nm, .int c.pl, .ref u])) (h2 : H u = some (.tup (c.cs.map cellV))) (h1' : H t' = some (.tup [.str d.nm, .int d.pl, .ref u'])) (h2' : H u' = some (.tup (d.cs.map cellV))) :
    EqV H (n + 2) (.ref t) (.ref t') (cD (c = d)) := by
  have h := eqv_tup (n := n + 1) (P := fun j => if j = 0 then c.nm = d.nm else if j = 1 then c.pl = d.pl else c.cs = d.cs) h1 h1' (fun z j hj => ?_) (fun j x y hx hy => ?_)
  · have e : (c = d) ↔ ([V.str c.nm, .int c.pl, .ref u].length = [V.str d.nm, .int d.pl, .ref u'].length ∧ ∀ j, j < [V.str c.nm, .int c.pl, .ref u].length → if j = 0 then c.nm = d.nm else if j = 1 then c.pl = d.pl else c.cs = d.cs) := by
      refine ⟨fun z => ⟨rfl, fun j _ => ?_⟩, fun z => conn_ext (z.2 0 (by show 0 < 3; decide)) (z.2 1 (by show 1 < 3; decide)) (z.2 2 (by show 2 < 3; decide))⟩
      rw [z]
      simp
    rw [dec_congr e]
    exact h
  · subst z
    rw [h1] at h1'
    have := Option.some.inj h1'
    injection this with this
    simp only [List.cons.injEq, V.str.injEq, V.int.injEq, V.ref.injEq, and_true] at this
    obtain ⟨e1, e2, e3⟩ := this
    subst e3
    rw [h2] at h2'
    have := Option.some.inj h2'
    injection this with this
    have e4 := map_inj (fun _ _ => cellV_inj) this
    simp [e1, e2, e4]
  · match j, hx, hy with
    | 0, hx, hy =>
      cases hx; cases hy
      exact eqv_str _ _ (by simp)
    | 1, hx, hy =>
      cases hx; cases hy
      exact eqv_int _ _ (by simp)
    | 2, hx, hy =>
      cases hx; cases hy
      have := eqv_cells (n := n) h2 h2'
      rw [dec_congr (show (c.cs = d.cs) ↔ (if (2 : Nat) = 0 then c.nm = d.nm else if (2 : Nat) = 1 then c.pl = d.pl else c.cs = d.cs) by simp)] at this
      exact this
    | j + 3, hx, hy => simp at hx
theorem eqv_conns {H : Hp} {n : Nat} {a b : Addr} {cs ds : List Conn} {xs ys : List V} (ha : H a = some (.tup xs)) (hb : H b = some (.tup ys)) (hc : Conns H cs xs) (hd : Conns H ds ys) : EqV H (n + 3) (.ref a) (.ref b) (cD (cs = ds)) := by
  have l1 := hc.len
  have l2 := hd.len
  have each : ∀ (j : Nat) (c d : Conn), cs[j]? = some c → ds[j]? = some d → ∃ t t' u u' : Addr, xs[j]? = some (V.ref t) ∧ ys[j]? = some (V.ref t') ∧ H t = some (HO.tup [.str c.nm, .int c.pl, .ref u]) ∧ H u = some (.tup (c.cs.map cellV)) ∧ H t' = some (.tup [.str d.nm, .int d.pl, .ref u']) ∧ H u' = some (.tup (d.cs.map cellV)) := fun j c d e1 e2 => by
    obtain ⟨t, u, q1, q2, q3⟩ := hc.get e1
    obtain ⟨t', u', r1, r2, r3⟩ := hd.get e2
    exact ⟨t, t', u, u', q1, r1, q2, q3, r2, r3⟩
  have h := eqv_tup (n := n + 2) (P := fun j => cs[j]? = ds[j]?) ha hb (fun z j hj => ?_) (fun j x y hx hy => ?_)
  · have e : (cs = ds) ↔ (xs.length = ys.length ∧ ∀ j, j < xs.length → cs[j]? = ds[j]?) := by
      rw [l1, l2]
      exact ⟨fun z => by rw [z]; exact ⟨rfl, fun _ _ => rfl⟩, fun z => ext_lt z.1 z.2⟩
    rw [dec_congr e]
    exact h
  · subst z
    rw [ha] at hb
    have := Option.some.inj hb
    injection this with this
    subst this
    have e1 : cs[j]? = some cs[j] := List.getElem?_eq_getElem (by omega)
    have e2 : ds[j]? = some ds[j] := List.getElem?_eq_getElem (by omega)
    obtain ⟨t, t', u, u', q1, q2, q3, q4, q5, q6⟩ := each j _ _ e1 e2
    rw [q1] at q2
    cases q2
    rw [q3] at q5
    have := Option.some.inj q5
    injection this with this
    simp only [List.cons.injEq, V.str.injEq, V.int.injEq, V.ref.injEq, and_true] at this
    obtain ⟨f1, f2, f3⟩ := this
    subst f3
    rw [q4] at q6
    have := Option.some.inj q6
    injection this with this
    rw [e1, e2, conn_ext f1 f2 (map_inj (fun _ _ => cellV_inj) this)]
  · have jx := (List.getElem?_eq_some_iff.mp hx).1
    have jy := (List.getElem?_eq_some_iff.mp hy).1
    have e1 : cs[j]? = some cs[j] := List.getElem?_eq_getElem (by omega)
    have e2 : ds[j]? = some ds[j] := List.getElem?_eq_getElem (by omega)
    obtain ⟨t, t', u, u', q1, q2, q3, q4, q5, q6⟩ := each j _ _ e1 e2
    rw [hx] at q1
    rw [hy] at q2
    cases q1
    cases q2
    have := eqv_conn (n := n) q3 q4 q5 q6
    rw [dec_congr (show (cs[j] = ds[j]) ↔ cs[j]? = ds[j]? by rw [e1, e2]; simp)] at this
    exact this
theorem eqv_half {H : Hp} {v u : V} {T U : Half} (h : IsHalf H v T) (k : IsHalf H u U) : EqV H 4 v u (cD (T = U)) := by
  obtain ⟨a, w, c, xs, rfl, h1, h2, h3, h4⟩ := h
  obtain ⟨a', w', c', xs', rfl, k1, k2, k3, k4⟩ := k
  have h := eqv_tup (n := 3) (P := fun j => if j = 0 then T.m = U.m else if j = 1 then T.ws = U.ws else T.cs = U.cs) h1 k1 (fun z j hj => ?_) (fun j x y hx hy => ?_)
  · have e : (T = U) ↔ ([V.int T.m, .ref w, .ref c].length = [V.int U.m, .ref w', .ref c'].length ∧ ∀ j, j < [V.int T.m, .ref w, .ref c].length → if j = 0 then T.m = U.m else if j = 1 then T.ws = U.ws else T.cs = U.cs) := by
      refine ⟨fun z => ⟨rfl, fun j _ => ?_⟩, fun z => half_ext (z.2 0 (by show 0 < 3; decide)) (z.2 1 (by show 1 < 3; decide)) (z.2 2 (by show 2 < 3; decide))⟩
      rw [z]
      simp
    rw [dec_congr e]
    exact h
  · subst z
    rw [h1] at k1
    have := Option.some.inj k1
    injection this with this
    simp only [List.cons.injEq, V.int.injEq, V.ref.injEq, and_true] at this
    obtain ⟨e1, e2, e3⟩ := this
    subst e2 e3
    rw [h2] at k2
    have := Option.some.inj k2
    injection this with this
    have e4 := map_inj (fun x y (z : V.int x = V.int y) => by injection z) this
    have e5 := eqv_conns (n := 0) h3 k3 h4 k4
    have e6 : T.cs = U.cs := by
      rcases e5 with ⟨z, _⟩ | ⟨p, q, _, _, z1, z2, _, _, z3, _⟩
      · cases z
      · cases z1
        cases z2
        exact of_cD (z3 rfl)
    simp [e1, e4, e6]
  · match j, hx, hy with
    | 0, hx, hy =>
      cases hx; cases hy
      exact eqv_int _ _ (by simp)
    | 1, hx, hy =>
      cases hx; cases hy
      rw [ints_cells] at h2 k2
      have := eqv_cells (n := 2) h2 k2
      rw [dec_congr (show (T.ws.map some = U.ws.map some) ↔ (if (1 : Nat) = 0 then T.m = U.m else if (1 : Nat) = 1 then T.ws = U.ws else T.cs = U.cs) by
        simp
        exact ⟨fun z => map_inj (fun x y (z : some x = some y) => by injection z) z, fun z => by rw [z]⟩)] at this
      exact this
    | 2, hx, hy =>
      cases hx; cases hy
      have := eqv_conns (n := 0) h3 k3 h4 k4
      rw [dec_congr (show (T.cs = U.cs) ↔ (if (2 : Nat) = 0 then T.m = U.m else if (2 : Nat) = 1 then T.ws = U.ws else T.cs = U.cs) by simp)] at this
      exact this
    | j + 3, hx, hy => simp at hx
theorem deep_int {H : Hp} (n : Nat) (i : Int) : DeepV H n (.int i) := by
  cases n with
  | zero => exact .inl ⟨i, rfl⟩
  | succ n => exact .inl (.inl ⟨i, rfl⟩)
theorem deep_str {H : Hp} (n : Nat) (x : Str) : DeepV H n (.str x) := by
  cases n with
  | zero => exact .inr ⟨x, rfl⟩
  | succ n => exact .inl (.inr ⟨x, rfl⟩)
theorem deep_half {H : Hp} {v : V} {T : Half} (h : IsHalf H v T) (fu : Full T) : DeepV H 4 v := by
  obtain ⟨a, w, c, xs, rfl, h1, h2, h3, h4⟩ := h
  refine .inr ⟨a, _, rfl, h1, fun x hx => ?_⟩
  simp only [List.mem_cons, List.not_mem_nil, or_false] at hx
  rcases hx with rfl | rfl | rfl
  · exact deep_int _ _
  · refine .inr ⟨w, _, rfl, h2, fun x hx => ?_⟩
    obtain ⟨i, _, rfl⟩ := List.mem_map.mp hx
    exact deep_int _ _
  · refine .inr ⟨c, _, rfl, h3, fun x hx => ?_⟩
    obtain ⟨i, hi⟩ := List.getElem?_of_mem hx
    have hl := h4.len
    have hil := (List.getElem?_eq_some_iff.mp hi).1
    have e1 : T.cs[i]? = some T.cs[i] := List.getElem?_eq_getElem (by omega)
    obtain ⟨t, u, q1, q2, q3⟩ := h4.get e1
    rw [hi] at q1
    cases q1
    refine .inr ⟨t, _, rfl, q2, fun x hx => ?_⟩
    simp only [List.mem_cons, List.not_mem_nil, or_false] at hx
    rcases hx with rfl | rfl | rfl
    · exact deep_str _ _
    · exact deep_int _ _
    · refine .inr ⟨u, _, rfl, q3, fun x hx => ?_⟩
      obtain ⟨o, ho, rfl⟩ := List.mem_map.mp hx
      cases o with
      | none => exact absurd rfl (fu _ (List.mem_of_getElem? e1) none ho)
      | some i => exact deep_int _ _
end L4

set_option maxHeartbeats 0
namespace K08
open PySem L2 L4

local macro_rules | `(tactic| walk_at "hp") => `(tactic| first | assumption | exact upd_same | (rw [upd_ne (by first | assumption | exact Ne.symm (by assumption) | exact ne_of_none (by assumption) (by assumption) | exact Ne.symm (ne_of_none (by assumption) (by assumption)))]; walk_at "hp"))
local macro_rules | `(tactic| walk_at "r1") => `(tactic| first | refine ⟨_, rfl, ?_⟩ | refine .inl ⟨_, _, _, _, rfl, rfl, SqL.of (by walk_at "hp"), rfl, ?_⟩ | refine .inr (.inl ⟨_, _, _, _, rfl, rfl, SqT.of (by walk_at "hp"), rfl, ?_⟩) | refine ⟨_, _, rfl, rfl, ?_⟩ | refine ⟨(show CMul _ _ from .inr ⟨by omega, by omega⟩), ?_⟩ | refine ⟨(show CMul _ _ from .inl ⟨by omega, by omega⟩), ?_⟩ | refine ⟨(show CDiv _ _ from ⟨by omega, by omega⟩), ?_⟩ | refine ⟨(show CPow _ _ from ⟨by decide, by decide, by decide⟩), ?_⟩ | refine ⟨(show (0 : Int) < _ by omega), ?_⟩ | refine ⟨_, _, _, _, rfl, rfl, (by walk_at "hp"), rfl, ?_⟩)
local macro_rules | `(tactic| walk_at "rd") => `(tactic| repeat walk_at "r1")

def alpha : Str := Str.ofString "abcdefghijklmnopqrstuvwxyz"
theorem alpha_len : alpha.cps.toList.length = 26 := by decide +kernel
theorem alpha_nd : alpha.cps.toList.Nodup := by decide +kernel
theorem alpha_small : ∀ c ∈ alpha.cps.toList, 97 ≤ c ∧ c ≤ 122 := by decide +kernel
theorem alpha_at {v : Int} (h0 : 0 ≤ v) (h1 : v < 26) : ∃ c, atI alpha.cps.toList v = some c ∧ 97 ≤ c ∧ c ≤ 122 := by
  have hl := alpha_len
  have hv : v.toNat < alpha.cps.toList.length := by omega
  have e : v = ((v.toNat : Nat) : Int) := by omega
  refine ⟨alpha.cps.toList[v.toNat], ?_, alpha_small _ (List.getElem_mem hv)⟩
  have q := atI_nat (List.getElem?_eq_getElem hv)
  rw [← e] at q
  exact q
def spName : Sp := fun vs H Q _ => ∃ (p l : Addr) (ns : List Str), vs = [.ref p, .ref l] ∧ Pool H p ∧ H l = some (.lst (ns.map .str)) ∧ ns.length ≤ 8 ∧ ∀ x H', Off p H H' → Pool H' p → x ∉ ns → IsName x → Q (.str x) H'
def spCells : Sp := fun vs H Q _ => ∃ (p : Addr) (m pl often : Int), vs = [.ref p, .int m, .int pl, .int often] ∧ Pool H p ∧ 1 ≤ m ∧ m ≤ 9 ∧ 0 ≤ pl ∧ pl ≤ 2 ∧ 0 ≤ often ∧ often < 1000 ∧
  ∀ (t : Addr) (cs : List (Option Int)) (H' : Hp), Off p H H' → Pool H' p → H' t = some (.tup (cs.map cellV)) → (cs.length : Int) = m ^ pl.toNat → (∀ o ∈ cs, CellOk m o) → (often = 0 → ∀ o ∈ cs, o ≠ none) → Q (.ref t) H'
theorem cells_many {m pl : Int} (h1 : 1 ≤ m) (h9 : m ≤ 9) (p0 : 0 ≤ pl) (p2 : pl ≤ 2) : ∃ n : Int, atI [V.int 1, V.int m, V.int (m * m)] pl = some (.int n) ∧ 0 ≤ n ∧ n ≤ 81 ∧ n = m ^ pl.toNat := by
  have hm : m * m ≤ 81 := Int.le_trans (Int.mul_le_mul_of_nonneg_right h9 (by omega)) (by omega)
  have hm0 : 0 ≤ m * m := Int.mul_nonneg (by omega) (by omega)
  have e : pl = 0 ∨ pl = 1 ∨ pl = 2 := by omega
  rcases e with rfl | rfl | rfl
  · exact ⟨1, rfl, by omega, by omega, (by show 1 = m ^ 0; rw [Int.pow_zero])⟩
  · exact ⟨m, rfl, by omega, by omega, (by show m = m ^ 1; rw [Int.pow_succ, Int.pow_zero, Int.one_mul])⟩
  · exact ⟨m * m, rfl, hm0, hm, (by show m * m = m ^ 2; rw [Int.pow_succ, Int.pow_succ, Int.pow_zero, Int.one_mul])⟩
theorem at4 {v : Int} (h0 : 0 ≤ v) (h1 : v < 4) : ∃ n : Int, atI [V.int 1, V.int 2, V.int 2, V.int 0] v = some (.int n) ∧ 0 ≤ n ∧ n ≤ 2 := by
  have e : v = 0 ∨ v = 1 ∨ v = 2 ∨ v = 3 := by omega
  rcases e with rfl | rfl | rfl | rfl
  · exact ⟨1, rfl, by omega, by omega⟩
  · exact ⟨2, rfl, by omega, by omega⟩
  · exact ⟨2, rfl, by omega, by omega⟩
  · exact ⟨0, rfl, by omega, by omega⟩
theorem at2 {v : Int} (h0 : 0 ≤ v) (h1 : v < 2) : ∃ z : Str, atI [V.str "grades", V.str "wished"] v = some (.str z) ∧ IsName z := by
  have e : v = 0 ∨ v = 1 := by omega
  rcases e with rfl | rfl
  · exact ⟨_, rfl, name_words.1⟩
  · exact ⟨_, rfl, name_words.2⟩
def oneS (c : Nat) : Str := ⟨#[c]⟩
theorem ones_sum : ∀ ds : List Nat, ((ds.map oneS).map (·.length)).sum = ds.length
  | [] => rfl
  | d :: ds => by
    rw [List.map_cons, List.map_cons, List.sum_cons, ones_sum ds, List.length_cons]
    show 1 + ds.length = _
    omega
theorem ones_name {ds : List Nat} (h : ∀ d ∈ ds, 97 ≤ d ∧ d ≤ 122) (h2 : 2 ≤ ds.length) (h8 : ds.length ≤ 8) : IsName (PySem.Txt.join (Str.ofString "") (ds.map oneS)) := by
  have e : (PySem.Txt.join (Str.ofString "") (ds.map oneS)).cps.toList = ds := join0_codes ds
  have hl := len_codes (PySem.Txt.join (Str.ofString "") (ds.map oneS))
  rw [e] at hl
  exact ⟨by omega, by omega, fun c hc => h c (by rw [e] at hc; exact hc)⟩

theorem pow81 {m : Int} {p : Nat} (h1 : 1 ≤ m) (h9 : m ≤ 9) (hp : p ≤ 2) : m ^ p ≤ 81 := by
  have e : p = 0 ∨ p = 1 ∨ p = 2 := by omega
  have hmm : m * m ≤ 81 := Int.le_trans (Int.mul_le_mul_of_nonneg_right h9 (by omega)) (by omega)
  rcases e with e | e | e <;> rw [e]
  · rw [Int.pow_zero]; decide
  · rw [Int.pow_succ, Int.pow_zero, Int.one_mul]; omega
  · rw [Int.pow_succ, Int.pow_succ, Int.pow_zero, Int.one_mul]; exact hmm
theorem good_fits {T : Half} (g : Good T) : Fits T := by
  refine ⟨g.m1, g.m9, g.wl, g.few, fun c hc => ?_⟩
  have gc := g.each c hc
  have h1 := gc.len
  have h2 := pow81 (p := c.pl.toNat) g.m1 g.m9 (by have := gc.p2; omega)
  omega
theorem full_none : ∀ {cs : List Conn}, (∀ c ∈ cs, ∀ o ∈ c.cs, o ≠ none) → (cs.map nonesC).sum = 0
  | [], _ => rfl
  | c :: cs, h => by
    rw [List.map_cons, List.sum_cons, full_none fun d hd => h d (List.mem_cons_of_mem _ hd)]
    unfold nonesC
    rw [List.countP_eq_zero.mpr]
    intro o ho e
    cases o with
    | none => exact h c List.mem_cons_self _ ho rfl
    | some i => cases e

def spWhole : Sp := fun vs H Q _ => ∃ i : Int, vs = [.int i] ∧ Q (.bl true) H
def spSmall : Sp := fun vs H Q _ => ∃ x : Str, vs = [.str x] ∧ Small x ∧ x.length ≤ 8 ∧ ∀ H', Same H H' → Q (.bl true) H'
def spNameQ : Sp := fun vs H Q _ => ∃ x : Str, vs = [.str x] ∧ IsName x ∧ ∀ H', Same H H' → Q (.bl true) H'
def spGrade : Sp := fun vs H Q _ => ∃ i m : Int, vs = [.int i, .int m] ∧ 0 ≤ i ∧ i < m ∧ Q (.bl true) H
def spRising : Sp := fun vs H Q _ => ∃ (a : Addr) (m : Int) (ws : List Int), vs = [.ref a, .int m] ∧ H a = some (.tup (ws.map V.int)) ∧ (∀ w ∈ ws, 0 ≤ w ∧ w < m) ∧ ws.Pairwise (· < ·) ∧ ws.length ≤ 9 ∧ ∀ H', Same H H' → Q (.bl true) H'
def spCellsQ : Sp := fun vs H Q _ => ∃ (a : Addr) (m n : Int) (cs : List (Option Int)), vs = [.ref a, .int m, .int n] ∧ H a = some (.tup (cs.map cellV)) ∧ (cs.length : Int) = n ∧ n ≤ 81 ∧ (∀ o ∈ cs, CellOk m o) ∧ ∀ H', Same H H' → Q (.bl true) H'
def spPower : Sp := fun vs H Q _ => ∃ (b : Int) (n : Nat), vs = [.int b, .int n] ∧ 1 ≤ b ∧ b ≤ 9 ∧ n ≤ 1000 ∧ Q (.int (b ^ n)) H
def spConn : Sp := fun vs H Q _ => ∃ (t u : Addr) (m : Int) (c : Conn), vs = [.ref t, .int m] ∧ H t = some (.tup [.str c.nm, .int c.pl, .ref u]) ∧ H u = some (.tup (c.cs.map cellV)) ∧ 1 ≤ m ∧ m ≤ 9 ∧ GoodC m c ∧ ∀ H', Same H H' → Q (.bl true) H'
def spConns : Sp := fun vs H Q _ => ∃ (a : Addr) (m : Int) (cs : List Conn) (xs : List V), vs = [.ref a, .int m] ∧ H a = some (.tup xs) ∧ Conns H cs xs ∧ 1 ≤ m ∧ m ≤ 9 ∧ cs.length ≤ 8 ∧ (∀ c ∈ cs, GoodC m c) ∧ (cs.map (·.nm)).Nodup ∧ ∀ H', Same H H' → Q (.bl true) H'
def spIsHalf : Sp := fun vs H Q _ => ∃ (v : V) (T : Half), vs = [v] ∧ IsHalf H v T ∧ Good T ∧ ∀ H', Same H H' → Q (.bl true) H'
def spNones : Sp := fun vs H Q _ => ∃ (v : V) (T : Half), vs = [v] ∧ IsHalf H v T ∧ Fits T ∧ ∀ H', Same H H' → Q (.int (nones T : Nat)) H'

def spIsTable : Sp := fun vs H Q _ => ∃ (v : V) (T : Half), vs = [v] ∧ IsHalf H v T ∧ Good T ∧ ((Full T ∧ ∀ H', Same H H' → Q (.bl true) H') ∨ (nones T ≠ 0 ∧ ∀ H', Same H H' → Q (.bl false) H'))
def spPart : Sp := fun vs H Q _ => ∃ (w : Str) (a : Addr) (ns : List Int), vs = [.str w, .ref a] ∧ H a = some (.tup (ns.map V.int)) ∧ IsName w ∧ (∀ i ∈ ns, Fig i) ∧ ns.length ≤ 82 ∧ ∀ H', Same H H' → Q (.str (partOf w ns)) H'
def spShow : Sp := fun vs H Q _ => ∃ (v : V) (T : Half), vs = [v] ∧ IsHalf H v T ∧ Good T ∧ Full T ∧ ∀ H', Same H H' → Q (.str (textT T)) H'
def spNumber : Sp := fun vs H Q _ => ∃ d : Int, vs = [.str (fig d)] ∧ Fig d ∧ Q (.int d) H
def spNumbers : Sp := fun vs H Q _ => ∃ (l : Addr) (ns : List Int), vs = [.ref l] ∧ H l = some (.lst ((ns.map fig).map V.str)) ∧ (∀ i ∈ ns, Fig i) ∧ ns.length ≤ 82 ∧ ∀ H' k, Same H H' → H' k = some (.lst (ns.map V.int)) → Q (.ref k) H'
def spConnOf : Sp := fun vs H Q _ => ∃ (l : Addr) (m : Int) (c : Conn), vs = [.ref l] ∧ H l = some (.lst ((wordsC c).map V.str)) ∧ 1 ≤ m ∧ m ≤ 9 ∧ GoodC m c ∧ (∀ o ∈ c.cs, o ≠ none) ∧ ∀ H' t u, Same H H' → H' t = some (.tup [.str c.nm, .int c.pl, .ref u]) → H' u = some (.tup (c.cs.map cellV)) → Q (.ref t) H'
def Wds (H : Hp) : List (List Str) → List V → Prop := Paired fun ws v => ∃ a, v = .ref a ∧ H a = some (.lst (ws.map V.str))
def spTableOf : Sp := fun vs H Q _ => ∃ (l : Addr) (xs : List V) (T : Half), vs = [.ref l] ∧ H l = some (.lst xs) ∧ Wds H (wordsT T) xs ∧ Good T ∧ Full T ∧ ∀ H' v, Same H H' → IsHalf H' v T → Q v H'
def spRead : Sp := fun vs H Q _ => ∃ T : Half, vs = [.str (textT T)] ∧ Good T ∧ Full T ∧ ∀ H' v, Same H H' → IsHalf H' v T → Q v H'
def spLaw (K : PySem.W.Frag) : Sp := fun vs H Q _ => ∃ (a : Addr) (ns : List Int), vs = [.ref a] ∧ SqL K H a (ns.map V.int) ∧ ns.length ≤ 63 ∧ ∀ H', Q (.bl true) H'

def partC (c : Conn) : Str := partOf c.nm (c.pl :: gsOf c)
theorem parts_eq (T : Half) : partsT T = partOf (Str.ofString "grades") [T.m] :: partOf (Str.ofString "wished") T.ws :: T.cs.map partC := by
  unfold partsT wordsT
  rw [List.map_cons, List.map_cons, List.map_map]
  rfl
theorem conn_figs {m : Int} {c : Conn} (m1 : 1 ≤ m) (m9 : m ≤ 9) (gc : GoodC m c) : (∀ i ∈ gsOf c, Fig i) ∧ (gsOf c).length ≤ 81 := by
  refine ⟨fun i hi => ?_, ?_⟩
  · obtain ⟨o, ho, rfl⟩ := List.mem_map.mp hi
    have k := gc.cells o ho
    cases o with
    | none => exact ⟨by decide, by decide⟩
    | some j => have := k j rfl; exact ⟨this.1, by show j ≤ 9; omega⟩
  · have h1 := gc.len
    have h2 := pow81 (p := c.pl.toNat) m1 m9 (by have := gc.p2; omega)
    unfold gsOf
    rw [List.length_map]
    omega
theorem Wds.same {H H' : Hp} (s : Same H H') {ws : List (List Str)} {vs : List V} (h : Wds H ws vs) : Wds H' ws vs := by
  unfold Wds at h ⊢
  induction h with
  | nil => exact .nil
  | cons r _ ih =>
    obtain ⟨a, e, k⟩ := r
    exact .cons ⟨a, e, s _ _ k⟩ ih
theorem Wds.snoc {H : Hp} {ws : List (List Str)} {vs : List V} {w : List Str} {a : Addr} (h : Wds H ws vs) (k : H a = some (.lst (w.map V.str))) : Wds H (ws ++ [w]) (vs ++ [.ref a]) := by
  unfold Wds at h ⊢
  induction h with
  | nil => exact .cons ⟨a, rfl, k⟩ .nil
  | cons r _ ih => exact .cons r ih
theorem Wds.get {H : Hp} {ws : List (List Str)} {vs : List V} (h : Wds H ws vs) : ∀ {i : Nat} {v : V}, vs[i]? = some v → ∃ w a, ws[i]? = some w ∧ v = .ref a ∧ H a = some (.lst (w.map V.str)) := by
  unfold Wds at h
  induction h with
  | nil => intro i v e; simp at e
  | cons r _ ih =>
    intro i v e
    cases i with
    | zero =>
      simp at e
      subst e
      obtain ⟨a, e, k⟩ := r
      exact ⟨_, a, rfl, e, k⟩
    | succ i =>
      obtain ⟨w, a, e1, e2, e3⟩ := ih (i := i) (by simpa using e)
      exact ⟨w, a, by simpa using e1, e2, e3⟩
theorem Wds.len {H : Hp} {ws : List (List Str)} {vs : List V} (h : Wds H ws vs) : vs.length = ws.length := (Paired.length h).symm
theorem alike_flat {H : Hp} (n : Nat) : ∀ (xs : List V), xs.all flatV = true → Paired (Alike H n) xs xs
  | [], _ => .nil
  | x :: xs, h => by
    rw [List.all_cons, Bool.and_eq_true] at h
    refine .cons ?_ (alike_flat n xs h.2)
    cases n with
    | zero => exact ⟨rfl, h.1⟩
    | succ n => exact .inl ⟨rfl, h.1⟩
theorem flat_ints (ns : List Int) : (ns.map V.int).all flatV = true := by
  rw [List.all_eq_true]
  intro x hx
  obtain ⟨n, _, rfl⟩ := List.mem_map.mp hx
  rfl
theorem alike_conns {H : Hp} : ∀ {cs : List Conn} {vs us : List V}, Conns H cs vs → Conns H cs us → Paired (Alike H 2) vs us
  | [], _, _, h, k => by cases h; cases k; exact .nil
  | c :: cs, _, _, ⟨t, u, rest, e, h1, h2, h3⟩, ⟨t', u', rest', e', k1, k2, k3⟩ => by
    rw [e, e']
    refine .cons (.inr ⟨t, t', _, _, rfl, rfl, h1, k1, ?_⟩) (alike_conns h3 k3)
    exact .cons (.inl ⟨rfl, rfl⟩) (.cons (.inl ⟨rfl, rfl⟩) (.cons (.inr ⟨u, u', _, _, rfl, rfl, h2, k2, alike_flat 0 _ (flat_cells _)⟩) .nil))
theorem cut_from {xs : List V} (k : Nat) (hk : k ≤ xs.length) : cutV xs (some (k : Int)) none = xs.drop k := by
  unfold cutV
  rw [HT.sIx_nat, HT.sIx_none, show min k xs.length = k by omega]
  exact List.take_of_length_le (by rw [List.length_drop]; omega)
theorem cut_ints (ns : List Int) (lo hi : Option Int) : ∃ ms : List Int, cutV (ns.map V.int) lo hi = ms.map V.int := by
  unfold cutV
  rw [← List.map_drop, ← List.map_take]
  exact ⟨_, rfl⟩
theorem cat_ints (ms : List Int) : ([.int 0] ++ ms.map V.int : List V) = (0 :: ms).map V.int := rfl
def spFill : Sp := fun vs H Q _ => ∃ (v : V) (T : Half), vs = [v] ∧ IsHalf H v T ∧ Fits T ∧ ∀ H', Same H H' → Q (.int (T.m ^ nones T)) H'
def spHalf8 : Sp := fun vs H Q _ => ∃ (p : Addr) (most conn often : Int), vs = [.ref p, .int most, .int conn, .int often] ∧ Pool H p ∧ 1 ≤ most ∧ most ≤ 9 ∧ 0 ≤ conn ∧ conn ≤ 8 ∧ 0 ≤ often ∧ often < 1000 ∧
  ∀ v T H', Off p H H' → Pool H' p → IsHalf H' v T → Good T → T.m ≤ most → (T.cs.length : Int) ≤ conn → Q v H'
/-- pairs of whole numbers, each a tuple -/
def PairsAt (H : Hp) : List (Nat × Nat) → List V → Prop := Paired fun p v => ∃ t, v = .ref t ∧ H t = some (.tup [.int (p.1 : Nat), .int (p.2 : Nat)])
def Halves (H : Hp) : List Half → List V → Prop := Paired fun T v => IsHalf H v T
theorem PairsAt.same {H H' : Hp} (s : Same H H') {ps : List (Nat × Nat)} {vs : List V} (h : PairsAt H ps vs) : PairsAt H' ps vs := Paired.mapP h fun p v ⟨t, e, q⟩ => ⟨t, e, s _ _ q⟩
theorem Halves.same {H H' : Hp} (s : Same H H') {ps : List Half} {vs : List V} (h : Halves H ps vs) : Halves H' ps vs := Paired.mapP h fun p v q => q.same s
theorem Paired.snoc8 {α β : Type} {F : α → β → Prop} {a : α} {b : β} (h : F a b) : ∀ {l : List α} {m : List β}, Paired F l m → Paired F (l ++ [a]) (m ++ [b])
  | _, _, .nil => .cons h .nil
  | _, _, .cons r t => .cons r (Paired.snoc8 h t)
theorem Paired.app8 {α β : Type} {F : α → β → Prop} {l' : List α} {m' : List β} (h : Paired F l' m') : ∀ {l : List α} {m : List β}, Paired F l m → Paired F (l ++ l') (m ++ m')
  | _, _, .nil => h
  | _, _, .cons r t => .cons r (Paired.app8 h t)
theorem Paired.drop8 {α β : Type} {F : α → β → Prop} : ∀ (n : Nat) {l : List α} {m : List β}, Paired F l m → Paired F (l.drop n) (m.drop n)
  | 0, _, _, h => h
  | _ + 1, _, _, .nil => .nil
  | n + 1, _, _, .cons _ t => Paired.drop8 n t
theorem Paired.get8 {α β : Type} {F : α → β → Prop} : ∀ {l : List α} {m : List β} {i : Nat} {b : β}, Paired F l m → m[i]? = some b → ∃ a, l[i]? = some a ∧ F a b
  | _, _, _, _, .nil, e => by simp at e
  | _, _, 0, _, .cons r _, e => by simp at e; subst e; exact ⟨_, rfl, r⟩
  | _, _, i + 1, b, .cons _ t, e => by
    obtain ⟨a, h1, h2⟩ := Paired.get8 (i := i) (b := b) t (by simpa using e)
    exact ⟨a, by simpa using h1, h2⟩
def spWith : Sp := fun vs H Q _ => ∃ (v : V) (T : Half) (r a : Nat) (o : Option Int), vs = [v, .int r, .int a, cellV o] ∧ IsHalf H v T ∧ Fits T ∧ (∃ x, cellAt T r a = some x) ∧ ∀ H' v', Same H H' → IsHalf H' v' (putT T r a o) → Q v' H'
def spNonesL : Sp := fun vs H Q _ => ∃ (v : V) (T : Half), vs = [v] ∧ IsHalf H v T ∧ Fits T ∧ ∀ H' l ys, Same H H' → H' l = some (.lst ys) → H l = none → PairsAt H' (nonesL T T.cs.length) ys → Q (.ref l) H'
def Walked (T : Half) (W : List Half) : Prop := W.length = T.m.toNat ^ nones T ∧ W.Nodup ∧ ∀ t ∈ W, Good t ∧ t.m = T.m ∧ t.cs.length = T.cs.length ∧ Full t ∧ t.ws = T.ws
def spWalked : Sp := fun vs H Q _ => ∃ (v : V) (T : Half), vs = [v] ∧ IsHalf H v T ∧ Good T ∧ T.m ≤ 3 ∧ nones T ≤ 4 ∧ ∀ H' l ys W, Same H H' → H' l = some (.lst ys) → Halves H' W ys → Walked T W → Q (.ref l) H'
def spRight8 : Sp := fun vs H Q _ => ∃ (v : V) (p : Addr) (T : Half), vs = [v, .ref p] ∧ IsHalf H v T ∧ Pool H p ∧ Good T ∧ T.m ≤ 3 ∧ nones T ≤ 4 ∧ ∀ H', Off p H H' → Q (.bl true) H'
theorem PairsAt.tk {H H' : Hp} (s : Tk H H') {ps : List (Nat × Nat)} {vs : List V} (h : PairsAt H ps vs) : PairsAt H' ps vs := Paired.mapP h fun p v ⟨t, e, q⟩ => ⟨t, e, s _ _ q⟩
theorem Halves.tk {H H' : Hp} (s : Tk H H') {ps : List Half} {vs : List V} (h : Halves H ps vs) : Halves H' ps vs := Paired.mapP h fun p v q => q.tk s
theorem rowN_le (r : Nat) (cs : List (Option Int)) (k : Nat) : (rowN r cs k).length ≤ k := by
  unfold rowN
  rw [List.length_map]
  have := List.length_filter_le (fun a => decide (cs[a]? = some none)) (List.range k)
  rw [List.length_range] at this
  exact this
theorem nonesL_le {T : Half} (ft : Fits T) : ∀ k, (nonesL T k).length ≤ k * 81
  | 0 => Nat.zero_le _
  | k + 1 => by
    rw [nonesL_succ, List.length_append]
    have h1 := nonesL_le ft k
    have h2 := rowN_le k (cellsOf T k) (cellsOf T k).length
    have h3 : (cellsOf T k).length ≤ 81 := by
      unfold cellsOf
      cases e : T.cs[k]? with
      | none => exact Nat.zero_le _
      | some c => exact ft.2.2.2.2 c (List.mem_of_getElem? e)
    omega
theorem pow4 {m n : Nat} (hm : m ≤ 3) (hn : n ≤ 4) : m ^ n ≤ 81 := by
  have h1 : m ^ n ≤ 3 ^ n := Nat.pow_le_pow_left hm n
  have h2 : 3 ^ n ≤ 3 ^ 4 := Nat.pow_le_pow_right (by decide) hn
  exact Nat.le_trans h1 (Nat.le_trans h2 (by decide))
theorem Paired.len8 {α β : Type} {F : α → β → Prop} {l : List α} {m : List β} (h : Paired F l m) : m.length = l.length := (Paired.length h).symm
theorem pool_same {H H' : Hp} {p : Addr} (h : Pool H p) (s : Same H H') : Pool H' p := by
  obtain ⟨r, a, b, e⟩ := h
  exact ⟨r, a, b, s _ _ e⟩
theorem catA8 {K : PySem.W.Frag} {H : Hp} {Q : VK} {a b : Addr} {xs ys : List V} (ha : H a = some (.tup xs)) (hb : H b = some (.tup ys)) (hz : xs.length + ys.length ≤ 1000) (q : ∀ p H', Same H H' → H' p = some (.tup (xs ++ ys)) → Q (.ref p) H') : rCatA K (.ref a) (.ref b) H Q := by
  refine ⟨a, b, xs, ys, rfl, rfl, SqT.of ha, SqT.of hb, small9 hz, fun e => ?_, fun _ e => ?_, fun _ _ p hp => ?_⟩
  · exact q b H Same.rfl' (by rw [hb, e]; rfl)
  · exact q a H Same.rfl' (by rw [ha, e, List.append_nil])
  · exact q p _ (same_new hp _) upd_same
theorem put_tup {K : PySem.W.Frag} {σ : St} {H : Hp} {Q : VK} {i j l : Nat} {t : Addr} {xs : List V} {k : Nat} {v : V} (hi : σ[i]? = some (some (.ref t))) (hj : σ[j]? = some (some (.int k))) (hl : σ[l]? = some (some v)) (ht : H t = some (.tup xs)) (hk : k < xs.length) (hz : xs.length ≤ 900)
    (q : ∀ p H', Same H H' → H' p = some (.tup (xs.set k v)) → Q (.ref p) H') :
    tOp (rCatA K) (tOp (rCatA K) (tSl (fun x lo hi H Q => rSlT K x lo hi H Q ∨ rSlTW K x lo hi H Q) (tVar i) tNoPart (tPart (tVar j))) (tTup (tCons (tVar l) tNil)))
      (tSl (fun x lo hi H Q => rSlT K x lo hi H Q ∨ rSlTW K x lo hi H Q) (tVar i) (tPart (tOp (rI0 fun i j => V.int (i + j)) (tVar j) (tC (V.int 1)))) tNoPart) σ H Q := by
  have e1 : cutV xs none (some (k : Int)) = xs.take k := by
    unfold cutV
    rw [HT.sIx_none, HT.sIx_nat, List.drop_zero, Nat.sub_zero, Nat.min_eq_left (by omega)]
  have e2 : cutV xs (some ((k + 1 : Nat) : Int)) none = xs.drop (k + 1) := by
    unfold cutV
    rw [HT.sIx_none, HT.sIx_nat, Nat.min_eq_left (by omega)]
    exact List.take_of_length_le (by rw [List.length_drop]; omega)
  have e3 : xs.take k ++ ([v] ++ xs.drop (k + 1)) = xs.set k v := by rw [List.set_eq_take_append_cons_drop, if_pos hk]; rfl
  refine ⟨_, hi, _, hj, _, rfl, .inl ⟨t, xs, rfl, SqT.of ht, ?_, fun p hp => ?_⟩⟩
  · rw [HT.sIx_none, HT.sIx_nat, Nat.min_eq_left (by omega)]
    omega
  rw [e1]
  refine ⟨_, hl, small9 (by show 1 ≤ 1000; decide), fun g hg => ?_⟩
  have s1 : Same H (upd H p (.tup (xs.take k))) := same_new hp _
  have s2 : Same (upd H p (.tup (xs.take k))) (upd (upd H p (.tup (xs.take k))) g (.tup [v])) := same_new hg _
  have hp2 := s2 _ _ upd_same
  have hg2 : (upd (upd H p (.tup (xs.take k))) g (.tup [v])) g = some (.tup [v]) := upd_same
  generalize upd (upd H p (.tup (xs.take k))) g (.tup [v]) = H2 at s2 hp2 hg2 ⊢
  refine catA8 hp2 hg2 (by rw [List.length_take]; show _ + 1 ≤ 1000; omega) fun p3 H3 s3 hp3 => ?_
  have s03 : Same H H3 := fun b o qb => s3 _ _ (s2 _ _ (s1 _ _ qb))
  refine ⟨_, hi, _, hj, _, _, rfl, rfl, _, rfl, .inl ⟨t, xs, rfl, SqT.of (s03 _ _ ht), ?_, fun p4 hp4 => ?_⟩⟩
  · rw [show ((k : Int) + 1) = ((k + 1 : Nat) : Int) by omega, HT.sIx_nat]
    omega
  rw [show ((k : Int) + 1) = ((k + 1 : Nat) : Int) by omega, e2]
  refine catA8 (same_new hp4 _ _ _ hp3) upd_same (by rw [List.length_append, List.length_take, List.length_drop]; show _ + 1 + _ ≤ 1000; omega) fun p5 H5 s5 hp5 => ?_
  rw [List.append_assoc, e3] at hp5
  exact q p5 H5 (fun b o qb => s5 _ _ (same_new hp4 _ _ _ (s03 _ _ qb))) hp5
theorem Conns.put8 {H : Hp} {a : Nat} {o : Option Int} {t' u' : Addr} : ∀ {cs : List Conn} {vs : List V} {r : Nat} {c : Conn}, Conns H cs vs → cs[r]? = some c → H t' = some (.tup [.str c.nm, .int c.pl, .ref u']) → H u' = some (.tup ((c.cs.set a o).map cellV)) → Conns H (cs.modify r (putC · a o)) (vs.set r (.ref t'))
  | [], _, _, _, _, e, _, _ => by simp at e
  | _ :: cs, _, 0, _, ⟨t, u, rest, e, h1, h2, h3⟩, q, k1, k2 => by
    simp at q
    subst q e
    exact ⟨t', u', rest, rfl, k1, k2, h3⟩
  | d :: cs, _, r + 1, _, ⟨t, u, rest, e, h1, h2, h3⟩, q, k1, k2 => by
    subst e
    exact ⟨t, u, rest.set r (.ref t'), rfl, h1, h2, Conns.put8 (r := r) h3 (by simpa using q) k1 k2⟩
def top (i : Nat) : Stmt := PySem.Challenge.pw_truthgrades_k08_whole_fillings_walked.main.body.getD i (.Pass ⟨0, 0, 0, 0⟩)
/-- the built-in names that the text asks: none is a name of its own -/
structure Gb (mg : Str → Option Value) : Prop where
  «abs» : mg "abs" = none
  «range» : mg "range" = none
  «tuple» : mg "tuple" = none
  «sum» : mg "sum" = none
  «isinstance» : mg "isinstance" = none
  «int» : mg "int" = none
  «bool» : mg "bool" = none
  «str» : mg "str" = none
  «len» : mg "len" = none
  «all» : mg "all" = none
  «zip» : mg "zip" = none
  «set» : mg "set" = none
  «MOST_GRADES» : ∃ u, mg "MOST_GRADES" = some u ∧ RelV (.int 9) u
  «MOST_PLACES» : ∃ u, mg "MOST_PLACES" = some u ∧ RelV (.int 2) u
  «MOST_CONNECTIVES» : ∃ u, mg "MOST_CONNECTIVES" = some u ∧ RelV (.int 8) u
  «FIGURES» : ∃ u, mg "FIGURES" = some u ∧ RelV (.str figures) u
abbrev s_law_draw : Stmt := top 32
theorem sc_law_draw : FnScope ["_law_pool_here", "_law_many", "_law_found"] ["_law_pool_here", "_law_many"] (defScope s_law_draw) := ⟨rfl, rfl, rfl, by decide +kernel, rfl, by decide +kernel, by decide +kernel⟩
theorem ok_law_draw {P : Program} {w : World} {K : PySem.W.Frag} {mg : Str → Option Value} {base : Heap} {f : Addr} {fd : FuncData} (F : Fun K "_law_draw" "_law_draw" s_law_draw f fd) (gb : Gb mg) : FnOk P w K mg base CX0 1 f fd ["_law_pool_here", "_law_many"] spDraw := by
  refine F.ok sc_law_draw (fun vs H Q E h => ?_) (fun cdv A outer s H vs Q E hr h => ?_)
  · obtain ⟨p, m, rfl, _⟩ := h
    rfl
  obtain ⟨p, m, rfl, ⟨r, a, b, hp⟩, m0, m1, q⟩ := h
  refine ⟨_, (@pss_cons _ _ _ _ _ (@ps_if _ _ _ _ _ _ _ _ (@pt_cmpR _ _ _ _ _ _ _ _ (@op_gt _) (@pe_ix _ _ _ _ _ _ _ (@kix_seq _ K (by rfl)) (@pv _ 0 _ _ (by rfl) (by first | exact Or.inl rfl | exact Or.inr (Or.inl rfl) | exact Or.inr (Or.inr rfl)) (by decide) (by decide)) (@pe_int _ _ _ _) (fun _ _ => rfl)) (@pe_int _ _ _ _) (@nomark _ _ (by decide) (by decide))) (@pss_cons _ _ _ _ _ (@ps_set _ _ 2 _ _ _ _ sc_law_draw.nd rfl (Or.inl rfl) (@pe_op _ _ _ _ _ _ _ _ (@op_mod _) (@pe_ix _ _ _ _ _ _ _ (@kix_seq _ K (by rfl)) (@pv _ 0 _ _ (by rfl) (by first | exact Or.inl rfl | exact Or.inr (Or.inl rfl) | exact Or.inr (Or.inr rfl)) (by decide) (by decide)) (@pe_int _ _ _ _) (fun _ _ => rfl)) (@pv _ 1 _ _ (by rfl) (by first | exact Or.inl rfl | exact Or.inr (Or.inl rfl) | exact Or.inr (Or.inr rfl)) (by decide) (by decide))) (by rfl) (by first | exact .inl rfl | exact .inr rfl | assumption)) (@pss_cons _ _ _ _ _ (@ps_asg _ _ _ _ _ _ (@pe_op _ _ _ _ _ _ _ _ (@op_fdiv _) (@pe_ix _ _ _ _ _ _ _ (@kix_seq _ K (by rfl)) (@pv _ 0 _ _ (by rfl) (by first | exact Or.inl rfl | exact Or.inr (Or.inl rfl) | exact Or.inr (Or.inr rfl)) (by decide) (by decide)) (@pe_int _ _ _ _) (fun _ _ => rfl)) (@pv _ 1 _ _ (by rfl) (by first | exact Or.inl rfl | exact Or.inr (Or.inl rfl) | exact Or.inr (Or.inr rfl)) (by decide) (by decide))) (@pg_sub _ _ _ _ _ _ _ (@pv _ 0 _ _ (by rfl) (by first | exact Or.inl rfl | exact Or.inr (Or.inl rfl) | exact Or.inr (Or.inr rfl)) (by decide) (by decide)) (@pe_int _ _ _ _) (@set_list _) (by intro _; rfl)) (by rfl) (by rfl) (by rfl)) (@pss_one _ _ _ (@ps_ret _ _ _ _ (@pv _ 2 _ _ (by rfl) (by first | exact Or.inl rfl | exact Or.inr (Or.inl rfl) | exact Or.inr (Or.inr rfl)) (by decide) (by decide)))))) (@pss_nil _)) (@pss_cons _ _ _ _ _ (@ps_asg _ _ _ _ _ _ (@pe_op _ _ _ _ _ _ _ _ (@op_mod _) (@pe_op _ _ _ _ _ _ _ _ (@op_add _) (@pe_op _ _ _ _ _ _ _ _ (@op_add _) (@pe_op _ _ _ _ _ _ _ _ (@op_mul _) (@pe_ix _ _ _ _ _ _ _ (@kix_seq _ K (by rfl)) (@pv _ 0 _ _ (by rfl) (by first | exact Or.inl rfl | exact Or.inr (Or.inl rfl) | exact Or.inr (Or.inr rfl)) (by decide) (by decide)) (@pe_int _ _ _ _) (fun _ _ => rfl)) (@pe_int _ _ _ _)) (@pe_ix _ _ _ _ _ _ _ (@kix_seq _ K (by rfl)) (@pv _ 0 _ _ (by rfl) (by first | exact Or.inl rfl | exact Or.inr (Or.inl rfl) | exact Or.inr (Or.inr rfl)) (by decide) (by decide)) (@pe_int _ _ _ _) (fun _ _ => rfl))) (@pe_int _ _ _ _)) (@pe_int _ _ _ _)) (@pg_sub _ _ _ _ _ _ _ (@pv _ 0 _ _ (by rfl) (by first | exact Or.inl rfl | exact Or.inr (Or.inl rfl) | exact Or.inr (Or.inr rfl)) (by decide) (by decide)) (@pe_int _ _ _ _) (@set_list _) (by intro _; rfl)) (by rfl) (by rfl) (by rfl)) (@pss_cons _ _ _ _ _ (@ps_asg _ _ _ _ _ _ (@pe_op _ _ _ _ _ _ _ _ (@op_mod _) (@pe_op _ _ _ _ _ _ _ _ (@op_add _) (@pe_op _ _ _ _ _ _ _ _ (@op_add _) (@pe_op _ _ _ _ _ _ _ _ (@op_mul _) (@pe_ix _ _ _ _ _ _ _ (@kix_seq _ K (by rfl)) (@pv _ 0 _ _ (by rfl) (by first | exact Or.inl rfl | exact Or.inr (Or.inl rfl) | exact Or.inr (Or.inr rfl)) (by decide) (by decide)) (@pe_int _ _ _ _) (fun _ _ => rfl)) (@pe_int _ _ _ _)) (@pe_op _ _ _ _ _ _ _ _ (@op_mod _) (@pe_op _ _ _ _ _ _ _ _ (@op_mul _) (@pe_ix _ _ _ _ _ _ _ (@kix_seq _ K (by rfl)) (@pv _ 0 _ _ (by rfl) (by first | exact Or.inl rfl | exact Or.inr (Or.inl rfl) | exact Or.inr (Or.inr rfl)) (by decide) (by decide)) (@pe_int _ _ _ _) (fun _ _ => rfl)) (@pe_ix _ _ _ _ _ _ _ (@kix_seq _ K (by rfl)) (@pv _ 0 _ _ (by rfl) (by first | exact Or.inl rfl | exact Or.inr (Or.inl rfl) | exact Or.inr (Or.inr rfl)) (by decide) (by decide)) (@pe_int _ _ _ _) (fun _ _ => rfl))) (@pe_int _ _ _ _))) (@pe_int _ _ _ _)) (@pe_int _ _ _ _)) (@pg_sub _ _ _ _ _ _ _ (@pv _ 0 _ _ (by rfl) (by first | exact Or.inl rfl | exact Or.inr (Or.inl rfl) | exact Or.inr (Or.inr rfl)) (by decide) (by decide)) (@pe_int _ _ _ _) (@set_list _) (by intro _; rfl)) (by rfl) (by rfl) (by rfl)) (@pss_one _ _ _ (@ps_ret _ _ _ _ (@pe_op _ _ _ _ _ _ _ _ (@op_mod _) (@pe_op _ _ _ _ _ _ _ _ (@op_fdiv _) (@pe_op _ _ _ _ _ _ _ _ (@op_add _) (@pe_ix _ _ _ _ _ _ _ (@kix_seq _ K (by rfl)) (@pv _ 0 _ _ (by rfl) (by first | exact Or.inl rfl | exact Or.inr (Or.inl rfl) | exact Or.inr (Or.inr rfl)) (by decide) (by decide)) (@pe_int _ _ _ _) (fun _ _ => rfl)) (@pe_op _ _ _ _ _ _ _ _ (@op_mul _) (@pe_int _ _ _ _) (@pe_ix _ _ _ _ _ _ _ (@kix_seq _ K (by rfl)) (@pv _ 0 _ _ (by rfl) (by first | exact Or.inl rfl | exact Or.inr (Or.inl rfl) | exact Or.inr (Or.inr rfl)) (by decide) (by decide)) (@pe_int _ _ _ _) (fun _ _ => rfl)))) (@pe_int _ _ _ _)) (@pv _ 1 _ _ (by rfl) (by first | exact Or.inl rfl | exact Or.inr (Or.inl rfl) | exact Or.inr (Or.inr rfl)) (by decide) (by decide)))))))), ?_⟩
  walk_at "rd"
  refine ite2 (fun c => ?_) (fun c => ?_)
  · walk_at "rd"
    exact q _ _ (Int.emod_nonneg _ (by omega)) (Int.emod_lt_of_pos _ m0) Off.put ⟨_, _, _, upd_same⟩
  · walk_at "rd"
    exact q _ _ (Int.emod_nonneg _ (by omega)) (Int.emod_lt_of_pos _ m0) (Off.put.trans Off.put) ⟨_, _, _, upd_same⟩

abbrev s_law_pool : Stmt := top 31
theorem sc_law_pool : FnScope ["_law_cell", "_law_rest", "_law_one"] ["_law_cell"] (defScope s_law_pool) := ⟨rfl, rfl, rfl, by decide +kernel, rfl, by decide +kernel, by decide +kernel⟩
theorem ok_law_pool {P : Program} {w : World} {K : PySem.W.Frag} {mg : Str → Option Value} {base : Heap} {f : Addr} {fd : FuncData} (F : Fun K "_law_pool" "_law_pool" s_law_pool f fd) (gb : Gb mg) : FnOk P w K mg base CX0 1 f fd ["_law_cell"] spPool := by
  refine F.ok sc_law_pool (fun vs H Q E h => ?_) (fun cdv A outer s H vs Q E hr h => ?_)
  · obtain ⟨c, rfl, _⟩ := h
    rfl
  obtain ⟨c, rfl, q⟩ := h
  refine ⟨_, (@pss_cons _ _ _ _ _ (@ps_set _ _ 1 _ _ _ _ sc_law_pool.nd rfl (Or.inl rfl) (@pe_int _ _ _ _) (by rfl) (by first | exact .inl rfl | exact .inr rfl | assumption)) (@pss_cons _ _ _ _ _ (@ps_if _ _ _ _ _ _ _ _ (@PW.pt _ _ _ (@pw_or _ _ _ _ _ _ _ (@pt_cmpR _ _ _ _ _ _ _ _ (@op_lt _) (@pv _ 0 _ _ (by rfl) (by first | exact Or.inl rfl | exact Or.inr (Or.inl rfl) | exact Or.inr (Or.inr rfl)) (by decide) (by decide)) (@pe_int _ _ _ _) (@nomark _ _ (by decide) (by decide))) (@pw_or1 _ _ _ _ (@pt_cmpR _ _ _ _ _ _ _ _ (@op_ge _) (@pv _ 0 _ _ (by rfl) (by first | exact Or.inl rfl | exact Or.inr (Or.inl rfl) | exact Or.inr (Or.inr rfl)) (by decide) (by decide)) (@pe_op _ _ _ _ _ _ _ _ (@op_pow _) (@pe_int _ _ _ _) (@pe_int _ _ _ _)) (@nomark _ _ (by decide) (by decide)))))) (@pss_one _ _ _ (@ps_set _ _ 1 _ _ _ _ sc_law_pool.nd rfl (Or.inl rfl) (@pe_callB _ _ _ _ _ _ _ _ _ (@call_abs _) rfl gb.abs bt_abs (@pa_cons _ _ _ _ _ (@pv _ 0 _ _ (by rfl) (by first | exact Or.inl rfl | exact Or.inr (Or.inl rfl) | exact Or.inr (Or.inr rfl)) (by decide) (by decide)) (@pa_nil _) (by rfl)) (by decide) (by decide) (by rfl) (by rfl)) (by rfl) (by first | exact .inl rfl | exact .inr rfl | assumption))) (@pss_nil _)) (@pss_cons _ _ _ _ _ (@ps_set _ _ 2 _ _ _ _ sc_law_pool.nd rfl (Or.inl rfl) (@pe_op _ _ _ _ _ _ _ _ (@op_mod _) (@pv _ 0 _ _ (by rfl) (by first | exact Or.inl rfl | exact Or.inr (Or.inl rfl) | exact Or.inr (Or.inr rfl)) (by decide) (by decide)) (@pe_int _ _ _ _)) (by rfl) (by first | exact .inl rfl | exact .inr rfl | assumption)) (@pss_one _ _ _ (@ps_ret _ _ _ _ (@pe_lst _ _ _ _ (@pa_cons _ _ _ _ _ (@pv _ 1 _ _ (by rfl) (by first | exact Or.inl rfl | exact Or.inr (Or.inl rfl) | exact Or.inr (Or.inr rfl)) (by decide) (by decide)) (@pa_cons _ _ _ _ _ (@pv _ 2 _ _ (by rfl) (by first | exact Or.inl rfl | exact Or.inr (Or.inl rfl) | exact Or.inr (Or.inr rfl)) (by decide) (by decide)) (@pa_cons _ _ _ _ _ (@pe_op _ _ _ _ _ _ _ _ (@op_mod _) (@pe_op _ _ _ _ _ _ _ _ (@op_add _) (@pe_op _ _ _ _ _ _ _ _ (@op_mul _) (@pv _ 2 _ _ (by rfl) (by first | exact Or.inl rfl | exact Or.inr (Or.inl rfl) | exact Or.inr (Or.inr rfl)) (by decide) (by decide)) (@pe_int _ _ _ _)) (@pe_int _ _ _ _)) (@pe_int _ _ _ _)) (@pa_nil _) (by rfl)) (by rfl)) (by rfl)))))))), ?_⟩
  walk_at "rd"
  refine ite2 (fun c1 => ?_) (fun c1 => ?_)
  · walk_at "rd"
    exact ⟨small9 (by show 3 ≤ 1000; decide), fun p hp => q p _ _ _ hp⟩
  · walk_at "rd"
    refine ite2 (fun c2 => ?_) (fun c2 => ?_)
    · walk_at "rd"
      exact ⟨small9 (by show 3 ≤ 1000; decide), fun p hp => q p _ _ _ hp⟩
    · walk_at "rd"
      exact ⟨small9 (by show 3 ≤ 1000; decide), fun p hp => q p _ _ _ hp⟩

abbrev s_law_name : Stmt := top 33
theorem sc_law_name : FnScope ["_law_pool_here", "_law_names", "_law_letters", "_law_name_here", "_law_some"] ["_law_pool_here", "_law_names"] (defScope s_law_name) := ⟨rfl, rfl, rfl, by decide +kernel, rfl, by decide +kernel, by decide +kernel⟩

theorem inV_str (s : Str) (ns : List Str) : inV (.str s) (ns.map V.str) = decide (s ∈ ns) := by
  induction ns with
  | nil => rfl
  | cons n ns ih =>
    have e : inV (.str s) ((n :: ns).map V.str) = ((n == s) || inV (.str s) (ns.map V.str)) := rfl
    rw [e, ih]
    by_cases h : s = n
    · subst h; simp
    · have h' : (n == s) = false := by simpa using fun z => h z.symm
      rw [h', Bool.false_or]
      simp [h]
theorem flat_strs (ns : List Str) : (ns.map V.str).all flatV = true := by
  rw [List.all_eq_true]
  intro x hx
  obtain ⟨n, _, rfl⟩ := List.mem_map.mp hx
  rfl
theorem Pool.same {H H' : Hp} {p : Addr} (h : Pool H p) (s : Same H H') : Pool H' p := by
  obtain ⟨r, a, b, e⟩ := h
  exact ⟨r, a, b, s _ _ e⟩
theorem name_rest {K : PySem.W.Frag} {p l : Addr} {ns : List Str} {Q : VK} {H : Hp} {z : Str} (hz : IsName z) (pl : Pool H p) (hl : H l = some (.lst (ns.map .str))) (hn : ns.length ≤ 8) (q : ∀ x H', Same H H' → x ∉ ns → IsName x → Q (.str x) H') :
    tSeq
      (tAsg (tOp rCat (tLst (tCons (tVar 3) tNil)) (tComp [none, some 3] (iStr (tVar 2)) (gName 0) tYes (tOp (fun x y H Q => ∃ i j, x = V.str i ∧ y = V.str j ∧ i.length + j.length ≤ sizeLine ∧ Q (V.str (i ++ j)) H) (tSl (fun x lo hi H Q => rSlL K x lo hi H Q ∨ rSlT K x lo hi H Q ∨ rSlS x lo hi H Q) (tVar 1) tNoPart (tPart (tC (V.int 7)))) (tVar 0)))) (gName 4))
      (tRet (tOp (rIx K) (tComp [none, some 1] (iList K (tVar 4)) (gName 0) (tTest (tOp (rIn K true) (tVar 0) (tVar 1))) (tVar 0)) (tC (V.int 0))))
      { nx := fun _ H' => Q V.non H', rt := Q } [some (.ref p), some (.ref l), some (.str alpha), some (.str z), none] H := by
  refine ⟨_, rfl, small9 (by show 1 ≤ 1000; decide), fun g hg => ?_⟩
  refine ⟨_, rfl, alpha, rfl, fun D hD => ?_⟩
  have g1 : Same H (upd H g (.lst [.str z])) := same_new hg _
  refine comp_str (fun i ys H' => Same (upd H g (.lst [.str z])) H' ∧ ys = (alpha.cps.toList.take i).map fun c => V.str (glue (PySem.Txt.slice z none (some 7)) c)) ⟨same_new hD _, rfl⟩ ?_ ?_
  · rintro i ys H' c hc ⟨s1, rfl⟩ hD'
    have hi : i < alpha.cps.size := (Array.getElem?_eq_some_iff.mp hc).1
    have hi26 : i < 26 := by have := alpha_len; simp at this; omega
    refine yes ?_
    have hsl := PySem.Txt.slice_le z none (some 7)
    have hz8 := hz.2.1
    refine ⟨_, rfl, _, rfl, .inr (.inr ⟨z, rfl, small9 (by omega), _, rfl, _, _, rfl, rfl, ?_, ?_⟩)⟩
    · refine small9 ?_
      have e1 : (Str.mk #[c]).length = 1 := rfl
      rw [e1]
      omega
    · refine cyes hi rset1 hD' ?_ ⟨fun b o qb => ?_, ?_⟩
      · rw [List.length_map, List.length_take]
        exact small1000 (by omega)
      · rw [upd_ne (ne_of_none qb hD)]
        exact s1 b o qb
      · rw [take_snoc (show alpha.cps.toList[i]? = some c by simpa using hc), List.map_append]
        rfl
  · rintro ys H' ⟨s1, rfl⟩ hD'
    rw [List.take_of_length_le (by simp)] at hD'
    refine ⟨g, D, _, _, rfl, rfl, s1 _ _ upd_same, hD', ?_, fun e he => ?_⟩
    · rw [List.length_map, alpha_len]
      exact small9 (by show 1 + 26 ≤ 1000; decide)
    have s2 : Same H (upd H' e (.lst ([.str z] ++ (alpha.cps.toList.map fun c => V.str (glue (PySem.Txt.slice z none (some 7)) c))))) := (g1.trans s1).trans (same_new he _)
    have ec : (.lst ([.str z] ++ (alpha.cps.toList.map fun c => V.str (glue (PySem.Txt.slice z none (some 7)) c))) : HO) = .lst ((z :: alpha.cps.toList.map (glue (PySem.Txt.slice z none (some 7)))).map V.str) := by
      rw [List.map_cons, List.map_map]
      rfl
    generalize hcs : (z :: alpha.cps.toList.map (glue (PySem.Txt.slice z none (some 7)))) = cs at ec
    have hcl : cs.length = 27 := by rw [← hcs, List.length_cons, List.length_map, alpha_len]
    rw [ec] at s2 ⊢
    refine ⟨_, rfl, e, rfl, ⟨_, SqL.of upd_same⟩, fun D2 hD2 => ?_⟩
    refine comp_list (xs := cs.map V.str) (fun i ys H2 => Same (upd H' e (.lst (cs.map V.str))) H2 ∧ ys = ((cs.take i).filter fun s => decide (s ∉ ns)).map V.str) ⟨same_new hD2 _, rfl⟩ (fun i ys H2 h _ => SqL.of (h.1 _ _ upd_same)) ?_ ?_
    · rintro i ys H2 x hx ⟨s3, rfl⟩ hD3
      have hi : i < (cs.map V.str).length := (List.getElem?_eq_some_iff.mp hx).1
      rw [List.getElem?_map] at hx
      obtain ⟨s, hs, rfl⟩ := Option.map_eq_some_iff.mp hx
      refine ⟨_, rfl, _, rfl, l, _, rfl, .inl (SqL.of (s3 _ _ (s2 _ _ hl))), rfl, flat_strs ns, _, rfl, ?_⟩
      rw [inV_str]
      have keep : ∀ (o : HO), Same (upd H' e (.lst (cs.map V.str))) (upd H2 D2 o) := fun o b u qb => by
        rw [upd_ne (ne_of_none qb hD2)]
        exact s3 b u qb
      have hlen : (((cs.take i).filter fun s => decide (s ∉ ns)).map V.str).length < sizeLine := by
        rw [List.length_map]
        refine small1000 ?_
        have h1 := List.length_filter_le (fun s => decide (s ∉ ns)) (cs.take i)
        rw [List.length_take] at h1
        omega
      refine ite2 (fun c => ?_) (fun c => ?_)
      · have hm : s ∉ ns := by simpa using c
        refine ⟨_, rfl, cyes hi rset1 hD3 hlen ⟨keep _, ?_⟩⟩
        rw [take_snoc hs, List.filter_append, List.map_append]
        simp [hm]
      · have hm : s ∈ ns := by simpa using c
        refine cno hi rset1 hD3 ⟨s3, ?_⟩
        rw [take_snoc hs, List.filter_append]
        simp [hm]
    · rintro ys H2 ⟨s3, rfl⟩ hD3
      rw [List.length_map, List.take_length] at hD3
      obtain ⟨c, hc, hnew⟩ := pick_new (PySem.Txt.slice z none (some 7)) alpha.cps.toList alpha_nd ns (by rw [alpha_len]; omega)
      have hmem : glue (PySem.Txt.slice z none (some 7)) c ∈ cs.filter fun s => decide (s ∉ ns) := by
        rw [← hcs]
        exact List.mem_filter.mpr ⟨List.mem_cons_of_mem _ (List.mem_map.mpr ⟨c, hc, rfl⟩), by simpa using hnew⟩
      cases hf : cs.filter (fun s => decide (s ∉ ns)) with
      | nil => rw [hf] at hmem; cases hmem
      | cons s0 rest =>
        rw [hf] at hD3
        have hs0 : s0 ∉ ns := by
          have : s0 ∈ cs.filter fun s => decide (s ∉ ns) := by rw [hf]; exact List.mem_cons_self
          simpa using (List.mem_filter.mp this).2
        have hn0 : IsName s0 := by
          have hm0 : s0 ∈ cs.filter fun s => decide (s ∉ ns) := by rw [hf]; exact List.mem_cons_self
          have hm1 := (List.mem_filter.mp hm0).1
          rw [← hcs] at hm1
          rcases List.mem_cons.mp hm1 with e1 | hm2
          · rw [e1]
            exact hz
          · obtain ⟨c', hc', e1⟩ := List.mem_map.mp hm2
            rw [← e1]
            exact glue_name hz (alpha_small c' hc').1 (alpha_small c' hc').2
        exact .inl ⟨D2, _, 0, _, rfl, rfl, SqL.of hD3, atI_nat (j := 0) rfl, q s0 H2 (s2.trans s3) hs0 hn0⟩

theorem ok_law_name {P : Program} {w : World} {K : PySem.W.Frag} {mg : Str → Option Value} {base : Heap} {f : Addr} {fd : FuncData} (F : Fun K "_law_name" "_law_name" s_law_name f fd) (gb : Gb mg) (d_law_draw : Def P w K mg base 1 "_law_draw" ["_law_pool_here", "_law_many"] spDraw) : FnOk P w K mg base CX0 2 f fd ["_law_pool_here", "_law_names"] spName := by
  refine F.ok sc_law_name (fun vs H Q E h => ?_) (fun cdv A outer s H vs Q E hr h => ?_)
  · obtain ⟨p, l, ns, rfl, _⟩ := h
    rfl
  obtain ⟨p, l, ns, rfl, pl, hl, hn, q⟩ := h
  have nd0 : (["_law_k", "_law_letters", "_law_pool_here"] : List Str).Nodup := by decide +kernel
  have nd1 : (["_law_sign", "_law_name_here"] : List Str).Nodup := by decide +kernel
  have nd2 : (["_law_one", "_law_names"] : List Str).Nodup := by decide +kernel
  refine ⟨_, (@pss_cons _ _ _ _ _ (@ps_set _ _ 2 _ _ _ _ sc_law_name.nd rfl (Or.inr rfl) (@pe_str _ _ _ _) (by rfl) (by first | exact .inl rfl | exact .inr rfl | assumption)) (@pss_cons _ _ _ _ _ (@ps_set _ _ 3 _ _ _ _ sc_law_name.nd rfl (Or.inr rfl) (@kpe_bm _ K _ _ _ _ _ _ _ _ _ _ _ PySem.F.plainAttrs_str PySem.F.slot_str_join PySem.F.type_str_join (@kmt_join _ K (by rfl)) (@pe_str _ _ _ _) (@pa_cons _ _ _ _ _ (@pe_comp _ ["_law_k", "_law_letters", "_law_pool_here"] [none, some 2, some 0] _ _ _ _ _ _ _ _ _ _ (by exact (show CompOk ["_law_pool_here", "_law_names", "_law_letters", "_law_name_here", "_law_some"] (defScope s_law_name) ["_law_k", "_law_letters", "_law_pool_here"] [none, some 2, some 0] _ from ⟨rfl, by decide +kernel, by decide +kernel, by decide +kernel, by decide +kernel, rfl, by decide +kernel⟩)) rfl (@pi_range1 _ _ _ _ _ _ rfl gb.range (@pa_cons _ _ _ _ _ (@pe_op _ _ _ _ _ _ _ _ (@op_add _) (@pe_int _ _ _ _) (@pe_def _ _ _ _ _ _ _ _ _ _ _ d_law_draw hr (by omega) rfl (@pa_cons _ _ _ _ _ (@pv _ 0 _ _ (by rfl) (by first | exact Or.inl rfl | exact Or.inr (Or.inl rfl) | exact Or.inr (Or.inr rfl)) (by decide) (by decide)) (@pa_cons _ _ _ _ _ (@pe_int _ _ _ _) (@pa_nil _) (by rfl)) (by rfl)) (by decide) (by rfl) (by rfl))) (@pa_nil _) (by rfl)) (by rfl)) (fun _ _ _ _ => (@pg_name _ _ 0 _ nd0 rfl (Or.inl rfl) (by first | exact .inl rfl | exact .inr rfl | assumption))) (fun _ _ _ _ => (@pf_nil _)) (fun _ _ _ _ => (@pe_ix _ _ _ _ _ _ _ (@kix_seq _ K (by rfl)) (@pv _ 1 _ _ (by rfl) (by first | exact Or.inl rfl | exact Or.inr (Or.inl rfl) | exact Or.inr (Or.inr rfl)) (by decide) (by decide)) (@pe_def _ _ _ _ _ _ _ _ _ _ _ d_law_draw hr (by omega) rfl (@pa_cons _ _ _ _ _ (@pv _ 2 _ _ (by rfl) (by first | exact Or.inl rfl | exact Or.inr (Or.inl rfl) | exact Or.inr (Or.inr rfl)) (by decide) (by decide)) (@pa_cons _ _ _ _ _ (@pe_int _ _ _ _) (@pa_nil _) (by rfl)) (by rfl)) (by decide) (by rfl) (by rfl)) (fun _ _ => rfl))) (by intro _; rfl)) (@pa_nil _) (by rfl)) (by rfl) (by rfl) (by rfl) (by rfl) (by rfl) (by rfl)) (by rfl) (by first | exact .inl rfl | exact .inr rfl | assumption)) (@pss_cons _ _ _ _ _ (@ps_if _ _ _ _ _ _ _ _ (@pt_cmpR _ _ _ _ _ _ _ _ (@op_eq _) (@pe_def _ _ _ _ _ _ _ _ _ _ _ d_law_draw hr (by omega) rfl (@pa_cons _ _ _ _ _ (@pv _ 0 _ _ (by rfl) (by first | exact Or.inl rfl | exact Or.inr (Or.inl rfl) | exact Or.inr (Or.inr rfl)) (by decide) (by decide)) (@pa_cons _ _ _ _ _ (@pe_int _ _ _ _) (@pa_nil _) (by rfl)) (by rfl)) (by decide) (by rfl) (by rfl)) (@pe_int _ _ _ _) (@nomark _ _ (by decide) (by decide))) (@pss_one _ _ _ (@ps_set _ _ 3 _ _ _ _ sc_law_name.nd rfl (Or.inr rfl) (@pe_ix _ _ _ _ _ _ _ (@kix_seq _ K (by rfl)) (@pe_lst _ _ _ _ (@pa_cons _ _ _ _ _ (@pe_str _ _ _ _) (@pa_cons _ _ _ _ _ (@pe_str _ _ _ _) (@pa_nil _) (by rfl)) (by rfl))) (@pe_def _ _ _ _ _ _ _ _ _ _ _ d_law_draw hr (by omega) rfl (@pa_cons _ _ _ _ _ (@pv _ 0 _ _ (by rfl) (by first | exact Or.inl rfl | exact Or.inr (Or.inl rfl) | exact Or.inr (Or.inr rfl)) (by decide) (by decide)) (@pa_cons _ _ _ _ _ (@pe_int _ _ _ _) (@pa_nil _) (by rfl)) (by rfl)) (by decide) (by rfl) (by rfl)) (fun _ _ => rfl)) (by rfl) (by first | exact .inl rfl | exact .inr rfl | assumption))) (@pss_nil _)) (@pss_cons _ _ _ _ _ (@ps_set _ _ 4 _ _ _ _ sc_law_name.nd rfl (Or.inl rfl) (@pe_op _ _ _ _ _ _ _ _ (@op_cat _) (@pe_lst _ _ _ _ (@pa_cons _ _ _ _ _ (@pv _ 3 _ _ (by rfl) (by first | exact Or.inl rfl | exact Or.inr (Or.inl rfl) | exact Or.inr (Or.inr rfl)) (by decide) (by decide)) (@pa_nil _) (by rfl))) (@pe_comp _ ["_law_sign", "_law_name_here"] [none, some 3] _ _ _ _ _ _ _ _ _ _ (by exact (show CompOk ["_law_pool_here", "_law_names", "_law_letters", "_law_name_here", "_law_some"] (defScope s_law_name) ["_law_sign", "_law_name_here"] [none, some 3] _ from ⟨rfl, by decide +kernel, by decide +kernel, by decide +kernel, by decide +kernel, rfl, by decide +kernel⟩)) rfl (@pi_str _ _ _ _ (@pv _ 2 _ _ (by rfl) (by first | exact Or.inl rfl | exact Or.inr (Or.inl rfl) | exact Or.inr (Or.inr rfl)) (by decide) (by decide))) (fun _ _ _ _ => (@pg_name _ _ 0 _ nd1 rfl (Or.inl rfl) (by first | exact .inl rfl | exact .inr rfl | assumption))) (fun _ _ _ _ => (@pf_nil _)) (fun _ _ _ _ => (@pe_op _ _ _ _ _ _ _ _ (@op_add_str _) (@pe_slice _ _ _ _ _ _ _ _ _ _ (@ksl_any _ K (by rfl)) (@pv _ 1 _ _ (by rfl) (by first | exact Or.inl rfl | exact Or.inr (Or.inl rfl) | exact Or.inr (Or.inr rfl)) (by decide) (by decide)) (@po_none _) (@po_some _ _ _ (@pe_int _ _ _ _))) (@pv _ 0 _ _ (by rfl) (by first | exact Or.inl rfl | exact Or.inr (Or.inl rfl) | exact Or.inr (Or.inr rfl)) (by decide) (by decide)))) (by intro _; rfl))) (by rfl) (by first | exact .inl rfl | exact .inr rfl | assumption)) (@pss_one _ _ _ (@ps_ret _ _ _ _ (@pe_ix _ _ _ _ _ _ _ (@kix_seq _ K (by rfl)) (@pe_comp _ ["_law_one", "_law_names"] [none, some 1] _ _ _ _ _ _ _ _ _ _ (by exact (show CompOk ["_law_pool_here", "_law_names", "_law_letters", "_law_name_here", "_law_some"] (defScope s_law_name) ["_law_one", "_law_names"] [none, some 1] _ from ⟨rfl, by decide +kernel, by decide +kernel, by decide +kernel, by decide +kernel, rfl, by decide +kernel⟩)) rfl (@kpi_list _ K _ _ _ (@pv _ 4 _ _ (by rfl) (by first | exact Or.inl rfl | exact Or.inr (Or.inl rfl) | exact Or.inr (Or.inr rfl)) (by decide) (by decide)) (by rfl)) (fun _ _ _ _ => (@pg_name _ _ 0 _ nd2 rfl (Or.inl rfl) (by first | exact .inl rfl | exact .inr rfl | assumption))) (fun _ _ _ _ => (@pf_one _ _ _ (@pt_cmpR _ _ _ _ _ _ _ _ (@kop_notIn_seq _ K (by rfl)) (@pv _ 0 _ _ (by rfl) (by first | exact Or.inl rfl | exact Or.inr (Or.inl rfl) | exact Or.inr (Or.inr rfl)) (by decide) (by decide)) (@pv _ 1 _ _ (by rfl) (by first | exact Or.inl rfl | exact Or.inr (Or.inl rfl) | exact Or.inr (Or.inr rfl)) (by decide) (by decide)) (by with_unfolding_all rfl)))) (fun _ _ _ _ => (@pv _ 0 _ _ (by rfl) (by first | exact Or.inl rfl | exact Or.inr (Or.inl rfl) | exact Or.inr (Or.inr rfl)) (by decide) (by decide))) (by intro _; rfl)) (@pe_int _ _ _ _) (fun _ _ => rfl)))))))), ?_⟩
  refine ⟨rfl, ?_⟩
  refine ⟨_, rfl, p, 7, rfl, pl, by decide, by decide, fun v H1 v0 v1 o1 pl1 => ?_⟩
  refine ⟨_, _, rfl, rfl, _, rfl, by omega, by omega, fun D hD => ?_⟩
  have pnl : l ≠ p := fun z => by
    obtain ⟨r, a, b, e⟩ := pl
    rw [← z, hl] at e
    cases ns with
    | nil => cases e
    | cons n ns => cases e
  have pnD : D ≠ p := fun z => by
    obtain ⟨r, a, b, e⟩ := pl1
    rw [← z, hD] at e
    cases e
  refine comp_range (fun i ys H => Off p H1 H ∧ Pool H p ∧ ∃ cs : List Nat, ys = (cs.map oneS).map V.str ∧ cs.length = i ∧ ∀ d ∈ cs, 97 ≤ d ∧ d ≤ 122) ⟨Off.new hD, pl1.new hD, [], rfl, rfl, by simp⟩ ?_ ?_
  · rintro i ys H2 hi ⟨o2, p2, cs, rfl, hc, hs⟩ hD2
    refine yes ?_
    refine ⟨_, rfl, _, rfl, p, 26, rfl, p2, by decide, by decide, fun u H3 u0 u1 o3 p3 => ?_⟩
    obtain ⟨c, hat, c0, c1⟩ := alpha_at u0 u1
    refine .inr (.inr ⟨alpha, u, c, rfl, rfl, small9 (by decide +kernel), hat, ?_⟩)
    refine cyes hi rset1 (o3 _ _ pnD hD2) (by rw [List.length_map, List.length_map, hc]; exact small1000 (by omega)) ⟨?_, p3.off (Ne.symm pnD), cs ++ [c], by rw [List.map_append, List.map_append]; rfl, by rw [List.length_append, hc]; rfl, ?_⟩
    · exact (o2.trans o3).fresh hD
    · intro d hd
      rcases List.mem_append.mp hd with hd | hd
      · exact hs d hd
      · rw [List.mem_singleton.mp hd]
        exact ⟨c0, c1⟩
  · rintro ys H2 ⟨o2, p2, cs, rfl, hc, hs⟩ hD2
    refine ⟨_, D, cs.map oneS, rfl, rfl, SqL.of hD2, ?_, ?_⟩
    · rw [ones_sum]
      show _ + (cs.map oneS).length * 0 ≤ _
      omega
    have hz := ones_name hs (by omega) (by omega)
    refine ⟨_, rfl, p, 16, rfl, p2, by decide, by decide, fun u H3 u0 u1 o3 p3 => ⟨rfl, _, rfl, ?_⟩⟩
    have o03 : Off p H H3 := (o1.trans o2).trans o3
    refine ite2 (fun c => ?_) (fun c => ?_)
    · refine ⟨small9 (by show 2 ≤ 1000; decide), fun g hg => ⟨_, rfl, p, 2, rfl, p3.new hg, by decide, by decide, fun y H4 y0 y1 o4 p4 => ?_⟩⟩
      have gp : g ≠ p := fun z => by
        obtain ⟨r, a, b, e⟩ := p3
        rw [← z, hg] at e
        cases e
      obtain ⟨z, hat, hz8⟩ := at2 y0 y1
      have o04 : Off p H H4 := (o03.trans (Off.new hg)).trans o4
      exact .inl ⟨g, _, y, _, rfl, rfl, SqL.of (o4 _ _ gp upd_same), hat, name_rest hz8 p4 (o04 _ _ pnl hl) hn fun x H' s5 hx hnm => q x H' (o04.trans (Off.of s5)) (Pool.same p4 s5) hx hnm⟩
    · exact name_rest hz p3 (o03 _ _ pnl hl) hn fun x H' s5 hx hnm => q x H' (o03.trans (Off.of s5)) (Pool.same p3 s5) hx hnm

abbrev s_law_cells : Stmt := top 34
theorem sc_law_cells : FnScope ["_law_pool_here", "_law_many", "_law_places", "_law_often", "_law_found", "_law_k", "_law_one"] ["_law_pool_here", "_law_many", "_law_places", "_law_often"] (defScope s_law_cells) := ⟨rfl, rfl, rfl, by decide +kernel, rfl, by decide +kernel, by decide +kernel⟩
theorem ok_law_cells {P : Program} {w : World} {K : PySem.W.Frag} {mg : Str → Option Value} {base : Heap} {f : Addr} {fd : FuncData} (F : Fun K "_law_cells" "_law_cells" s_law_cells f fd) (gb : Gb mg) (d_law_draw : Def P w K mg base 1 "_law_draw" ["_law_pool_here", "_law_many"] spDraw) : FnOk P w K mg base CX0 2 f fd ["_law_pool_here", "_law_many", "_law_places", "_law_often"] spCells := by
  refine F.ok sc_law_cells (fun vs H Q E h => ?_) (fun cdv A outer s H vs Q E hr h => ?_)
  · obtain ⟨p, m, pl, often, rfl, _⟩ := h
    rfl
  obtain ⟨p, m, pl, often, rfl, hp, m1, m9, p0, p2, o0, o9, q⟩ := h
  refine ⟨_, (@pss_cons _ _ _ _ _ (@ps_set _ _ 4 _ _ _ _ sc_law_cells.nd rfl (Or.inl rfl) (@pe_lst _ _ _ _ (@pa_nil _)) (by rfl) (by first | exact .inl rfl | exact .inr rfl | assumption)) (@pss_cons _ _ _ _ _ (@ps_for _ _ _ _ _ _ _ _ PassesOwn.never rfl (@pi_range1 _ _ _ _ _ _ rfl gb.range (@pa_cons _ _ _ _ _ (@pe_ix _ _ _ _ _ _ _ (@kix_seq _ K (by rfl)) (@pe_lst _ _ _ _ (@pa_cons _ _ _ _ _ (@pe_int _ _ _ _) (@pa_cons _ _ _ _ _ (@pv _ 1 _ _ (by rfl) (by first | exact Or.inl rfl | exact Or.inr (Or.inl rfl) | exact Or.inr (Or.inr rfl)) (by decide) (by decide)) (@pa_cons _ _ _ _ _ (@pe_op _ _ _ _ _ _ _ _ (@op_mul _) (@pv _ 1 _ _ (by rfl) (by first | exact Or.inl rfl | exact Or.inr (Or.inl rfl) | exact Or.inr (Or.inr rfl)) (by decide) (by decide)) (@pv _ 1 _ _ (by rfl) (by first | exact Or.inl rfl | exact Or.inr (Or.inl rfl) | exact Or.inr (Or.inr rfl)) (by decide) (by decide))) (@pa_nil _) (by rfl)) (by rfl)) (by rfl))) (@pv _ 2 _ _ (by rfl) (by first | exact Or.inl rfl | exact Or.inr (Or.inl rfl) | exact Or.inr (Or.inr rfl)) (by decide) (by decide)) (fun _ _ => rfl)) (@pa_nil _) (by rfl)) (by rfl)) (@pg_name _ _ 5 _ sc_law_cells.nd rfl (Or.inl rfl) (by first | exact .inl rfl | exact .inr rfl | assumption)) (@pss_cons _ _ _ _ _ (@ps_set _ _ 6 _ _ _ _ sc_law_cells.nd rfl (Or.inl rfl) (@pe_def _ _ _ _ _ _ _ _ _ _ _ d_law_draw hr (by omega) rfl (@pa_cons _ _ _ _ _ (@pv _ 0 _ _ (by rfl) (by first | exact Or.inl rfl | exact Or.inr (Or.inl rfl) | exact Or.inr (Or.inr rfl)) (by decide) (by decide)) (@pa_cons _ _ _ _ _ (@pv _ 1 _ _ (by rfl) (by first | exact Or.inl rfl | exact Or.inr (Or.inl rfl) | exact Or.inr (Or.inr rfl)) (by decide) (by decide)) (@pa_nil _) (by rfl)) (by rfl)) (by decide) (by rfl) (by rfl)) (by rfl) (by first | exact .inl rfl | exact .inr rfl | assumption)) (@pss_cons _ _ _ _ _ (@ps_if _ _ _ _ _ _ _ _ (@PW.pt _ _ _ (@pw_and _ _ _ _ _ _ _ (@pt_cmpR _ _ _ _ _ _ _ _ (@op_gt _) (@pv _ 3 _ _ (by rfl) (by first | exact Or.inl rfl | exact Or.inr (Or.inl rfl) | exact Or.inr (Or.inr rfl)) (by decide) (by decide)) (@pe_int _ _ _ _) (@nomark _ _ (by decide) (by decide))) (@pw_and1 _ _ _ _ (@pt_cmpR _ _ _ _ _ _ _ _ (@op_eq _) (@pe_def _ _ _ _ _ _ _ _ _ _ _ d_law_draw hr (by omega) rfl (@pa_cons _ _ _ _ _ (@pv _ 0 _ _ (by rfl) (by first | exact Or.inl rfl | exact Or.inr (Or.inl rfl) | exact Or.inr (Or.inr rfl)) (by decide) (by decide)) (@pa_cons _ _ _ _ _ (@pv _ 3 _ _ (by rfl) (by first | exact Or.inl rfl | exact Or.inr (Or.inl rfl) | exact Or.inr (Or.inr rfl)) (by decide) (by decide)) (@pa_nil _) (by rfl)) (by rfl)) (by decide) (by rfl) (by rfl)) (@pe_int _ _ _ _) (@nomark _ _ (by decide) (by decide)))))) (@pss_one _ _ _ (@ps_set _ _ 6 _ _ _ _ sc_law_cells.nd rfl (Or.inl rfl) (@pe_non _ _ _) (by rfl) (by first | exact .inl rfl | exact .inr rfl | assumption))) (@pss_nil _)) (@pss_one _ _ _ (@ps_expr _ _ _ _ (@kpe_bm _ K _ _ _ _ _ _ _ _ _ _ _ PySem.F.plainAttrs_list PySem.F.slot_list_append PySem.F.type_list_append (@mt_append _) (@pv _ 4 _ _ (by rfl) (by first | exact Or.inl rfl | exact Or.inr (Or.inl rfl) | exact Or.inr (Or.inr rfl)) (by decide) (by decide)) (@pa_cons _ _ _ _ _ (@pv _ 6 _ _ (by rfl) (by first | exact Or.inl rfl | exact Or.inr (Or.inl rfl) | exact Or.inr (Or.inr rfl)) (by decide) (by decide)) (@pa_nil _) (by rfl)) (by rfl) (by rfl) (by rfl) (by rfl) (by rfl) (by rfl)) (by rfl))))) (by intro _; rfl)) (@pss_one _ _ _ (@ps_ret _ _ _ _ (@pe_callTy _ _ _ _ _ _ _ _ _ (@kcall_tuple_of _ K (by rfl)) rfl gb.tuple bt_tuple (@pa_cons _ _ _ _ _ (@pv _ 4 _ _ (by rfl) (by first | exact Or.inl rfl | exact Or.inr (Or.inl rfl) | exact Or.inr (Or.inr rfl)) (by decide) (by decide)) (@pa_nil _) (by rfl)) (by decide) (by decide) (by rfl) (by rfl)))))), ?_⟩
  obtain ⟨n, hat, n0, n81, hnm⟩ := cells_many m1 m9 p0 p2
  refine ⟨Nat.zero_le _, fun f hf => ?_⟩
  have fp : f ≠ p := fun z => by
    obtain ⟨r, a, b, e⟩ := hp
    rw [← z, hf] at e
    cases e
  refine ⟨_, rfl, _, rfl, _, rfl, _, _, rfl, rfl, .inr ⟨by omega, by omega⟩, small9 (by show 3 ≤ 1000; decide), fun g hg => ?_⟩
  have fg : f ≠ g := fun z => by
    rw [← z, upd_same] at hg
    cases hg
  have hg0 : H g = none := by
    rw [upd_ne (Ne.symm fg)] at hg
    exact hg
  refine ⟨_, rfl, .inl ⟨g, _, pl, _, rfl, rfl, SqL.of upd_same, hat, _, rfl, by omega, by omega, ?_⟩⟩
  refine for_range (fun i σ H' => ∃ (cs : List (Option Int)) (x5 x6 : Option V), σ = [some (.ref p), some (.int m), some (.int pl), some (.int often), some (.ref f), x5, x6] ∧ Off p H H' ∧ Pool H' p ∧ H' f = some (.lst (cs.map cellV)) ∧ cs.length = i ∧ (∀ o ∈ cs, CellOk m o) ∧ (often = 0 → ∀ o ∈ cs, o ≠ none))
    ⟨[], none, none, rfl, ((Off.refl.fresh hf).fresh hg0), (hp.new hf).new hg, by rw [upd_ne fg, upd_same]; rfl, rfl, by simp, by simp⟩ ?_ ?_
  · rintro i σ H' hi ⟨cs, x5, x6, rfl, o1, p1, hc, hl, hok, hno⟩
    have hz : (cs.map cellV).length < sizeLine := by
      rw [List.length_map, hl]
      exact small1000 (by omega)
    refine ⟨_, rfl, _, rfl, p, m, rfl, p1, by omega, by omega, fun v H2 v0 v1 o2 p2 => ?_⟩
    have hc2 := o2 _ _ fp hc
    have fin : ∀ (o : Option Int) (H3 : Hp), CellOk m o → (often = 0 → o ≠ none) → Off p H H3 → Pool H3 p → H3 f = some (.lst (cs.map cellV)) →
        ∃ (cs' : List (Option Int)) (x5 x6 : Option V), [some (V.ref p), some (.int m), some (.int pl), some (.int often), some (.ref f), some (.int (0 + i)), some (cellV o)] = [some (.ref p), some (.int m), some (.int pl), some (.int often), some (.ref f), x5, x6] ∧
          Off p H (upd H3 f (.lst (cs.map cellV ++ [cellV o]))) ∧ Pool (upd H3 f (.lst (cs.map cellV ++ [cellV o]))) p ∧ (upd H3 f (.lst (cs.map cellV ++ [cellV o]))) f = some (.lst (cs'.map cellV)) ∧ cs'.length = i + 1 ∧ (∀ o ∈ cs', CellOk m o) ∧ (often = 0 → ∀ o ∈ cs', o ≠ none) := fun o H3 b1 b2 a1 a2 a3 =>
      ⟨cs ++ [o], _, _, rfl, a1.fresh hf, a2.off (Ne.symm fp), by rw [upd_same, List.map_append]; rfl, by rw [List.length_append, hl]; rfl, fun z hz' => by
        rcases List.mem_append.mp hz' with q1 | q1
        · exact hok z q1
        · rw [List.mem_singleton.mp q1]; exact b1, fun h0 z hz' => by
        rcases List.mem_append.mp hz' with q1 | q1
        · exact hno h0 z q1
        · rw [List.mem_singleton.mp q1]; exact b2 h0⟩
    refine ⟨_, rfl, _, _, rfl, rfl, _, rfl, ?_⟩
    refine ite2 (fun c1 => ?_) (fun c1 => ?_)
    · have c1' : 0 < often := of_decide_eq_true c1
      refine ⟨_, rfl, _, rfl, p, often, rfl, p2, c1', by omega, fun u H3 u0 u1 o3 p3 => ?_⟩
      have hc3 := o3 _ _ fp hc2
      refine ⟨rfl, _, rfl, ?_⟩
      refine ite2 (fun c2 => ?_) (fun c2 => ?_)
      · exact ⟨_, rfl, .inl ⟨rfl, _, SqL.of hc3⟩, _, rfl, f, _, _, rfl, rfl, hc3, hz, fin none H3 (fun i e => nomatch e) (fun h0 => by omega) ((o1.trans o2).trans o3) p3 hc3⟩
      · exact ⟨_, rfl, .inl ⟨rfl, _, SqL.of hc3⟩, _, rfl, f, _, _, rfl, rfl, hc3, hz, fin (some v) H3 (fun i e => by cases e; exact ⟨v0, v1⟩) (fun _ e => nomatch e) ((o1.trans o2).trans o3) p3 hc3⟩
    · exact ⟨_, rfl, .inl ⟨rfl, _, SqL.of hc2⟩, _, rfl, f, _, _, rfl, rfl, hc2, hz, fin (some v) H2 (fun i e => by cases e; exact ⟨v0, v1⟩) (fun _ e => nomatch e) (o1.trans o2) p2 hc2⟩
  · rintro σ H' ⟨cs, x5, x6, rfl, o1, p1, hc, hl, hok, hno⟩
    refine ⟨_, rfl, f, _, rfl, .inl ⟨SqL.of hc, fun t ht => ?_⟩⟩
    have tf : H t = none ∨ ∃ o, H t = some o := by cases e : H t with
      | none => exact .inl rfl
      | some o => exact .inr ⟨o, rfl⟩
    refine q t cs _ (fun b o hb e => ?_) (p1.new ht) upd_same (by rw [← hnm]; omega) hok hno
    rw [upd_ne (fun z => by rw [z] at e hb; have := o1 t o hb e; rw [ht] at this; cases this)]
    exact o1 b o hb e

abbrev s_law_half : Stmt := top 35
theorem sc_law_half : FnScope ["_law_pool_here", "_law_most", "_law_connectives", "_law_often", "_law_many", "_law_wished", "_law_found", "_law_k", "_law_name_here", "_law_places"] ["_law_pool_here", "_law_most", "_law_connectives", "_law_often"] (defScope s_law_half) := ⟨rfl, rfl, rfl, by decide +kernel, rfl, by decide +kernel, by decide +kernel⟩
theorem ok_law_half {P : Program} {w : World} {K : PySem.W.Frag} {mg : Str → Option Value} {base : Heap} {f : Addr} {fd : FuncData} (F : Fun K "_law_half" "_law_half" s_law_half f fd) (gb : Gb mg) (d_law_draw : Def P w K mg base 1 "_law_draw" ["_law_pool_here", "_law_many"] spDraw) (d_law_name : Def P w K mg base 2 "_law_name" ["_law_pool_here", "_law_names"] spName) (d_law_cells : Def P w K mg base 2 "_law_cells" ["_law_pool_here", "_law_many", "_law_places", "_law_often"] spCells) : FnOk P w K mg base CX0 3 f fd ["_law_pool_here", "_law_most", "_law_connectives", "_law_often"] spHalf8 := by
  refine F.ok sc_law_half (fun vs H Q E h => ?_) (fun cdv A outer s H vs Q E hr h => ?_)
  · obtain ⟨p, most, conn, often, rfl, _⟩ := h
    rfl
  obtain ⟨p, most, conn, often, rfl, hp, m1, m9, c0, c8, o0, o9, q⟩ := h
  have nd0 : (["_law_one", "_law_pool_here"] : List Str).Nodup := by decide +kernel
  have nd1 : (["_law_one"] : List Str).Nodup := by decide +kernel
  refine ⟨_, (@pss_cons _ _ _ _ _ (@ps_set _ _ 4 _ _ _ _ sc_law_half.nd rfl (Or.inl rfl) (@pe_op _ _ _ _ _ _ _ _ (@op_add _) (@pe_int _ _ _ _) (@pe_def _ _ _ _ _ _ _ _ _ _ _ d_law_draw hr (by omega) rfl (@pa_cons _ _ _ _ _ (@pv _ 0 _ _ (by rfl) (by first | exact Or.inl rfl | exact Or.inr (Or.inl rfl) | exact Or.inr (Or.inr rfl)) (by decide) (by decide)) (@pa_cons _ _ _ _ _ (@pv _ 1 _ _ (by rfl) (by first | exact Or.inl rfl | exact Or.inr (Or.inl rfl) | exact Or.inr (Or.inr rfl)) (by decide) (by decide)) (@pa_nil _) (by rfl)) (by rfl)) (by decide) (by rfl) (by rfl))) (by rfl) (by first | exact .inl rfl | exact .inr rfl | assumption)) (@pss_cons _ _ _ _ _ (@ps_set _ _ 5 _ _ _ _ sc_law_half.nd rfl (Or.inl rfl) (@pe_callTy _ _ _ _ _ _ _ _ _ (@kcall_tuple_of _ K (by rfl)) rfl gb.tuple bt_tuple (@pa_cons _ _ _ _ _ (@pe_comp _ ["_law_one", "_law_pool_here"] [none, some 0] _ _ _ _ _ _ _ _ _ _ (by exact (show CompOk ["_law_pool_here", "_law_most", "_law_connectives", "_law_often", "_law_many", "_law_wished", "_law_found", "_law_k", "_law_name_here", "_law_places"] (defScope s_law_half) ["_law_one", "_law_pool_here"] [none, some 0] _ from ⟨rfl, by decide +kernel, by decide +kernel, by decide +kernel, by decide +kernel, rfl, by decide +kernel⟩)) rfl (@pi_range1 _ _ _ _ _ _ rfl gb.range (@pa_cons _ _ _ _ _ (@pv _ 4 _ _ (by rfl) (by first | exact Or.inl rfl | exact Or.inr (Or.inl rfl) | exact Or.inr (Or.inr rfl)) (by decide) (by decide)) (@pa_nil _) (by rfl)) (by rfl)) (fun _ _ _ _ => (@pg_name _ _ 0 _ nd0 rfl (Or.inl rfl) (by first | exact .inl rfl | exact .inr rfl | assumption))) (fun _ _ _ _ => (@pf_one _ _ _ (@pt_cmpR _ _ _ _ _ _ _ _ (@op_eq _) (@pe_def _ _ _ _ _ _ _ _ _ _ _ d_law_draw hr (by omega) rfl (@pa_cons _ _ _ _ _ (@pv _ 1 _ _ (by rfl) (by first | exact Or.inl rfl | exact Or.inr (Or.inl rfl) | exact Or.inr (Or.inr rfl)) (by decide) (by decide)) (@pa_cons _ _ _ _ _ (@pe_int _ _ _ _) (@pa_nil _) (by rfl)) (by rfl)) (by decide) (by rfl) (by rfl)) (@pe_int _ _ _ _) (@nomark _ _ (by decide) (by decide))))) (fun _ _ _ _ => (@pv _ 0 _ _ (by rfl) (by first | exact Or.inl rfl | exact Or.inr (Or.inl rfl) | exact Or.inr (Or.inr rfl)) (by decide) (by decide))) (by intro _; rfl)) (@pa_nil _) (by rfl)) (by decide) (by decide) (by rfl) (by rfl)) (by rfl) (by first | exact .inl rfl | exact .inr rfl | assumption)) (@pss_cons _ _ _ _ _ (@ps_set _ _ 6 _ _ _ _ sc_law_half.nd rfl (Or.inl rfl) (@pe_lst _ _ _ _ (@pa_nil _)) (by rfl) (by first | exact .inl rfl | exact .inr rfl | assumption)) (@pss_cons _ _ _ _ _ (@ps_for _ _ _ _ _ _ _ _ PassesOwn.never rfl (@pi_range1 _ _ _ _ _ _ rfl gb.range (@pa_cons _ _ _ _ _ (@pe_def _ _ _ _ _ _ _ _ _ _ _ d_law_draw hr (by omega) rfl (@pa_cons _ _ _ _ _ (@pv _ 0 _ _ (by rfl) (by first | exact Or.inl rfl | exact Or.inr (Or.inl rfl) | exact Or.inr (Or.inr rfl)) (by decide) (by decide)) (@pa_cons _ _ _ _ _ (@pe_op _ _ _ _ _ _ _ _ (@op_add _) (@pv _ 2 _ _ (by rfl) (by first | exact Or.inl rfl | exact Or.inr (Or.inl rfl) | exact Or.inr (Or.inr rfl)) (by decide) (by decide)) (@pe_int _ _ _ _)) (@pa_nil _) (by rfl)) (by rfl)) (by decide) (by rfl) (by rfl)) (@pa_nil _) (by rfl)) (by rfl)) (@pg_name _ _ 7 _ sc_law_half.nd rfl (Or.inl rfl) (by first | exact .inl rfl | exact .inr rfl | assumption)) (@pss_cons _ _ _ _ _ (@ps_set _ _ 8 _ _ _ _ sc_law_half.nd rfl (Or.inl rfl) (@pe_def _ _ _ _ _ _ _ _ _ _ _ d_law_name hr (by omega) rfl (@pa_cons _ _ _ _ _ (@pv _ 0 _ _ (by rfl) (by first | exact Or.inl rfl | exact Or.inr (Or.inl rfl) | exact Or.inr (Or.inr rfl)) (by decide) (by decide)) (@pa_cons _ _ _ _ _ (@pe_comp _ ["_law_one"] [none] _ _ _ _ _ _ _ _ _ _ (by exact (show CompOk ["_law_pool_here", "_law_most", "_law_connectives", "_law_often", "_law_many", "_law_wished", "_law_found", "_law_k", "_law_name_here", "_law_places"] (defScope s_law_half) ["_law_one"] [none] _ from ⟨rfl, by decide +kernel, by decide +kernel, by decide +kernel, by decide +kernel, rfl, by decide +kernel⟩)) rfl (@kpi_list _ K _ _ _ (@pv _ 6 _ _ (by rfl) (by first | exact Or.inl rfl | exact Or.inr (Or.inl rfl) | exact Or.inr (Or.inr rfl)) (by decide) (by decide)) (by rfl)) (fun _ _ _ _ => (@pg_name _ _ 0 _ nd1 rfl (Or.inl rfl) (by first | exact .inl rfl | exact .inr rfl | assumption))) (fun _ _ _ _ => (@pf_nil _)) (fun _ _ _ _ => (@pe_ix _ _ _ _ _ _ _ (@kix_seq _ K (by rfl)) (@pv _ 0 _ _ (by rfl) (by first | exact Or.inl rfl | exact Or.inr (Or.inl rfl) | exact Or.inr (Or.inr rfl)) (by decide) (by decide)) (@pe_int _ _ _ _) (fun _ _ => rfl))) (by intro _; rfl)) (@pa_nil _) (by rfl)) (by rfl)) (by decide) (by rfl) (by rfl)) (by rfl) (by first | exact .inl rfl | exact .inr rfl | assumption)) (@pss_cons _ _ _ _ _ (@ps_set _ _ 9 _ _ _ _ sc_law_half.nd rfl (Or.inl rfl) (@pe_ix _ _ _ _ _ _ _ (@kix_seq _ K (by rfl)) (@pe_lst _ _ _ _ (@pa_cons _ _ _ _ _ (@pe_int _ _ _ _) (@pa_cons _ _ _ _ _ (@pe_int _ _ _ _) (@pa_cons _ _ _ _ _ (@pe_int _ _ _ _) (@pa_cons _ _ _ _ _ (@pe_int _ _ _ _) (@pa_nil _) (by rfl)) (by rfl)) (by rfl)) (by rfl))) (@pe_def _ _ _ _ _ _ _ _ _ _ _ d_law_draw hr (by omega) rfl (@pa_cons _ _ _ _ _ (@pv _ 0 _ _ (by rfl) (by first | exact Or.inl rfl | exact Or.inr (Or.inl rfl) | exact Or.inr (Or.inr rfl)) (by decide) (by decide)) (@pa_cons _ _ _ _ _ (@pe_int _ _ _ _) (@pa_nil _) (by rfl)) (by rfl)) (by decide) (by rfl) (by rfl)) (fun _ _ => rfl)) (by rfl) (by first | exact .inl rfl | exact .inr rfl | assumption)) (@pss_one _ _ _ (@ps_expr _ _ _ _ (@kpe_bm _ K _ _ _ _ _ _ _ _ _ _ _ PySem.F.plainAttrs_list PySem.F.slot_list_append PySem.F.type_list_append (@mt_append _) (@pv _ 6 _ _ (by rfl) (by first | exact Or.inl rfl | exact Or.inr (Or.inl rfl) | exact Or.inr (Or.inr rfl)) (by decide) (by decide)) (@pa_cons _ _ _ _ _ (@pe_tup _ _ _ _ _ (@pa_cons _ _ _ _ _ (@pv _ 8 _ _ (by rfl) (by first | exact Or.inl rfl | exact Or.inr (Or.inl rfl) | exact Or.inr (Or.inr rfl)) (by decide) (by decide)) (@pa_cons _ _ _ _ _ (@pv _ 9 _ _ (by rfl) (by first | exact Or.inl rfl | exact Or.inr (Or.inl rfl) | exact Or.inr (Or.inr rfl)) (by decide) (by decide)) (@pa_cons _ _ _ _ _ (@pe_def _ _ _ _ _ _ _ _ _ _ _ d_law_cells hr (by omega) rfl (@pa_cons _ _ _ _ _ (@pv _ 0 _ _ (by rfl) (by first | exact Or.inl rfl | exact Or.inr (Or.inl rfl) | exact Or.inr (Or.inr rfl)) (by decide) (by decide)) (@pa_cons _ _ _ _ _ (@pv _ 4 _ _ (by rfl) (by first | exact Or.inl rfl | exact Or.inr (Or.inl rfl) | exact Or.inr (Or.inr rfl)) (by decide) (by decide)) (@pa_cons _ _ _ _ _ (@pv _ 9 _ _ (by rfl) (by first | exact Or.inl rfl | exact Or.inr (Or.inl rfl) | exact Or.inr (Or.inr rfl)) (by decide) (by decide)) (@pa_cons _ _ _ _ _ (@pv _ 3 _ _ (by rfl) (by first | exact Or.inl rfl | exact Or.inr (Or.inl rfl) | exact Or.inr (Or.inr rfl)) (by decide) (by decide)) (@pa_nil _) (by rfl)) (by rfl)) (by rfl)) (by rfl)) (by decide) (by rfl) (by rfl)) (@pa_nil _) (by rfl)) (by rfl)) (by rfl))) (@pa_nil _) (by rfl)) (by rfl) (by rfl) (by rfl) (by rfl) (by rfl) (by rfl)) (by rfl))))) (by intro _; rfl)) (@pss_one _ _ _ (@ps_ret _ _ _ _ (@pe_tup _ _ _ _ _ (@pa_cons _ _ _ _ _ (@pv _ 4 _ _ (by rfl) (by first | exact Or.inl rfl | exact Or.inr (Or.inl rfl) | exact Or.inr (Or.inr rfl)) (by decide) (by decide)) (@pa_cons _ _ _ _ _ (@pv _ 5 _ _ (by rfl) (by first | exact Or.inl rfl | exact Or.inr (Or.inl rfl) | exact Or.inr (Or.inr rfl)) (by decide) (by decide)) (@pa_cons _ _ _ _ _ (@pe_callTy _ _ _ _ _ _ _ _ _ (@kcall_tuple_of _ K (by rfl)) rfl gb.tuple bt_tuple (@pa_cons _ _ _ _ _ (@pv _ 6 _ _ (by rfl) (by first | exact Or.inl rfl | exact Or.inr (Or.inl rfl) | exact Or.inr (Or.inr rfl)) (by decide) (by decide)) (@pa_nil _) (by rfl)) (by decide) (by decide) (by rfl) (by rfl)) (@pa_nil _) (by rfl)) (by rfl)) (by rfl))))))))), ?_⟩
  refine ⟨_, rfl, _, rfl, p, most, rfl, hp, by omega, by omega, fun v H1 v0 v1 o1 pl1 => ?_⟩
  refine ⟨_, _, rfl, rfl, ?_⟩
  refine ⟨_, rfl, _, rfl, by omega, by omega, fun D hD => ?_⟩
  have ne : ∀ {H0 : Hp} {t : Addr}, Pool H0 p → H0 t = none → t ≠ p := fun {H0 t} hq ht z => by
    obtain ⟨r, a, b, e⟩ := hq
    rw [← z, ht] at e
    cases e
  have pnD := ne pl1 hD
  refine comp_range (fun i ys H => Off p H1 H ∧ Pool H p ∧ ∃ ws : List Int, ys = ws.map V.int ∧ ws.length ≤ i ∧ (∀ w ∈ ws, 0 ≤ w ∧ w < (i : Int)) ∧ ws.Pairwise (· < ·)) ⟨Off.new hD, pl1.new hD, [], rfl, Nat.le_refl _, by simp, List.Pairwise.nil⟩ ?_ ?_
  · rintro i ys H2 hi ⟨o2, p2, ws, rfl, hw, hwb, hwr⟩ hD2
    refine ⟨_, rfl, p, 2, rfl, p2, by decide, by decide, fun u H3 u0 u1 o3 p3 => ⟨rfl, _, rfl, ?_⟩⟩
    refine ite2 (fun c => ?_) (fun c => ?_)
    · refine ⟨_, rfl, cyes hi rset1 (o3 _ _ pnD hD2) (by rw [List.length_map]; exact small1000 (by omega)) ⟨(o2.trans o3).fresh hD, p3.off (Ne.symm pnD), ws ++ [0 + (i : Int)], by rw [List.map_append]; rfl, ?_, fun z hz => ?_, ?_⟩⟩
      · rw [List.length_append, List.length_singleton]
        omega
      · rcases List.mem_append.mp hz with hz | hz
        · have := hwb z hz
          omega
        · rw [List.mem_singleton.mp hz]
          omega
      · refine List.pairwise_append.mpr ⟨hwr, List.pairwise_singleton _ _, fun a ha b hb => ?_⟩
        rw [List.mem_singleton.mp hb]
        have := hwb a ha
        omega
    · exact cno hi rset1 (o3 _ _ pnD hD2) ⟨o2.trans o3, p3, ws, rfl, by omega, fun z hz => by have := hwb z hz; omega, hwr⟩
  · rintro ys H2 ⟨o2, p2, ws, rfl, hw, hwb, hwr⟩ hD2
    refine ⟨D, _, rfl, .inl ⟨SqL.of hD2, fun w1 hw1 => ?_⟩⟩
    refine ⟨Nat.zero_le _, fun f hf => ?_⟩
    have fw : f ≠ w1 := fun z => by
      rw [z, upd_same] at hf
      cases hf
    have p3 : Pool (upd H2 w1 (.tup (ws.map V.int))) p := p2.new hw1
    have p4 : Pool (upd (upd H2 w1 (.tup (ws.map V.int))) f (.lst [])) p := p3.new hf
    have fp := ne p3 hf
    have wp := ne p2 hw1
    have nf : ∀ b o, b ≠ p → H b = some o → b ≠ f := fun b o hb e z => by
      have e3 : (upd H2 w1 (.tup (ws.map V.int))) b = some o := ((o1.trans o2).trans (Off.new hw1)) b o hb e
      rw [z, hf] at e3
      cases e3
    have o4 : Off p H (upd (upd H2 w1 (.tup (ws.map V.int))) f (.lst [])) := ((o1.trans o2).trans (Off.new hw1)).trans (Off.new hf)
    refine ⟨_, rfl, _, rfl, _, _, rfl, rfl, p, _, rfl, p4, by omega, by omega, fun nc H5 n0 n1 o5 p5 => ⟨_, rfl, by omega, by omega, ?_⟩⟩
    have hw5 : H5 w1 = some (.tup (ws.map V.int)) := o5 _ _ wp (by rw [upd_ne (Ne.symm fw)]; exact upd_same)
    have hf5 : H5 f = some (.lst []) := o5 _ _ fp upd_same
    refine for_range (fun i σ H6 => ∃ (cs : List Conn) (vs : List V) (x7 x8 x9 : Option V), σ = [some (.ref p), some (.int most), some (.int conn), some (.int often), some (.int (1 + v)), some (.ref w1), some (.ref f), x7, x8, x9] ∧
      Off p H H6 ∧ Pool H6 p ∧ H6 w1 = some (.tup (ws.map V.int)) ∧ H6 f = some (.lst vs) ∧ Conns H6 cs vs ∧ cs.length = i ∧ (∀ c ∈ cs, GoodC (1 + v) c) ∧ (cs.map (·.nm)).Nodup ∧ (often = 0 → ∀ c ∈ cs, ∀ o ∈ c.cs, o ≠ none)) ⟨[], [], none, none, none, rfl, o4.trans o5, p5, hw5, hf5, rfl, rfl, by simp, by simp, by simp⟩ ?_ ?_
    · rintro i σ H6 hi ⟨cs, vs, x7, x8, x9, rfl, o6, p6, hw6, hf6, hC, hl, hgc, hnd, hfu⟩
      refine ⟨_, rfl, _, rfl, f, rfl, ⟨_, SqL.of hf6⟩, fun D2 hD2 => ?_⟩
      have hvl := hC.len
      have nD2 := ne p6 hD2
      refine comp_list (xs := vs) (fun j ys H7 => Same H6 H7 ∧ ys = (cs.take j).map fun c => V.str c.nm) ⟨same_new hD2 _, rfl⟩ (fun j ys H7 h _ => SqL.of (h.1 _ _ hf6)) ?_ ?_
      · rintro j ys H7 x hx ⟨s7, rfl⟩ hD7
        have hj : j < vs.length := (List.getElem?_eq_some_iff.mp hx).1
        have hcj : cs[j]? = some (cs.getD j ⟨"", 0, []⟩) := by simp [List.getD, show j < cs.length by omega]
        obtain ⟨t, u, e1, e2, e3⟩ := hC.get hcj
        rw [hx] at e1
        cases e1
        refine yes ?_
        refine ⟨_, rfl, .inr (.inl ⟨t, _, 0, _, rfl, rfl, SqT.of (s7 _ _ e2), rfl, ?_⟩)⟩
        refine cyes hj rset1 hD7 (by rw [List.length_map, List.length_take]; exact small1000 (by omega)) ⟨fun b o qb => ?_, ?_⟩
        · rw [upd_ne (ne_of_none qb hD2)]
          exact s7 b o qb
        · rw [take_snoc hcj, List.map_append]
          rfl
      · rintro ys H7 ⟨s7, rfl⟩ hD7
        rw [hvl, List.take_length] at hD7
        have p7 : Pool H7 p := by
          obtain ⟨r, a, b, e⟩ := p6
          exact ⟨r, a, b, s7 _ _ e⟩
        refine ⟨p, D2, cs.map (·.nm), rfl, p7, by rw [List.map_map]; exact hD7, by rw [List.length_map]; omega, fun x H8 o8 p8 hx8 hxn => ?_⟩
        refine ⟨small9 (by show 4 ≤ 1000; decide), fun g hg => ⟨_, rfl, p, 4, rfl, p8.new hg, by decide, by decide, fun y H9 y0 y1 o9' p9 => ?_⟩⟩
        have gp := ne p8 hg
        obtain ⟨pp, hat, pp0, pp2⟩ := at4 y0 y1
        refine .inl ⟨g, _, y, _, rfl, rfl, SqL.of (o9' _ _ gp upd_same), hat, ?_⟩
        have o69 : Off p H6 H9 := ((Off.of s7).trans o8).trans ((Off.new hg).trans o9')
        have hf9 := o69 _ _ fp hf6
        refine ⟨_, rfl, .inl ⟨rfl, _, SqL.of hf9⟩, _, rfl, _, rfl, _, rfl, _, rfl, _, rfl, _, rfl, p, _, _, _, rfl, p9, by omega, by omega, pp0, pp2, o0, o9, fun t cl H10 o10 p10 ht hcl hck hcf => ?_⟩
        refine ⟨small9 (by show 3 ≤ 1000; decide), fun tt htt => ?_⟩
        have o610 : Off p H6 H10 := o69.trans o10
        have hf10 := o610 _ _ fp hf6
        have nft : f ≠ tt := fun z => by
          rw [← z, hf10] at htt
          cases htt
        have tk6 : Tk H6 (upd H10 tt (.tup [.str x, .int pp, .ref t])) := (o610.tk p6).trans (Tk.new htt)
        have hfT : (upd H10 tt (.tup [.str x, .int pp, .ref t])) f = some (.lst vs) := by rw [upd_ne nft]; exact hf10
        refine ⟨f, vs, _, rfl, rfl, hfT, small1000 (by omega), ?_⟩
        have tkf : Tk H6 (upd (upd H10 tt (.tup [.str x, .int pp, .ref t])) f (.lst (vs ++ [.ref tt]))) := tk6.trans (Tk.put hfT)
        have ntp := ne p10 htt
        refine ⟨cs ++ [⟨x, pp, cl⟩], vs ++ [.ref tt], some (.int (0 + i)), some (.str x), some (.int pp), rfl, ?_, (p10.new htt).off (Ne.symm fp), tkf _ _ hw6, upd_same, ?_, ?_, ?_, ?_, ?_⟩
        · intro b o hb hbo
          have e10 := o610 b o hb (o6 b o hb hbo)
          rw [upd_ne (nf b o hb hbo), upd_ne (ne_of_none e10 htt)]
          exact e10
        · refine (hC.tk tkf).snoc (c := ⟨x, pp, cl⟩) (u := t) ?_ ?_
          · rw [upd_ne (Ne.symm nft)]
            exact upd_same
          · have := Tk.new (o := .tup [.str x, .int pp, .ref t]) htt _ _ ht
            exact Tk.put hfT _ _ this
        · rw [List.length_append, hl]
          rfl
        · intro c hc
          rcases List.mem_append.mp hc with hc | hc
          · exact hgc c hc
          · have := List.mem_singleton.mp hc
            rw [this]
            exact ⟨hxn, pp0, pp2, hcl, hck⟩
        · rw [List.map_append]
          refine List.nodup_append.mpr ⟨hnd, by simp, fun a ha b hb => ?_⟩
          have e2 : b = x := List.mem_singleton.mp hb
          rw [e2]
          intro e3
          rw [e3] at ha
          exact hx8 ha
        · intro h0 c hc
          rcases List.mem_append.mp hc with hc | hc
          · exact hfu h0 c hc
          · have := List.mem_singleton.mp hc
            rw [this]
            exact hcf h0
    · rintro σ H6 ⟨cs, vs, x7, x8, x9, rfl, o6, p6, hw6, hf6, hC, hl, hgc, hnd, hfu⟩
      refine ⟨_, rfl, _, rfl, _, rfl, f, _, rfl, .inl ⟨SqL.of hf6, fun c hc => ?_⟩⟩
      refine ⟨small9 (by show 3 ≤ 1000; decide), fun tt htt => ?_⟩
      have tk1 : Tk H6 (upd (upd H6 c (.tup vs)) tt (.tup [.int (1 + v), .ref w1, .ref c])) := (Tk.new hc).trans (Tk.new htt)
      refine q _ ⟨1 + v, ws, cs⟩ _ ((o6.trans (Off.new hc)).trans (Off.new htt)) ((p6.new hc).new htt) ⟨tt, w1, c, vs, rfl, upd_same, tk1 _ _ hw6, Tk.new htt _ _ upd_same, hC.tk tk1⟩ ⟨by show 1 ≤ 1 + v; omega, by show 1 + v ≤ 9; omega, fun w hw' => by show 0 ≤ w ∧ w < 1 + v; have := hwb w hw'; omega, hwr, by show ws.length ≤ 9; omega, by show cs.length ≤ 8; omega, hnd, hgc⟩ (by show 1 + v ≤ most; omega) (by show (cs.length : Int) ≤ conn; omega)

abbrev s_is_whole : Stmt := top 1
theorem sc_is_whole : FnScope ["thing"] ["thing"] (defScope s_is_whole) := ⟨rfl, rfl, rfl, by decide +kernel, rfl, by decide +kernel, by decide +kernel⟩
theorem ok_is_whole {P : Program} {w : World} {K : PySem.W.Frag} {mg : Str → Option Value} {base : Heap} {f : Addr} {fd : FuncData} (F : Fun K "is_whole" "is_whole" s_is_whole f fd) (gb : Gb mg) : FnOk P w K mg base CX0 1 f fd ["thing"] spWhole := by
  refine F.ok sc_is_whole (fun vs H Q E h => ?_) (fun cdv A outer s H vs Q E hr h => ?_)
  · obtain ⟨i, rfl, _⟩ := h
    rfl
  obtain ⟨i, rfl, q⟩ := h
  refine ⟨_, (@pss_one _ _ _ (@ps_ret _ _ _ _ (@pe_and _ _ _ _ _ _ _ (@pe_callB _ _ _ _ _ _ _ _ _ (@kcall_isiT _ K (by rfl)) rfl gb.isinstance bt_isinstance (@pa_cons _ _ _ _ _ (@pv _ 0 _ _ (by rfl) (by first | exact Or.inl rfl | exact Or.inr (Or.inl rfl) | exact Or.inr (Or.inr rfl)) (by decide) (by decide)) (@pa_cons _ _ _ _ _ (@pe_bltn _ _ (.ty "int") _ _ rfl gb.int bt_int rfl (by decide) (by decide)) (@pa_nil _) (by rfl)) (by rfl)) (by decide) (by decide) (by rfl) (by rfl)) (@pe_one _ _ _ _ _ (@pe_not _ _ _ _ (@pe_callB _ _ _ _ _ _ _ _ _ (@kcall_isiT _ K (by rfl)) rfl gb.isinstance bt_isinstance (@pa_cons _ _ _ _ _ (@pv _ 0 _ _ (by rfl) (by first | exact Or.inl rfl | exact Or.inr (Or.inl rfl) | exact Or.inr (Or.inr rfl)) (by decide) (by decide)) (@pa_cons _ _ _ _ _ (@pe_bltn _ _ (.ty "bool") _ _ rfl gb.bool bt_bool rfl (by decide) (by decide)) (@pa_nil _) (by rfl)) (by rfl)) (by decide) (by decide) (by rfl) (by rfl))))))), ?_⟩
  refine ⟨_, rfl, _, _, _, true, rfl, .int _, kit_same "int", true, rfl, iteT ?_⟩
  exact ⟨_, rfl, _, _, _, false, rfl, .int _, kit_int_bool, false, rfl, q⟩

abbrev s_has_small_letters_alone : Stmt := top 3
theorem sc_has_small_letters_alone : FnScope ["text"] ["text"] (defScope s_has_small_letters_alone) := ⟨rfl, rfl, rfl, by decide +kernel, rfl, by decide +kernel, by decide +kernel⟩
theorem ok_has_small_letters_alone {P : Program} {w : World} {K : PySem.W.Frag} {mg : Str → Option Value} {base : Heap} {f : Addr} {fd : FuncData} (F : Fun K "has_small_letters_alone" "has_small_letters_alone" s_has_small_letters_alone f fd) (gb : Gb mg) : FnOk P w K mg base CX0 1 f fd ["text"] spSmall := by
  refine F.ok sc_has_small_letters_alone (fun vs H Q E h => ?_) (fun cdv A outer s H vs Q E hr h => ?_)
  · obtain ⟨x, rfl, _⟩ := h
    rfl
  obtain ⟨x, rfl, hs, hl, q⟩ := h
  have nd0 : (["sign"] : List Str).Nodup := by decide +kernel
  refine ⟨_, (@pss_one _ _ _ (@ps_ret _ _ _ _ (@pe_callB _ _ _ _ _ _ _ _ _ (@kcall_all _ K rfl (by rfl)) rfl gb.all bt_all (@pa_cons _ _ _ _ _ (@pe_comp _ ["sign"] [none] _ _ _ _ _ _ _ _ _ _ (by exact (show CompOk ["text"] (defScope s_has_small_letters_alone) ["sign"] [none] _ from ⟨rfl, by decide +kernel, by decide +kernel, by decide +kernel, by decide +kernel, rfl, by decide +kernel⟩)) rfl (@pi_str _ _ _ _ (@pv _ 0 _ _ (by rfl) (by first | exact Or.inl rfl | exact Or.inr (Or.inl rfl) | exact Or.inr (Or.inr rfl)) (by decide) (by decide))) (fun _ _ _ _ => (@pg_name _ _ 0 _ nd0 rfl (Or.inl rfl) (by first | exact .inl rfl | exact .inr rfl | assumption))) (fun _ _ _ _ => (@pf_nil _)) (fun _ _ _ _ => (@pe_chain _ _ _ _ _ _ _ _ _ _ _ _ (@op_le_str _) (@op_le_str _) (@pe_str _ _ _ _) (@pv _ 0 _ _ (by rfl) (by first | exact Or.inl rfl | exact Or.inr (Or.inl rfl) | exact Or.inr (Or.inr rfl)) (by decide) (by decide)) (@pe_str _ _ _ _) (by with_unfolding_all rfl))) (by intro _; rfl)) (@pa_nil _) (by rfl)) (by decide) (by decide) (by rfl) (by rfl)))), ?_⟩
  refine ⟨_, rfl, x, rfl, fun D hD => ?_⟩
  refine map_str (h := fun _ => .bl true) (by omega) hD (fun c hc H' Q' s1 q' => ?_) (fun H' s1 hD' => ?_)
  · obtain ⟨c0, c1⟩ := hs c hc
    refine ⟨_, rfl, _, _, rfl, rfl, _, rfl, ?_⟩
    have e1 : (!decide ((Str.mk #[c]).cps.toList < (Str.ofString "a").cps.toList)) = true := by
      have : (Str.ofString "a").cps.toList = [97] := by decide +kernel
      rw [this]
      simp [List.cons_lt_cons_iff]
      omega
    have e2 : (!decide ((Str.ofString "z").cps.toList < (Str.mk #[c]).cps.toList)) = true := by
      have : (Str.ofString "z").cps.toList = [122] := by decide +kernel
      rw [this]
      simp [List.cons_lt_cons_iff]
      omega
    rw [if_pos e1]
    refine ⟨_, _, rfl, rfl, ?_⟩
    rw [e2]
    exact q' _ Same.rfl'
  · rw [trues] at hD'
    refine ⟨D, _, rfl, SqL.of hD', ?_⟩
    rw [all_trues]
    exact q _ s1

abbrev s_is_name : Stmt := top 2
theorem sc_is_name : FnScope ["thing"] ["thing"] (defScope s_is_name) := ⟨rfl, rfl, rfl, by decide +kernel, rfl, by decide +kernel, by decide +kernel⟩
theorem ok_is_name {P : Program} {w : World} {K : PySem.W.Frag} {mg : Str → Option Value} {base : Heap} {f : Addr} {fd : FuncData} (F : Fun K "is_name" "is_name" s_is_name f fd) (gb : Gb mg) (d_has_small_letters_alone : Def P w K mg base 1 "has_small_letters_alone" ["text"] spSmall) : FnOk P w K mg base CX0 2 f fd ["thing"] spNameQ := by
  refine F.ok sc_is_name (fun vs H Q E h => ?_) (fun cdv A outer s H vs Q E hr h => ?_)
  · obtain ⟨x, rfl, _⟩ := h
    rfl
  obtain ⟨x, rfl, ⟨n2, n8, hs⟩, q⟩ := h
  refine ⟨_, (@pss_one _ _ _ (@ps_ret _ _ _ _ (@pe_and _ _ _ _ _ _ _ (@pe_callB _ _ _ _ _ _ _ _ _ (@kcall_isiT _ K (by rfl)) rfl gb.isinstance bt_isinstance (@pa_cons _ _ _ _ _ (@pv _ 0 _ _ (by rfl) (by first | exact Or.inl rfl | exact Or.inr (Or.inl rfl) | exact Or.inr (Or.inr rfl)) (by decide) (by decide)) (@pa_cons _ _ _ _ _ (@pe_bltn _ _ (.ty "str") _ _ rfl gb.str bt_str rfl (by decide) (by decide)) (@pa_nil _) (by rfl)) (by rfl)) (by decide) (by decide) (by rfl) (by rfl)) (@pe_and _ _ _ _ _ _ _ (@pe_chain _ _ _ _ _ _ _ _ _ _ _ _ (@op_le _) (@op_le _) (@pe_int _ _ _ _) (@pe_callB _ _ _ _ _ _ _ _ _ (@kcall_len _ K (by rfl)) rfl gb.len bt_len (@pa_cons _ _ _ _ _ (@pv _ 0 _ _ (by rfl) (by first | exact Or.inl rfl | exact Or.inr (Or.inl rfl) | exact Or.inr (Or.inr rfl)) (by decide) (by decide)) (@pa_nil _) (by rfl)) (by decide) (by decide) (by rfl) (by rfl)) (@pe_int _ _ _ _) (by with_unfolding_all rfl)) (@pe_one _ _ _ _ _ (@pe_def _ _ _ _ _ _ _ _ _ _ _ d_has_small_letters_alone hr (by omega) rfl (@pa_cons _ _ _ _ _ (@pv _ 0 _ _ (by rfl) (by first | exact Or.inl rfl | exact Or.inr (Or.inl rfl) | exact Or.inr (Or.inr rfl)) (by decide) (by decide)) (@pa_nil _) (by rfl)) (by decide) (by rfl) (by rfl))))))), ?_⟩
  refine ⟨_, rfl, _, _, _, true, rfl, .str _, kit_same "str", true, rfl, iteT ?_⟩
  refine ⟨_, rfl, _, x.length, rfl, ⟨small9 (by omega), rfl⟩, _, _, rfl, rfl, _, rfl, ?_⟩
  rw [if_pos (decide_eq_true (show (2 : Int) ≤ x.length by omega))]
  refine ⟨_, _, rfl, rfl, _, rfl, ?_⟩
  rw [if_pos (decide_eq_true (show (x.length : Int) ≤ 8 by omega))]
  exact ⟨_, rfl, x, rfl, hs, n8, q⟩

abbrev s_count_nones : Stmt := top 11
theorem sc_count_nones : FnScope ["H"] ["H"] (defScope s_count_nones) := ⟨rfl, rfl, rfl, by decide +kernel, rfl, by decide +kernel, by decide +kernel⟩
theorem ok_count_nones {P : Program} {w : World} {K : PySem.W.Frag} {mg : Str → Option Value} {base : Heap} {f : Addr} {fd : FuncData} (F : Fun K "count_nones" "count_nones" s_count_nones f fd) (gb : Gb mg) : FnOk P w K mg base CX0 1 f fd ["H"] spNones := by
  refine F.ok sc_count_nones (fun vs H Q E h => ?_) (fun cdv A outer s H vs Q E hr h => ?_)
  · obtain ⟨v, T, rfl, _⟩ := h
    rfl
  obtain ⟨v, T, rfl, ⟨a, w1, c, vs, rfl, h1, h2, h3, h4⟩, ft, q⟩ := h
  have nd0 : (["name", "places", "cells"] : List Str).Nodup := by decide +kernel
  refine ⟨_, (@pss_one _ _ _ (@ps_ret _ _ _ _ (@pe_callB _ _ _ _ _ _ _ _ _ (@kcall_sum _ K rfl (by rfl)) rfl gb.sum bt_sum (@pa_cons _ _ _ _ _ (@pe_comp _ ["name", "places", "cells"] [none, none, none] _ _ _ _ _ _ _ _ _ _ (by exact (show CompOk ["H"] (defScope s_count_nones) ["name", "places", "cells"] [none, none, none] _ from ⟨rfl, by decide +kernel, by decide +kernel, by decide +kernel, by decide +kernel, rfl, by decide +kernel⟩)) rfl (@kpi_tup _ K _ _ _ (@pe_ix _ _ _ _ _ _ _ (@kix_seq _ K (by rfl)) (@pv _ 0 _ _ (by rfl) (by first | exact Or.inl rfl | exact Or.inr (Or.inl rfl) | exact Or.inr (Or.inr rfl)) (by decide) (by decide)) (@pe_int _ _ _ _) (fun _ _ => rfl)) (by rfl)) (fun _ _ _ _ => (@kpg_tup _ K _ _ _ _ 3 rfl (@pgs_cons _ _ _ _ _ (@pg_name _ _ 0 _ nd0 rfl (Or.inl rfl) (by first | exact .inl rfl | exact .inr rfl | assumption)) (@pgs_cons _ _ _ _ _ (@pg_name _ _ 1 _ nd0 rfl (Or.inl rfl) (by first | exact .inl rfl | exact .inr rfl | assumption)) (@pgs_cons _ _ _ _ _ (@pg_name _ _ 2 _ nd0 rfl (Or.inl rfl) (by first | exact .inl rfl | exact .inr rfl | assumption)) (@pgs_nil _) (by rfl)) (by rfl)) (by rfl)) (by rfl) (by rfl) (by rfl))) (fun _ _ _ _ => (@pf_nil _)) (fun _ _ _ _ => (@kpe_bm _ K _ _ _ _ _ _ _ _ _ _ _ PySem.F.plainAttrs_tuple PySem.F.slot_tuple_count PySem.F.type_tuple_count (@mt_count _) (@pv _ 2 _ _ (by rfl) (by first | exact Or.inl rfl | exact Or.inr (Or.inl rfl) | exact Or.inr (Or.inr rfl)) (by decide) (by decide)) (@pa_cons _ _ _ _ _ (@pe_non _ _ _) (@pa_nil _) (by rfl)) (by rfl) (by rfl) (by rfl) (by rfl) (by rfl) (by rfl))) (by intro _; rfl)) (@pa_nil _) (by rfl)) (by decide) (by decide) (by rfl) (by rfl)))), ?_⟩
  refine ⟨_, rfl, .inr (.inl ⟨a, _, 2, _, rfl, rfl, SqT.of h1, rfl, c, rfl, ⟨_, SqT.of h3⟩, fun D hD => ?_⟩)⟩
  have hlen := h4.len
  have ge : ∀ i, i < T.cs.length → T.cs[i]? = some (T.cs.getD i ⟨"", 0, []⟩) := fun i hi => by simp [List.getD, hi]
  have gx : ∀ i, ∃ t u : Addr, i < T.cs.length → vs[i]? = some (.ref t) ∧ H t = some (.tup [.str (T.cs.getD i ⟨"", 0, []⟩).nm, .int (T.cs.getD i ⟨"", 0, []⟩).pl, .ref u]) ∧ H u = some (.tup ((T.cs.getD i ⟨"", 0, []⟩).cs.map cellV)) := fun i => by
    by_cases hi : i < T.cs.length
    · obtain ⟨t, u, h⟩ := h4.get (ge i hi)
      exact ⟨t, u, fun _ => h⟩
    · exact ⟨0, 0, fun z => absurd z hi⟩
  obtain ⟨ad, gx⟩ := Classical.axiomOfChoice gx
  obtain ⟨au, gx⟩ := Classical.axiomOfChoice gx
  refine comp_tt3 (n := T.cs.length) (ad := ad) (v1 := fun i => .str (T.cs.getD i ⟨"", 0, []⟩).nm) (v2 := fun i => .int (T.cs.getD i ⟨"", 0, []⟩).pl) (v3 := fun i => .ref (au i))
    (fun i ys H' => Same H H' ∧ ys = (T.cs.take i).map fun c => V.int (nonesC c : Nat)) ⟨same_new hD _, rfl⟩ hlen (fun i hi => (gx i hi).1) (fun i ys H' p _ => SqT.of (p.1 _ _ h3)) (fun i ys H' hi p => SqT.of (p.1 _ _ (gx i hi).2.1)) ?_ ?_
  · rintro i ys H' hi ⟨s1, rfl⟩ hD'
    refine yes ?_
    refine ⟨_, rfl, .inr (.inr (.inr (.inr ⟨rfl, _, s1 _ _ (gx i hi).2.2⟩))), _, _, _, rfl, rfl, s1 _ _ (gx i hi).2.2, rfl, flat_cells _, ?_⟩
    rw [count_cells]
    have hz : ((T.cs.take i).map fun c => V.int (nonesC c : Nat)).length < sizeLine := by
      rw [List.length_map, List.length_take]
      exact small1000 (by have := ft.2.2.2.1; omega)
    refine cyes hi rfl hD' hz ⟨fun b o q => ?_, ?_⟩
    · rw [upd_ne (ne_of_none q hD)]
      exact s1 b o q
    · rw [take_snoc (ge i hi), List.map_append]
      rfl
  · rintro ys H' ⟨s1, rfl⟩ hD'
    rw [List.take_length] at hD'
    refine ⟨D, T.cs.map fun c => ((nonesC c : Nat) : Int), rfl, SqL.of (by rw [List.map_map]; exact hD'), ?_⟩
    have e : ∀ cs : List Conn, (cs.map fun c => ((nonesC c : Nat) : Int)).sum = (((cs.map nonesC).sum : Nat) : Int) := fun cs => by
      induction cs with
      | nil => rfl
      | cons c cs ih => rw [List.map_cons, List.sum_cons, List.map_cons, List.sum_cons, ih, Int.natCast_add]
    rw [e]
    exact q H' s1

abbrev s_power : Stmt := top 12
theorem sc_power : FnScope ["base", "exponent", "product", "step"] ["base", "exponent"] (defScope s_power) := ⟨rfl, rfl, rfl, by decide +kernel, rfl, by decide +kernel, by decide +kernel⟩
theorem ok_power {P : Program} {w : World} {K : PySem.W.Frag} {mg : Str → Option Value} {base : Heap} {f : Addr} {fd : FuncData} (F : Fun K "power" "power" s_power f fd) (gb : Gb mg) : FnOk P w K mg base CX0 1 f fd ["base", "exponent"] spPower := by
  refine F.ok sc_power (fun vs H Q E h => ?_) (fun cdv A outer s H vs Q E hr h => ?_)
  · obtain ⟨b, n, rfl, _⟩ := h
    rfl
  obtain ⟨b, n, rfl, b1, b9, n9, q⟩ := h
  refine ⟨_, (@pss_cons _ _ _ _ _ (@ps_set _ _ 2 _ _ _ _ sc_power.nd rfl (Or.inl rfl) (@pe_int _ _ _ _) (by rfl) (by first | exact .inl rfl | exact .inr rfl | assumption)) (@pss_cons _ _ _ _ _ (@ps_for _ _ _ _ _ _ _ _ PassesOwn.never rfl (@pi_range1 _ _ _ _ _ _ rfl gb.range (@pa_cons _ _ _ _ _ (@pv _ 1 _ _ (by rfl) (by first | exact Or.inl rfl | exact Or.inr (Or.inl rfl) | exact Or.inr (Or.inr rfl)) (by decide) (by decide)) (@pa_nil _) (by rfl)) (by rfl)) (@pg_name _ _ 3 _ sc_power.nd rfl (Or.inl rfl) (by first | exact .inl rfl | exact .inr rfl | assumption)) (@pss_one _ _ _ (@ps_set _ _ 2 _ _ _ _ sc_power.nd rfl (Or.inl rfl) (@pe_op _ _ _ _ _ _ _ _ (@op_mul _) (@pv _ 2 _ _ (by rfl) (by first | exact Or.inl rfl | exact Or.inr (Or.inl rfl) | exact Or.inr (Or.inr rfl)) (by decide) (by decide)) (@pv _ 0 _ _ (by rfl) (by first | exact Or.inl rfl | exact Or.inr (Or.inl rfl) | exact Or.inr (Or.inr rfl)) (by decide) (by decide))) (by rfl) (by first | exact .inl rfl | exact .inr rfl | assumption))) (by intro _; rfl)) (@pss_one _ _ _ (@ps_ret _ _ _ _ (@pv _ 2 _ _ (by rfl) (by first | exact Or.inl rfl | exact Or.inr (Or.inl rfl) | exact Or.inr (Or.inr rfl)) (by decide) (by decide)))))), ?_⟩
  refine ⟨_, rfl, _, rfl, by omega, by omega, ?_⟩
  refine for_range (fun i σ H' => H' = H ∧ ∃ st, σ = [some (.int b), some (.int n), some (.int (b ^ i)), st]) ⟨rfl, none, by rw [Int.pow_zero]; rfl⟩ ?_ ?_
  · rintro i σ H' hi ⟨rfl, st, rfl⟩
    refine ⟨_, rfl, _, rfl, _, _, rfl, rfl, .inr ⟨by omega, by omega⟩, rfl, some (.int (0 + i)), ?_⟩
    rw [Int.pow_succ]
    rfl
  · rintro σ H' ⟨rfl, st, rfl⟩
    exact ⟨_, rfl, by rw [Int.toNat_natCast]; exact q⟩

abbrev s_is_grade : Stmt := top 13
theorem sc_is_grade : FnScope ["thing", "many"] ["thing", "many"] (defScope s_is_grade) := ⟨rfl, rfl, rfl, by decide +kernel, rfl, by decide +kernel, by decide +kernel⟩
theorem ok_is_grade {P : Program} {w : World} {K : PySem.W.Frag} {mg : Str → Option Value} {base : Heap} {f : Addr} {fd : FuncData} (F : Fun K "is_grade" "is_grade" s_is_grade f fd) (gb : Gb mg) (d_is_whole : Def P w K mg base 1 "is_whole" ["thing"] spWhole) : FnOk P w K mg base CX0 2 f fd ["thing", "many"] spGrade := by
  refine F.ok sc_is_grade (fun vs H Q E h => ?_) (fun cdv A outer s H vs Q E hr h => ?_)
  · obtain ⟨i, m, rfl, _⟩ := h
    rfl
  obtain ⟨i, m, rfl, i0, im, q⟩ := h
  refine ⟨_, (@pss_one _ _ _ (@ps_ret _ _ _ _ (@pe_and _ _ _ _ _ _ _ (@pe_def _ _ _ _ _ _ _ _ _ _ _ d_is_whole hr (by omega) rfl (@pa_cons _ _ _ _ _ (@pv _ 0 _ _ (by rfl) (by first | exact Or.inl rfl | exact Or.inr (Or.inl rfl) | exact Or.inr (Or.inr rfl)) (by decide) (by decide)) (@pa_nil _) (by rfl)) (by decide) (by rfl) (by rfl)) (@pe_one _ _ _ _ _ (@pe_chain _ _ _ _ _ _ _ _ _ _ _ _ (@op_le _) (@op_lt _) (@pe_int _ _ _ _) (@pv _ 0 _ _ (by rfl) (by first | exact Or.inl rfl | exact Or.inr (Or.inl rfl) | exact Or.inr (Or.inr rfl)) (by decide) (by decide)) (@pv _ 1 _ _ (by rfl) (by first | exact Or.inl rfl | exact Or.inr (Or.inl rfl) | exact Or.inr (Or.inr rfl)) (by decide) (by decide)) (by with_unfolding_all rfl)))))), ?_⟩
  refine ⟨_, rfl, i, rfl, true, rfl, iteT ?_⟩
  refine ⟨_, rfl, _, _, rfl, rfl, _, rfl, ?_⟩
  rw [if_pos (decide_eq_true i0)]
  refine ⟨_, rfl, _, _, rfl, rfl, ?_⟩
  show Q (V.bl (decide (i < m))) H
  rw [decide_eq_true im]
  exact q

abbrev s_are_rising_grades : Stmt := top 14
theorem sc_are_rising_grades : FnScope ["thing", "many"] ["thing", "many"] (defScope s_are_rising_grades) := ⟨rfl, rfl, rfl, by decide +kernel, rfl, by decide +kernel, by decide +kernel⟩
theorem ok_are_rising_grades {P : Program} {w : World} {K : PySem.W.Frag} {mg : Str → Option Value} {base : Heap} {f : Addr} {fd : FuncData} (F : Fun K "are_rising_grades" "are_rising_grades" s_are_rising_grades f fd) (gb : Gb mg) (d_is_grade : Def P w K mg base 2 "is_grade" ["thing", "many"] spGrade) : FnOk P w K mg base CX0 3 f fd ["thing", "many"] spRising := by
  refine F.ok sc_are_rising_grades (fun vs H Q E h => ?_) (fun cdv A outer s H vs Q E hr h => ?_)
  · obtain ⟨a, m, ws, rfl, _⟩ := h
    rfl
  obtain ⟨a, m, ws, rfl, ha, hb, hr', hl, q⟩ := h
  have nd0 : (["part", "many"] : List Str).Nodup := by decide +kernel
  have nd1 : (["one", "other"] : List Str).Nodup := by decide +kernel
  refine ⟨_, (@pss_cons _ _ _ _ _ (@ps_if _ _ _ _ _ _ _ _ (@PW.pt _ _ _ (@pw_or _ _ _ _ _ _ _ (@pt_not _ _ _ _ (@pt_val _ _ _ (@pe_callB _ _ _ _ _ _ _ _ _ (@kcall_isiT _ K (by rfl)) rfl gb.isinstance bt_isinstance (@pa_cons _ _ _ _ _ (@pv _ 0 _ _ (by rfl) (by first | exact Or.inl rfl | exact Or.inr (Or.inl rfl) | exact Or.inr (Or.inr rfl)) (by decide) (by decide)) (@pa_cons _ _ _ _ _ (@pe_bltn _ _ (.ty "tuple") _ _ rfl gb.tuple bt_tuple rfl (by decide) (by decide)) (@pa_nil _) (by rfl)) (by rfl)) (by decide) (by decide) (by rfl) (by rfl)) (by intro _; rfl))) (@pw_or1 _ _ _ _ (@pt_not _ _ _ _ (@pt_val _ _ _ (@pe_callB _ _ _ _ _ _ _ _ _ (@kcall_all _ K rfl (by rfl)) rfl gb.all bt_all (@pa_cons _ _ _ _ _ (@pe_comp _ ["part", "many"] [none, some 1] _ _ _ _ _ _ _ _ _ _ (by exact (show CompOk ["thing", "many"] (defScope s_are_rising_grades) ["part", "many"] [none, some 1] _ from ⟨rfl, by decide +kernel, by decide +kernel, by decide +kernel, by decide +kernel, rfl, by decide +kernel⟩)) rfl (@kpi_tup _ K _ _ _ (@pv _ 0 _ _ (by rfl) (by first | exact Or.inl rfl | exact Or.inr (Or.inl rfl) | exact Or.inr (Or.inr rfl)) (by decide) (by decide)) (by rfl)) (fun _ _ _ _ => (@pg_name _ _ 0 _ nd0 rfl (Or.inl rfl) (by first | exact .inl rfl | exact .inr rfl | assumption))) (fun _ _ _ _ => (@pf_nil _)) (fun _ _ _ _ => (@pe_def _ _ _ _ _ _ _ _ _ _ _ d_is_grade hr (by omega) rfl (@pa_cons _ _ _ _ _ (@pv _ 0 _ _ (by rfl) (by first | exact Or.inl rfl | exact Or.inr (Or.inl rfl) | exact Or.inr (Or.inr rfl)) (by decide) (by decide)) (@pa_cons _ _ _ _ _ (@pv _ 1 _ _ (by rfl) (by first | exact Or.inl rfl | exact Or.inr (Or.inl rfl) | exact Or.inr (Or.inr rfl)) (by decide) (by decide)) (@pa_nil _) (by rfl)) (by rfl)) (by decide) (by rfl) (by rfl))) (by intro _; rfl)) (@pa_nil _) (by rfl)) (by decide) (by decide) (by rfl) (by rfl)) (by intro _; rfl)))))) (@pss_one _ _ _ (@ps_ret _ _ _ _ (@pe_bl _ _ _ _))) (@pss_nil _)) (@pss_one _ _ _ (@ps_ret _ _ _ _ (@pe_callB _ _ _ _ _ _ _ _ _ (@kcall_all _ K rfl (by rfl)) rfl gb.all bt_all (@pa_cons _ _ _ _ _ (@pe_comp _ ["one", "other"] [none, none] _ _ _ _ _ _ _ _ _ _ (by exact (show CompOk ["thing", "many"] (defScope s_are_rising_grades) ["one", "other"] [none, none] _ from ⟨rfl, by decide +kernel, by decide +kernel, by decide +kernel, by decide +kernel, rfl, by decide +kernel⟩)) rfl (@kpi_zip _ K _ _ _ _ _ _ _ _ rfl gb.zip (@pa_cons _ _ _ _ _ (@pv _ 0 _ _ (by rfl) (by first | exact Or.inl rfl | exact Or.inr (Or.inl rfl) | exact Or.inr (Or.inr rfl)) (by decide) (by decide)) (@pa_cons _ _ _ _ _ (@pe_slice _ _ _ _ _ _ _ _ _ _ (@ksl_tupA _ K (by rfl)) (@pv _ 0 _ _ (by rfl) (by first | exact Or.inl rfl | exact Or.inr (Or.inl rfl) | exact Or.inr (Or.inr rfl)) (by decide) (by decide)) (@po_some _ _ _ (@pe_int _ _ _ _)) (@po_none _)) (@pa_nil _) (by rfl)) (by rfl)) (by rfl) (by rfl) (by rfl)) (fun _ _ _ _ => (@kpg_tup _ K _ _ _ _ 2 rfl (@pgs_cons _ _ _ _ _ (@pg_name _ _ 0 _ nd1 rfl (Or.inl rfl) (by first | exact .inl rfl | exact .inr rfl | assumption)) (@pgs_cons _ _ _ _ _ (@pg_name _ _ 1 _ nd1 rfl (Or.inl rfl) (by first | exact .inl rfl | exact .inr rfl | assumption)) (@pgs_nil _) (by rfl)) (by rfl)) (by rfl) (by rfl) (by rfl))) (fun _ _ _ _ => (@pf_nil _)) (fun _ _ _ _ => (@pe_cmpR _ _ _ _ _ _ _ _ (@op_lt _) (@pv _ 0 _ _ (by rfl) (by first | exact Or.inl rfl | exact Or.inr (Or.inl rfl) | exact Or.inr (Or.inr rfl)) (by decide) (by decide)) (@pv _ 1 _ _ (by rfl) (by first | exact Or.inl rfl | exact Or.inr (Or.inl rfl) | exact Or.inr (Or.inr rfl)) (by decide) (by decide)) (@nomark _ _ (by decide) (by decide)))) (by intro _; rfl)) (@pa_nil _) (by rfl)) (by decide) (by decide) (by rfl) (by rfl))))), ?_⟩
  refine ⟨_, rfl, _, _, _, true, rfl, .tup ha, kit_same "tuple", true, rfl, ?_⟩
  refine ⟨_, rfl, a, rfl, ⟨_, SqT.of ha⟩, fun D hD => ?_⟩
  refine map_tup ws V.int (fun _ => .bl true) ha (by omega) hD (fun z hz H' Q' s1 q' => ?_) (fun H' s1 hD' => ?_)
  · exact ⟨_, rfl, _, rfl, z, m, rfl, (hb z hz).1, (hb z hz).2, q' _ Same.rfl'⟩
  rw [trues] at hD'
  refine ⟨D, _, rfl, SqL.of hD', _, rfl, ?_⟩
  rw [all_trues]
  have ha' := s1 _ _ ha
  have key : ∀ (b : Addr) (H2 : Hp), Same H' H2 → H2 b = some (.tup ((ws.drop 1).map V.int)) → ∀ D2, H2 D2 = none → CompGo (Itz K a b) (gTup K 2 (gCons (gName 0) (gCons (gName 1) gNil))) tYes (tOp (rI0 fun i j => V.bl (decide (i < j))) (tVar 0) (tVar 1)) [none, none] H2 (fun v H3 => ∃ p bs, [v] = [V.ref p] ∧ SqL K H3 p (List.map V.bl bs) ∧ Q (V.bl (bs.all id)) H3) D2 := fun b H2 s2 hb2 D2 hD2 => by
    have ha2 := s2 _ _ ha'
    refine comp_zip (xs := ws.map V.int) (ys := (ws.drop 1).map V.int) (n := (ws.drop 1).length) (fun i zs H3 => Same H2 H3 ∧ zs = (List.replicate i true).map V.bl) (by simp) ⟨same_new hD2 _, rfl⟩ (fun i zs H3 hh _ => ⟨SqT.of (hh.1 _ _ ha2), SqT.of (hh.1 _ _ hb2)⟩) ?_ ?_
    · rintro i zs H3 T x y hx hy hi ⟨s3, rfl⟩ hD3 hT
      rw [List.getElem?_map] at hx hy
      obtain ⟨u, hu, rfl⟩ := Option.map_eq_some_iff.mp hx
      obtain ⟨w', hw', rfl⟩ := Option.map_eq_some_iff.mp hy
      rw [List.getElem?_drop] at hw'
      have lt : u < w' := by
        obtain ⟨i1, e1⟩ := List.getElem?_eq_some_iff.mp hu
        obtain ⟨i2, e2⟩ := List.getElem?_eq_some_iff.mp hw'
        have := List.pairwise_iff_getElem.mp hr' i (1 + i) i1 i2 (by omega)
        rw [e1, e2] at this
        exact this
      have hDT : D2 ≠ T := fun z => by
        rw [← z, hD3] at hT
        cases hT
      refine yes ⟨_, rfl, _, rfl, _, _, rfl, rfl, ?_⟩
      show cYes _ _ _ _ _ _ (V.bl (decide (u < w'))) _
      rw [decide_eq_true lt]
      refine cyes hi rfl (by rw [upd_ne hDT]; exact hD3) (by rw [List.length_map, List.length_replicate]; exact small1000 (by rw [List.length_drop] at hi; omega)) ⟨fun c o qc => ?_, ?_⟩
      · rw [upd_ne (ne_of_none qc hD2), upd_ne (ne_of_none (s3 _ _ qc) hT)]
        exact s3 _ _ qc
      · rw [List.replicate_succ', List.map_append]
        rfl
    · rintro zs H3 ⟨s3, rfl⟩ hD3
      refine ⟨D2, _, rfl, SqL.of hD3, ?_⟩
      have : (List.replicate (ws.drop 1).length true).all id = true := by
        rw [List.all_eq_true]
        intro x hx
        rw [(List.mem_replicate.mp hx).2]
        rfl
      rw [this]
      exact q _ (fun c o qc => s3 _ _ (s2 _ _ (s1 _ _ qc)))
  refine ⟨_, rfl, _, rfl, _, rfl, ?_⟩
  cases ws with
  | nil =>
    refine .inr ⟨a, [], rfl, SqT.of ha', ⟨rfl, rfl⟩, ?_⟩
    exact ⟨a, a, _, _, rfl, SqT.of ha', SqT.of ha', fun D2 hD2 => key a H' Same.rfl' ha' D2 hD2⟩
  | cons w0 ws =>
    refine .inl ⟨a, _, rfl, SqT.of ha', ?_, fun b hb' => ?_⟩
    · intro z
      have h1 := HT.sIx_nat ((w0 :: ws).map V.int).length 0 1
      have z1 := z.1
      rw [show ((1 : Nat) : Int) = 1 from rfl] at h1
      rw [h1, List.length_map, List.length_cons] at z1
      omega
    · have ec : cutV ((w0 :: ws).map V.int) (some 1) none = ((w0 :: ws).drop 1).map V.int := by
        have h1 := HT.sIx_nat ((w0 :: ws).map V.int).length 0 1
        rw [show ((1 : Nat) : Int) = 1 from rfl] at h1
        unfold cutV
        rw [h1, HT.sIx_none, List.length_map, List.length_cons, show min 1 (ws.length + 1) = 1 by omega]
        show (ws.map V.int).take _ = _
        rw [List.take_of_length_le (by rw [List.length_map]; omega)]
        rfl
      rw [ec]
      refine ⟨a, b, _, _, rfl, SqT.of (by rw [upd_ne (ne_of_none ha' hb')]; exact ha'), SqT.of upd_same, fun D2 hD2 => key b _ (same_new hb' _) upd_same D2 hD2⟩

abbrev s_are_cells : Stmt := top 17
theorem sc_are_cells : FnScope ["thing", "many", "length"] ["thing", "many", "length"] (defScope s_are_cells) := ⟨rfl, rfl, rfl, by decide +kernel, rfl, by decide +kernel, by decide +kernel⟩
theorem ok_are_cells {P : Program} {w : World} {K : PySem.W.Frag} {mg : Str → Option Value} {base : Heap} {f : Addr} {fd : FuncData} (F : Fun K "are_cells" "are_cells" s_are_cells f fd) (gb : Gb mg) (d_is_grade : Def P w K mg base 2 "is_grade" ["thing", "many"] spGrade) : FnOk P w K mg base CX0 3 f fd ["thing", "many", "length"] spCellsQ := by
  refine F.ok sc_are_cells (fun vs H Q E h => ?_) (fun cdv A outer s H vs Q E hr h => ?_)
  · obtain ⟨a, m, n, cs, rfl, _⟩ := h
    rfl
  obtain ⟨a, m, n, cs, rfl, ha, hl, h81, hok, q⟩ := h
  have nd0 : (["cell", "many"] : List Str).Nodup := by decide +kernel
  refine ⟨_, (@pss_cons _ _ _ _ _ (@ps_if _ _ _ _ _ _ _ _ (@PW.pt _ _ _ (@pw_or _ _ _ _ _ _ _ (@pt_not _ _ _ _ (@pt_val _ _ _ (@pe_callB _ _ _ _ _ _ _ _ _ (@kcall_isiT _ K (by rfl)) rfl gb.isinstance bt_isinstance (@pa_cons _ _ _ _ _ (@pv _ 0 _ _ (by rfl) (by first | exact Or.inl rfl | exact Or.inr (Or.inl rfl) | exact Or.inr (Or.inr rfl)) (by decide) (by decide)) (@pa_cons _ _ _ _ _ (@pe_bltn _ _ (.ty "tuple") _ _ rfl gb.tuple bt_tuple rfl (by decide) (by decide)) (@pa_nil _) (by rfl)) (by rfl)) (by decide) (by decide) (by rfl) (by rfl)) (by intro _; rfl))) (@pw_or1 _ _ _ _ (@pt_cmpR _ _ _ _ _ _ _ _ (@op_ne _) (@pe_callB _ _ _ _ _ _ _ _ _ (@kcall_len _ K (by rfl)) rfl gb.len bt_len (@pa_cons _ _ _ _ _ (@pv _ 0 _ _ (by rfl) (by first | exact Or.inl rfl | exact Or.inr (Or.inl rfl) | exact Or.inr (Or.inr rfl)) (by decide) (by decide)) (@pa_nil _) (by rfl)) (by decide) (by decide) (by rfl) (by rfl)) (@pv _ 2 _ _ (by rfl) (by first | exact Or.inl rfl | exact Or.inr (Or.inl rfl) | exact Or.inr (Or.inr rfl)) (by decide) (by decide)) (@nomark _ _ (by decide) (by decide)))))) (@pss_one _ _ _ (@ps_ret _ _ _ _ (@pe_bl _ _ _ _))) (@pss_nil _)) (@pss_one _ _ _ (@ps_ret _ _ _ _ (@pe_callB _ _ _ _ _ _ _ _ _ (@kcall_all _ K rfl (by rfl)) rfl gb.all bt_all (@pa_cons _ _ _ _ _ (@pe_comp _ ["cell", "many"] [none, some 1] _ _ _ _ _ _ _ _ _ _ (by exact (show CompOk ["thing", "many", "length"] (defScope s_are_cells) ["cell", "many"] [none, some 1] _ from ⟨rfl, by decide +kernel, by decide +kernel, by decide +kernel, by decide +kernel, rfl, by decide +kernel⟩)) rfl (@kpi_tup _ K _ _ _ (@pv _ 0 _ _ (by rfl) (by first | exact Or.inl rfl | exact Or.inr (Or.inl rfl) | exact Or.inr (Or.inr rfl)) (by decide) (by decide)) (by rfl)) (fun _ _ _ _ => (@pg_name _ _ 0 _ nd0 rfl (Or.inl rfl) (by first | exact .inl rfl | exact .inr rfl | assumption))) (fun _ _ _ _ => (@pf_nil _)) (fun _ _ _ _ => (@pe_or _ _ _ _ _ _ _ (@pe_cmpR _ _ _ _ _ _ _ _ (@op_isN _) (@pv _ 0 _ _ (by rfl) (by first | exact Or.inl rfl | exact Or.inr (Or.inl rfl) | exact Or.inr (Or.inr rfl)) (by decide) (by decide)) (@pe_non _ _ _) (@nomark _ _ (by decide) (by decide))) (@pe_one _ _ _ _ _ (@pe_def _ _ _ _ _ _ _ _ _ _ _ d_is_grade hr (by omega) rfl (@pa_cons _ _ _ _ _ (@pv _ 0 _ _ (by rfl) (by first | exact Or.inl rfl | exact Or.inr (Or.inl rfl) | exact Or.inr (Or.inr rfl)) (by decide) (by decide)) (@pa_cons _ _ _ _ _ (@pv _ 1 _ _ (by rfl) (by first | exact Or.inl rfl | exact Or.inr (Or.inl rfl) | exact Or.inr (Or.inr rfl)) (by decide) (by decide)) (@pa_nil _) (by rfl)) (by rfl)) (by decide) (by rfl) (by rfl))))) (by intro _; rfl)) (@pa_nil _) (by rfl)) (by decide) (by decide) (by rfl) (by rfl))))), ?_⟩
  refine ⟨_, rfl, _, _, _, true, rfl, .tup ha, kit_same "tuple", true, rfl, ?_⟩
  refine ⟨_, rfl, _, cs.length, rfl, .inr ⟨_, SqT.of ha, by rw [List.length_map]⟩, _, rfl, rfl, _, rfl, ?_⟩
  refine iteNS (c := V.int (cs.length : Int) = V.int n) (by rw [hl]) ?_
  refine ⟨_, rfl, a, rfl, ⟨_, SqT.of ha⟩, fun D hD => ?_⟩
  refine map_tup cs cellV (fun _ => .bl true) ha (by omega) hD (fun z hz H' Q' s1 q' => ?_) (fun H' s1 hD' => ?_)
  · refine ⟨_, rfl, rfl, _, rfl, ?_⟩
    cases z with
    | none =>
      exact ite2 (fun _ => q' _ Same.rfl') (fun c => absurd (decide_eq_true rfl) c)
    | some i =>
      have k := hok (some i) hz i rfl
      exact ite2 (fun c => absurd (of_decide_eq_true c) (by intro z; cases z)) (fun _ => ⟨_, rfl, _, rfl, i, m, rfl, k.1, k.2, q' _ Same.rfl'⟩)
  · rw [trues] at hD'
    refine ⟨D, _, rfl, SqL.of hD', ?_⟩
    rw [all_trues]
    exact q _ s1

abbrev s_is_connective : Stmt := top 16
theorem sc_is_connective : FnScope ["thing", "many", "places"] ["thing", "many"] (defScope s_is_connective) := ⟨rfl, rfl, rfl, by decide +kernel, rfl, by decide +kernel, by decide +kernel⟩
theorem ok_is_connective {P : Program} {w : World} {K : PySem.W.Frag} {mg : Str → Option Value} {base : Heap} {f : Addr} {fd : FuncData} (F : Fun K "is_connective" "is_connective" s_is_connective f fd) (gb : Gb mg) (d_is_name : Def P w K mg base 2 "is_name" ["thing"] spNameQ) (d_is_whole : Def P w K mg base 1 "is_whole" ["thing"] spWhole) (d_are_cells : Def P w K mg base 3 "are_cells" ["thing", "many", "length"] spCellsQ) (d_power : Def P w K mg base 1 "power" ["base", "exponent"] spPower) : FnOk P w K mg base CX0 4 f fd ["thing", "many"] spConn := by
  refine F.ok sc_is_connective (fun vs H Q E h => ?_) (fun cdv A outer s H vs Q E hr h => ?_)
  · obtain ⟨t, u, m, c, rfl, _⟩ := h
    rfl
  obtain ⟨t, u, m, c, rfl, ht, hu, m1, m9, gc, q⟩ := h
  refine ⟨_, (@pss_cons _ _ _ _ _ (@ps_if _ _ _ _ _ _ _ _ (@PW.pt _ _ _ (@pw_or _ _ _ _ _ _ _ (@pt_not _ _ _ _ (@pt_val _ _ _ (@pe_callB _ _ _ _ _ _ _ _ _ (@kcall_isiT _ K (by rfl)) rfl gb.isinstance bt_isinstance (@pa_cons _ _ _ _ _ (@pv _ 0 _ _ (by rfl) (by first | exact Or.inl rfl | exact Or.inr (Or.inl rfl) | exact Or.inr (Or.inr rfl)) (by decide) (by decide)) (@pa_cons _ _ _ _ _ (@pe_bltn _ _ (.ty "tuple") _ _ rfl gb.tuple bt_tuple rfl (by decide) (by decide)) (@pa_nil _) (by rfl)) (by rfl)) (by decide) (by decide) (by rfl) (by rfl)) (by intro _; rfl))) (@pw_or1 _ _ _ _ (@pt_cmpR _ _ _ _ _ _ _ _ (@op_ne _) (@pe_callB _ _ _ _ _ _ _ _ _ (@kcall_len _ K (by rfl)) rfl gb.len bt_len (@pa_cons _ _ _ _ _ (@pv _ 0 _ _ (by rfl) (by first | exact Or.inl rfl | exact Or.inr (Or.inl rfl) | exact Or.inr (Or.inr rfl)) (by decide) (by decide)) (@pa_nil _) (by rfl)) (by decide) (by decide) (by rfl) (by rfl)) (@pe_int _ _ _ _) (@nomark _ _ (by decide) (by decide)))))) (@pss_one _ _ _ (@ps_ret _ _ _ _ (@pe_bl _ _ _ _))) (@pss_nil _)) (@pss_cons _ _ _ _ _ (@ps_set _ _ 2 _ _ _ _ sc_is_connective.nd rfl (Or.inl rfl) (@pe_ix _ _ _ _ _ _ _ (@kix_seq _ K (by rfl)) (@pv _ 0 _ _ (by rfl) (by first | exact Or.inl rfl | exact Or.inr (Or.inl rfl) | exact Or.inr (Or.inr rfl)) (by decide) (by decide)) (@pe_int _ _ _ _) (fun _ _ => rfl)) (by rfl) (by first | exact .inl rfl | exact .inr rfl | assumption)) (@pss_cons _ _ _ _ _ (@ps_if _ _ _ _ _ _ _ _ (@PW.pt _ _ _ (@pw_or _ _ _ _ _ _ _ (@pt_not _ _ _ _ (@pt_val _ _ _ (@pe_def _ _ _ _ _ _ _ _ _ _ _ d_is_name hr (by omega) rfl (@pa_cons _ _ _ _ _ (@pe_ix _ _ _ _ _ _ _ (@kix_seq _ K (by rfl)) (@pv _ 0 _ _ (by rfl) (by first | exact Or.inl rfl | exact Or.inr (Or.inl rfl) | exact Or.inr (Or.inr rfl)) (by decide) (by decide)) (@pe_int _ _ _ _) (fun _ _ => rfl)) (@pa_nil _) (by rfl)) (by decide) (by rfl) (by rfl)) (by intro _; rfl))) (@pw_or _ _ _ _ _ _ _ (@pt_not _ _ _ _ (@pt_val _ _ _ (@pe_def _ _ _ _ _ _ _ _ _ _ _ d_is_whole hr (by omega) rfl (@pa_cons _ _ _ _ _ (@pv _ 2 _ _ (by rfl) (by first | exact Or.inl rfl | exact Or.inr (Or.inl rfl) | exact Or.inr (Or.inr rfl)) (by decide) (by decide)) (@pa_nil _) (by rfl)) (by decide) (by rfl) (by rfl)) (by intro _; rfl))) (@pw_or1 _ _ _ _ (@pt_not _ _ _ _ (@pt_chain _ _ _ _ _ _ _ _ _ _ _ _ (@op_le _) (@op_le _) (@pe_int _ _ _ _) (@pv _ 2 _ _ (by rfl) (by first | exact Or.inl rfl | exact Or.inr (Or.inl rfl) | exact Or.inr (Or.inr rfl)) (by decide) (by decide)) (@pe_globR _ _ _ _ rfl gb.MOST_PLACES (by decide)) (by with_unfolding_all rfl))))))) (@pss_one _ _ _ (@ps_ret _ _ _ _ (@pe_bl _ _ _ _))) (@pss_nil _)) (@pss_one _ _ _ (@ps_ret _ _ _ _ (@pe_def _ _ _ _ _ _ _ _ _ _ _ d_are_cells hr (by omega) rfl (@pa_cons _ _ _ _ _ (@pe_ix _ _ _ _ _ _ _ (@kix_seq _ K (by rfl)) (@pv _ 0 _ _ (by rfl) (by first | exact Or.inl rfl | exact Or.inr (Or.inl rfl) | exact Or.inr (Or.inr rfl)) (by decide) (by decide)) (@pe_int _ _ _ _) (fun _ _ => rfl)) (@pa_cons _ _ _ _ _ (@pv _ 1 _ _ (by rfl) (by first | exact Or.inl rfl | exact Or.inr (Or.inl rfl) | exact Or.inr (Or.inr rfl)) (by decide) (by decide)) (@pa_cons _ _ _ _ _ (@pe_def _ _ _ _ _ _ _ _ _ _ _ d_power hr (by omega) rfl (@pa_cons _ _ _ _ _ (@pv _ 1 _ _ (by rfl) (by first | exact Or.inl rfl | exact Or.inr (Or.inl rfl) | exact Or.inr (Or.inr rfl)) (by decide) (by decide)) (@pa_cons _ _ _ _ _ (@pv _ 2 _ _ (by rfl) (by first | exact Or.inl rfl | exact Or.inr (Or.inl rfl) | exact Or.inr (Or.inr rfl)) (by decide) (by decide)) (@pa_nil _) (by rfl)) (by rfl)) (by decide) (by rfl) (by rfl)) (@pa_nil _) (by rfl)) (by rfl)) (by rfl)) (by decide) (by rfl) (by rfl))))))), ?_⟩
  refine ⟨_, rfl, _, _, _, true, rfl, .tup ht, kit_same "tuple", true, rfl, ?_⟩
  refine ⟨_, rfl, _, 3, rfl, .inr ⟨_, SqT.of ht, rfl⟩, rfl, _, rfl, ?_⟩
  refine iteNS (c := V.int 3 = V.int 3) rfl ?_
  refine ⟨_, rfl, .inr (.inl ⟨t, _, 1, _, rfl, rfl, SqT.of ht, rfl, ?_⟩)⟩
  refine ⟨_, rfl, .inr (.inl ⟨t, _, 0, _, rfl, rfl, SqT.of ht, rfl, c.nm, rfl, gc.nm, fun H1 s1 => ⟨true, rfl, ?_⟩⟩)⟩
  refine ⟨_, rfl, c.pl, rfl, true, rfl, ?_⟩
  refine ⟨_, rfl, _, _, rfl, rfl, _, rfl, ?_⟩
  rw [if_pos (decide_eq_true gc.p0)]
  refine ⟨_, _, rfl, rfl, _, rfl, ?_⟩
  rw [decide_eq_true gc.p2]
  have ht1 := s1 _ _ ht
  refine ⟨_, rfl, .inr (.inl ⟨t, _, 2, _, rfl, rfl, SqT.of ht1, rfl, _, rfl, _, rfl, _, rfl, m, c.pl.toNat, ?_, m1, m9, by have := gc.p2; omega, u, m, _, c.cs, rfl, s1 _ _ hu, gc.len, ?_, gc.cells, fun H2 s2 => q _ fun b o qb => s2 _ _ (s1 _ _ qb)⟩)⟩
  · have := gc.p0
    rw [show ((c.pl.toNat : Nat) : Int) = c.pl by omega]
    rfl
  · have hm := m9
    have e : c.pl.toNat = 0 ∨ c.pl.toNat = 1 ∨ c.pl.toNat = 2 := by have := gc.p2; omega
    have hmm : m * m ≤ 81 := Int.le_trans (Int.mul_le_mul_of_nonneg_right hm (by omega)) (by omega)
    rcases e with e | e | e <;> rw [e]
    · rw [Int.pow_zero]; decide
    · rw [Int.pow_succ, Int.pow_zero, Int.one_mul]; omega
    · rw [Int.pow_succ, Int.pow_succ, Int.pow_zero, Int.one_mul]; exact hmm

abbrev s_are_connectives : Stmt := top 15
theorem sc_are_connectives : FnScope ["thing", "many"] ["thing", "many"] (defScope s_are_connectives) := ⟨rfl, rfl, rfl, by decide +kernel, rfl, by decide +kernel, by decide +kernel⟩
theorem ok_are_connectives {P : Program} {w : World} {K : PySem.W.Frag} {mg : Str → Option Value} {base : Heap} {f : Addr} {fd : FuncData} (F : Fun K "are_connectives" "are_connectives" s_are_connectives f fd) (gb : Gb mg) (d_is_connective : Def P w K mg base 4 "is_connective" ["thing", "many"] spConn) : FnOk P w K mg base CX0 5 f fd ["thing", "many"] spConns := by
  refine F.ok sc_are_connectives (fun vs H Q E h => ?_) (fun cdv A outer s H vs Q E hr h => ?_)
  · obtain ⟨a, m, cs, xs, rfl, _⟩ := h
    rfl
  obtain ⟨a, m, cs, xs, rfl, ha, hC, m1, m9, h8, hg, hnd, q⟩ := h
  have nd0 : (["part", "many"] : List Str).Nodup := by decide +kernel
  have nd1 : (["part"] : List Str).Nodup := by decide +kernel
  refine ⟨_, (@pss_cons _ _ _ _ _ (@ps_if _ _ _ _ _ _ _ _ (@PW.pt _ _ _ (@pw_or _ _ _ _ _ _ _ (@pt_not _ _ _ _ (@pt_val _ _ _ (@pe_callB _ _ _ _ _ _ _ _ _ (@kcall_isiT _ K (by rfl)) rfl gb.isinstance bt_isinstance (@pa_cons _ _ _ _ _ (@pv _ 0 _ _ (by rfl) (by first | exact Or.inl rfl | exact Or.inr (Or.inl rfl) | exact Or.inr (Or.inr rfl)) (by decide) (by decide)) (@pa_cons _ _ _ _ _ (@pe_bltn _ _ (.ty "tuple") _ _ rfl gb.tuple bt_tuple rfl (by decide) (by decide)) (@pa_nil _) (by rfl)) (by rfl)) (by decide) (by decide) (by rfl) (by rfl)) (by intro _; rfl))) (@pw_or1 _ _ _ _ (@pt_cmpR _ _ _ _ _ _ _ _ (@op_gt _) (@pe_callB _ _ _ _ _ _ _ _ _ (@kcall_len _ K (by rfl)) rfl gb.len bt_len (@pa_cons _ _ _ _ _ (@pv _ 0 _ _ (by rfl) (by first | exact Or.inl rfl | exact Or.inr (Or.inl rfl) | exact Or.inr (Or.inr rfl)) (by decide) (by decide)) (@pa_nil _) (by rfl)) (by decide) (by decide) (by rfl) (by rfl)) (@pe_globR _ _ _ _ rfl gb.MOST_CONNECTIVES (by decide)) (@nomark _ _ (by decide) (by decide)))))) (@pss_one _ _ _ (@ps_ret _ _ _ _ (@pe_bl _ _ _ _))) (@pss_nil _)) (@pss_cons _ _ _ _ _ (@ps_if _ _ _ _ _ _ _ _ (@pt_not _ _ _ _ (@pt_val _ _ _ (@pe_callB _ _ _ _ _ _ _ _ _ (@kcall_all _ K rfl (by rfl)) rfl gb.all bt_all (@pa_cons _ _ _ _ _ (@pe_comp _ ["part", "many"] [none, some 1] _ _ _ _ _ _ _ _ _ _ (by exact (show CompOk ["thing", "many"] (defScope s_are_connectives) ["part", "many"] [none, some 1] _ from ⟨rfl, by decide +kernel, by decide +kernel, by decide +kernel, by decide +kernel, rfl, by decide +kernel⟩)) rfl (@kpi_tup _ K _ _ _ (@pv _ 0 _ _ (by rfl) (by first | exact Or.inl rfl | exact Or.inr (Or.inl rfl) | exact Or.inr (Or.inr rfl)) (by decide) (by decide)) (by rfl)) (fun _ _ _ _ => (@pg_name _ _ 0 _ nd0 rfl (Or.inl rfl) (by first | exact .inl rfl | exact .inr rfl | assumption))) (fun _ _ _ _ => (@pf_nil _)) (fun _ _ _ _ => (@pe_def _ _ _ _ _ _ _ _ _ _ _ d_is_connective hr (by omega) rfl (@pa_cons _ _ _ _ _ (@pv _ 0 _ _ (by rfl) (by first | exact Or.inl rfl | exact Or.inr (Or.inl rfl) | exact Or.inr (Or.inr rfl)) (by decide) (by decide)) (@pa_cons _ _ _ _ _ (@pv _ 1 _ _ (by rfl) (by first | exact Or.inl rfl | exact Or.inr (Or.inl rfl) | exact Or.inr (Or.inr rfl)) (by decide) (by decide)) (@pa_nil _) (by rfl)) (by rfl)) (by decide) (by rfl) (by rfl))) (by intro _; rfl)) (@pa_nil _) (by rfl)) (by decide) (by decide) (by rfl) (by rfl)) (by intro _; rfl))) (@pss_one _ _ _ (@ps_ret _ _ _ _ (@pe_bl _ _ _ _))) (@pss_nil _)) (@pss_one _ _ _ (@ps_ret _ _ _ _ (@pe_cmpR _ _ _ _ _ _ _ _ (@op_eq _) (@pe_callB _ _ _ _ _ _ _ _ _ (@call_lenS _) rfl gb.len bt_len (@pa_cons _ _ _ _ _ (@pe_callTy _ _ _ _ _ _ _ _ _ (@kcall_setS _ K rfl (by rfl)) rfl gb.set bt_set (@pa_cons _ _ _ _ _ (@pe_comp _ ["part"] [none] _ _ _ _ _ _ _ _ _ _ (by exact (show CompOk ["thing", "many"] (defScope s_are_connectives) ["part"] [none] _ from ⟨rfl, by decide +kernel, by decide +kernel, by decide +kernel, by decide +kernel, rfl, by decide +kernel⟩)) rfl (@kpi_tup _ K _ _ _ (@pv _ 0 _ _ (by rfl) (by first | exact Or.inl rfl | exact Or.inr (Or.inl rfl) | exact Or.inr (Or.inr rfl)) (by decide) (by decide)) (by rfl)) (fun _ _ _ _ => (@pg_name _ _ 0 _ nd1 rfl (Or.inl rfl) (by first | exact .inl rfl | exact .inr rfl | assumption))) (fun _ _ _ _ => (@pf_nil _)) (fun _ _ _ _ => (@pe_ix _ _ _ _ _ _ _ (@kix_seq _ K (by rfl)) (@pv _ 0 _ _ (by rfl) (by first | exact Or.inl rfl | exact Or.inr (Or.inl rfl) | exact Or.inr (Or.inr rfl)) (by decide) (by decide)) (@pe_int _ _ _ _) (fun _ _ => rfl))) (by intro _; rfl)) (@pa_nil _) (by rfl)) (by decide) (by decide) (by rfl) (by rfl)) (@pa_nil _) (by rfl)) (by decide) (by decide) (by rfl) (by rfl)) (@pe_callB _ _ _ _ _ _ _ _ _ (@kcall_len _ K (by rfl)) rfl gb.len bt_len (@pa_cons _ _ _ _ _ (@pv _ 0 _ _ (by rfl) (by first | exact Or.inl rfl | exact Or.inr (Or.inl rfl) | exact Or.inr (Or.inr rfl)) (by decide) (by decide)) (@pa_nil _) (by rfl)) (by decide) (by decide) (by rfl) (by rfl)) (@nomark _ _ (by decide) (by decide))))))), ?_⟩
  have hlen := hC.len
  refine ⟨_, rfl, _, _, _, true, rfl, .tup ha, kit_same "tuple", true, rfl, ?_⟩
  refine ⟨_, rfl, _, xs.length, rfl, .inr ⟨_, SqT.of ha, rfl⟩, _, _, rfl, rfl, _, rfl, ?_⟩
  refine ite2 (fun c => absurd (of_decide_eq_true c) (by rw [hlen]; omega)) (fun _ => ?_)
  refine ⟨_, rfl, a, rfl, ⟨_, SqT.of ha⟩, fun D hD => ?_⟩
  refine map_tup xs id (fun _ => .bl true) (by rw [List.map_id]; exact ha) (by omega) hD (fun z hz H' Q' s1 q' => ?_) (fun H' s1 hD' => ?_)
  · obtain ⟨i, hi⟩ := List.getElem?_of_mem hz
    have hil : i < xs.length := (List.getElem?_eq_some_iff.mp hi).1
    have hci : cs[i]? = some (cs.getD i ⟨"", 0, []⟩) := by simp [List.getD, show i < cs.length by omega]
    obtain ⟨t, u, e1, e2, e3⟩ := hC.get hci
    rw [hi] at e1
    cases e1
    exact ⟨_, rfl, _, rfl, t, u, m, _, rfl, s1 _ _ e2, s1 _ _ e3, m1, m9, hg _ (List.mem_of_getElem? hci), q'⟩
  rw [trues] at hD'
  refine ⟨D, _, rfl, SqL.of hD', _, rfl, ?_⟩
  rw [all_trues]
  have ha' := s1 _ _ ha
  refine ⟨_, rfl, a, rfl, ⟨_, SqT.of ha'⟩, fun D2 hD2 => ?_⟩
  have hCm : ∀ i, i < cs.length → ∃ t u, xs[i]? = some (.ref t) ∧ H t = some (.tup [.str (cs.getD i ⟨"", 0, []⟩).nm, .int (cs.getD i ⟨"", 0, []⟩).pl, .ref u]) := fun i hi => by
    obtain ⟨t, u, e1, e2, _⟩ := hC.get (i := i) (c := cs.getD i ⟨"", 0, []⟩) (by simp [List.getD, hi])
    exact ⟨t, u, e1, e2⟩
  refine comp_tup (xs := xs) (fun i ys H2 => Same H' H2 ∧ ys = ((cs.take i).map (·.nm)).map V.str) ⟨same_new hD2 _, rfl⟩ (fun i ys H2 hh _ => SqT.of (hh.1 _ _ ha')) ?_ ?_
  · rintro i ys H2 x hx ⟨s2, rfl⟩ hD2'
    have hi : i < xs.length := (List.getElem?_eq_some_iff.mp hx).1
    have hci : cs[i]? = some (cs.getD i ⟨"", 0, []⟩) := by simp [List.getD, show i < cs.length by omega]
    obtain ⟨t, u, e1, e2⟩ := hCm i (by omega)
    rw [hx] at e1
    cases e1
    refine yes ⟨_, rfl, .inr (.inl ⟨t, _, 0, _, rfl, rfl, SqT.of (s2 _ _ (s1 _ _ e2)), rfl, ?_⟩)⟩
    refine cyes hi rset1 hD2' (by rw [List.length_map, List.length_map, List.length_take]; exact small1000 (by omega)) ⟨fun b o qb => ?_, ?_⟩
    · rw [upd_ne (ne_of_none qb hD2)]
      exact s2 b o qb
    · rw [take_snoc hci, List.map_append, List.map_append]
      rfl
  · rintro ys H2 ⟨s2, rfl⟩ hD2'
    rw [hlen, List.take_length] at hD2'
    refine ⟨D2, cs.map (·.nm), rfl, SqL.of hD2', by rw [List.length_map]; omega, fun S hS => ?_⟩
    rw [dedK_nodup hnd]
    refine ⟨S, _, rfl, upd_same, ?_⟩
    refine ⟨_, rfl, _, xs.length, rfl, .inr ⟨_, SqT.of (show _ = some (HO.tup xs) by rw [upd_ne (ne_of_none (s2 _ _ ha') hS)]; exact s2 _ _ ha'), rfl⟩, rfl, ?_⟩
    rw [List.length_map, ← hlen]
    rw [show decide (V.int (xs.length : Int) = V.int (xs.length : Int)) = true from decide_eq_true rfl]
    refine q _ fun b o qb => ?_
    have h3 := s2 _ _ (s1 _ _ qb)
    rw [upd_ne (ne_of_none h3 hS)]
    exact h3

abbrev s_is_half : Stmt := top 8
theorem sc_is_half : FnScope ["thing", "many"] ["thing"] (defScope s_is_half) := ⟨rfl, rfl, rfl, by decide +kernel, rfl, by decide +kernel, by decide +kernel⟩
theorem ok_is_half {P : Program} {w : World} {K : PySem.W.Frag} {mg : Str → Option Value} {base : Heap} {f : Addr} {fd : FuncData} (F : Fun K "is_half" "is_half" s_is_half f fd) (gb : Gb mg) (d_is_whole : Def P w K mg base 1 "is_whole" ["thing"] spWhole) (d_are_rising_grades : Def P w K mg base 3 "are_rising_grades" ["thing", "many"] spRising) (d_are_connectives : Def P w K mg base 5 "are_connectives" ["thing", "many"] spConns) : FnOk P w K mg base CX0 6 f fd ["thing"] spIsHalf := by
  refine F.ok sc_is_half (fun vs H Q E h => ?_) (fun cdv A outer s H vs Q E hr h => ?_)
  · obtain ⟨v, T, rfl, _⟩ := h
    rfl
  obtain ⟨v, T, rfl, ⟨a, w1, c, xs, rfl, h1, h2, h3, h4⟩, g, q⟩ := h
  refine ⟨_, (@pss_cons _ _ _ _ _ (@ps_if _ _ _ _ _ _ _ _ (@PW.pt _ _ _ (@pw_or _ _ _ _ _ _ _ (@pt_not _ _ _ _ (@pt_val _ _ _ (@pe_callB _ _ _ _ _ _ _ _ _ (@kcall_isiT _ K (by rfl)) rfl gb.isinstance bt_isinstance (@pa_cons _ _ _ _ _ (@pv _ 0 _ _ (by rfl) (by first | exact Or.inl rfl | exact Or.inr (Or.inl rfl) | exact Or.inr (Or.inr rfl)) (by decide) (by decide)) (@pa_cons _ _ _ _ _ (@pe_bltn _ _ (.ty "tuple") _ _ rfl gb.tuple bt_tuple rfl (by decide) (by decide)) (@pa_nil _) (by rfl)) (by rfl)) (by decide) (by decide) (by rfl) (by rfl)) (by intro _; rfl))) (@pw_or1 _ _ _ _ (@pt_cmpR _ _ _ _ _ _ _ _ (@op_ne _) (@pe_callB _ _ _ _ _ _ _ _ _ (@kcall_len _ K (by rfl)) rfl gb.len bt_len (@pa_cons _ _ _ _ _ (@pv _ 0 _ _ (by rfl) (by first | exact Or.inl rfl | exact Or.inr (Or.inl rfl) | exact Or.inr (Or.inr rfl)) (by decide) (by decide)) (@pa_nil _) (by rfl)) (by decide) (by decide) (by rfl) (by rfl)) (@pe_int _ _ _ _) (@nomark _ _ (by decide) (by decide)))))) (@pss_one _ _ _ (@ps_ret _ _ _ _ (@pe_bl _ _ _ _))) (@pss_nil _)) (@pss_cons _ _ _ _ _ (@ps_set _ _ 1 _ _ _ _ sc_is_half.nd rfl (Or.inl rfl) (@pe_ix _ _ _ _ _ _ _ (@kix_seq _ K (by rfl)) (@pv _ 0 _ _ (by rfl) (by first | exact Or.inl rfl | exact Or.inr (Or.inl rfl) | exact Or.inr (Or.inr rfl)) (by decide) (by decide)) (@pe_int _ _ _ _) (fun _ _ => rfl)) (by rfl) (by first | exact .inl rfl | exact .inr rfl | assumption)) (@pss_cons _ _ _ _ _ (@ps_if _ _ _ _ _ _ _ _ (@PW.pt _ _ _ (@pw_or _ _ _ _ _ _ _ (@pt_not _ _ _ _ (@pt_val _ _ _ (@pe_def _ _ _ _ _ _ _ _ _ _ _ d_is_whole hr (by omega) rfl (@pa_cons _ _ _ _ _ (@pv _ 1 _ _ (by rfl) (by first | exact Or.inl rfl | exact Or.inr (Or.inl rfl) | exact Or.inr (Or.inr rfl)) (by decide) (by decide)) (@pa_nil _) (by rfl)) (by decide) (by rfl) (by rfl)) (by intro _; rfl))) (@pw_or1 _ _ _ _ (@pt_not _ _ _ _ (@pt_chain _ _ _ _ _ _ _ _ _ _ _ _ (@op_le _) (@op_le _) (@pe_int _ _ _ _) (@pv _ 1 _ _ (by rfl) (by first | exact Or.inl rfl | exact Or.inr (Or.inl rfl) | exact Or.inr (Or.inr rfl)) (by decide) (by decide)) (@pe_globR _ _ _ _ rfl gb.MOST_GRADES (by decide)) (by with_unfolding_all rfl)))))) (@pss_one _ _ _ (@ps_ret _ _ _ _ (@pe_bl _ _ _ _))) (@pss_nil _)) (@pss_one _ _ _ (@ps_ret _ _ _ _ (@pe_and _ _ _ _ _ _ _ (@pe_def _ _ _ _ _ _ _ _ _ _ _ d_are_rising_grades hr (by omega) rfl (@pa_cons _ _ _ _ _ (@pe_ix _ _ _ _ _ _ _ (@kix_seq _ K (by rfl)) (@pv _ 0 _ _ (by rfl) (by first | exact Or.inl rfl | exact Or.inr (Or.inl rfl) | exact Or.inr (Or.inr rfl)) (by decide) (by decide)) (@pe_int _ _ _ _) (fun _ _ => rfl)) (@pa_cons _ _ _ _ _ (@pv _ 1 _ _ (by rfl) (by first | exact Or.inl rfl | exact Or.inr (Or.inl rfl) | exact Or.inr (Or.inr rfl)) (by decide) (by decide)) (@pa_nil _) (by rfl)) (by rfl)) (by decide) (by rfl) (by rfl)) (@pe_one _ _ _ _ _ (@pe_def _ _ _ _ _ _ _ _ _ _ _ d_are_connectives hr (by omega) rfl (@pa_cons _ _ _ _ _ (@pe_ix _ _ _ _ _ _ _ (@kix_seq _ K (by rfl)) (@pv _ 0 _ _ (by rfl) (by first | exact Or.inl rfl | exact Or.inr (Or.inl rfl) | exact Or.inr (Or.inr rfl)) (by decide) (by decide)) (@pe_int _ _ _ _) (fun _ _ => rfl)) (@pa_cons _ _ _ _ _ (@pv _ 1 _ _ (by rfl) (by first | exact Or.inl rfl | exact Or.inr (Or.inl rfl) | exact Or.inr (Or.inr rfl)) (by decide) (by decide)) (@pa_nil _) (by rfl)) (by rfl)) (by decide) (by rfl) (by rfl))))))))), ?_⟩
  refine ⟨_, rfl, _, _, _, true, rfl, .tup h1, kit_same "tuple", true, rfl, ?_⟩
  refine ⟨_, rfl, _, 3, rfl, .inr ⟨_, SqT.of h1, rfl⟩, rfl, _, rfl, ?_⟩
  refine iteNS (c := V.int 3 = V.int 3) rfl ?_
  refine ⟨_, rfl, .inr (.inl ⟨a, _, 0, _, rfl, rfl, SqT.of h1, rfl, ?_⟩)⟩
  refine ⟨_, rfl, T.m, rfl, true, rfl, ?_⟩
  refine ⟨_, rfl, _, _, rfl, rfl, _, rfl, ?_⟩
  rw [if_pos (decide_eq_true g.m1)]
  refine ⟨_, _, rfl, rfl, _, rfl, ?_⟩
  rw [decide_eq_true g.m9]
  refine ⟨_, rfl, .inr (.inl ⟨a, _, 1, _, rfl, rfl, SqT.of h1, rfl, _, rfl, w1, T.m, T.ws, rfl, h2, g.ws, g.rising, g.wl, fun H1 s1 => ⟨true, rfl, iteT ?_⟩⟩)⟩
  have k1 := s1 _ _ h1
  exact ⟨_, rfl, .inr (.inl ⟨a, _, 2, _, rfl, rfl, SqT.of k1, rfl, _, rfl, c, T.m, T.cs, xs, rfl, s1 _ _ h3, h4.same s1, g.m1, g.m9, g.few, g.each, g.nd, fun H2 s2 => q _ fun b o qb => s2 _ _ (s1 _ _ qb)⟩)⟩

abbrev s_is_table : Stmt := top 9
theorem sc_is_table : FnScope ["thing"] ["thing"] (defScope s_is_table) := ⟨rfl, rfl, rfl, by decide +kernel, rfl, by decide +kernel, by decide +kernel⟩
theorem ok_is_table {P : Program} {w : World} {K : PySem.W.Frag} {mg : Str → Option Value} {base : Heap} {f : Addr} {fd : FuncData} (F : Fun K "is_table" "is_table" s_is_table f fd) (gb : Gb mg) (d_is_half : Def P w K mg base 6 "is_half" ["thing"] spIsHalf) (d_count_nones : Def P w K mg base 1 "count_nones" ["H"] spNones) : FnOk P w K mg base CX0 7 f fd ["thing"] spIsTable := by
  refine F.ok sc_is_table (fun vs H Q E h => ?_) (fun cdv A outer s H vs Q E hr h => ?_)
  · obtain ⟨v, T, rfl, _⟩ := h
    rfl
  obtain ⟨v, T, rfl, ih, g, fu⟩ := h
  refine ⟨_, (@pss_one _ _ _ (@ps_ret _ _ _ _ (@pe_and _ _ _ _ _ _ _ (@pe_def _ _ _ _ _ _ _ _ _ _ _ d_is_half hr (by omega) rfl (@pa_cons _ _ _ _ _ (@pv _ 0 _ _ (by rfl) (by first | exact Or.inl rfl | exact Or.inr (Or.inl rfl) | exact Or.inr (Or.inr rfl)) (by decide) (by decide)) (@pa_nil _) (by rfl)) (by decide) (by rfl) (by rfl)) (@pe_one _ _ _ _ _ (@pe_cmpR _ _ _ _ _ _ _ _ (@op_eq _) (@pe_def _ _ _ _ _ _ _ _ _ _ _ d_count_nones hr (by omega) rfl (@pa_cons _ _ _ _ _ (@pv _ 0 _ _ (by rfl) (by first | exact Or.inl rfl | exact Or.inr (Or.inl rfl) | exact Or.inr (Or.inr rfl)) (by decide) (by decide)) (@pa_nil _) (by rfl)) (by decide) (by rfl) (by rfl)) (@pe_int _ _ _ _) (@nomark _ _ (by decide) (by decide))))))), ?_⟩
  refine ⟨_, rfl, v, T, rfl, ih, g, fun H1 s1 => ⟨true, rfl, iteT ?_⟩⟩
  refine ⟨_, rfl, v, T, rfl, ih.same s1, good_fits g, fun H2 s2 => ⟨rfl, ?_⟩⟩
  have s12 : Same H H2 := fun b o qb => s2 _ _ (s1 _ _ qb)
  rcases fu with ⟨fu, q⟩ | ⟨hn, q⟩
  · have e : nones T = 0 := full_none fu
    rw [e]
    exact q _ s12
  · rw [show decide (V.int (nones T : Nat) = V.int 0) = false from decide_eq_false (fun z => hn (by injection z with z; omega))]
    exact q _ s12

abbrev s_part_text : Stmt := top 24
theorem sc_part_text : FnScope ["word", "numbers"] ["word", "numbers"] (defScope s_part_text) := ⟨rfl, rfl, rfl, by decide +kernel, rfl, by decide +kernel, by decide +kernel⟩
theorem ok_part_text {P : Program} {w : World} {K : PySem.W.Frag} {mg : Str → Option Value} {base : Heap} {f : Addr} {fd : FuncData} (F : Fun K "part_text" "part_text" s_part_text f fd) (gb : Gb mg) : FnOk P w K mg base CX0 1 f fd ["word", "numbers"] spPart := by
  refine F.ok sc_part_text (fun vs H Q E h => ?_) (fun cdv A outer s H vs Q E hr h => ?_)
  · obtain ⟨w, a, ns, rfl, _⟩ := h
    rfl
  obtain ⟨w, a, ns, rfl, ha, hw, hf, hl, q⟩ := h
  have nd0 : (["number"] : List Str).Nodup := by decide +kernel
  refine ⟨_, (@pss_one _ _ _ (@ps_ret _ _ _ _ (@kpe_bm _ K _ _ _ _ _ _ _ _ _ _ _ PySem.F.plainAttrs_str PySem.F.slot_str_join PySem.F.type_str_join (@kmt_join _ K (by rfl)) (@pe_str _ _ _ _) (@pa_cons _ _ _ _ _ (@pe_op _ _ _ _ _ _ _ _ (@op_cat _) (@pe_lst _ _ _ _ (@pa_cons _ _ _ _ _ (@pv _ 0 _ _ (by rfl) (by first | exact Or.inl rfl | exact Or.inr (Or.inl rfl) | exact Or.inr (Or.inr rfl)) (by decide) (by decide)) (@pa_nil _) (by rfl))) (@pe_comp _ ["number"] [none] _ _ _ _ _ _ _ _ _ _ (by exact (show CompOk ["word", "numbers"] (defScope s_part_text) ["number"] [none] _ from ⟨rfl, by decide +kernel, by decide +kernel, by decide +kernel, by decide +kernel, rfl, by decide +kernel⟩)) rfl (@kpi_tup _ K _ _ _ (@pv _ 1 _ _ (by rfl) (by first | exact Or.inl rfl | exact Or.inr (Or.inl rfl) | exact Or.inr (Or.inr rfl)) (by decide) (by decide)) (by rfl)) (fun _ _ _ _ => (@pg_name _ _ 0 _ nd0 rfl (Or.inl rfl) (by first | exact .inl rfl | exact .inr rfl | assumption))) (fun _ _ _ _ => (@pf_nil _)) (fun _ _ _ _ => (@pe_callTy _ _ _ _ _ _ _ _ _ (@call_str_int _) rfl gb.str bt_str (@pa_cons _ _ _ _ _ (@pv _ 0 _ _ (by rfl) (by first | exact Or.inl rfl | exact Or.inr (Or.inl rfl) | exact Or.inr (Or.inr rfl)) (by decide) (by decide)) (@pa_nil _) (by rfl)) (by decide) (by decide) (by rfl) (by rfl))) (by intro _; rfl))) (@pa_nil _) (by rfl)) (by rfl) (by rfl) (by rfl) (by rfl) (by rfl) (by rfl)))), ?_⟩
  refine ⟨rfl, ?_⟩
  refine ⟨_, rfl, small9 (by show 1 ≤ 1000; decide), fun g hg => ?_⟩
  have hag := ne_of_none ha hg
  refine ⟨_, rfl, a, rfl, ⟨_, SqT.of (by rw [upd_ne hag]; exact ha)⟩, fun D hD => ?_⟩
  have hgD : g ≠ D := fun z => by rw [← z, upd_same] at hD; cases hD
  refine map_tup ns V.int (fun i => V.str (fig i)) (by rw [upd_ne hag]; exact ha) (by omega) hD (fun z hz H' Q' s1 q' => ?_) (fun H' s1 hD' => ?_)
  · refine ⟨_, rfl, z, rfl, ?_, q' _ Same.rfl'⟩
    obtain ⟨z0, z9⟩ := hf z hz
    have h9 : z.natAbs < 2 ^ 4 := by omega
    have := Nat.log2_lt (n := z.natAbs) (k := 4)
    by_cases hz0 : z.natAbs = 0
    · rw [hz0]; decide
    · have := (this hz0).mpr h9
      omega
  · refine ⟨g, D, _, _, rfl, rfl, s1 _ _ upd_same, hD', by rw [List.length_map]; exact small9 (by show 1 + ns.length ≤ 1000; omega), fun e he => ?_⟩
    have e2 : ([V.str w] ++ ns.map (fun i => V.str (fig i)) : List V) = (L4.wordsOf w ns).map V.str := by
      unfold L4.wordsOf
      rw [List.map_cons, List.map_map]
      rfl
    rw [e2]
    refine ⟨sp1, e, L4.wordsOf w ns, rfl, rfl, SqL.of upd_same, ?_, ?_⟩
    · have := (part_len hw hf hl).1
      omega
    · refine q _ fun b o qb => ?_
      have h3 := s1 _ _ (show (upd H g (.lst [.str w])) b = some o by rw [upd_ne (ne_of_none qb hg)]; exact qb)
      rw [upd_ne (ne_of_none h3 he)]
      exact h3

abbrev s_show_table : Stmt := top 23
theorem sc_show_table : FnScope ["T", "parts", "name", "places", "cells"] ["T"] (defScope s_show_table) := ⟨rfl, rfl, rfl, by decide +kernel, rfl, by decide +kernel, by decide +kernel⟩
theorem ok_show_table {P : Program} {w : World} {K : PySem.W.Frag} {mg : Str → Option Value} {base : Heap} {f : Addr} {fd : FuncData} (F : Fun K "show_table" "show_table" s_show_table f fd) (gb : Gb mg) (d_part_text : Def P w K mg base 1 "part_text" ["word", "numbers"] spPart) : FnOk P w K mg base CX0 2 f fd ["T"] spShow := by
  refine F.ok sc_show_table (fun vs H Q E h => ?_) (fun cdv A outer s H vs Q E hr h => ?_)
  · obtain ⟨v, T, rfl, _⟩ := h
    rfl
  obtain ⟨v, T, rfl, ⟨a, w1, c, xs, rfl, h1, h2, h3, h4⟩, g, fu, q⟩ := h
  refine ⟨_, (@pss_cons _ _ _ _ _ (@ps_set _ _ 1 _ _ _ _ sc_show_table.nd rfl (Or.inl rfl) (@pe_lst _ _ _ _ (@pa_cons _ _ _ _ _ (@pe_def _ _ _ _ _ _ _ _ _ _ _ d_part_text hr (by omega) rfl (@pa_cons _ _ _ _ _ (@pe_str _ _ _ _) (@pa_cons _ _ _ _ _ (@pe_tup _ _ _ _ _ (@pa_cons _ _ _ _ _ (@pe_ix _ _ _ _ _ _ _ (@kix_seq _ K (by rfl)) (@pv _ 0 _ _ (by rfl) (by first | exact Or.inl rfl | exact Or.inr (Or.inl rfl) | exact Or.inr (Or.inr rfl)) (by decide) (by decide)) (@pe_int _ _ _ _) (fun _ _ => rfl)) (@pa_nil _) (by rfl))) (@pa_nil _) (by rfl)) (by rfl)) (by decide) (by rfl) (by rfl)) (@pa_cons _ _ _ _ _ (@pe_def _ _ _ _ _ _ _ _ _ _ _ d_part_text hr (by omega) rfl (@pa_cons _ _ _ _ _ (@pe_str _ _ _ _) (@pa_cons _ _ _ _ _ (@pe_ix _ _ _ _ _ _ _ (@kix_seq _ K (by rfl)) (@pv _ 0 _ _ (by rfl) (by first | exact Or.inl rfl | exact Or.inr (Or.inl rfl) | exact Or.inr (Or.inr rfl)) (by decide) (by decide)) (@pe_int _ _ _ _) (fun _ _ => rfl)) (@pa_nil _) (by rfl)) (by rfl)) (by decide) (by rfl) (by rfl)) (@pa_nil _) (by rfl)) (by rfl))) (by rfl) (by first | exact .inl rfl | exact .inr rfl | assumption)) (@pss_cons _ _ _ _ _ (@ps_for _ _ _ _ _ _ _ _ PassesOwn.never rfl (@kpi_tup _ K _ _ _ (@pe_ix _ _ _ _ _ _ _ (@kix_seq _ K (by rfl)) (@pv _ 0 _ _ (by rfl) (by first | exact Or.inl rfl | exact Or.inr (Or.inl rfl) | exact Or.inr (Or.inr rfl)) (by decide) (by decide)) (@pe_int _ _ _ _) (fun _ _ => rfl)) (by rfl)) (@kpg_tup _ K _ _ _ _ 3 rfl (@pgs_cons _ _ _ _ _ (@pg_name _ _ 2 _ sc_show_table.nd rfl (Or.inl rfl) (by first | exact .inl rfl | exact .inr rfl | assumption)) (@pgs_cons _ _ _ _ _ (@pg_name _ _ 3 _ sc_show_table.nd rfl (Or.inl rfl) (by first | exact .inl rfl | exact .inr rfl | assumption)) (@pgs_cons _ _ _ _ _ (@pg_name _ _ 4 _ sc_show_table.nd rfl (Or.inl rfl) (by first | exact .inl rfl | exact .inr rfl | assumption)) (@pgs_nil _) (by rfl)) (by rfl)) (by rfl)) (by rfl) (by rfl) (by rfl)) (@pss_one _ _ _ (@ps_expr _ _ _ _ (@kpe_bm _ K _ _ _ _ _ _ _ _ _ _ _ PySem.F.plainAttrs_list PySem.F.slot_list_append PySem.F.type_list_append (@mt_append _) (@pv _ 1 _ _ (by rfl) (by first | exact Or.inl rfl | exact Or.inr (Or.inl rfl) | exact Or.inr (Or.inr rfl)) (by decide) (by decide)) (@pa_cons _ _ _ _ _ (@pe_def _ _ _ _ _ _ _ _ _ _ _ d_part_text hr (by omega) rfl (@pa_cons _ _ _ _ _ (@pv _ 2 _ _ (by rfl) (by first | exact Or.inl rfl | exact Or.inr (Or.inl rfl) | exact Or.inr (Or.inr rfl)) (by decide) (by decide)) (@pa_cons _ _ _ _ _ (@pe_op _ _ _ _ _ _ _ _ (@kop_catT _ K (by rfl)) (@pe_tup _ _ _ _ _ (@pa_cons _ _ _ _ _ (@pv _ 3 _ _ (by rfl) (by first | exact Or.inl rfl | exact Or.inr (Or.inl rfl) | exact Or.inr (Or.inr rfl)) (by decide) (by decide)) (@pa_nil _) (by rfl))) (@pv _ 4 _ _ (by rfl) (by first | exact Or.inl rfl | exact Or.inr (Or.inl rfl) | exact Or.inr (Or.inr rfl)) (by decide) (by decide))) (@pa_nil _) (by rfl)) (by rfl)) (by decide) (by rfl) (by rfl)) (@pa_nil _) (by rfl)) (by rfl) (by rfl) (by rfl) (by rfl) (by rfl) (by rfl)) (by rfl))) (by intro _; rfl)) (@pss_one _ _ _ (@ps_ret _ _ _ _ (@kpe_bm _ K _ _ _ _ _ _ _ _ _ _ _ PySem.F.plainAttrs_str PySem.F.slot_str_join PySem.F.type_str_join (@kmt_join _ K (by rfl)) (@pe_str _ _ _ _) (@pa_cons _ _ _ _ _ (@pv _ 1 _ _ (by rfl) (by first | exact Or.inl rfl | exact Or.inr (Or.inl rfl) | exact Or.inr (Or.inr rfl)) (by decide) (by decide)) (@pa_nil _) (by rfl)) (by rfl) (by rfl) (by rfl) (by rfl) (by rfl) (by rfl)))))), ?_⟩
  have fm : ∀ i ∈ [T.m], Fig i := fun i hi => by
    rw [List.mem_singleton.mp hi]
    exact ⟨by have := g.m1; omega, g.m9⟩
  have fw : ∀ i ∈ T.ws, Fig i := fun i hi => by
    have k1 := g.ws i hi
    have k2 := g.m9
    exact ⟨k1.1, by omega⟩
  refine ⟨_, rfl, .inr (.inl ⟨a, _, 0, _, rfl, rfl, SqT.of h1, rfl, small9 (by show 1 ≤ 1000; decide), fun p hp => ?_⟩)⟩
  refine ⟨_, p, [T.m], rfl, upd_same, name_words.1, fm, by show 1 ≤ 82; decide, fun H1 s1 => ?_⟩
  have s01 : Same H H1 := fun b o qb => s1 _ _ (by rw [upd_ne (ne_of_none qb hp)]; exact qb)
  refine ⟨_, rfl, .inr (.inl ⟨a, _, 1, _, rfl, rfl, SqT.of (s01 _ _ h1), rfl, _, w1, T.ws, rfl, s01 _ _ h2, name_words.2, fw, by have := g.wl; omega, fun H2 s2 => ?_⟩)⟩
  have s02 : Same H H2 := fun b o qb => s2 _ _ (s01 _ _ qb)
  refine ⟨small9 (by show 2 ≤ 1000; decide), fun l hl => ?_⟩
  have s03 : Same H (upd H2 l (.lst [.str (partOf (Str.ofString "grades") [T.m]), .str (partOf (Str.ofString "wished") T.ws)])) := fun b o qb => same_new hl _ _ _ (s02 _ _ qb)
  have hl0 : H l = none := by
    cases e : H l with
    | none => rfl
    | some o => rw [s02 _ _ e] at hl; cases hl
  have hlen := h4.len
  refine ⟨_, rfl, .inr (.inl ⟨a, _, 2, _, rfl, rfl, SqT.of (s03 _ _ h1), rfl, c, rfl, ⟨_, SqT.of (s03 _ _ h3)⟩, ?_⟩)⟩
  refine for_tup (xs := xs) (fun j σ H' => ∃ x2 x3 x4 : Option V, σ = [some (.ref a), some (.ref l), x2, x3, x4] ∧ Same H H' ∧ H' l = some (.lst ((partOf (Str.ofString "grades") [T.m] :: partOf (Str.ofString "wished") T.ws :: (T.cs.take j).map partC).map V.str))) ⟨none, none, none, rfl, s03, upd_same⟩ (fun j σ H' _ hh => by obtain ⟨_, _, _, _, ss, _⟩ := hh; exact SqT.of (ss _ _ h3)) ?_ ?_
  · rintro j x σ H' hxj ⟨x2, x3, x4, rfl, ss, hl'⟩
    have hj : j < xs.length := (List.getElem?_eq_some_iff.mp hxj).1
    have hcj : T.cs[j]? = some (T.cs.getD j ⟨"", 0, []⟩) := by simp [List.getD, show j < T.cs.length by omega]
    generalize hcn : T.cs.getD j ⟨"", 0, []⟩ = cn at hcj
    obtain ⟨t, uu, e1, e2, e3⟩ := h4.get hcj
    rw [hxj] at e1
    cases e1
    have gc := g.each cn (List.mem_of_getElem? hcj)
    have fu' := fu cn (List.mem_of_getElem? hcj)
    obtain ⟨fg, gl⟩ := conn_figs g.m1 g.m9 gc
    refine ⟨t, _, rfl, SqT.of (ss _ _ e2), rfl, _, _, rfl, _, _, rfl, _, _, rfl, rfl, ?_⟩
    refine ⟨_, rfl, .inl ⟨rfl, _, SqL.of hl'⟩, _, rfl, _, rfl, small9 (by show 1 ≤ 1000; decide), fun p2 hp2 => ?_⟩
    have fin : ∀ (p3 : Addr) (H3 : Hp), Same H' H3 → H3 p3 = some (.tup ((cn.pl :: gsOf cn).map V.int)) → spPart [.str cn.nm, .ref p3] H3 (fun v H4 => rAppend (.ref l) [v] H4 fun _ H5 => ∃ x2 x3 x4 : Option V, [some (V.ref a), some (.ref l), some (.str cn.nm), some (.int cn.pl), some (.ref uu)] = [some (.ref a), some (.ref l), x2, x3, x4] ∧ Same H H5 ∧ H5 l = some (.lst ((partOf (Str.ofString "grades") [T.m] :: partOf (Str.ofString "wished") T.ws :: (T.cs.take (j + 1)).map partC).map V.str))) E0 := fun p3 H3 s3 hp3 => by
      refine ⟨_, p3, cn.pl :: gsOf cn, rfl, hp3, gc.nm, ?_, by rw [List.length_cons]; omega, fun H4 s4 => ?_⟩
      · intro i hi
        rcases List.mem_cons.mp hi with rfl | hi
        · exact ⟨gc.p0, by have := gc.p2; omega⟩
        · exact fg i hi
      · have hl4 := s4 _ _ (s3 _ _ hl')
        refine ⟨l, _, _, rfl, rfl, hl4, ?_, _, _, _, rfl, fun b o qb => ?_, ?_⟩
        · rw [List.length_map, List.length_cons, List.length_cons, List.length_map, List.length_take]
          exact small1000 (by have := g.few; omega)
        · rw [upd_ne (ne_of_none qb hl0)]
          exact s4 _ _ (s3 _ _ (ss _ _ qb))
        · rw [upd_same, take_snoc hcj]
          simp [partC]
    have ef : (gsOf cn).map V.int = cn.cs.map cellV := (full_cells fu').symm
    have u2 : (upd H' p2 (.tup [.int cn.pl])) uu = some (.tup (cn.cs.map cellV)) := by rw [upd_ne (ne_of_none (ss _ _ e3) hp2)]; exact ss _ _ e3
    refine ⟨_, rfl, p2, uu, _, _, rfl, rfl, SqT.of upd_same, SqT.of u2, by simp, ?_, fun em => ?_, fun em p4 hp4 => ?_⟩
    · rw [← ef, List.length_map]
      exact small9 (by show 1 + (gsOf cn).length ≤ 1000; omega)
    · refine fin p2 _ (same_new hp2 _) ?_
      rw [upd_same, List.map_cons, ef, em]
    · refine fin p4 _ (fun b o qb => ?_) ?_
      · have := same_new hp2 (.tup [.int cn.pl]) _ _ qb
        rw [upd_ne (ne_of_none this hp4)]
        exact this
      · rw [upd_same, List.map_cons, ef]
        rfl
  · rintro σ H' ⟨x2, x3, x4, rfl, ss, hl'⟩
    rw [hlen, List.take_length, ← parts_eq] at hl'
    refine ⟨rfl, _, rfl, sp2, l, partsT T, rfl, rfl, SqL.of hl', ?_, q _ ss⟩
    have := (text_len g).1
    omega

abbrev s_number_of : Stmt := top 29
theorem sc_number_of : FnScope ["word"] ["word"] (defScope s_number_of) := ⟨rfl, rfl, rfl, by decide +kernel, rfl, by decide +kernel, by decide +kernel⟩
theorem ok_number_of {P : Program} {w : World} {K : PySem.W.Frag} {mg : Str → Option Value} {base : Heap} {f : Addr} {fd : FuncData} (F : Fun K "number_of" "number_of" s_number_of f fd) (gb : Gb mg) : FnOk P w K mg base CX0 1 f fd ["word"] spNumber := by
  refine F.ok sc_number_of (fun vs H Q E h => ?_) (fun cdv A outer s H vs Q E hr h => ?_)
  · obtain ⟨i, rfl, _⟩ := h
    rfl
  obtain ⟨i, rfl, hi, q⟩ := h
  refine ⟨_, (@pss_one _ _ _ (@ps_ret _ _ _ _ (@pe_ifExp _ _ _ _ _ _ _ _ (@pt_cmpR _ _ _ _ _ _ _ _ (@op_eq _) (@pe_callB _ _ _ _ _ _ _ _ _ (@kcall_len _ K (by rfl)) rfl gb.len bt_len (@pa_cons _ _ _ _ _ (@pv _ 0 _ _ (by rfl) (by first | exact Or.inl rfl | exact Or.inr (Or.inl rfl) | exact Or.inr (Or.inr rfl)) (by decide) (by decide)) (@pa_nil _) (by rfl)) (by decide) (by decide) (by rfl) (by rfl)) (@pe_int _ _ _ _) (@nomark _ _ (by decide) (by decide))) (@kpe_bm _ K _ _ _ _ _ _ _ _ _ _ _ PySem.F.plainAttrs_str PySem.F.slot_str_find PySem.F.type_str_find (@mt_find _) (@pe_globR _ _ _ _ rfl gb.FIGURES (by decide)) (@pa_cons _ _ _ _ _ (@pv _ 0 _ _ (by rfl) (by first | exact Or.inl rfl | exact Or.inr (Or.inl rfl) | exact Or.inr (Or.inr rfl)) (by decide) (by decide)) (@pa_nil _) (by rfl)) (by rfl) (by rfl) (by rfl) (by rfl) (by rfl) (by rfl)) (@pe_un _ _ _ _ _ _ (@un_neg _) (@pe_int _ _ _ _))))), ?_⟩
  obtain ⟨f1, f2, f3, f4⟩ := fig_is hi.1 hi.2
  refine ⟨_, rfl, _, 1, rfl, ⟨small9 (by omega), f1.symm⟩, rfl, _, rfl, ?_⟩
  refine iteT ?_
  refine ⟨rfl, _, rfl, _, _, rfl, rfl, ?_⟩
  rw [f4]
  exact q

abbrev s_numbers_of : Stmt := top 28
theorem sc_numbers_of : FnScope ["words"] ["words"] (defScope s_numbers_of) := ⟨rfl, rfl, rfl, by decide +kernel, rfl, by decide +kernel, by decide +kernel⟩
theorem ok_numbers_of {P : Program} {w : World} {K : PySem.W.Frag} {mg : Str → Option Value} {base : Heap} {f : Addr} {fd : FuncData} (F : Fun K "numbers_of" "numbers_of" s_numbers_of f fd) (gb : Gb mg) (d_number_of : Def P w K mg base 1 "number_of" ["word"] spNumber) : FnOk P w K mg base CX0 2 f fd ["words"] spNumbers := by
  refine F.ok sc_numbers_of (fun vs H Q E h => ?_) (fun cdv A outer s H vs Q E hr h => ?_)
  · obtain ⟨l, ns, rfl, _⟩ := h
    rfl
  obtain ⟨l, ns, rfl, hl, hf, h82, q⟩ := h
  have nd0 : (["word"] : List Str).Nodup := by decide +kernel
  refine ⟨_, (@pss_one _ _ _ (@ps_ret _ _ _ _ (@pe_comp _ ["word"] [none] _ _ _ _ _ _ _ _ _ _ (by exact (show CompOk ["words"] (defScope s_numbers_of) ["word"] [none] _ from ⟨rfl, by decide +kernel, by decide +kernel, by decide +kernel, by decide +kernel, rfl, by decide +kernel⟩)) rfl (@kpi_list _ K _ _ _ (@pv _ 0 _ _ (by rfl) (by first | exact Or.inl rfl | exact Or.inr (Or.inl rfl) | exact Or.inr (Or.inr rfl)) (by decide) (by decide)) (by rfl)) (fun _ _ _ _ => (@pg_name _ _ 0 _ nd0 rfl (Or.inl rfl) (by first | exact .inl rfl | exact .inr rfl | assumption))) (fun _ _ _ _ => (@pf_nil _)) (fun _ _ _ _ => (@pe_def _ _ _ _ _ _ _ _ _ _ _ d_number_of hr (by omega) rfl (@pa_cons _ _ _ _ _ (@pv _ 0 _ _ (by rfl) (by first | exact Or.inl rfl | exact Or.inr (Or.inl rfl) | exact Or.inr (Or.inr rfl)) (by decide) (by decide)) (@pa_nil _) (by rfl)) (by decide) (by rfl) (by rfl))) (by intro _; rfl)))), ?_⟩
  refine ⟨_, rfl, l, rfl, ⟨_, SqL.of hl⟩, fun D hD => ?_⟩
  refine map_list ns (fun i => V.str (fig i)) V.int (by rw [List.map_map] at hl; exact hl) (by omega) hD (fun z hz H' Q' s1 q' => ?_) (fun H' s1 hD' => q H' D s1 hD')
  exact ⟨_, rfl, z, rfl, hf z hz, q' _ Same.rfl'⟩

abbrev s_connective_of : Stmt := top 27
theorem sc_connective_of : FnScope ["words"] ["words"] (defScope s_connective_of) := ⟨rfl, rfl, rfl, by decide +kernel, rfl, by decide +kernel, by decide +kernel⟩
theorem ok_connective_of {P : Program} {w : World} {K : PySem.W.Frag} {mg : Str → Option Value} {base : Heap} {f : Addr} {fd : FuncData} (F : Fun K "connective_of" "connective_of" s_connective_of f fd) (gb : Gb mg) (d_number_of : Def P w K mg base 1 "number_of" ["word"] spNumber) (d_numbers_of : Def P w K mg base 2 "numbers_of" ["words"] spNumbers) : FnOk P w K mg base CX0 3 f fd ["words"] spConnOf := by
  refine F.ok sc_connective_of (fun vs H Q E h => ?_) (fun cdv A outer s H vs Q E hr h => ?_)
  · obtain ⟨l, m, c, rfl, _⟩ := h
    rfl
  obtain ⟨l, m, c, rfl, hl, m1, m9, gc, fu, q⟩ := h
  refine ⟨_, (@pss_cons _ _ _ _ _ (@ps_if _ _ _ _ _ _ _ _ (@pt_cmpR _ _ _ _ _ _ _ _ (@op_lt _) (@pe_callB _ _ _ _ _ _ _ _ _ (@kcall_len _ K (by rfl)) rfl gb.len bt_len (@pa_cons _ _ _ _ _ (@pv _ 0 _ _ (by rfl) (by first | exact Or.inl rfl | exact Or.inr (Or.inl rfl) | exact Or.inr (Or.inr rfl)) (by decide) (by decide)) (@pa_nil _) (by rfl)) (by decide) (by decide) (by rfl) (by rfl)) (@pe_int _ _ _ _) (@nomark _ _ (by decide) (by decide))) (@pss_one _ _ _ (@ps_ret _ _ _ _ (@pe_non _ _ _))) (@pss_nil _)) (@pss_one _ _ _ (@ps_ret _ _ _ _ (@pe_tup _ _ _ _ _ (@pa_cons _ _ _ _ _ (@pe_ix _ _ _ _ _ _ _ (@kix_seq _ K (by rfl)) (@pv _ 0 _ _ (by rfl) (by first | exact Or.inl rfl | exact Or.inr (Or.inl rfl) | exact Or.inr (Or.inr rfl)) (by decide) (by decide)) (@pe_int _ _ _ _) (fun _ _ => rfl)) (@pa_cons _ _ _ _ _ (@pe_def _ _ _ _ _ _ _ _ _ _ _ d_number_of hr (by omega) rfl (@pa_cons _ _ _ _ _ (@pe_ix _ _ _ _ _ _ _ (@kix_seq _ K (by rfl)) (@pv _ 0 _ _ (by rfl) (by first | exact Or.inl rfl | exact Or.inr (Or.inl rfl) | exact Or.inr (Or.inr rfl)) (by decide) (by decide)) (@pe_int _ _ _ _) (fun _ _ => rfl)) (@pa_nil _) (by rfl)) (by decide) (by rfl) (by rfl)) (@pa_cons _ _ _ _ _ (@pe_callTy _ _ _ _ _ _ _ _ _ (@kcall_tuple_of _ K (by rfl)) rfl gb.tuple bt_tuple (@pa_cons _ _ _ _ _ (@pe_def _ _ _ _ _ _ _ _ _ _ _ d_numbers_of hr (by omega) rfl (@pa_cons _ _ _ _ _ (@pe_slice _ _ _ _ _ _ _ _ _ _ (@ksl_any _ K (by rfl)) (@pv _ 0 _ _ (by rfl) (by first | exact Or.inl rfl | exact Or.inr (Or.inl rfl) | exact Or.inr (Or.inr rfl)) (by decide) (by decide)) (@po_some _ _ _ (@pe_int _ _ _ _)) (@po_none _)) (@pa_nil _) (by rfl)) (by decide) (by rfl) (by rfl)) (@pa_nil _) (by rfl)) (by decide) (by decide) (by rfl) (by rfl)) (@pa_nil _) (by rfl)) (by rfl)) (by rfl)))))), ?_⟩
  have hw2 : (wordsC c).map V.str = .str c.nm :: .str (fig c.pl) :: ((gsOf c).map fig).map V.str := rfl
  rw [hw2] at hl
  have hgl : (gsOf c).length ≤ 81 := by
    have h1 := gc.len
    have h2 := pow81 (p := c.pl.toNat) m1 m9 (by have := gc.p2; omega)
    unfold gsOf
    rw [List.length_map]
    omega
  have hfg : ∀ i ∈ gsOf c, Fig i := fun i hi => by
    obtain ⟨o, ho, rfl⟩ := List.mem_map.mp hi
    have k := gc.cells o ho
    cases o with
    | none => exact ⟨by decide, by decide⟩
    | some j => have := k j rfl; exact ⟨this.1, by show j ≤ 9; omega⟩
  refine ⟨_, rfl, _, _, rfl, .inl ⟨_, SqL.of hl, rfl⟩, _, _, rfl, rfl, _, rfl, ?_⟩
  refine ite2 (fun z => absurd (of_decide_eq_true z) (by rw [List.length_cons, List.length_cons]; omega)) (fun _ => ?_)
  refine ⟨_, rfl, .inl ⟨l, _, 0, _, rfl, rfl, SqL.of hl, atI_nat (j := 0) rfl, ?_⟩⟩
  refine ⟨_, rfl, .inl ⟨l, _, 1, _, rfl, rfl, SqL.of hl, atI_nat (j := 1) rfl, c.pl, rfl, ⟨gc.p0, by have := gc.p2; omega⟩, ?_⟩⟩
  refine ⟨_, rfl, 2, rfl, .inl ⟨l, _, rfl, SqL.of hl, fun k hk => ?_⟩⟩
  have ec : cutV (.str c.nm :: .str (fig c.pl) :: ((gsOf c).map fig).map V.str) (some 2) none = ((gsOf c).map fig).map V.str := by
    have h1 := HT.sIx_nat (V.str c.nm :: V.str (fig c.pl) :: ((gsOf c).map fig).map V.str).length 0 2
    rw [show ((2 : Nat) : Int) = 2 from rfl] at h1
    unfold cutV
    rw [h1, HT.sIx_none, List.length_cons, List.length_cons]
    generalize ((gsOf c).map fig).map V.str = zs
    rw [show min 2 (zs.length + 1 + 1) = 2 by omega]
    show zs.take _ = _
    exact List.take_of_length_le (by omega)
  rw [ec]
  refine ⟨k, gsOf c, rfl, upd_same, hfg, by omega, fun H1 k1 s1 hk1 => ?_⟩
  refine ⟨k1, _, rfl, .inl ⟨SqL.of hk1, fun u hu => ?_⟩⟩
  refine ⟨small9 (by show 3 ≤ 1000; decide), fun t ht => ?_⟩
  have ef : (gsOf c).map V.int = c.cs.map cellV := (full_cells fu).symm
  refine q _ t u (fun b o qb => ?_) upd_same ?_
  · have h2 := s1 _ _ (show (upd H k (.lst (((gsOf c).map fig).map V.str))) b = some o by rw [upd_ne (ne_of_none qb hk)]; exact qb)
    have h3 : (upd H1 u (.tup ((gsOf c).map V.int))) b = some o := by rw [upd_ne (ne_of_none h2 hu)]; exact h2
    rw [upd_ne (ne_of_none h3 ht)]
    exact h3
  · have h3 : (upd H1 u (.tup ((gsOf c).map V.int))) u = some (.tup (c.cs.map cellV)) := by rw [upd_same, ef]
    rw [upd_ne (ne_of_none h3 ht)]
    exact h3

abbrev s_table_of : Stmt := top 26
theorem sc_table_of : FnScope ["parts", "connectives"] ["parts"] (defScope s_table_of) := ⟨rfl, rfl, rfl, by decide +kernel, rfl, by decide +kernel, by decide +kernel⟩
theorem ok_table_of {P : Program} {w : World} {K : PySem.W.Frag} {mg : Str → Option Value} {base : Heap} {f : Addr} {fd : FuncData} (F : Fun K "table_of" "table_of" s_table_of f fd) (gb : Gb mg) (d_number_of : Def P w K mg base 1 "number_of" ["word"] spNumber) (d_numbers_of : Def P w K mg base 2 "numbers_of" ["words"] spNumbers) (d_connective_of : Def P w K mg base 3 "connective_of" ["words"] spConnOf) : FnOk P w K mg base CX0 4 f fd ["parts"] spTableOf := by
  refine F.ok sc_table_of (fun vs H Q E h => ?_) (fun cdv A outer s H vs Q E hr h => ?_)
  · obtain ⟨l, xs, T, rfl, _⟩ := h
    rfl
  obtain ⟨l, xs, T, rfl, hl, hW, g, fu, q⟩ := h
  have nd0 : (["words"] : List Str).Nodup := by decide +kernel
  refine ⟨_, (@pss_cons _ _ _ _ _ (@ps_if _ _ _ _ _ _ _ _ (@PW.pt _ _ _ (@pw_or _ _ _ _ _ _ _ (@pt_cmpR _ _ _ _ _ _ _ _ (@op_lt _) (@pe_callB _ _ _ _ _ _ _ _ _ (@kcall_len _ K (by rfl)) rfl gb.len bt_len (@pa_cons _ _ _ _ _ (@pv _ 0 _ _ (by rfl) (by first | exact Or.inl rfl | exact Or.inr (Or.inl rfl) | exact Or.inr (Or.inr rfl)) (by decide) (by decide)) (@pa_nil _) (by rfl)) (by decide) (by decide) (by rfl) (by rfl)) (@pe_int _ _ _ _) (@nomark _ _ (by decide) (by decide))) (@pw_or1 _ _ _ _ (@pt_cmpR _ _ _ _ _ _ _ _ (@op_ne _) (@pe_callB _ _ _ _ _ _ _ _ _ (@kcall_len _ K (by rfl)) rfl gb.len bt_len (@pa_cons _ _ _ _ _ (@pe_ix _ _ _ _ _ _ _ (@kix_seq _ K (by rfl)) (@pv _ 0 _ _ (by rfl) (by first | exact Or.inl rfl | exact Or.inr (Or.inl rfl) | exact Or.inr (Or.inr rfl)) (by decide) (by decide)) (@pe_int _ _ _ _) (fun _ _ => rfl)) (@pa_nil _) (by rfl)) (by decide) (by decide) (by rfl) (by rfl)) (@pe_int _ _ _ _) (@nomark _ _ (by decide) (by decide)))))) (@pss_one _ _ _ (@ps_ret _ _ _ _ (@pe_non _ _ _))) (@pss_nil _)) (@pss_cons _ _ _ _ _ (@ps_if _ _ _ _ _ _ _ _ (@PW.pt _ _ _ (@pw_or _ _ _ _ _ _ _ (@pt_cmpR _ _ _ _ _ _ _ _ (@op_ne _) (@pe_ix _ _ _ _ _ _ _ (@kix_seq _ K (by rfl)) (@pe_ix _ _ _ _ _ _ _ (@kix_seq _ K (by rfl)) (@pv _ 0 _ _ (by rfl) (by first | exact Or.inl rfl | exact Or.inr (Or.inl rfl) | exact Or.inr (Or.inr rfl)) (by decide) (by decide)) (@pe_int _ _ _ _) (fun _ _ => rfl)) (@pe_int _ _ _ _) (fun _ _ => rfl)) (@pe_str _ _ _ _) (@nomark _ _ (by decide) (by decide))) (@pw_or1 _ _ _ _ (@pt_cmpR _ _ _ _ _ _ _ _ (@op_ne _) (@pe_ix _ _ _ _ _ _ _ (@kix_seq _ K (by rfl)) (@pe_ix _ _ _ _ _ _ _ (@kix_seq _ K (by rfl)) (@pv _ 0 _ _ (by rfl) (by first | exact Or.inl rfl | exact Or.inr (Or.inl rfl) | exact Or.inr (Or.inr rfl)) (by decide) (by decide)) (@pe_int _ _ _ _) (fun _ _ => rfl)) (@pe_int _ _ _ _) (fun _ _ => rfl)) (@pe_str _ _ _ _) (@nomark _ _ (by decide) (by decide)))))) (@pss_one _ _ _ (@ps_ret _ _ _ _ (@pe_non _ _ _))) (@pss_nil _)) (@pss_cons _ _ _ _ _ (@ps_set _ _ 1 _ _ _ _ sc_table_of.nd rfl (Or.inl rfl) (@pe_callTy _ _ _ _ _ _ _ _ _ (@kcall_tuple_of _ K (by rfl)) rfl gb.tuple bt_tuple (@pa_cons _ _ _ _ _ (@pe_comp _ ["words"] [none] _ _ _ _ _ _ _ _ _ _ (by exact (show CompOk ["parts", "connectives"] (defScope s_table_of) ["words"] [none] _ from ⟨rfl, by decide +kernel, by decide +kernel, by decide +kernel, by decide +kernel, rfl, by decide +kernel⟩)) rfl (@kpi_list _ K _ _ _ (@pe_slice _ _ _ _ _ _ _ _ _ _ (@ksl_any _ K (by rfl)) (@pv _ 0 _ _ (by rfl) (by first | exact Or.inl rfl | exact Or.inr (Or.inl rfl) | exact Or.inr (Or.inr rfl)) (by decide) (by decide)) (@po_some _ _ _ (@pe_int _ _ _ _)) (@po_none _)) (by rfl)) (fun _ _ _ _ => (@pg_name _ _ 0 _ nd0 rfl (Or.inl rfl) (by first | exact .inl rfl | exact .inr rfl | assumption))) (fun _ _ _ _ => (@pf_nil _)) (fun _ _ _ _ => (@pe_def _ _ _ _ _ _ _ _ _ _ _ d_connective_of hr (by omega) rfl (@pa_cons _ _ _ _ _ (@pv _ 0 _ _ (by rfl) (by first | exact Or.inl rfl | exact Or.inr (Or.inl rfl) | exact Or.inr (Or.inr rfl)) (by decide) (by decide)) (@pa_nil _) (by rfl)) (by decide) (by rfl) (by rfl))) (by intro _; rfl)) (@pa_nil _) (by rfl)) (by decide) (by decide) (by rfl) (by rfl)) (by rfl) (by first | exact .inl rfl | exact .inr rfl | assumption)) (@pss_one _ _ _ (@ps_ret _ _ _ _ (@pe_tup _ _ _ _ _ (@pa_cons _ _ _ _ _ (@pe_def _ _ _ _ _ _ _ _ _ _ _ d_number_of hr (by omega) rfl (@pa_cons _ _ _ _ _ (@pe_ix _ _ _ _ _ _ _ (@kix_seq _ K (by rfl)) (@pe_ix _ _ _ _ _ _ _ (@kix_seq _ K (by rfl)) (@pv _ 0 _ _ (by rfl) (by first | exact Or.inl rfl | exact Or.inr (Or.inl rfl) | exact Or.inr (Or.inr rfl)) (by decide) (by decide)) (@pe_int _ _ _ _) (fun _ _ => rfl)) (@pe_int _ _ _ _) (fun _ _ => rfl)) (@pa_nil _) (by rfl)) (by decide) (by rfl) (by rfl)) (@pa_cons _ _ _ _ _ (@pe_callTy _ _ _ _ _ _ _ _ _ (@kcall_tuple_of _ K (by rfl)) rfl gb.tuple bt_tuple (@pa_cons _ _ _ _ _ (@pe_def _ _ _ _ _ _ _ _ _ _ _ d_numbers_of hr (by omega) rfl (@pa_cons _ _ _ _ _ (@pe_slice _ _ _ _ _ _ _ _ _ _ (@ksl_any _ K (by rfl)) (@pe_ix _ _ _ _ _ _ _ (@kix_seq _ K (by rfl)) (@pv _ 0 _ _ (by rfl) (by first | exact Or.inl rfl | exact Or.inr (Or.inl rfl) | exact Or.inr (Or.inr rfl)) (by decide) (by decide)) (@pe_int _ _ _ _) (fun _ _ => rfl)) (@po_some _ _ _ (@pe_int _ _ _ _)) (@po_none _)) (@pa_nil _) (by rfl)) (by decide) (by rfl) (by rfl)) (@pa_nil _) (by rfl)) (by decide) (by decide) (by rfl) (by rfl)) (@pa_cons _ _ _ _ _ (@pv _ 1 _ _ (by rfl) (by first | exact Or.inl rfl | exact Or.inr (Or.inl rfl) | exact Or.inr (Or.inr rfl)) (by decide) (by decide)) (@pa_nil _) (by rfl)) (by rfl)) (by rfl)))))))), ?_⟩
  obtain ⟨ws0, xr0, hW0⟩ : ∃ ws xr, wordsT T = ws ∧ xs = xr := ⟨_, _, rfl, rfl⟩
  have hWl := hW.len
  unfold wordsT at hW
  cases hW with
  | cons r0 hW =>
  cases hW with
  | cons r1 hW =>
  obtain ⟨p0, rfl, hp0⟩ := r0
  obtain ⟨p1, rfl, hp1⟩ := r1
  rename_i rest
  have hrl : rest.length = T.cs.length := by
    have := Wds.len hW
    rw [List.length_map] at this
    exact this
  refine ⟨_, rfl, _, _, rfl, .inl ⟨_, SqL.of hl, rfl⟩, _, _, rfl, rfl, _, rfl, ?_⟩
  refine ite2 (fun z => absurd (of_decide_eq_true z) (by rw [List.length_cons, List.length_cons]; omega)) (fun _ => ?_)
  refine ⟨_, rfl, .inl ⟨l, _, 0, _, rfl, rfl, SqL.of hl, atI_nat (j := 0) rfl, _, 2, rfl, .inl ⟨_, SqL.of hp0, rfl⟩, rfl, _, rfl, ?_⟩⟩
  refine iteNS (c := V.int 2 = V.int 2) rfl ?_
  refine ⟨_, rfl, .inl ⟨l, _, 0, _, rfl, rfl, SqL.of hl, atI_nat (j := 0) rfl, .inl ⟨p0, _, 0, _, rfl, rfl, SqL.of hp0, atI_nat (j := 0) rfl, rfl, _, rfl, ?_⟩⟩⟩
  refine iteNS (c := V.str (Str.ofString "grades") = V.str (Str.ofString "grades")) rfl ?_
  refine ⟨_, rfl, .inl ⟨l, _, 1, _, rfl, rfl, SqL.of hl, atI_nat (j := 1) rfl, .inl ⟨p1, _, 0, _, rfl, rfl, SqL.of hp1, atI_nat (j := 0) rfl, rfl, _, rfl, ?_⟩⟩⟩
  refine iteNS (c := V.str (Str.ofString "wished") = V.str (Str.ofString "wished")) rfl ?_
  refine ⟨_, rfl, 2, rfl, .inl ⟨l, _, rfl, SqL.of hl, fun k hk => ?_⟩⟩
  have ec : cutV (V.ref p0 :: V.ref p1 :: rest) (some 2) none = rest := cut_from (xs := V.ref p0 :: V.ref p1 :: rest) 2 (by rw [List.length_cons, List.length_cons]; omega)
  rw [ec]
  have sk : Same H (upd H k (.lst rest)) := same_new hk _
  refine ⟨k, rfl, ⟨_, SqL.of upd_same⟩, fun D hD => ?_⟩
  refine comp_list (xs := rest) (fun i ys H' => Same (upd H k (.lst rest)) H' ∧ Conns H' (T.cs.take i) ys) ⟨same_new hD _, rfl⟩ (fun i ys H' hh _ => SqL.of (hh.1 _ _ upd_same)) ?_ ?_
  · rintro i ys H' x hx ⟨s1, hC⟩ hD'
    have hi : i < rest.length := (List.getElem?_eq_some_iff.mp hx).1
    have hcj : T.cs[i]? = some (T.cs.getD i ⟨"", 0, []⟩) := by simp [List.getD, show i < T.cs.length by omega]
    generalize hcn : T.cs.getD i ⟨"", 0, []⟩ = cn at hcj
    obtain ⟨w', a', e1, rfl, e3⟩ := Wds.get hW hx
    rw [List.getElem?_map, hcj] at e1
    cases e1
    have hyl := hC.len
    rw [List.length_take] at hyl
    have gc := g.each cn (List.mem_of_getElem? hcj)
    refine yes ⟨_, rfl, a', T.m, cn, rfl, s1 _ _ (sk _ _ e3), g.m1, g.m9, gc, fu cn (List.mem_of_getElem? hcj), fun H2 t u s2 ht hu => ?_⟩
    have hD2 := s2 _ _ hD'
    have tk2 : Tk H2 (upd H2 D (.lst (ys ++ [.ref t]))) := Tk.put hD2
    refine cyes hi rset1 hD2 (small1000 (by have := g.few; omega)) ⟨fun b o qb => ?_, ?_⟩
    · rw [upd_ne (ne_of_none qb hD)]
      exact s2 _ _ (s1 _ _ qb)
    · rw [take_snoc hcj]
      exact ((hC.same s2).tk tk2).snoc (tk2 _ _ ht) (tk2 _ _ hu)
  · rintro ys H' ⟨s1, hC⟩ hD'
    rw [hrl, List.take_length] at hC
    have s01 : Same H H' := fun b o qb => s1 _ _ (sk _ _ qb)
    refine ⟨D, _, rfl, .inl ⟨SqL.of hD', fun ct hct => ?_⟩⟩
    have s02 : Same H (upd H' ct (.tup ys)) := fun b o qb => same_new hct _ _ _ (s01 _ _ qb)
    refine ⟨_, rfl, .inl ⟨l, _, 0, _, rfl, rfl, SqL.of (s02 _ _ hl), atI_nat (j := 0) rfl, .inl ⟨p0, _, 1, _, rfl, rfl, SqL.of (s02 _ _ hp0), atI_nat (j := 1) rfl, T.m, rfl, ⟨by have := g.m1; omega, g.m9⟩, ?_⟩⟩⟩
    refine ⟨_, rfl, .inl ⟨l, _, 1, _, rfl, rfl, SqL.of (s02 _ _ hl), atI_nat (j := 1) rfl, 1, rfl, .inl ⟨p1, _, rfl, SqL.of (s02 _ _ hp1), fun k2 hk2 => ?_⟩⟩⟩
    have ec2 : cutV ((L4.wordsOf (Str.ofString "wished") T.ws).map V.str) (some 1) none = (T.ws.map fig).map V.str := cut_from (xs := (L4.wordsOf (Str.ofString "wished") T.ws).map V.str) 1 (by unfold L4.wordsOf; rw [List.map_cons, List.length_cons]; omega)
    rw [ec2]
    refine ⟨k2, T.ws, rfl, upd_same, fun i hi => ?_, by have := g.wl; omega, fun H3 k3 s3 hk3 => ?_⟩
    · have k1 := g.ws i hi
      have k2 := g.m9
      exact ⟨k1.1, by omega⟩
    · have s13 : Same (upd H' ct (.tup ys)) H3 := fun b o qb => s3 _ _ (same_new hk2 _ _ _ qb)
      refine ⟨k3, _, rfl, .inl ⟨SqL.of hk3, fun wt hwt => ?_⟩⟩
      refine ⟨_, rfl, small9 (by show 3 ≤ 1000; decide), fun tt htt => ?_⟩
      have s34 : Same H3 (upd H3 wt (.tup (T.ws.map V.int))) := same_new hwt _
      have s45 : Same (upd H3 wt (.tup (T.ws.map V.int))) (upd (upd H3 wt (.tup (T.ws.map V.int))) tt (.tup [.int T.m, .ref wt, .ref ct])) := same_new htt _
      refine q _ _ (fun b o qb => s45 _ _ (s34 _ _ (s13 _ _ (s02 _ _ qb)))) ⟨tt, wt, ct, ys, rfl, upd_same, s45 _ _ upd_same, s45 _ _ (s34 _ _ (s13 _ _ upd_same)), ?_⟩
      exact (hC.same (same_new hct _)).same fun b o qb => s45 _ _ (s34 _ _ (s13 _ _ qb))

abbrev s_read_table : Stmt := top 25
theorem sc_read_table : FnScope ["text", "table"] ["text"] (defScope s_read_table) := ⟨rfl, rfl, rfl, by decide +kernel, rfl, by decide +kernel, by decide +kernel⟩
theorem ok_read_table {P : Program} {w : World} {K : PySem.W.Frag} {mg : Str → Option Value} {base : Heap} {f : Addr} {fd : FuncData} (F : Fun K "read_table" "read_table" s_read_table f fd) (gb : Gb mg) (d_table_of : Def P w K mg base 4 "table_of" ["parts"] spTableOf) (d_is_table : Def P w K mg base 7 "is_table" ["thing"] spIsTable) : FnOk P w K mg base CX0 8 f fd ["text"] spRead := by
  refine F.ok sc_read_table (fun vs H Q E h => ?_) (fun cdv A outer s H vs Q E hr h => ?_)
  · obtain ⟨T, rfl, _⟩ := h
    rfl
  obtain ⟨T, rfl, g, fu, q⟩ := h
  have nd0 : (["part"] : List Str).Nodup := by decide +kernel
  refine ⟨_, (@pss_cons _ _ _ _ _ (@ps_if _ _ _ _ _ _ _ _ (@pt_not _ _ _ _ (@pt_val _ _ _ (@pe_callB _ _ _ _ _ _ _ _ _ (@kcall_isiT _ K (by rfl)) rfl gb.isinstance bt_isinstance (@pa_cons _ _ _ _ _ (@pv _ 0 _ _ (by rfl) (by first | exact Or.inl rfl | exact Or.inr (Or.inl rfl) | exact Or.inr (Or.inr rfl)) (by decide) (by decide)) (@pa_cons _ _ _ _ _ (@pe_bltn _ _ (.ty "str") _ _ rfl gb.str bt_str rfl (by decide) (by decide)) (@pa_nil _) (by rfl)) (by rfl)) (by decide) (by decide) (by rfl) (by rfl)) (by intro _; rfl))) (@pss_one _ _ _ (@ps_never _ _)) (@pss_nil _)) (@pss_cons _ _ _ _ _ (@ps_set _ _ 1 _ _ _ _ sc_read_table.nd rfl (Or.inl rfl) (@pe_def _ _ _ _ _ _ _ _ _ _ _ d_table_of hr (by omega) rfl (@pa_cons _ _ _ _ _ (@pe_comp _ ["part"] [none] _ _ _ _ _ _ _ _ _ _ (by exact (show CompOk ["text", "table"] (defScope s_read_table) ["part"] [none] _ from ⟨rfl, by decide +kernel, by decide +kernel, by decide +kernel, by decide +kernel, rfl, by decide +kernel⟩)) rfl (@kpi_list _ K _ _ _ (@kpe_bm _ K _ _ _ _ _ _ _ _ _ _ _ PySem.F.plainAttrs_str PySem.F.slot_str_split PySem.F.type_str_split (@mt_split _) (@pv _ 0 _ _ (by rfl) (by first | exact Or.inl rfl | exact Or.inr (Or.inl rfl) | exact Or.inr (Or.inr rfl)) (by decide) (by decide)) (@pa_cons _ _ _ _ _ (@pe_str _ _ _ _) (@pa_nil _) (by rfl)) (by rfl) (by rfl) (by rfl) (by rfl) (by rfl) (by rfl)) (by rfl)) (fun _ _ _ _ => (@pg_name _ _ 0 _ nd0 rfl (Or.inl rfl) (by first | exact .inl rfl | exact .inr rfl | assumption))) (fun _ _ _ _ => (@pf_nil _)) (fun _ _ _ _ => (@kpe_bm _ K _ _ _ _ _ _ _ _ _ _ _ PySem.F.plainAttrs_str PySem.F.slot_str_split PySem.F.type_str_split (@mt_split _) (@pv _ 0 _ _ (by rfl) (by first | exact Or.inl rfl | exact Or.inr (Or.inl rfl) | exact Or.inr (Or.inr rfl)) (by decide) (by decide)) (@pa_cons _ _ _ _ _ (@pe_str _ _ _ _) (@pa_nil _) (by rfl)) (by rfl) (by rfl) (by rfl) (by rfl) (by rfl) (by rfl))) (by intro _; rfl)) (@pa_nil _) (by rfl)) (by decide) (by rfl) (by rfl)) (by rfl) (by first | exact .inl rfl | exact .inr rfl | assumption)) (@pss_cons _ _ _ _ _ (@ps_if _ _ _ _ _ _ _ _ (@pt_not _ _ _ _ (@pt_val _ _ _ (@pe_def _ _ _ _ _ _ _ _ _ _ _ d_is_table hr (by omega) rfl (@pa_cons _ _ _ _ _ (@pv _ 1 _ _ (by rfl) (by first | exact Or.inl rfl | exact Or.inr (Or.inl rfl) | exact Or.inr (Or.inr rfl)) (by decide) (by decide)) (@pa_nil _) (by rfl)) (by decide) (by rfl) (by rfl)) (by intro _; rfl))) (@pss_one _ _ _ (@ps_never _ _)) (@pss_nil _)) (@pss_one _ _ _ (@ps_ret _ _ _ _ (@pv _ 1 _ _ (by rfl) (by first | exact Or.inl rfl | exact Or.inr (Or.inl rfl) | exact Or.inr (Or.inr rfl)) (by decide) (by decide))))))), ?_⟩
  refine ⟨_, rfl, _, _, _, true, rfl, .str _, kit_same "str", true, rfl, ?_⟩
  have tl := (text_len g).2
  have big : ∀ n, n ≤ 2102 → n ≤ sizeLine := fun n h => Nat.le_trans h (by decide +kernel)
  refine ⟨_, rfl, rfl, textT T, sp2, rfl, rfl, by decide +kernel, big _ (by omega), fun l hl => ?_⟩
  rw [text_split g]
  refine ⟨l, rfl, ⟨_, SqL.of upd_same⟩, fun D hD => ?_⟩
  have sk : Same H (upd H l (.lst ((partsT T).map V.str))) := same_new hl _
  have hpl := parts_len g
  refine comp_list (xs := (partsT T).map V.str) (fun i ys H' => ∃ G : Hp, Same (upd H l (.lst ((partsT T).map V.str))) G ∧ Same G H' ∧ G D = none ∧ Wds G ((wordsT T).take i) ys) ⟨_, Same.rfl', same_new hD _, hD, .nil⟩ (fun i ys H' hh _ => by obtain ⟨G, g1, g2, _, _⟩ := hh; exact SqL.of (g2 _ _ (g1 _ _ upd_same))) ?_ ?_
  · rintro i ys H' x hx ⟨G, g1, g2, gD, hW⟩ hD'
    have hi : i < ((partsT T).map V.str).length := (List.getElem?_eq_some_iff.mp hx).1
    rw [List.getElem?_map] at hx
    obtain ⟨pt, hpt, rfl⟩ := Option.map_eq_some_iff.mp hx
    have hpt' := hpt
    unfold partsT at hpt'
    rw [List.getElem?_map] at hpt'
    obtain ⟨ws, hws, rfl⟩ := Option.map_eq_some_iff.mp hpt'
    obtain ⟨w', ns, rfl, f1, f2, f3⟩ := g.figs ws (List.mem_of_getElem? hws)
    have hlp := hpl.1 _ (List.mem_of_getElem? hpt)
    have hyl := hW.len
    rw [List.length_take] at hyl
    have hwl : (wordsT T).length = (partsT T).length := by unfold partsT; rw [List.length_map]
    refine yes ⟨_, rfl, rfl, _, sp1, rfl, rfl, by decide +kernel, big _ (by omega), fun k hk => ?_⟩
    rw [show PySem.Txt.split (PySem.Txt.join sp1 (L4.wordsOf w' ns)) sp1 = L4.wordsOf w' ns from part_split f1 f2]
    have hD2 := same_new hk (.lst ((L4.wordsOf w' ns).map V.str)) _ _ hD'
    have hkD : k ≠ D := fun z => by rw [z, hD'] at hk; cases hk
    have hGk : G k = none := by
      cases e : G k with
      | none => rfl
      | some o => rw [g2 _ _ e] at hk; cases hk
    refine cyes hi rset1 hD2 (small1000 (by have := hpl.2; omega)) ⟨upd G k (.lst ((L4.wordsOf w' ns).map V.str)), fun b o qb => same_new hGk _ _ _ (g1 _ _ qb), fun b o qb => ?_, by rw [upd_ne (Ne.symm hkD)]; exact gD, ?_⟩
    · have hbD : b ≠ D := fun z => by
        rw [z, upd_ne (Ne.symm hkD), gD] at qb
        cases qb
      rw [upd_ne hbD]
      by_cases hb : b = k
      · rw [hb] at qb ⊢
        rw [upd_same] at qb ⊢
        exact qb
      · rw [upd_ne hb] at qb ⊢
        exact g2 _ _ qb
    · rw [take_snoc hws]
      exact (hW.same (same_new hGk _)).snoc upd_same
  · rintro ys H' ⟨G, g1, g2, gD, hWG⟩ hD'
    have hW := hWG.same g2
    have s1 : Same (upd H l (.lst ((partsT T).map V.str))) H' := fun b o qb => g2 _ _ (g1 _ _ qb)
    have hwl : (wordsT T).length = (partsT T).length := by unfold partsT; rw [List.length_map]
    rw [List.length_map, ← hwl, List.take_length] at hW
    refine ⟨D, ys, T, rfl, hD', hW, g, fu, fun H3 v s3 ih => ?_⟩
    refine ⟨_, rfl, v, T, rfl, ih, g, .inl ⟨fu, fun H4 s4 => ⟨true, rfl, ?_⟩⟩⟩
    exact ⟨_, rfl, q _ v (fun b o qb => s4 _ _ (s3 _ _ (s1 _ _ (sk _ _ qb)))) (ih.same s4)⟩

abbrev s_fillings : Stmt := top 10
theorem sc_fillings : FnScope ["H"] ["H"] (defScope s_fillings) := ⟨rfl, rfl, rfl, by decide +kernel, rfl, by decide +kernel, by decide +kernel⟩
theorem ok_fillings {P : Program} {w : World} {K : PySem.W.Frag} {mg : Str → Option Value} {base : Heap} {f : Addr} {fd : FuncData} (F : Fun K "fillings" "fillings" s_fillings f fd) (gb : Gb mg) (d_power : Def P w K mg base 1 "power" ["base", "exponent"] spPower) (d_count_nones : Def P w K mg base 1 "count_nones" ["H"] spNones) : FnOk P w K mg base CX0 2 f fd ["H"] spFill := by
  refine F.ok sc_fillings (fun vs H Q E h => ?_) (fun cdv A outer s H vs Q E hr h => ?_)
  · obtain ⟨v, T, rfl, _⟩ := h
    rfl
  obtain ⟨v, T, rfl, ih, ft, q⟩ := h
  refine ⟨_, (@pss_one _ _ _ (@ps_ret _ _ _ _ (@pe_def _ _ _ _ _ _ _ _ _ _ _ d_power hr (by omega) rfl (@pa_cons _ _ _ _ _ (@pe_ix _ _ _ _ _ _ _ (@kix_seq _ K (by rfl)) (@pv _ 0 _ _ (by rfl) (by first | exact Or.inl rfl | exact Or.inr (Or.inl rfl) | exact Or.inr (Or.inr rfl)) (by decide) (by decide)) (@pe_int _ _ _ _) (fun _ _ => rfl)) (@pa_cons _ _ _ _ _ (@pe_def _ _ _ _ _ _ _ _ _ _ _ d_count_nones hr (by omega) rfl (@pa_cons _ _ _ _ _ (@pv _ 0 _ _ (by rfl) (by first | exact Or.inl rfl | exact Or.inr (Or.inl rfl) | exact Or.inr (Or.inr rfl)) (by decide) (by decide)) (@pa_nil _) (by rfl)) (by decide) (by rfl) (by rfl)) (@pa_nil _) (by rfl)) (by rfl)) (by decide) (by rfl) (by rfl)))), ?_⟩
  obtain ⟨a, w1, c, vs, rfl, h1, h2, h3, h4⟩ := id ih
  refine ⟨_, rfl, .inr (.inl ⟨a, _, 0, _, rfl, rfl, SqT.of h1, rfl, _, rfl, _, T, rfl, ih, ft, fun H' s' => ?_⟩)⟩
  have := ft.nones
  exact ⟨_, _, rfl, ft.1, ft.2.1, by omega, q H' s'⟩

abbrev s_law_with : Stmt := top 36
theorem sc_law_with : FnScope ["_law_half_here", "_law_row", "_law_at", "_law_one", "_law_many", "_law_wished", "_law_connectives", "_law_name_here", "_law_places", "_law_cells_here", "_law_changed"] ["_law_half_here", "_law_row", "_law_at", "_law_one"] (defScope s_law_with) := ⟨rfl, rfl, rfl, by decide +kernel, rfl, by decide +kernel, by decide +kernel⟩
theorem ok_law_with {P : Program} {w : World} {K : PySem.W.Frag} {mg : Str → Option Value} {base : Heap} {f : Addr} {fd : FuncData} (F : Fun K "_law_with" "_law_with" s_law_with f fd) (gb : Gb mg) : FnOk P w K mg base CX0 1 f fd ["_law_half_here", "_law_row", "_law_at", "_law_one"] spWith := by
  refine F.ok sc_law_with (fun vs H Q E h => ?_) (fun cdv A outer s H vs Q E hr h => ?_)
  · obtain ⟨v, T, r, a, o, rfl, _⟩ := h
    rfl
  obtain ⟨v, T, r, a, o, rfl, ih, ft, hc, q⟩ := h
  refine ⟨_, (@pss_cons _ _ _ _ _ (@ps_asg _ _ _ _ _ _ (@pv _ 0 _ _ (by rfl) (by first | exact Or.inl rfl | exact Or.inr (Or.inl rfl) | exact Or.inr (Or.inr rfl)) (by decide) (by decide)) (@kpg_tup _ K _ _ _ _ 3 rfl (@pgs_cons _ _ _ _ _ (@pg_name _ _ 4 _ sc_law_with.nd rfl (Or.inl rfl) (by first | exact .inl rfl | exact .inr rfl | assumption)) (@pgs_cons _ _ _ _ _ (@pg_name _ _ 5 _ sc_law_with.nd rfl (Or.inl rfl) (by first | exact .inl rfl | exact .inr rfl | assumption)) (@pgs_cons _ _ _ _ _ (@pg_name _ _ 6 _ sc_law_with.nd rfl (Or.inl rfl) (by first | exact .inl rfl | exact .inr rfl | assumption)) (@pgs_nil _) (by rfl)) (by rfl)) (by rfl)) (by rfl) (by rfl) (by rfl)) (by rfl) (by rfl) (by rfl)) (@pss_cons _ _ _ _ _ (@ps_asg _ _ _ _ _ _ (@pe_ix _ _ _ _ _ _ _ (@kix_seq _ K (by rfl)) (@pv _ 6 _ _ (by rfl) (by first | exact Or.inl rfl | exact Or.inr (Or.inl rfl) | exact Or.inr (Or.inr rfl)) (by decide) (by decide)) (@pv _ 1 _ _ (by rfl) (by first | exact Or.inl rfl | exact Or.inr (Or.inl rfl) | exact Or.inr (Or.inr rfl)) (by decide) (by decide)) (fun _ _ => rfl)) (@kpg_tup _ K _ _ _ _ 3 rfl (@pgs_cons _ _ _ _ _ (@pg_name _ _ 7 _ sc_law_with.nd rfl (Or.inl rfl) (by first | exact .inl rfl | exact .inr rfl | assumption)) (@pgs_cons _ _ _ _ _ (@pg_name _ _ 8 _ sc_law_with.nd rfl (Or.inl rfl) (by first | exact .inl rfl | exact .inr rfl | assumption)) (@pgs_cons _ _ _ _ _ (@pg_name _ _ 9 _ sc_law_with.nd rfl (Or.inl rfl) (by first | exact .inl rfl | exact .inr rfl | assumption)) (@pgs_nil _) (by rfl)) (by rfl)) (by rfl)) (by rfl) (by rfl) (by rfl)) (by rfl) (by rfl) (by rfl)) (@pss_cons _ _ _ _ _ (@ps_set _ _ 10 _ _ _ _ sc_law_with.nd rfl (Or.inl rfl) (@pe_tup _ _ _ _ _ (@pa_cons _ _ _ _ _ (@pv _ 7 _ _ (by rfl) (by first | exact Or.inl rfl | exact Or.inr (Or.inl rfl) | exact Or.inr (Or.inr rfl)) (by decide) (by decide)) (@pa_cons _ _ _ _ _ (@pv _ 8 _ _ (by rfl) (by first | exact Or.inl rfl | exact Or.inr (Or.inl rfl) | exact Or.inr (Or.inr rfl)) (by decide) (by decide)) (@pa_cons _ _ _ _ _ (@pe_op _ _ _ _ _ _ _ _ (@op_catA _ K (by rfl)) (@pe_op _ _ _ _ _ _ _ _ (@op_catA _ K (by rfl)) (@pe_slice _ _ _ _ _ _ _ _ _ _ (@ksl_tupA _ K (by rfl)) (@pv _ 9 _ _ (by rfl) (by first | exact Or.inl rfl | exact Or.inr (Or.inl rfl) | exact Or.inr (Or.inr rfl)) (by decide) (by decide)) (@po_none _) (@po_some _ _ _ (@pv _ 2 _ _ (by rfl) (by first | exact Or.inl rfl | exact Or.inr (Or.inl rfl) | exact Or.inr (Or.inr rfl)) (by decide) (by decide)))) (@pe_tup _ _ _ _ _ (@pa_cons _ _ _ _ _ (@pv _ 3 _ _ (by rfl) (by first | exact Or.inl rfl | exact Or.inr (Or.inl rfl) | exact Or.inr (Or.inr rfl)) (by decide) (by decide)) (@pa_nil _) (by rfl)))) (@pe_slice _ _ _ _ _ _ _ _ _ _ (@ksl_tupA _ K (by rfl)) (@pv _ 9 _ _ (by rfl) (by first | exact Or.inl rfl | exact Or.inr (Or.inl rfl) | exact Or.inr (Or.inr rfl)) (by decide) (by decide)) (@po_some _ _ _ (@pe_op _ _ _ _ _ _ _ _ (@op_add _) (@pv _ 2 _ _ (by rfl) (by first | exact Or.inl rfl | exact Or.inr (Or.inl rfl) | exact Or.inr (Or.inr rfl)) (by decide) (by decide)) (@pe_int _ _ _ _))) (@po_none _))) (@pa_nil _) (by rfl)) (by rfl)) (by rfl))) (by rfl) (by first | exact .inl rfl | exact .inr rfl | assumption)) (@pss_one _ _ _ (@ps_ret _ _ _ _ (@pe_tup _ _ _ _ _ (@pa_cons _ _ _ _ _ (@pv _ 4 _ _ (by rfl) (by first | exact Or.inl rfl | exact Or.inr (Or.inl rfl) | exact Or.inr (Or.inr rfl)) (by decide) (by decide)) (@pa_cons _ _ _ _ _ (@pv _ 5 _ _ (by rfl) (by first | exact Or.inl rfl | exact Or.inr (Or.inl rfl) | exact Or.inr (Or.inr rfl)) (by decide) (by decide)) (@pa_cons _ _ _ _ _ (@pe_op _ _ _ _ _ _ _ _ (@op_catA _ K (by rfl)) (@pe_op _ _ _ _ _ _ _ _ (@op_catA _ K (by rfl)) (@pe_slice _ _ _ _ _ _ _ _ _ _ (@ksl_tupA _ K (by rfl)) (@pv _ 6 _ _ (by rfl) (by first | exact Or.inl rfl | exact Or.inr (Or.inl rfl) | exact Or.inr (Or.inr rfl)) (by decide) (by decide)) (@po_none _) (@po_some _ _ _ (@pv _ 1 _ _ (by rfl) (by first | exact Or.inl rfl | exact Or.inr (Or.inl rfl) | exact Or.inr (Or.inr rfl)) (by decide) (by decide)))) (@pe_tup _ _ _ _ _ (@pa_cons _ _ _ _ _ (@pv _ 10 _ _ (by rfl) (by first | exact Or.inl rfl | exact Or.inr (Or.inl rfl) | exact Or.inr (Or.inr rfl)) (by decide) (by decide)) (@pa_nil _) (by rfl)))) (@pe_slice _ _ _ _ _ _ _ _ _ _ (@ksl_tupA _ K (by rfl)) (@pv _ 6 _ _ (by rfl) (by first | exact Or.inl rfl | exact Or.inr (Or.inl rfl) | exact Or.inr (Or.inr rfl)) (by decide) (by decide)) (@po_some _ _ _ (@pe_op _ _ _ _ _ _ _ _ (@op_add _) (@pv _ 1 _ _ (by rfl) (by first | exact Or.inl rfl | exact Or.inr (Or.inl rfl) | exact Or.inr (Or.inr rfl)) (by decide) (by decide)) (@pe_int _ _ _ _))) (@po_none _))) (@pa_nil _) (by rfl)) (by rfl)) (by rfl)))))))), ?_⟩
  obtain ⟨ta, tw, tc, vs, rfl, h1, h2, h3, h4⟩ := ih
  obtain ⟨x, hx⟩ := hc
  obtain ⟨c, hc1, hc2⟩ := cell_some hx
  obtain ⟨t, u, g1, g2, g3⟩ := h4.get hc1
  have hlen := h4.len
  have hr8 := (List.getElem?_eq_some_iff.mp hc1).1
  have ha8 := (List.getElem?_eq_some_iff.mp hc2).1
  have h81 := ft.2.2.2.2 c (List.mem_of_getElem? hc1)
  have h8 := ft.2.2.2.1
  refine ⟨_, rfl, ta, _, rfl, SqT.of h1, rfl, _, _, rfl, _, _, rfl, _, _, rfl, rfl, ?_⟩
  refine ⟨_, rfl, _, rfl, .inr (.inl ⟨tc, _, r, _, rfl, rfl, SqT.of h3, atI_nat g1, ?_⟩)⟩
  refine ⟨t, _, rfl, SqT.of g2, rfl, _, _, rfl, _, _, rfl, _, _, rfl, rfl, ?_⟩
  refine ⟨_, rfl, _, rfl, put_tup (k := a) (v := cellV o) rfl rfl rfl g3 (by rw [List.length_map]; exact ha8) (by rw [List.length_map]; omega) fun p1 H1 s1 e1 => ⟨small9 (by show 3 ≤ 1000; decide), fun p2 hp2 => ?_⟩⟩
  have s2 : Same H (upd H1 p2 (.tup [.str c.nm, .int c.pl, .ref p1])) := fun b o qb => same_new hp2 _ _ _ (s1 _ _ qb)
  have k1 : (upd H1 p2 (.tup [.str c.nm, .int c.pl, .ref p1])) p1 = some (.tup ((c.cs.map cellV).set a (cellV o))) := same_new hp2 _ _ _ e1
  have k2 : (upd H1 p2 (.tup [.str c.nm, .int c.pl, .ref p1])) p2 = some (.tup [.str c.nm, .int c.pl, .ref p1]) := upd_same
  generalize upd H1 p2 (.tup [.str c.nm, .int c.pl, .ref p1]) = H2 at s2 k1 k2 ⊢
  refine ⟨_, rfl, _, rfl, put_tup (k := r) (v := .ref p2) rfl rfl rfl (s2 _ _ h3) (by omega) (by omega) fun p3 H3 s3 e3 => ⟨small9 (by show 3 ≤ 1000; decide), fun p4 hp4 => ?_⟩⟩
  have s4 := same_new hp4 (.tup [.int T.m, .ref tw, .ref p3])
  have s24 : Same H2 (upd H3 p4 (.tup [.int T.m, .ref tw, .ref p3])) := fun b o qb => s4 _ _ (s3 _ _ qb)
  refine q _ _ (fun b o qb => s24 _ _ (s2 _ _ qb)) ⟨p4, tw, p3, _, rfl, upd_same, s24 _ _ (s2 _ _ h2), s4 _ _ e3, ?_⟩
  refine Conns.put8 ((h4.same s2).same s24) hc1 (s24 _ _ k2) ?_
  rw [List.map_set]
  exact s24 _ _ k1

abbrev s_law_nones : Stmt := top 37
theorem sc_law_nones : FnScope ["_law_half_here", "_law_found", "_law_row", "_law_at"] ["_law_half_here"] (defScope s_law_nones) := ⟨rfl, rfl, rfl, by decide +kernel, rfl, by decide +kernel, by decide +kernel⟩
theorem ok_law_nones {P : Program} {w : World} {K : PySem.W.Frag} {mg : Str → Option Value} {base : Heap} {f : Addr} {fd : FuncData} (F : Fun K "_law_nones" "_law_nones" s_law_nones f fd) (gb : Gb mg) : FnOk P w K mg base CX0 1 f fd ["_law_half_here"] spNonesL := by
  refine F.ok sc_law_nones (fun vs H Q E h => ?_) (fun cdv A outer s H vs Q E hr h => ?_)
  · obtain ⟨v, T, rfl, _⟩ := h
    rfl
  obtain ⟨v, T, rfl, ih, ft, q⟩ := h
  refine ⟨_, (@pss_cons _ _ _ _ _ (@ps_set _ _ 1 _ _ _ _ sc_law_nones.nd rfl (Or.inl rfl) (@pe_lst _ _ _ _ (@pa_nil _)) (by rfl) (by first | exact .inl rfl | exact .inr rfl | assumption)) (@pss_cons _ _ _ _ _ (@ps_for _ _ _ _ _ _ _ _ PassesOwn.never rfl (@pi_range1 _ _ _ _ _ _ rfl gb.range (@pa_cons _ _ _ _ _ (@pe_callB _ _ _ _ _ _ _ _ _ (@kcall_len _ K (by rfl)) rfl gb.len bt_len (@pa_cons _ _ _ _ _ (@pe_ix _ _ _ _ _ _ _ (@kix_seq _ K (by rfl)) (@pv _ 0 _ _ (by rfl) (by first | exact Or.inl rfl | exact Or.inr (Or.inl rfl) | exact Or.inr (Or.inr rfl)) (by decide) (by decide)) (@pe_int _ _ _ _) (fun _ _ => rfl)) (@pa_nil _) (by rfl)) (by decide) (by decide) (by rfl) (by rfl)) (@pa_nil _) (by rfl)) (by rfl)) (@pg_name _ _ 2 _ sc_law_nones.nd rfl (Or.inl rfl) (by first | exact .inl rfl | exact .inr rfl | assumption)) (@pss_one _ _ _ (@ps_for _ _ _ _ _ _ _ _ PassesOwn.never rfl (@pi_range1 _ _ _ _ _ _ rfl gb.range (@pa_cons _ _ _ _ _ (@pe_callB _ _ _ _ _ _ _ _ _ (@kcall_len _ K (by rfl)) rfl gb.len bt_len (@pa_cons _ _ _ _ _ (@pe_ix _ _ _ _ _ _ _ (@kix_seq _ K (by rfl)) (@pe_ix _ _ _ _ _ _ _ (@kix_seq _ K (by rfl)) (@pe_ix _ _ _ _ _ _ _ (@kix_seq _ K (by rfl)) (@pv _ 0 _ _ (by rfl) (by first | exact Or.inl rfl | exact Or.inr (Or.inl rfl) | exact Or.inr (Or.inr rfl)) (by decide) (by decide)) (@pe_int _ _ _ _) (fun _ _ => rfl)) (@pv _ 2 _ _ (by rfl) (by first | exact Or.inl rfl | exact Or.inr (Or.inl rfl) | exact Or.inr (Or.inr rfl)) (by decide) (by decide)) (fun _ _ => rfl)) (@pe_int _ _ _ _) (fun _ _ => rfl)) (@pa_nil _) (by rfl)) (by decide) (by decide) (by rfl) (by rfl)) (@pa_nil _) (by rfl)) (by rfl)) (@pg_name _ _ 3 _ sc_law_nones.nd rfl (Or.inl rfl) (by first | exact .inl rfl | exact .inr rfl | assumption)) (@pss_one _ _ _ (@ps_if _ _ _ _ _ _ _ _ (@pt_cmpR _ _ _ _ _ _ _ _ (@op_isN _) (@pe_ix _ _ _ _ _ _ _ (@kix_seq _ K (by rfl)) (@pe_ix _ _ _ _ _ _ _ (@kix_seq _ K (by rfl)) (@pe_ix _ _ _ _ _ _ _ (@kix_seq _ K (by rfl)) (@pe_ix _ _ _ _ _ _ _ (@kix_seq _ K (by rfl)) (@pv _ 0 _ _ (by rfl) (by first | exact Or.inl rfl | exact Or.inr (Or.inl rfl) | exact Or.inr (Or.inr rfl)) (by decide) (by decide)) (@pe_int _ _ _ _) (fun _ _ => rfl)) (@pv _ 2 _ _ (by rfl) (by first | exact Or.inl rfl | exact Or.inr (Or.inl rfl) | exact Or.inr (Or.inr rfl)) (by decide) (by decide)) (fun _ _ => rfl)) (@pe_int _ _ _ _) (fun _ _ => rfl)) (@pv _ 3 _ _ (by rfl) (by first | exact Or.inl rfl | exact Or.inr (Or.inl rfl) | exact Or.inr (Or.inr rfl)) (by decide) (by decide)) (fun _ _ => rfl)) (@pe_non _ _ _) (@nomark _ _ (by decide) (by decide))) (@pss_one _ _ _ (@ps_expr _ _ _ _ (@kpe_bm _ K _ _ _ _ _ _ _ _ _ _ _ PySem.F.plainAttrs_list PySem.F.slot_list_append PySem.F.type_list_append (@mt_append _) (@pv _ 1 _ _ (by rfl) (by first | exact Or.inl rfl | exact Or.inr (Or.inl rfl) | exact Or.inr (Or.inr rfl)) (by decide) (by decide)) (@pa_cons _ _ _ _ _ (@pe_tup _ _ _ _ _ (@pa_cons _ _ _ _ _ (@pv _ 2 _ _ (by rfl) (by first | exact Or.inl rfl | exact Or.inr (Or.inl rfl) | exact Or.inr (Or.inr rfl)) (by decide) (by decide)) (@pa_cons _ _ _ _ _ (@pv _ 3 _ _ (by rfl) (by first | exact Or.inl rfl | exact Or.inr (Or.inl rfl) | exact Or.inr (Or.inr rfl)) (by decide) (by decide)) (@pa_nil _) (by rfl)) (by rfl))) (@pa_nil _) (by rfl)) (by rfl) (by rfl) (by rfl) (by rfl) (by rfl) (by rfl)) (by rfl))) (@pss_nil _))) (by intro _; rfl))) (by intro _; rfl)) (@pss_one _ _ _ (@ps_ret _ _ _ _ (@pv _ 1 _ _ (by rfl) (by first | exact Or.inl rfl | exact Or.inr (Or.inl rfl) | exact Or.inr (Or.inr rfl)) (by decide) (by decide)))))), ?_⟩
  obtain ⟨ta, tw, tc, vs, rfl, h1, h2, h3, h4⟩ := id ih
  have hlen := h4.len
  have h8 := ft.2.2.2.1
  refine ⟨Nat.zero_le _, fun f hf => ?_⟩
  have s0 : Same H (upd H f (.lst [])) := same_new hf _
  refine ⟨_, rfl, .inr (.inl ⟨ta, _, 2, _, rfl, rfl, SqT.of (s0 _ _ h1), rfl, ?_⟩)⟩
  refine ⟨_, _, rfl, .inr ⟨_, SqT.of (s0 _ _ h3), rfl⟩, _, rfl, by omega, by omega, ?_⟩
  refine for_range (fun i σ H' => ∃ ys x2 x3, σ = [some (.ref ta), some (.ref f), x2, x3] ∧ Same H H' ∧ H' f = some (.lst ys) ∧ PairsAt H' (nonesL T i) ys) ⟨[], none, none, rfl, s0, upd_same, .nil⟩ ?_ ?_
  · rintro i σ H' hi ⟨ys, x2, x3, rfl, s1, hf1, hP⟩
    have hi' : i < T.cs.length := by omega
    have hci : T.cs[i]? = some T.cs[i] := List.getElem?_eq_getElem hi'
    generalize T.cs[i] = c at hci
    obtain ⟨t, u, e1, e2, e3⟩ := h4.get hci
    have hat : atI vs (0 + (i : Int)) = some (.ref t) := by rw [Int.zero_add]; exact atI_nat e1
    have h81 := ft.2.2.2.2 c (List.mem_of_getElem? hci)
    have ecs : cellsOf T i = c.cs := by unfold cellsOf; rw [hci]; rfl
    refine ⟨_, rfl, .inr (.inl ⟨ta, _, 2, _, rfl, rfl, SqT.of (s1 _ _ h1), rfl, _, rfl, .inr (.inl ⟨tc, _, _, _, rfl, rfl, SqT.of (s1 _ _ h3), hat, .inr (.inl ⟨t, _, 2, _, rfl, rfl, SqT.of (s1 _ _ e2), rfl, ?_⟩)⟩)⟩)⟩
    refine ⟨_, _, rfl, .inr ⟨_, SqT.of (s1 _ _ e3), rfl⟩, _, rfl, by rw [List.length_map]; omega, by rw [List.length_map]; omega, ?_⟩
    refine for_range (fun j σ H' => ∃ ys x3, σ = [some (.ref ta), some (.ref f), some (.int (0 + i)), x3] ∧ Same H H' ∧ H' f = some (.lst ys) ∧ PairsAt H' (nonesL T i ++ rowN i c.cs j) ys) ⟨ys, x3, rfl, s1, hf1, by rw [show rowN i c.cs 0 = [] from rfl, List.append_nil]; exact hP⟩ ?_ ?_
    · rintro j σ H2 hj ⟨zs, y3, rfl, s2, hf2, hP2⟩
      have hj' : j < c.cs.length := by rw [List.length_map] at hj; omega
      have hcj : c.cs[j]? = some c.cs[j] := List.getElem?_eq_getElem hj'
      generalize c.cs[j] = o at hcj
      have hat2 : atI (c.cs.map cellV) (0 + (j : Int)) = some (cellV o) := by rw [Int.zero_add]; exact atI_nat (by rw [List.getElem?_map, hcj]; rfl)
      refine ⟨_, rfl, .inr (.inl ⟨ta, _, 2, _, rfl, rfl, SqT.of (s2 _ _ h1), rfl, _, rfl, .inr (.inl ⟨tc, _, _, _, rfl, rfl, SqT.of (s2 _ _ h3), hat, .inr (.inl ⟨t, _, 2, _, rfl, rfl, SqT.of (s2 _ _ e2), rfl, _, rfl, .inr (.inl ⟨u, _, _, _, rfl, rfl, SqT.of (s2 _ _ e3), hat2, rfl, _, rfl, ?_⟩)⟩)⟩)⟩)⟩
      refine ite2 (fun cc => ?_) (fun cc => ?_)
      · have eo : o = none := by
          cases o with
          | none => rfl
          | some i => exact absurd (of_decide_eq_true cc) (by intro z; cases z)
        subst eo
        refine ⟨_, rfl, .inl ⟨rfl, _, SqL.of hf2⟩, _, rfl, _, rfl, small9 (by show 2 ≤ 1000; decide), fun tt htt => ?_⟩
        have nft : f ≠ tt := ne_of_none hf2 htt
        have hfT : (upd H2 tt (.tup [.int (0 + i), .int (0 + j)])) f = some (.lst zs) := by rw [upd_ne nft]; exact hf2
        have hzl : zs.length ≤ 900 := by
          have a1 := Paired.len8 hP2
          rw [List.length_append] at a1
          have a2 := nonesL_le ft i
          have a3 := rowN_le i c.cs j
          omega
        refine ⟨f, zs, _, rfl, rfl, hfT, small1000 (by omega), ?_⟩
        have tkf : Tk H2 (upd (upd H2 tt (.tup [.int (0 + i), .int (0 + j)])) f (.lst (zs ++ [.ref tt]))) := (Tk.new htt).trans (Tk.put hfT)
        refine ⟨zs ++ [.ref tt], some (.int (0 + j)), rfl, fun b o qb => ?_, upd_same, ?_⟩
        · rw [upd_ne (ne_of_none qb hf), upd_ne (ne_of_none (s2 _ _ qb) htt)]
          exact s2 _ _ qb
        · rw [rowN_succ, if_pos hcj, ← List.append_assoc]
          refine Paired.snoc8 ⟨tt, rfl, ?_⟩ (PairsAt.tk tkf hP2)
          rw [upd_ne (Ne.symm nft), upd_same, Int.zero_add, Int.zero_add]
      · have eo : ∃ i, o = some i := by
          cases o with
          | none => exact absurd rfl (of_decide_eq_false (Bool.eq_false_iff.mpr cc))
          | some i => exact ⟨i, rfl⟩
        obtain ⟨i', rfl⟩ := eo
        refine ⟨zs, some (.int (0 + j)), rfl, s2, hf2, ?_⟩
        rw [rowN_succ, if_neg (by rw [hcj]; intro z; cases z), List.append_nil]
        exact hP2
    · rintro σ H2 ⟨zs, y3, rfl, s2, hf2, hP2⟩
      refine ⟨zs, some (.int (0 + i)), y3, rfl, s2, hf2, ?_⟩
      rw [nonesL_succ, ecs]
      rw [List.length_map] at hP2
      exact hP2
  · rintro σ H' ⟨ys, x2, x3, rfl, s1, hf1, hP⟩
    refine ⟨_, rfl, q H' f ys s1 hf1 hf ?_⟩
    rw [Int.toNat_natCast, hlen] at hP
    exact hP

abbrev s_law_walked : Stmt := top 38
theorem sc_law_walked : FnScope ["_law_half_here", "_law_found", "_law_row", "_law_at", "_law_more", "_law_some"] ["_law_half_here"] (defScope s_law_walked) := ⟨rfl, rfl, rfl, by decide +kernel, rfl, by decide +kernel, by decide +kernel⟩
theorem ok_law_walked {P : Program} {w : World} {K : PySem.W.Frag} {mg : Str → Option Value} {base : Heap} {f : Addr} {fd : FuncData} (F : Fun K "_law_walked" "_law_walked" s_law_walked f fd) (gb : Gb mg) (d_law_nones : Def P w K mg base 1 "_law_nones" ["_law_half_here"] spNonesL) (d_law_with : Def P w K mg base 1 "_law_with" ["_law_half_here", "_law_row", "_law_at", "_law_one"] spWith) : FnOk P w K mg base CX0 2 f fd ["_law_half_here"] spWalked := by
  refine F.ok sc_law_walked (fun vs H Q E h => ?_) (fun cdv A outer s H vs Q E hr h => ?_)
  · obtain ⟨v, T, rfl, _⟩ := h
    rfl
  obtain ⟨v, T, rfl, ih, g, m3, n4, q⟩ := h
  have nd0 : (["_law_one", "_law_some", "_law_row", "_law_at"] : List Str).Nodup := by decide +kernel
  refine ⟨_, (@pss_cons _ _ _ _ _ (@ps_set _ _ 1 _ _ _ _ sc_law_walked.nd rfl (Or.inl rfl) (@pe_lst _ _ _ _ (@pa_cons _ _ _ _ _ (@pv _ 0 _ _ (by rfl) (by first | exact Or.inl rfl | exact Or.inr (Or.inl rfl) | exact Or.inr (Or.inr rfl)) (by decide) (by decide)) (@pa_nil _) (by rfl))) (by rfl) (by first | exact .inl rfl | exact .inr rfl | assumption)) (@pss_cons _ _ _ _ _ (@ps_for _ _ _ _ _ _ _ _ PassesOwn.never rfl (@kpi_list _ K _ _ _ (@pe_def _ _ _ _ _ _ _ _ _ _ _ d_law_nones hr (by omega) rfl (@pa_cons _ _ _ _ _ (@pv _ 0 _ _ (by rfl) (by first | exact Or.inl rfl | exact Or.inr (Or.inl rfl) | exact Or.inr (Or.inr rfl)) (by decide) (by decide)) (@pa_nil _) (by rfl)) (by decide) (by rfl) (by rfl)) (by rfl)) (@kpg_tup _ K _ _ _ _ 2 rfl (@pgs_cons _ _ _ _ _ (@pg_name _ _ 2 _ sc_law_walked.nd rfl (Or.inr rfl) (by first | exact .inl rfl | exact .inr rfl | assumption)) (@pgs_cons _ _ _ _ _ (@pg_name _ _ 3 _ sc_law_walked.nd rfl (Or.inr rfl) (by first | exact .inl rfl | exact .inr rfl | assumption)) (@pgs_nil _) (by rfl)) (by rfl)) (by rfl) (by rfl) (by rfl)) (@pss_cons _ _ _ _ _ (@ps_set _ _ 4 _ _ _ _ sc_law_walked.nd rfl (Or.inl rfl) (@pe_lst _ _ _ _ (@pa_nil _)) (by rfl) (by first | exact .inl rfl | exact .inr rfl | assumption)) (@pss_cons _ _ _ _ _ (@ps_for _ _ _ _ _ _ _ _ PassesOwn.never rfl (@kpi_list _ K _ _ _ (@pv _ 1 _ _ (by rfl) (by first | exact Or.inl rfl | exact Or.inr (Or.inl rfl) | exact Or.inr (Or.inr rfl)) (by decide) (by decide)) (by rfl)) (@pg_name _ _ 5 _ sc_law_walked.nd rfl (Or.inr rfl) (by first | exact .inl rfl | exact .inr rfl | assumption)) (@pss_one _ _ _ (@ps_set _ _ 4 _ _ _ _ sc_law_walked.nd rfl (Or.inl rfl) (@pe_op _ _ _ _ _ _ _ _ (@op_cat _) (@pv _ 4 _ _ (by rfl) (by first | exact Or.inl rfl | exact Or.inr (Or.inl rfl) | exact Or.inr (Or.inr rfl)) (by decide) (by decide)) (@pe_comp _ ["_law_one", "_law_some", "_law_row", "_law_at"] [none, some 5, some 2, some 3] _ _ _ _ _ _ _ _ _ _ (by exact (show CompOk ["_law_half_here", "_law_found", "_law_row", "_law_at", "_law_more", "_law_some"] (defScope s_law_walked) ["_law_one", "_law_some", "_law_row", "_law_at"] [none, some 5, some 2, some 3] _ from ⟨rfl, by decide +kernel, by decide +kernel, by decide +kernel, by decide +kernel, rfl, by decide +kernel⟩)) rfl (@pi_range1 _ _ _ _ _ _ rfl gb.range (@pa_cons _ _ _ _ _ (@pe_ix _ _ _ _ _ _ _ (@kix_seq _ K (by rfl)) (@pv _ 0 _ _ (by rfl) (by first | exact Or.inl rfl | exact Or.inr (Or.inl rfl) | exact Or.inr (Or.inr rfl)) (by decide) (by decide)) (@pe_int _ _ _ _) (fun _ _ => rfl)) (@pa_nil _) (by rfl)) (by rfl)) (fun _ _ _ _ => (@pg_name _ _ 0 _ nd0 rfl (Or.inl rfl) (by first | exact .inl rfl | exact .inr rfl | assumption))) (fun _ _ _ _ => (@pf_nil _)) (fun _ _ _ _ => (@pe_def _ _ _ _ _ _ _ _ _ _ _ d_law_with hr (by omega) rfl (@pa_cons _ _ _ _ _ (@pv _ 1 _ _ (by rfl) (by first | exact Or.inl rfl | exact Or.inr (Or.inl rfl) | exact Or.inr (Or.inr rfl)) (by decide) (by decide)) (@pa_cons _ _ _ _ _ (@pv _ 2 _ _ (by rfl) (by first | exact Or.inl rfl | exact Or.inr (Or.inl rfl) | exact Or.inr (Or.inr rfl)) (by decide) (by decide)) (@pa_cons _ _ _ _ _ (@pv _ 3 _ _ (by rfl) (by first | exact Or.inl rfl | exact Or.inr (Or.inl rfl) | exact Or.inr (Or.inr rfl)) (by decide) (by decide)) (@pa_cons _ _ _ _ _ (@pv _ 0 _ _ (by rfl) (by first | exact Or.inl rfl | exact Or.inr (Or.inl rfl) | exact Or.inr (Or.inr rfl)) (by decide) (by decide)) (@pa_nil _) (by rfl)) (by rfl)) (by rfl)) (by rfl)) (by decide) (by rfl) (by rfl))) (by intro _; rfl))) (by rfl) (by first | exact .inl rfl | exact .inr rfl | assumption))) (by intro _; rfl)) (@pss_one _ _ _ (@ps_set _ _ 1 _ _ _ _ sc_law_walked.nd rfl (Or.inl rfl) (@pv _ 4 _ _ (by rfl) (by first | exact Or.inl rfl | exact Or.inr (Or.inl rfl) | exact Or.inr (Or.inr rfl)) (by decide) (by decide)) (by rfl) (by first | exact .inl rfl | exact .inr rfl | assumption))))) (by intro _; rfl)) (@pss_one _ _ _ (@ps_ret _ _ _ _ (@pv _ 1 _ _ (by rfl) (by first | exact Or.inl rfl | exact Or.inr (Or.inl rfl) | exact Or.inr (Or.inr rfl)) (by decide) (by decide)))))), ?_⟩
  obtain ⟨ta, tw, tc, vs, rfl, h1, h2, h3, h4⟩ := id ih
  have m1 := g.m1
  refine ⟨_, rfl, small9 (by show 1 ≤ 1000; decide), fun f0 hf0 => ?_⟩
  have s0 : Same H (upd H f0 (.lst [.ref ta])) := same_new hf0 _
  refine ⟨_, rfl, _, T, rfl, ih.same s0, good_fits g, fun H1 l pys s1 hl hl0 hP => ?_⟩
  have s01 : Same H H1 := fun b o qb => s1 _ _ (s0 _ _ qb)
  have hf1 := s1 _ _ (upd_same (H := H) (a := f0) (o := .lst [.ref ta]))
  have hop := open_nones T
  have hnl := open_len hop
  generalize nonesL T T.cs.length = ps at hP hop hnl
  have hpl := Paired.len8 hP
  obtain ⟨m, hm⟩ : ∃ m : Nat, T.m = m := ⟨T.m.toNat, by omega⟩
  have hm3 : m ≤ 3 := by omega
  have hwk : ∀ i, i ≤ ps.length → (∀ t ∈ walkW m (ps.take i) [T], Same8 m T.ws T.cs.length (ps.drop i) t) ∧ (walkW m (ps.take i) [T]).Nodup ∧ (walkW m (ps.take i) [T]).length = m ^ i := fun i hi => by
    have := walk_one (ps := ps.take i) (qs := ps.drop i) g hm (by rw [List.take_append_drop]; exact hop)
    rw [List.length_take, Nat.min_eq_left hi] at this
    exact this
  refine ⟨l, rfl, ⟨_, SqL.of hl⟩, ?_⟩
  refine for_list (xs := pys) (fun i σ H' => ∃ ys f x2 x3 x4 x5, σ = [some (.ref ta), some (.ref f), x2, x3, x4, x5] ∧ Same H1 H' ∧ H' f = some (.lst ys) ∧ Halves H' (walkW m (ps.take i) [T]) ys) ⟨[.ref ta], f0, none, none, none, none, rfl, Same.rfl', hf1, .cons (ih.same s01) .nil⟩ (fun i σ H' _ hh => by obtain ⟨_, _, _, _, _, _, _, s2, _⟩ := hh; exact SqL.of (s2 _ _ hl)) ?_ ?_
  · rintro i x σ H2 hx ⟨ys, f, x2, x3, x4, x5, rfl, s2, hf2, hW⟩
    obtain ⟨p, hp, t, rfl, ht⟩ := Paired.get8 hP hx
    have hi : i < ps.length := (List.getElem?_eq_some_iff.mp hp).1
    obtain ⟨w1, w2, w3⟩ := hwk i (by omega)
    have hdrop : ps.drop i = p :: ps.drop (i + 1) := by
      rw [List.drop_eq_getElem_cons hi]
      congr 1
      rw [List.getElem?_eq_getElem hi] at hp
      exact Option.some.inj hp
    have esn : walkW m (ps.take (i + 1)) [T] = stepW m p (walkW m (ps.take i) [T]) := by rw [take_snoc hp, walkW_snoc]
    have b81 : m ^ i * m ≤ 81 := by rw [← Nat.pow_succ]; exact pow4 hm3 (by omega)
    generalize walkW m (ps.take i) [T] = W at hW w1 w2 w3 esn
    have hyl := Paired.len8 hW
    refine ⟨t, _, rfl, SqT.of (s2 _ _ ht), rfl, _, _, rfl, _, _, rfl, rfl, ?_⟩
    refine ⟨Nat.zero_le _, fun g0 hg0 => ?_⟩
    refine ⟨_, rfl, f, rfl, ⟨_, SqL.of (same_new hg0 _ _ _ hf2)⟩, ?_⟩
    refine for_list (xs := ys) (fun j σ H' => ∃ zs g5 x5, σ = [some (.ref ta), some (.ref f), some (.int p.1), some (.int p.2), some (.ref g5), x5] ∧ Same H2 H' ∧ H' g5 = some (.lst zs) ∧ Halves H' (stepW m p (W.take j)) zs) ⟨[], g0, x5, rfl, same_new hg0 _, upd_same, .nil⟩ (fun j σ H' _ hh => by obtain ⟨_, _, _, _, s3, _⟩ := hh; exact SqL.of (s3 _ _ hf2)) ?_ ?_
    · rintro j x σ H3 hx3 ⟨zs, g5, y5, rfl, s3, hg3, hZ⟩
      obtain ⟨t8, ht8, it8⟩ := Paired.get8 hW hx3
      have hj : j < W.length := (List.getElem?_eq_some_iff.mp ht8).1
      obtain ⟨q1, q2, q3, q4, q5⟩ := w1 t8 (List.mem_of_getElem? ht8)
      have hcell : cellAt t8 p.1 p.2 = some none := (q4.2 p.1 p.2).mpr (by rw [hdrop]; exact List.mem_cons_self)
      have it3 := it8.same s3
      have hz81 : zs.length + m ≤ 900 := by
        have a1 := Paired.len8 hZ
        rw [stepW_len, List.length_take] at a1
        have a2 : min j W.length * m ≤ m ^ i * m := Nat.mul_le_mul_right _ (by rw [← w3]; exact Nat.min_le_right _ _)
        omega
      refine ⟨_, rfl, _, rfl, .inr (.inl ⟨ta, _, 0, _, rfl, rfl, SqT.of (s3 _ _ (s2 _ _ (s01 _ _ h1))), rfl, _, rfl, by omega, by omega, fun D hD => ?_⟩)⟩
      have e8 : ∀ k, k < m → (rowW m p t8)[k]? = some (putT t8 p.1 p.2 (some (0 + (k : Int)))) := fun k hk => by
        unfold rowW
        rw [List.getElem?_map, List.getElem?_range hk, Int.zero_add]
        rfl
      have l8 : (rowW m p t8).length = m := by unfold rowW; rw [List.length_map, List.length_range]
      have emt : T.m.toNat = m := by omega
      refine comp_range (fun k ws H4 => Same H3 H4 ∧ Halves H4 ((rowW m p t8).take k) ws) ⟨same_new hD _, .nil⟩ ?_ ?_
      · rintro k ws H4 hk ⟨s4, hR⟩ hD4
        rw [emt] at hk
        refine yes ?_
        refine ⟨_, rfl, _, rfl, _, rfl, _, rfl, x, t8, p.1, p.2, some (0 + (k : Int)), rfl, it3.same s4, good_fits q1, ⟨_, hcell⟩, fun H5 v5 s5 i5 => ?_⟩
        have hD5 := s5 _ _ hD4
        have wl := Paired.len8 hR
        rw [List.length_take, l8] at wl
        refine cyes (by rw [emt]; exact hk) rset1 hD5 (small1000 (by omega)) ⟨fun b o qb => ?_, ?_⟩
        · rw [upd_ne (ne_of_none qb hD)]
          exact s5 _ _ (s4 _ _ qb)
        · rw [take_snoc (e8 k hk)]
          exact Paired.snoc8 (F := fun T v => IsHalf _ v T) (i5.tk (Tk.put hD5)) (Halves.tk ((Tk.of s5).trans (Tk.put hD5)) hR)
      · rintro ws H4 ⟨s4, hR⟩ hD4
        rw [emt, List.take_of_length_le (by omega)] at hR
        have wl := Paired.len8 hR
        rw [l8] at wl
        refine ⟨g5, D, zs, ws, rfl, rfl, s4 _ _ hg3, hD4, small9 (by omega), fun q0 hq0 => ?_⟩
        have s5 := same_new hq0 (.lst (zs ++ ws))
        refine ⟨zs ++ ws, q0, some x, rfl, fun b o qb => s5 _ _ (s4 _ _ (s3 _ _ qb)), upd_same, ?_⟩
        have est : stepW m p (W.take (j + 1)) = stepW m p (W.take j) ++ rowW m p t8 := by
          rw [take_snoc ht8]
          unfold stepW
          rw [List.flatMap_append]
          simp
        rw [est]
        exact Paired.app8 (Halves.same s5 hR) (Halves.same s5 (Halves.same s4 hZ))
    · rintro σ H3 ⟨zs, g5, y5, rfl, s3, hg3, hZ⟩
      refine ⟨_, rfl, zs, g5, _, _, _, _, rfl, fun b o qb => s3 _ _ (s2 _ _ qb), hg3, ?_⟩
      rw [hyl, List.take_length] at hZ
      rw [esn]
      exact hZ
  · rintro σ H2 ⟨ys, f, x2, x3, x4, x5, rfl, s2, hf2, hW⟩
    rw [hpl] at hW
    obtain ⟨w1, w2, w3⟩ := hwk ps.length (Nat.le_refl _)
    refine ⟨_, rfl, q H2 f ys _ (fun b o qb => s2 _ _ (s01 _ _ qb)) hf2 hW ⟨?_, w2, fun t ht => ?_⟩⟩
    · rw [w3, hnl]
      congr 1
      omega
    · obtain ⟨q1, q2, q3, q4, q5⟩ := w1 t ht
      rw [List.drop_length] at q4
      exact ⟨q1, by omega, q3, q4.full, q5⟩

abbrev s_law_right : Stmt := top 39
theorem sc_law_right : FnScope ["_law_half_here", "_law_pool_here", "_law_found", "_law_some", "_law_row", "_law_again"] ["_law_half_here", "_law_pool_here"] (defScope s_law_right) := ⟨rfl, rfl, rfl, by decide +kernel, rfl, by decide +kernel, by decide +kernel⟩
theorem ok_law_right {P : Program} {w : World} {K : PySem.W.Frag} {mg : Str → Option Value} {base : Heap} {f : Addr} {fd : FuncData} (F : Fun K "_law_right" "_law_right" s_law_right f fd) (gb : Gb mg) (d_law_walked : Def P w K mg base 2 "_law_walked" ["_law_half_here"] spWalked) (d_fillings : Def P w K mg base 2 "fillings" ["H"] spFill) (d_is_half : Def P w K mg base 6 "is_half" ["thing"] spIsHalf) (d_is_table : Def P w K mg base 7 "is_table" ["thing"] spIsTable) (d_read_table : Def P w K mg base 8 "read_table" ["text"] spRead) (d_show_table : Def P w K mg base 2 "show_table" ["T"] spShow) (d_law_draw : Def P w K mg base 1 "_law_draw" ["_law_pool_here", "_law_many"] spDraw) (d_law_with : Def P w K mg base 1 "_law_with" ["_law_half_here", "_law_row", "_law_at", "_law_one"] spWith) : FnOk P w K mg base CX0 9 f fd ["_law_half_here", "_law_pool_here"] spRight8 := by
  refine F.ok sc_law_right (fun vs H Q E h => ?_) (fun cdv A outer s H vs Q E hr h => ?_)
  · obtain ⟨v, p, T, rfl, _⟩ := h
    rfl
  obtain ⟨v, p, T, rfl, ih, hp, g, m3, n4, q⟩ := h
  refine ⟨_, (@pss_cons _ _ _ _ _ (@ps_set _ _ 2 _ _ _ _ sc_law_right.nd rfl (Or.inl rfl) (@pe_def _ _ _ _ _ _ _ _ _ _ _ d_law_walked hr (by omega) rfl (@pa_cons _ _ _ _ _ (@pv _ 0 _ _ (by rfl) (by first | exact Or.inl rfl | exact Or.inr (Or.inl rfl) | exact Or.inr (Or.inr rfl)) (by decide) (by decide)) (@pa_nil _) (by rfl)) (by decide) (by rfl) (by rfl)) (by rfl) (by first | exact .inl rfl | exact .inr rfl | assumption)) (@pss_cons _ _ _ _ _ (@ps_if _ _ _ _ _ _ _ _ (@PW.pt _ _ _ (@pw_or _ _ _ _ _ _ _ (@pt_cmpR _ _ _ _ _ _ _ _ (@op_ne _) (@pe_def _ _ _ _ _ _ _ _ _ _ _ d_fillings hr (by omega) rfl (@pa_cons _ _ _ _ _ (@pv _ 0 _ _ (by rfl) (by first | exact Or.inl rfl | exact Or.inr (Or.inl rfl) | exact Or.inr (Or.inr rfl)) (by decide) (by decide)) (@pa_nil _) (by rfl)) (by decide) (by rfl) (by rfl)) (@pe_callB _ _ _ _ _ _ _ _ _ (@kcall_len _ K (by rfl)) rfl gb.len bt_len (@pa_cons _ _ _ _ _ (@pv _ 2 _ _ (by rfl) (by first | exact Or.inl rfl | exact Or.inr (Or.inl rfl) | exact Or.inr (Or.inr rfl)) (by decide) (by decide)) (@pa_nil _) (by rfl)) (by decide) (by decide) (by rfl) (by rfl)) (@nomark _ _ (by decide) (by decide))) (@pw_or _ _ _ _ _ _ _ (@pt_cmpR _ _ _ _ _ _ _ _ (@op_ne _) (@pe_callB _ _ _ _ _ _ _ _ _ (@call_lenH _) rfl gb.len bt_len (@pa_cons _ _ _ _ _ (@pe_callTy _ _ _ _ _ _ _ _ _ (@kcall_setH _ K 4 _ hr (by decide) rfl (by rfl)) rfl gb.set bt_set (@pa_cons _ _ _ _ _ (@pv _ 2 _ _ (by rfl) (by first | exact Or.inl rfl | exact Or.inr (Or.inl rfl) | exact Or.inr (Or.inr rfl)) (by decide) (by decide)) (@pa_nil _) (by rfl)) (by decide) (by decide) (by rfl) (by rfl)) (@pa_nil _) (by rfl)) (by decide) (by decide) (by rfl) (by rfl)) (@pe_callB _ _ _ _ _ _ _ _ _ (@kcall_len _ K (by rfl)) rfl gb.len bt_len (@pa_cons _ _ _ _ _ (@pv _ 2 _ _ (by rfl) (by first | exact Or.inl rfl | exact Or.inr (Or.inl rfl) | exact Or.inr (Or.inr rfl)) (by decide) (by decide)) (@pa_nil _) (by rfl)) (by decide) (by decide) (by rfl) (by rfl)) (@nomark _ _ (by decide) (by decide))) (@pw_or1 _ _ _ _ (@pt_cmpR _ _ _ _ _ _ _ _ (@op_notB _) (@pe_def _ _ _ _ _ _ _ _ _ _ _ d_is_half hr (by omega) rfl (@pa_cons _ _ _ _ _ (@pv _ 0 _ _ (by rfl) (by first | exact Or.inl rfl | exact Or.inr (Or.inl rfl) | exact Or.inr (Or.inr rfl)) (by decide) (by decide)) (@pa_nil _) (by rfl)) (by decide) (by rfl) (by rfl)) (@pe_bl _ _ _ _) (@nomark _ _ (by decide) (by decide))))))) (@pss_one _ _ _ (@ps_ret _ _ _ _ (@pe_bl _ _ _ _))) (@pss_nil _)) (@pss_cons _ _ _ _ _ (@ps_for _ _ _ _ _ _ _ _ PassesOwn.never rfl (@kpi_list _ K _ _ _ (@pv _ 2 _ _ (by rfl) (by first | exact Or.inl rfl | exact Or.inr (Or.inl rfl) | exact Or.inr (Or.inr rfl)) (by decide) (by decide)) (by rfl)) (@pg_name _ _ 3 _ sc_law_right.nd rfl (Or.inl rfl) (by first | exact .inl rfl | exact .inr rfl | assumption)) (@pss_one _ _ _ (@ps_if _ _ _ _ _ _ _ _ (@PW.pt _ _ _ (@pw_or _ _ _ _ _ _ _ (@pt_cmpR _ _ _ _ _ _ _ _ (@op_notB _) (@pe_def _ _ _ _ _ _ _ _ _ _ _ d_is_table hr (by omega) rfl (@pa_cons _ _ _ _ _ (@pv _ 3 _ _ (by rfl) (by first | exact Or.inl rfl | exact Or.inr (Or.inl rfl) | exact Or.inr (Or.inr rfl)) (by decide) (by decide)) (@pa_nil _) (by rfl)) (by decide) (by rfl) (by rfl)) (@pe_bl _ _ _ _) (@nomark _ _ (by decide) (by decide))) (@pw_or _ _ _ _ _ _ _ (@pt_cmpR _ _ _ _ _ _ _ _ (@op_ne _) (@pe_def _ _ _ _ _ _ _ _ _ _ _ d_fillings hr (by omega) rfl (@pa_cons _ _ _ _ _ (@pv _ 3 _ _ (by rfl) (by first | exact Or.inl rfl | exact Or.inr (Or.inl rfl) | exact Or.inr (Or.inr rfl)) (by decide) (by decide)) (@pa_nil _) (by rfl)) (by decide) (by rfl) (by rfl)) (@pe_int _ _ _ _) (@nomark _ _ (by decide) (by decide))) (@pw_or1 _ _ _ _ (@pt_cmpR _ _ _ _ _ _ _ _ (@op_neD _ 3 _ hr (by decide)) (@pe_def _ _ _ _ _ _ _ _ _ _ _ d_read_table hr (by omega) rfl (@pa_cons _ _ _ _ _ (@pe_def _ _ _ _ _ _ _ _ _ _ _ d_show_table hr (by omega) rfl (@pa_cons _ _ _ _ _ (@pv _ 3 _ _ (by rfl) (by first | exact Or.inl rfl | exact Or.inr (Or.inl rfl) | exact Or.inr (Or.inr rfl)) (by decide) (by decide)) (@pa_nil _) (by rfl)) (by decide) (by rfl) (by rfl)) (@pa_nil _) (by rfl)) (by decide) (by rfl) (by rfl)) (@pv _ 3 _ _ (by rfl) (by first | exact Or.inl rfl | exact Or.inr (Or.inl rfl) | exact Or.inr (Or.inr rfl)) (by decide) (by decide)) (@nomark _ _ (by decide) (by decide))))))) (@pss_one _ _ _ (@ps_ret _ _ _ _ (@pe_bl _ _ _ _))) (@pss_nil _))) (by intro _; rfl)) (@pss_cons _ _ _ _ _ (@ps_set _ _ 3 _ _ _ _ sc_law_right.nd rfl (Or.inl rfl) (@pe_ix _ _ _ _ _ _ _ (@kix_seq _ K (by rfl)) (@pv _ 2 _ _ (by rfl) (by first | exact Or.inl rfl | exact Or.inr (Or.inl rfl) | exact Or.inr (Or.inr rfl)) (by decide) (by decide)) (@pe_def _ _ _ _ _ _ _ _ _ _ _ d_law_draw hr (by omega) rfl (@pa_cons _ _ _ _ _ (@pv _ 1 _ _ (by rfl) (by first | exact Or.inl rfl | exact Or.inr (Or.inl rfl) | exact Or.inr (Or.inr rfl)) (by decide) (by decide)) (@pa_cons _ _ _ _ _ (@pe_callB _ _ _ _ _ _ _ _ _ (@kcall_len _ K (by rfl)) rfl gb.len bt_len (@pa_cons _ _ _ _ _ (@pv _ 2 _ _ (by rfl) (by first | exact Or.inl rfl | exact Or.inr (Or.inl rfl) | exact Or.inr (Or.inr rfl)) (by decide) (by decide)) (@pa_nil _) (by rfl)) (by decide) (by decide) (by rfl) (by rfl)) (@pa_nil _) (by rfl)) (by rfl)) (by decide) (by rfl) (by rfl)) (fun _ _ => rfl)) (by rfl) (by first | exact .inl rfl | exact .inr rfl | assumption)) (@pss_cons _ _ _ _ _ (@ps_if _ _ _ _ _ _ _ _ (@pt_cmpR _ _ _ _ _ _ _ _ (@op_eqE _ _ hr) (@pe_ix _ _ _ _ _ _ _ (@kix_seq _ K (by rfl)) (@pv _ 3 _ _ (by rfl) (by first | exact Or.inl rfl | exact Or.inr (Or.inl rfl) | exact Or.inr (Or.inr rfl)) (by decide) (by decide)) (@pe_int _ _ _ _) (fun _ _ => rfl)) (@pe_tup _ _ _ _ _ (@pa_nil _)) (@nomark _ _ (by decide) (by decide))) (@pss_one _ _ _ (@ps_ret _ _ _ _ (@pe_cmpR _ _ _ _ _ _ _ _ (@op_eqD _ 3 _ hr (by decide)) (@pv _ 3 _ _ (by rfl) (by first | exact Or.inl rfl | exact Or.inr (Or.inl rfl) | exact Or.inr (Or.inr rfl)) (by decide) (by decide)) (@pv _ 0 _ _ (by rfl) (by first | exact Or.inl rfl | exact Or.inr (Or.inl rfl) | exact Or.inr (Or.inr rfl)) (by decide) (by decide)) (@nomark _ _ (by decide) (by decide))))) (@pss_nil _)) (@pss_cons _ _ _ _ _ (@ps_set _ _ 4 _ _ _ _ sc_law_right.nd rfl (Or.inl rfl) (@pe_def _ _ _ _ _ _ _ _ _ _ _ d_law_draw hr (by omega) rfl (@pa_cons _ _ _ _ _ (@pv _ 1 _ _ (by rfl) (by first | exact Or.inl rfl | exact Or.inr (Or.inl rfl) | exact Or.inr (Or.inr rfl)) (by decide) (by decide)) (@pa_cons _ _ _ _ _ (@pe_callB _ _ _ _ _ _ _ _ _ (@kcall_len _ K (by rfl)) rfl gb.len bt_len (@pa_cons _ _ _ _ _ (@pe_ix _ _ _ _ _ _ _ (@kix_seq _ K (by rfl)) (@pv _ 3 _ _ (by rfl) (by first | exact Or.inl rfl | exact Or.inr (Or.inl rfl) | exact Or.inr (Or.inr rfl)) (by decide) (by decide)) (@pe_int _ _ _ _) (fun _ _ => rfl)) (@pa_nil _) (by rfl)) (by decide) (by decide) (by rfl) (by rfl)) (@pa_nil _) (by rfl)) (by rfl)) (by decide) (by rfl) (by rfl)) (by rfl) (by first | exact .inl rfl | exact .inr rfl | assumption)) (@pss_cons _ _ _ _ _ (@ps_set _ _ 5 _ _ _ _ sc_law_right.nd rfl (Or.inl rfl) (@pe_def _ _ _ _ _ _ _ _ _ _ _ d_law_with hr (by omega) rfl (@pa_cons _ _ _ _ _ (@pv _ 3 _ _ (by rfl) (by first | exact Or.inl rfl | exact Or.inr (Or.inl rfl) | exact Or.inr (Or.inr rfl)) (by decide) (by decide)) (@pa_cons _ _ _ _ _ (@pv _ 4 _ _ (by rfl) (by first | exact Or.inl rfl | exact Or.inr (Or.inl rfl) | exact Or.inr (Or.inr rfl)) (by decide) (by decide)) (@pa_cons _ _ _ _ _ (@pe_def _ _ _ _ _ _ _ _ _ _ _ d_law_draw hr (by omega) rfl (@pa_cons _ _ _ _ _ (@pv _ 1 _ _ (by rfl) (by first | exact Or.inl rfl | exact Or.inr (Or.inl rfl) | exact Or.inr (Or.inr rfl)) (by decide) (by decide)) (@pa_cons _ _ _ _ _ (@pe_callB _ _ _ _ _ _ _ _ _ (@kcall_len _ K (by rfl)) rfl gb.len bt_len (@pa_cons _ _ _ _ _ (@pe_ix _ _ _ _ _ _ _ (@kix_seq _ K (by rfl)) (@pe_ix _ _ _ _ _ _ _ (@kix_seq _ K (by rfl)) (@pe_ix _ _ _ _ _ _ _ (@kix_seq _ K (by rfl)) (@pv _ 3 _ _ (by rfl) (by first | exact Or.inl rfl | exact Or.inr (Or.inl rfl) | exact Or.inr (Or.inr rfl)) (by decide) (by decide)) (@pe_int _ _ _ _) (fun _ _ => rfl)) (@pv _ 4 _ _ (by rfl) (by first | exact Or.inl rfl | exact Or.inr (Or.inl rfl) | exact Or.inr (Or.inr rfl)) (by decide) (by decide)) (fun _ _ => rfl)) (@pe_int _ _ _ _) (fun _ _ => rfl)) (@pa_nil _) (by rfl)) (by decide) (by decide) (by rfl) (by rfl)) (@pa_nil _) (by rfl)) (by rfl)) (by decide) (by rfl) (by rfl)) (@pa_cons _ _ _ _ _ (@pe_non _ _ _) (@pa_nil _) (by rfl)) (by rfl)) (by rfl)) (by rfl)) (by decide) (by rfl) (by rfl)) (by rfl) (by first | exact .inl rfl | exact .inr rfl | assumption)) (@pss_one _ _ _ (@ps_ret _ _ _ _ (@pe_and _ _ _ _ _ _ _ (@pe_cmpR _ _ _ _ _ _ _ _ (@op_isB _) (@pe_def _ _ _ _ _ _ _ _ _ _ _ d_is_half hr (by omega) rfl (@pa_cons _ _ _ _ _ (@pv _ 5 _ _ (by rfl) (by first | exact Or.inl rfl | exact Or.inr (Or.inl rfl) | exact Or.inr (Or.inr rfl)) (by decide) (by decide)) (@pa_nil _) (by rfl)) (by decide) (by rfl) (by rfl)) (@pe_bl _ _ _ _) (@nomark _ _ (by decide) (by decide))) (@pe_and _ _ _ _ _ _ _ (@pe_cmpR _ _ _ _ _ _ _ _ (@op_isB _) (@pe_def _ _ _ _ _ _ _ _ _ _ _ d_is_table hr (by omega) rfl (@pa_cons _ _ _ _ _ (@pv _ 5 _ _ (by rfl) (by first | exact Or.inl rfl | exact Or.inr (Or.inl rfl) | exact Or.inr (Or.inr rfl)) (by decide) (by decide)) (@pa_nil _) (by rfl)) (by decide) (by rfl) (by rfl)) (@pe_bl _ _ _ _) (@nomark _ _ (by decide) (by decide))) (@pe_one _ _ _ _ _ (@pe_cmpR _ _ _ _ _ _ _ _ (@op_eq _) (@pe_def _ _ _ _ _ _ _ _ _ _ _ d_fillings hr (by omega) rfl (@pa_cons _ _ _ _ _ (@pv _ 5 _ _ (by rfl) (by first | exact Or.inl rfl | exact Or.inr (Or.inl rfl) | exact Or.inr (Or.inr rfl)) (by decide) (by decide)) (@pa_nil _) (by rfl)) (by decide) (by rfl) (by rfl)) (@pe_ix _ _ _ _ _ _ _ (@kix_seq _ K (by rfl)) (@pv _ 3 _ _ (by rfl) (by first | exact Or.inl rfl | exact Or.inr (Or.inl rfl) | exact Or.inr (Or.inr rfl)) (by decide) (by decide)) (@pe_int _ _ _ _) (fun _ _ => rfl)) (@nomark _ _ (by decide) (by decide))))))))))))))), ?_⟩
  refine ⟨_, rfl, v, T, rfl, ih, g, m3, n4, fun H1 l ys W s1 hl hW hwk => ?_⟩
  obtain ⟨wl, wn, wa⟩ := hwk
  have m1 := g.m1
  have hyl := Paired.len8 hW
  have hb81 : ys.length ≤ 81 := by rw [hyl, wl]; exact pow4 (by omega) n4
  have hpos : 0 < ys.length := by rw [hyl, wl]; exact Nat.pow_pos (by omega)
  have elen : V.int (T.m ^ nones T) = V.int (ys.length : Nat) := by
    rw [hyl, wl, Int.natCast_pow, Int.toNat_of_nonneg (by omega)]
  refine ⟨_, rfl, v, T, rfl, ih.same s1, good_fits g, fun H2 s2 => ?_⟩
  refine ⟨_, rfl, _, _, rfl, .inl ⟨_, SqL.of (s2 _ _ hl), rfl⟩, rfl, _, rfl, iteNS elen ?_⟩
  have hW2 := Halves.same s2 hW
  have hdp : ∀ y ∈ ys, DeepV H2 4 y ∧ ∃ c, y = V.ref c := fun y hy => by
    obtain ⟨i, hi⟩ := List.getElem?_of_mem hy
    obtain ⟨t, ht, it⟩ := Paired.get8 hW2 hi
    refine ⟨deep_half it (wa t (List.mem_of_getElem? ht)).2.2.2.1, ?_⟩
    obtain ⟨a, _, _, _, e, _⟩ := it
    exact ⟨a, e⟩
  have hne : ∀ (i j : Nat) (x y : V), i < j → ys[i]? = some x → ys[j]? = some y → EqV H2 4 x y false := fun i j x y hij hx hy => by
    obtain ⟨t, ht, it⟩ := Paired.get8 hW2 hx
    obtain ⟨u, hu, iu⟩ := Paired.get8 hW2 hy
    have := eqv_half it iu
    rw [cD_false (fun z => ?_)] at this
    · exact this
    · subst z
      have := (List.getElem?_inj (List.getElem?_eq_some_iff.mp ht).1 wn).mp (ht.trans hu.symm)
      omega
  refine ⟨_, rfl, l, ys, rfl, SqL.of (s2 _ _ hl), by omega, hdp, hne, fun sa hsa => ⟨sa, _, rfl, upd_same, by omega, ?_⟩⟩
  have s3 : Same H2 (upd H2 sa (SizSet sa ys.length)) := same_new hsa _
  generalize upd H2 sa (SizSet sa ys.length) = H3 at s3 ⊢
  have s13 : Same H1 H3 := fun b o qb => s3 _ _ (s2 _ _ qb)
  refine ⟨_, rfl, _, _, rfl, .inl ⟨_, SqL.of (s13 _ _ hl), rfl⟩, rfl, _, rfl, iteNS rfl ?_⟩
  refine ⟨_, rfl, v, T, rfl, (ih.same s1).same s13, g, fun H4 s4 => ⟨true, true, rfl, rfl, _, rfl, iteF ?_⟩⟩
  have s14 : Same H1 H4 := fun b o qb => s4 _ _ (s13 _ _ qb)
  refine ⟨_, rfl, l, rfl, ⟨_, SqL.of (s14 _ _ hl)⟩, ?_⟩
  refine for_list (xs := ys) (fun i σ H' => ∃ x3, σ = [some v, some (.ref p), some (.ref l), x3, none, none] ∧ Same H4 H') ⟨none, rfl, Same.rfl'⟩ (fun i σ H' _ hh => by obtain ⟨_, _, z⟩ := hh; exact SqL.of (z _ _ (s14 _ _ hl))) ?_ ?_
  · rintro i x σ H5 hx ⟨x3, rfl, s5⟩
    obtain ⟨t, ht, it⟩ := Paired.get8 hW hx
    obtain ⟨t1, t2, t3, t4, t5⟩ := wa t (List.mem_of_getElem? ht)
    have it5 := (it.same s14).same s5
    refine ⟨_, rfl, x, t, rfl, it5, t1, .inl ⟨t4, fun H6 s6 => ⟨true, true, rfl, rfl, _, rfl, iteF ?_⟩⟩⟩
    have it6 := it5.same s6
    have e1 : V.int (t.m ^ nones t) = V.int 1 := by
      rw [show nones t = 0 from full_none t4, Int.pow_zero]
    refine ⟨_, rfl, x, t, rfl, it6, good_fits t1, fun H7 s7 => ⟨rfl, _, rfl, iteNS e1 ?_⟩⟩
    have it7 := it6.same s7
    refine ⟨_, rfl, x, t, rfl, it7, t1, t4, fun H8 s8 => ⟨t, rfl, t1, t4, fun H9 v9 s9 it9 => ?_⟩⟩
    have it99 := (it7.same s8).same s9
    obtain ⟨ta, tw, tc, vs, rfl, k1, k2, k3, k4⟩ := it99
    obtain ⟨ta', tw', tc', vs', rfl, j1, j2, j3, j4⟩ := it9
    refine ⟨_, rfl, ta', ta, _, _, rfl, rfl, j1, k1, ?_, _, rfl, iteF ?_⟩
    · exact .cons (.inl ⟨rfl, rfl⟩) (.cons (.inr ⟨tw', tw, _, _, rfl, rfl, j2, k2, alike_flat 2 _ (flat_ints _)⟩) (.cons (.inr ⟨tc', tc, _, _, rfl, rfl, j3, k3, alike_conns j4 k4⟩) .nil))
    · exact ⟨_, rfl, fun b o qb => s9 _ _ (s8 _ _ (s7 _ _ (s6 _ _ (s5 _ _ qb))))⟩
  · rintro σ H5 ⟨x3, rfl, s5⟩
    have s15 : Same H1 H5 := fun b o qb => s5 _ _ (s14 _ _ qb)
    have hl5 := s15 _ _ hl
    have hW5 := Halves.same s15 hW
    have p5 : Pool H5 p := pool_same (pool_same hp s1) s15
    have nlp : l ≠ p := fun z => by
      obtain ⟨r, a, b, e⟩ := p5
      rw [← z, hl5] at e
      have e' := Option.some.inj e
      injection e' with e'
      subst e'
      cases hW5 with
      | cons h _ =>
        obtain ⟨_, _, _, _, h, _⟩ := h
        cases h
    refine ⟨_, rfl, _, rfl, _, rfl, _, _, rfl, .inl ⟨_, SqL.of hl5, rfl⟩, p, _, rfl, p5, by omega, by omega, fun dd H6 d0 d1 o6 p6 => ?_⟩
    obtain ⟨i, rfl⟩ : ∃ i : Nat, dd = i := ⟨dd.toNat, by omega⟩
    have hi : i < ys.length := by omega
    have hx : ys[i]? = some ys[i] := List.getElem?_eq_getElem hi
    generalize ys[i] = x at hx
    obtain ⟨t, ht, it⟩ := Paired.get8 hW5 hx
    obtain ⟨t1, t2, t3, t4, t5⟩ := wa t (List.mem_of_getElem? ht)
    refine .inl ⟨l, _, _, _, rfl, rfl, SqL.of (o6 _ _ nlp hl5), atI_nat hx, ?_⟩
    have it6 := it.tk (o6.tk p5)
    have iv6 := (((ih.same s1).same s15)).tk (o6.tk p5)
    have of6 : Off p H H6 := ((Off.of s1).trans (Off.of s15)).trans o6
    obtain ⟨ta, tw, tc, vs, rfl, k1, k2, k3, k4⟩ := id it6
    have hlen := k4.len
    refine ⟨_, rfl, .inr (.inl ⟨ta, _, 2, _, rfl, rfl, SqT.of k1, rfl, Nat.zero_le _, fun e he => ?_⟩)⟩
    have s7 := same_new he (.tup [])
    refine ⟨tc, e, vs, rfl, rfl, s7 _ _ k3, upd_same, _, rfl, ?_⟩
    have p7 : Pool (upd H6 e (.tup [])) p := p6.new he
    have it7 := it6.same s7
    have iv7 := iv6.same s7
    have of7 : Off p H (upd H6 e (.tup [])) := of6.trans (Off.of s7)
    generalize upd H6 e (.tup []) = H7 at s7 p7 it7 iv7 of7 ⊢
    refine ite2 (fun cc => ?_) (fun cc => ?_)
    · have hv0 : vs = [] := List.isEmpty_iff.mp cc
      have c0 : t.cs = [] := by
        rw [hv0] at hlen
        exact List.length_eq_zero_iff.mp hlen.symm
      have c1 : T.cs = [] := by
        rw [c0] at t3
        exact List.length_eq_zero_iff.mp t3.symm
      have eT : t = T := half_ext t2 t5 (by rw [c0, c1])
      subst eT
      obtain ⟨ta', tw', tc', vs', rfl, j1, j2, j3, j4⟩ := iv7
      obtain ⟨ta2, tw2, tc2, vs2, e2, i1, i2, i3, i4⟩ := it7
      cases e2
      refine ⟨_, rfl, _, rfl, ta, ta', _, _, rfl, rfl, i1, j1, ?_, q _ of7⟩
      exact .cons (.inl ⟨rfl, rfl⟩) (.cons (.inr ⟨tw2, tw', _, _, rfl, rfl, i2, j2, alike_flat 2 _ (flat_ints _)⟩) (.cons (.inr ⟨tc2, tc', _, _, rfl, rfl, i3, j3, alike_conns i4 j4⟩) .nil))
    · have hv0 : 0 < vs.length := by
        cases vs with
        | nil => exact absurd rfl cc
        | cons _ _ => exact Nat.succ_pos _
      have few := t1.few
      refine ⟨_, rfl, _, rfl, .inr (.inl ⟨ta, _, 2, _, rfl, rfl, SqT.of (s7 _ _ k1), rfl, ?_⟩)⟩
      refine ⟨_, _, rfl, .inr ⟨_, SqT.of (s7 _ _ k3), rfl⟩, p, _, rfl, p7, by omega, by omega, fun d2 H8 a0 a1 o8 p8 => ?_⟩
      obtain ⟨r, rfl⟩ : ∃ r : Nat, d2 = r := ⟨d2.toNat, by omega⟩
      have hr : r < t.cs.length := by omega
      have hcr : t.cs[r]? = some t.cs[r] := List.getElem?_eq_getElem hr
      generalize t.cs[r] = c at hcr
      have it8 := it7.tk (o8.tk p7)
      have of8 := of7.trans o8
      obtain ⟨ta2, tw2, tc2, vs2, e2, i1, i2, i3, i4⟩ := id it8
      cases e2
      obtain ⟨tt, uu, g1, g2, g3⟩ := i4.get hcr
      have gc := t1.each c (List.mem_of_getElem? hcr)
      have hc81 := (good_fits t1).2.2.2.2 c (List.mem_of_getElem? hcr)
      have hcpos : 0 < c.cs.length := by
        have h1 := gc.len
        have h2 : 0 < t.m ^ c.pl.toNat := Int.pow_pos (by omega)
        omega
      refine ⟨_, rfl, _, rfl, _, rfl, _, rfl, .inr (.inl ⟨ta, _, 2, _, rfl, rfl, SqT.of i1, rfl, _, rfl, .inr (.inl ⟨tc2, _, _, _, rfl, rfl, SqT.of i3, atI_nat g1, .inr (.inl ⟨tt, _, 2, _, rfl, rfl, SqT.of g2, rfl, ?_⟩)⟩)⟩)⟩
      refine ⟨_, _, rfl, .inr ⟨_, SqT.of g3, rfl⟩, p, _, rfl, p8, by rw [List.length_map]; omega, by rw [List.length_map]; omega, fun d3 H9 b0 b1 o9 p9 => ?_⟩
      rw [List.length_map] at b1
      obtain ⟨a, rfl⟩ : ∃ a : Nat, d3 = a := ⟨d3.toNat, by omega⟩
      have ha : a < c.cs.length := by omega
      have hca : c.cs[a]? = some c.cs[a] := List.getElem?_eq_getElem ha
      have hcell := cell_mk hcr hca
      have it9 := it8.tk (o9.tk p8)
      refine ⟨.ref ta, t, r, a, none, rfl, it9, good_fits t1, ⟨_, hcell⟩, fun H10 v10 s10 it10 => ?_⟩
      have gp : Good (putT t r a none) := good_put t1 (fun i hi => by cases hi)
      have hn1 : nones (putT t r a none) = 1 := open_len (Open.one t4 hcell)
      refine ⟨_, rfl, v10, _, rfl, it10, gp, fun H11 s11 => ⟨true, true, rfl, rfl, _, rfl, iteT ?_⟩⟩
      refine ⟨_, rfl, v10, _, rfl, it10.same s11, gp, .inr ⟨by rw [hn1]; decide, fun H12 s12 => ⟨false, false, rfl, rfl, _, rfl, iteT ?_⟩⟩⟩
      refine ⟨_, rfl, v10, _, rfl, (it10.same s11).same s12, good_fits gp, fun H13 s13' => ?_⟩
      have s913 : Same H9 H13 := fun b o qb => s13' _ _ (s12 _ _ (s11 _ _ (s10 _ _ qb)))
      obtain ⟨ta3, tw3, tc3, vs3, e3, u1, u2, u3, u4⟩ := it9.same s913
      cases e3
      refine ⟨_, rfl, .inr (.inl ⟨ta, _, 0, _, rfl, rfl, SqT.of u1, rfl, rfl, ?_⟩)⟩
      have ef : V.int ((putT t r a none).m ^ nones (putT t r a none)) = V.int t.m := by
        rw [hn1, Int.pow_succ, Int.pow_zero, Int.one_mul]
        rfl
      rw [show decide (V.int ((putT t r a none).m ^ nones (putT t r a none)) = V.int t.m) = true from decide_eq_true ef]
      exact q H13 ((of8.trans o9).trans (Off.of s913))

abbrev s_law : Stmt := top 40
theorem sc_law : FnScope ["_law_script", "_law_cell", "_law_pool_here", "_law_half_here", "_law_row", "_law_at"] ["_law_script"] (defScope s_law) := ⟨rfl, rfl, rfl, by decide +kernel, rfl, by decide +kernel, by decide +kernel⟩
theorem ok_law {P : Program} {w : World} {K : PySem.W.Frag} {mg : Str → Option Value} {base : Heap} {f : Addr} {fd : FuncData} (F : Fun K "law" "law" s_law f fd) (gb : Gb mg) (d_law_pool : Def P w K mg base 1 "_law_pool" ["_law_cell"] spPool) (d_law_half : Def P w K mg base 3 "_law_half" ["_law_pool_here", "_law_most", "_law_connectives", "_law_often"] spHalf8) (d_law_nones : Def P w K mg base 1 "_law_nones" ["_law_half_here"] spNonesL) (d_law_with : Def P w K mg base 1 "_law_with" ["_law_half_here", "_law_row", "_law_at", "_law_one"] spWith) (d_law_draw : Def P w K mg base 1 "_law_draw" ["_law_pool_here", "_law_many"] spDraw) (d_law_right : Def P w K mg base 9 "_law_right" ["_law_half_here", "_law_pool_here"] spRight8) : FnOk P w K mg base CX0 10 f fd ["_law_script"] (spLaw K) := by
  refine F.ok sc_law (fun vs H Q E h => ?_) (fun cdv A outer s H vs Q E hr h => ?_)
  · obtain ⟨a, ns, rfl, _⟩ := h
    rfl
  obtain ⟨a, ns, rfl, hS, h63, q⟩ := h
  refine ⟨_, (@pss_cons _ _ _ _ _ (@ps_for _ _ _ _ _ _ _ _ PassesOwn.never rfl (@kpi_list _ K _ _ _ (@pe_op _ _ _ _ _ _ _ _ (@op_cat _) (@pe_lst _ _ _ _ (@pa_cons _ _ _ _ _ (@pe_int _ _ _ _) (@pa_nil _) (by rfl))) (@pe_slice _ _ _ _ _ _ _ _ _ _ (@ksl_any _ K (by rfl)) (@pv _ 0 _ _ (by rfl) (by first | exact Or.inl rfl | exact Or.inr (Or.inl rfl) | exact Or.inr (Or.inr rfl)) (by decide) (by decide)) (@po_none _) (@po_some _ _ _ (@pe_int _ _ _ _)))) (by rfl)) (@pg_name _ _ 1 _ sc_law.nd rfl (Or.inl rfl) (by first | exact .inl rfl | exact .inr rfl | assumption)) (@pss_cons _ _ _ _ _ (@ps_set _ _ 2 _ _ _ _ sc_law.nd rfl (Or.inl rfl) (@pe_def _ _ _ _ _ _ _ _ _ _ _ d_law_pool hr (by omega) rfl (@pa_cons _ _ _ _ _ (@pv _ 1 _ _ (by rfl) (by first | exact Or.inl rfl | exact Or.inr (Or.inl rfl) | exact Or.inr (Or.inr rfl)) (by decide) (by decide)) (@pa_nil _) (by rfl)) (by decide) (by rfl) (by rfl)) (by rfl) (by first | exact .inl rfl | exact .inr rfl | assumption)) (@pss_cons _ _ _ _ _ (@ps_set _ _ 3 _ _ _ _ sc_law.nd rfl (Or.inl rfl) (@pe_def _ _ _ _ _ _ _ _ _ _ _ d_law_half hr (by omega) rfl (@pa_cons _ _ _ _ _ (@pv _ 2 _ _ (by rfl) (by first | exact Or.inl rfl | exact Or.inr (Or.inl rfl) | exact Or.inr (Or.inr rfl)) (by decide) (by decide)) (@pa_cons _ _ _ _ _ (@pe_int _ _ _ _) (@pa_cons _ _ _ _ _ (@pe_int _ _ _ _) (@pa_cons _ _ _ _ _ (@pe_int _ _ _ _) (@pa_nil _) (by rfl)) (by rfl)) (by rfl)) (by rfl)) (by decide) (by rfl) (by rfl)) (by rfl) (by first | exact .inl rfl | exact .inr rfl | assumption)) (@pss_cons _ _ _ _ _ (@ps_for _ _ _ _ _ _ _ _ PassesOwn.never rfl (@kpi_list _ K _ _ _ (@pe_slice _ _ _ _ _ _ _ _ _ _ (@ksl_any _ K (by rfl)) (@pe_def _ _ _ _ _ _ _ _ _ _ _ d_law_nones hr (by omega) rfl (@pa_cons _ _ _ _ _ (@pv _ 3 _ _ (by rfl) (by first | exact Or.inl rfl | exact Or.inr (Or.inl rfl) | exact Or.inr (Or.inr rfl)) (by decide) (by decide)) (@pa_nil _) (by rfl)) (by decide) (by rfl) (by rfl)) (@po_some _ _ _ (@pe_int _ _ _ _)) (@po_none _)) (by rfl)) (@kpg_tup _ K _ _ _ _ 2 rfl (@pgs_cons _ _ _ _ _ (@pg_name _ _ 4 _ sc_law.nd rfl (Or.inl rfl) (by first | exact .inl rfl | exact .inr rfl | assumption)) (@pgs_cons _ _ _ _ _ (@pg_name _ _ 5 _ sc_law.nd rfl (Or.inl rfl) (by first | exact .inl rfl | exact .inr rfl | assumption)) (@pgs_nil _) (by rfl)) (by rfl)) (by rfl) (by rfl) (by rfl)) (@pss_one _ _ _ (@ps_set _ _ 3 _ _ _ _ sc_law.nd rfl (Or.inl rfl) (@pe_def _ _ _ _ _ _ _ _ _ _ _ d_law_with hr (by omega) rfl (@pa_cons _ _ _ _ _ (@pv _ 3 _ _ (by rfl) (by first | exact Or.inl rfl | exact Or.inr (Or.inl rfl) | exact Or.inr (Or.inr rfl)) (by decide) (by decide)) (@pa_cons _ _ _ _ _ (@pv _ 4 _ _ (by rfl) (by first | exact Or.inl rfl | exact Or.inr (Or.inl rfl) | exact Or.inr (Or.inr rfl)) (by decide) (by decide)) (@pa_cons _ _ _ _ _ (@pv _ 5 _ _ (by rfl) (by first | exact Or.inl rfl | exact Or.inr (Or.inl rfl) | exact Or.inr (Or.inr rfl)) (by decide) (by decide)) (@pa_cons _ _ _ _ _ (@pe_def _ _ _ _ _ _ _ _ _ _ _ d_law_draw hr (by omega) rfl (@pa_cons _ _ _ _ _ (@pv _ 2 _ _ (by rfl) (by first | exact Or.inl rfl | exact Or.inr (Or.inl rfl) | exact Or.inr (Or.inr rfl)) (by decide) (by decide)) (@pa_cons _ _ _ _ _ (@pe_ix _ _ _ _ _ _ _ (@kix_seq _ K (by rfl)) (@pv _ 3 _ _ (by rfl) (by first | exact Or.inl rfl | exact Or.inr (Or.inl rfl) | exact Or.inr (Or.inr rfl)) (by decide) (by decide)) (@pe_int _ _ _ _) (fun _ _ => rfl)) (@pa_nil _) (by rfl)) (by rfl)) (by decide) (by rfl) (by rfl)) (@pa_nil _) (by rfl)) (by rfl)) (by rfl)) (by rfl)) (by decide) (by rfl) (by rfl)) (by rfl) (by first | exact .inl rfl | exact .inr rfl | assumption))) (by intro _; rfl)) (@pss_one _ _ _ (@ps_if _ _ _ _ _ _ _ _ (@pt_not _ _ _ _ (@pt_val _ _ _ (@pe_def _ _ _ _ _ _ _ _ _ _ _ d_law_right hr (by omega) rfl (@pa_cons _ _ _ _ _ (@pv _ 3 _ _ (by rfl) (by first | exact Or.inl rfl | exact Or.inr (Or.inl rfl) | exact Or.inr (Or.inr rfl)) (by decide) (by decide)) (@pa_cons _ _ _ _ _ (@pv _ 2 _ _ (by rfl) (by first | exact Or.inl rfl | exact Or.inr (Or.inl rfl) | exact Or.inr (Or.inr rfl)) (by decide) (by decide)) (@pa_nil _) (by rfl)) (by rfl)) (by decide) (by rfl) (by rfl)) (by intro _; rfl))) (@pss_one _ _ _ (@ps_ret _ _ _ _ (@pe_bl _ _ _ _))) (@pss_nil _)))))) (by intro _; rfl)) (@pss_one _ _ _ (@ps_ret _ _ _ _ (@pe_bl _ _ _ _)))), ?_⟩
  refine ⟨small9 (by show 1 ≤ 1000; decide), fun z hz => ?_⟩
  have hS1 : SqL K (upd H z (.lst [.int 0])) a (ns.map V.int) := (same_new hz _).seq hS
  refine ⟨_, rfl, _, rfl, .inl ⟨a, _, rfl, hS1, fun y hy => ?_⟩⟩
  obtain ⟨ms, em⟩ := cut_ints ns none (some 6)
  have hml : ms.length ≤ 63 := by
    have h1 := cutV_length (ns.map V.int) none (some 6)
    rw [em, List.length_map, List.length_map] at h1
    omega
  rw [em] at *
  have zy : z ≠ y := fun e => by
    rw [← e, upd_same] at hy
    cases hy
  refine ⟨z, y, _, _, rfl, rfl, by rw [upd_ne zy]; exact upd_same, upd_same, ?_, fun l hl => ?_⟩
  · rw [List.length_map]
    exact small9 (by show 1 + ms.length ≤ 1000; omega)
  rw [cat_ints]
  refine ⟨l, rfl, ⟨_, SqL.of upd_same⟩, ?_⟩
  refine for_list (xs := (0 :: ms).map V.int) (fun _ σ H' => σ.length = 6 ∧ H' l = some (.lst ((0 :: ms).map V.int))) ⟨rfl, upd_same⟩ (fun i σ H' _ h => SqL.of h.2) ?_ ?_
  · rintro i x σ H' hx ⟨hσ, hl'⟩
    rw [List.getElem?_map] at hx
    obtain ⟨c, _, rfl⟩ := Option.map_eq_some_iff.mp hx
    match σ, hσ with
    | [s0, s1, s2, s3, s4, s5], _ =>
    refine ⟨_, rfl, c, rfl, fun p r a1 b1 hp => ?_⟩
    have lp : l ≠ p := ne_of_none hl' hp
    have p1 : Pool (upd H' p (.lst [.int r, .int a1, .int b1])) p := Pool.put
    refine ⟨_, rfl, p, 3, 4, 3, rfl, p1, by decide, by decide, by decide, by decide, by decide, by decide, fun v T H3 o3 p3 ih g m3 c4 => ?_⟩
    have hl3 : H3 l = some (.lst ((0 :: ms).map V.int)) := o3 _ _ lp (by rw [upd_ne lp]; exact hl')
    refine ⟨_, rfl, v, T, rfl, ih, good_fits g, fun H4 l4 pys s4' hl4 hl40 hP => ?_⟩
    have hop := open_nones T
    generalize nonesL T T.cs.length = ps at hP hop
    have hl44 := s4' _ _ hl3
    have p4 := pool_same p3 s4'
    refine ⟨_, rfl, .inl ⟨l4, _, rfl, SqL.of hl4, fun l5 hl5 => ?_⟩⟩
    have ecut : cutV pys (some 4) none = pys.drop 4 := by
      unfold cutV
      rw [HT.sIx_none, show ((4 : Int)) = ((4 : Nat) : Int) from rfl, HT.sIx_nat]
      rw [List.take_of_length_le (by rw [List.length_drop]; omega)]
      by_cases h4 : 4 ≤ pys.length
      · rw [Nat.min_eq_left h4]
      · rw [Nat.min_eq_right (by omega), List.drop_length, List.drop_of_length_le (by omega)]
    rw [ecut]
    have hP4 : PairsAt H4 (ps.drop 4) (pys.drop 4) := Paired.drop8 4 hP
    have s5' := same_new hl5 (.lst (pys.drop 4))
    have hl55 : (upd H4 l5 (.lst (pys.drop 4))) l5 = some (.lst (pys.drop 4)) := upd_same
    have p5 := pool_same p4 s5'
    have hl56 := s5' _ _ hl44
    have hP5 := PairsAt.same s5' hP4
    have ih5 := (ih.same s4').same s5'
    have n5p : l5 ≠ p := fun z => by
      obtain ⟨_, _, _, e⟩ := p4
      rw [← z, hl5] at e
      cases e
    generalize upd H4 l5 (.lst (pys.drop 4)) = H5 at s5' hl55 p5 hl56 hP5 ih5 ⊢
    have hpl5 := Paired.len8 hP5
    refine ⟨l5, rfl, ⟨_, SqL.of hl55⟩, ?_⟩
    refine for_list (xs := pys.drop 4) (fun j σ H' => ∃ v' T' x4 x5, σ = [s0, some (.int c), some (.ref p), some v', x4, x5] ∧ Off p H5 H' ∧ Pool H' p ∧ IsHalf H' v' T' ∧ Good T' ∧ T'.m = T.m ∧ Open T' (ps.take 4 ++ (ps.drop 4).drop j)) ⟨v, T, s4, s5, rfl, Off.refl, p5, ih5, g, rfl, by rw [List.drop_zero, List.take_append_drop]; exact hop⟩ (fun j σ H' _ hh => by obtain ⟨_, _, _, _, _, o6, _⟩ := hh; exact SqL.of (o6 _ _ n5p hl55)) ?_ ?_
    · rintro j x σ H6 hx6 ⟨v', T', x4, x5, rfl, o6, p6, ih6, g6, m6, op6⟩
      obtain ⟨pr, hpr, t, rfl, ht⟩ := Paired.get8 hP5 hx6
      have hj : j < (ps.drop 4).length := (List.getElem?_eq_some_iff.mp hpr).1
      have ht6 := (o6.tk p5) _ _ ht
      have hdrop : (ps.drop 4).drop j = pr :: (ps.drop 4).drop (j + 1) := by
        rw [List.drop_eq_getElem_cons hj]
        congr 1
        rw [List.getElem?_eq_getElem hj] at hpr
        exact Option.some.inj hpr
      rw [hdrop] at op6
      have hcell : cellAt T' pr.1 pr.2 = some none := (op6.2 pr.1 pr.2).mpr (List.mem_append_right _ List.mem_cons_self)
      have g61 := g6.m1
      have g69 := g6.m9
      refine ⟨t, _, rfl, SqT.of ht6, rfl, _, _, rfl, _, _, rfl, rfl, ?_⟩
      obtain ⟨ta, tw, tc, vs, rfl, k1, k2, k3, k4⟩ := id ih6
      refine ⟨_, rfl, _, rfl, _, rfl, _, rfl, _, rfl, .inr (.inl ⟨ta, _, 0, _, rfl, rfl, SqT.of k1, rfl, p, _, rfl, p6, by omega, by omega, fun d H7 d0 d1 o7 p7 => ?_⟩)⟩
      refine ⟨.ref ta, T', pr.1, pr.2, some d, rfl, ih6.tk (o7.tk p6), good_fits g6, ⟨_, hcell⟩, fun H8 v8 s8 ih8 => ?_⟩
      refine ⟨v8, _, _, _, rfl, (o6.trans o7).trans (Off.of s8), pool_same p7 s8, ih8, good_put g6 (fun i hi => by have := Option.some.inj hi; omega), m6, ?_⟩
      exact Open.put op6 d
    · rintro σ H6 ⟨v', T', x4, x5, rfl, o6, p6, ih6, g6, m6, op6⟩
      have hn4 : nones T' ≤ 4 := by
        rw [open_len op6, hpl5, List.drop_length, List.append_nil, List.length_take]
        omega
      refine ⟨_, rfl, _, rfl, v', p, T', rfl, ih6, p6, g6, by omega, hn4, fun H7 o7 => ⟨true, rfl, ?_⟩⟩
      exact ⟨rfl, o7 _ _ lp (o6 _ _ lp hl56)⟩
  · rintro σ H' ⟨hσ, hl'⟩
    exact q H'

theorem lenK1 {α : Type} : ∀ {us : List α}, us.length = 1 → ∃ x0, us = [x0]
  | [x0], _ => ⟨x0, rfl⟩
theorem lenK2 {α : Type} : ∀ {us : List α}, us.length = 2 → ∃ x0 x1, us = [x0, x1]
  | [x0, x1], _ => ⟨x0, x1, rfl⟩
theorem lenK3 {α : Type} : ∀ {us : List α}, us.length = 3 → ∃ x0 x1 x2, us = [x0, x1, x2]
  | [x0, x1, x2], _ => ⟨x0, x1, x2, rfl⟩
theorem lenK4 {α : Type} : ∀ {us : List α}, us.length = 4 → ∃ x0 x1 x2 x3, us = [x0, x1, x2, x3]
  | [x0, x1, x2, x3], _ => ⟨x0, x1, x2, x3, rfl⟩
theorem all_mk {l : PySem.W.OpenLaw} {w : World} {K : PySem.W.Frag} {h : Heap} {mg : Str → Option Value} {fa f0 f1 f2 f3 f4 f5 f6 f7 f8 f9 f10 f11 f12 f13 f14 f15 f16 f17 f18 f19 f20 f21 f22 f23 f24 f25 f26 f27 f28 f29 : Addr} (X : K.In h) (G : h.Ns mainGlobals mg) (hfa : mg "law" = some (.ref fa))
    {od0 an0 od1 an1 od2 an2 od3 an3 od4 an4 od5 an5 od6 an6 od7 an7 od8 an8 od9 an9 od10 an10 od11 an11 od12 an12 od13 an13 od14 an14 od15 an15 od16 an16 od17 an17 od18 an18 od19 an19 od20 an20 od21 an21 od22 an22 od23 an23 od24 an24 od25 an25 od26 an26 od27 an27 od28 an28 od29 an29 : Option Addr} {sl0 sl1 sl2 sl3 sl4 sl5 sl6 sl7 sl8 sl9 sl10 sl11 sl12 sl13 sl14 sl15 sl16 sl17 sl18 sl19 sl20 sl21 sl22 sl23 sl24 sl25 sl26 sl27 sl28 sl29 : Array (Option Value)} {oc0 kV0 dc0 pm0 cd0 ct0 oc1 kV1 dc1 pm1 cd1 ct1 oc2 kV2 dc2 pm2 cd2 ct2 oc3 kV3 dc3 pm3 cd3 ct3 oc4 kV4 dc4 pm4 cd4 ct4 oc5 kV5 dc5 pm5 cd5 ct5 oc6 kV6 dc6 pm6 cd6 ct6 oc7 kV7 dc7 pm7 cd7 ct7 oc8 kV8 dc8 pm8 cd8 ct8 oc9 kV9 dc9 pm9 cd9 ct9 oc10 kV10 dc10 pm10 cd10 ct10 oc11 kV11 dc11 pm11 cd11 ct11 oc12 kV12 dc12 pm12 cd12 ct12 oc13 kV13 dc13 pm13 cd13 ct13 oc14 kV14 dc14 pm14 cd14 ct14 oc15 kV15 dc15 pm15 cd15 ct15 oc16 kV16 dc16 pm16 cd16 ct16 oc17 kV17 dc17 pm17 cd17 ct17 oc18 kV18 dc18 pm18 cd18 ct18 oc19 kV19 dc19 pm19 cd19 ct19 oc20 kV20 dc20 pm20 cd20 ct20 oc21 kV21 dc21 pm21 cd21 ct21 oc22 kV22 dc22 pm22 cd22 ct22 oc23 kV23 dc23 pm23 cd23 ct23 oc24 kV24 dc24 pm24 cd24 ct24 oc25 kV25 dc25 pm25 cd25 ct25 oc26 kV26 dc26 pm26 cd26 ct26 oc27 kV27 dc27 pm27 cd27 ct27 oc28 kV28 dc28 pm28 cd28 ct28 oc29 kV29 dc29 pm29 cd29 ct29 : Value}
    (a0 : PySem.W.nsIn K mainGlobals "_law_draw" = some (some (.ref f0))) (l0 : K.lookup f0 = some ⟨oc0, od0, .func (PySem.W.fnOf "_law_draw" "_law_draw" (defArgs s_law_draw) (defBody s_law_draw) (defScope s_law_draw) .none kV0 dc0 pm0 an0 cd0 ct0), sl0⟩) (c0 : PySem.W.codeIn K cd0 "_law_draw" = true) (k0 : PySem.W.keepIn K (.ref f0) = true)
    (a1 : PySem.W.nsIn K mainGlobals "_law_pool" = some (some (.ref f1))) (l1 : K.lookup f1 = some ⟨oc1, od1, .func (PySem.W.fnOf "_law_pool" "_law_pool" (defArgs s_law_pool) (defBody s_law_pool) (defScope s_law_pool) .none kV1 dc1 pm1 an1 cd1 ct1), sl1⟩) (c1 : PySem.W.codeIn K cd1 "_law_pool" = true) (k1 : PySem.W.keepIn K (.ref f1) = true)
    (a2 : PySem.W.nsIn K mainGlobals "_law_name" = some (some (.ref f2))) (l2 : K.lookup f2 = some ⟨oc2, od2, .func (PySem.W.fnOf "_law_name" "_law_name" (defArgs s_law_name) (defBody s_law_name) (defScope s_law_name) .none kV2 dc2 pm2 an2 cd2 ct2), sl2⟩) (c2 : PySem.W.codeIn K cd2 "_law_name" = true) (k2 : PySem.W.keepIn K (.ref f2) = true)
    (a3 : PySem.W.nsIn K mainGlobals "_law_cells" = some (some (.ref f3))) (l3 : K.lookup f3 = some ⟨oc3, od3, .func (PySem.W.fnOf "_law_cells" "_law_cells" (defArgs s_law_cells) (defBody s_law_cells) (defScope s_law_cells) .none kV3 dc3 pm3 an3 cd3 ct3), sl3⟩) (c3 : PySem.W.codeIn K cd3 "_law_cells" = true) (k3 : PySem.W.keepIn K (.ref f3) = true)
    (a4 : PySem.W.nsIn K mainGlobals "_law_half" = some (some (.ref f4))) (l4 : K.lookup f4 = some ⟨oc4, od4, .func (PySem.W.fnOf "_law_half" "_law_half" (defArgs s_law_half) (defBody s_law_half) (defScope s_law_half) .none kV4 dc4 pm4 an4 cd4 ct4), sl4⟩) (c4 : PySem.W.codeIn K cd4 "_law_half" = true) (k4 : PySem.W.keepIn K (.ref f4) = true)
    (a5 : PySem.W.nsIn K mainGlobals "is_whole" = some (some (.ref f5))) (l5 : K.lookup f5 = some ⟨oc5, od5, .func (PySem.W.fnOf "is_whole" "is_whole" (defArgs s_is_whole) (defBody s_is_whole) (defScope s_is_whole) .none kV5 dc5 pm5 an5 cd5 ct5), sl5⟩) (c5 : PySem.W.codeIn K cd5 "is_whole" = true) (k5 : PySem.W.keepIn K (.ref f5) = true)
    (a6 : PySem.W.nsIn K mainGlobals "has_small_letters_alone" = some (some (.ref f6))) (l6 : K.lookup f6 = some ⟨oc6, od6, .func (PySem.W.fnOf "has_small_letters_alone" "has_small_letters_alone" (defArgs s_has_small_letters_alone) (defBody s_has_small_letters_alone) (defScope s_has_small_letters_alone) .none kV6 dc6 pm6 an6 cd6 ct6), sl6⟩) (c6 : PySem.W.codeIn K cd6 "has_small_letters_alone" = true) (k6 : PySem.W.keepIn K (.ref f6) = true)
    (a7 : PySem.W.nsIn K mainGlobals "is_name" = some (some (.ref f7))) (l7 : K.lookup f7 = some ⟨oc7, od7, .func (PySem.W.fnOf "is_name" "is_name" (defArgs s_is_name) (defBody s_is_name) (defScope s_is_name) .none kV7 dc7 pm7 an7 cd7 ct7), sl7⟩) (c7 : PySem.W.codeIn K cd7 "is_name" = true) (k7 : PySem.W.keepIn K (.ref f7) = true)
    (a8 : PySem.W.nsIn K mainGlobals "count_nones" = some (some (.ref f8))) (l8 : K.lookup f8 = some ⟨oc8, od8, .func (PySem.W.fnOf "count_nones" "count_nones" (defArgs s_count_nones) (defBody s_count_nones) (defScope s_count_nones) .none kV8 dc8 pm8 an8 cd8 ct8), sl8⟩) (c8 : PySem.W.codeIn K cd8 "count_nones" = true) (k8 : PySem.W.keepIn K (.ref f8) = true)
    (a9 : PySem.W.nsIn K mainGlobals "power" = some (some (.ref f9))) (l9 : K.lookup f9 = some ⟨oc9, od9, .func (PySem.W.fnOf "power" "power" (defArgs s_power) (defBody s_power) (defScope s_power) .none kV9 dc9 pm9 an9 cd9 ct9), sl9⟩) (c9 : PySem.W.codeIn K cd9 "power" = true) (k9 : PySem.W.keepIn K (.ref f9) = true)
    (a10 : PySem.W.nsIn K mainGlobals "is_grade" = some (some (.ref f10))) (l10 : K.lookup f10 = some ⟨oc10, od10, .func (PySem.W.fnOf "is_grade" "is_grade" (defArgs s_is_grade) (defBody s_is_grade) (defScope s_is_grade) .none kV10 dc10 pm10 an10 cd10 ct10), sl10⟩) (c10 : PySem.W.codeIn K cd10 "is_grade" = true) (k10 : PySem.W.keepIn K (.ref f10) = true)
    (a11 : PySem.W.nsIn K mainGlobals "are_rising_grades" = some (some (.ref f11))) (l11 : K.lookup f11 = some ⟨oc11, od11, .func (PySem.W.fnOf "are_rising_grades" "are_rising_grades" (defArgs s_are_rising_grades) (defBody s_are_rising_grades) (defScope s_are_rising_grades) .none kV11 dc11 pm11 an11 cd11 ct11), sl11⟩) (c11 : PySem.W.codeIn K cd11 "are_rising_grades" = true) (k11 : PySem.W.keepIn K (.ref f11) = true)
    (a12 : PySem.W.nsIn K mainGlobals "are_cells" = some (some (.ref f12))) (l12 : K.lookup f12 = some ⟨oc12, od12, .func (PySem.W.fnOf "are_cells" "are_cells" (defArgs s_are_cells) (defBody s_are_cells) (defScope s_are_cells) .none kV12 dc12 pm12 an12 cd12 ct12), sl12⟩) (c12 : PySem.W.codeIn K cd12 "are_cells" = true) (k12 : PySem.W.keepIn K (.ref f12) = true)
    (a13 : PySem.W.nsIn K mainGlobals "is_connective" = some (some (.ref f13))) (l13 : K.lookup f13 = some ⟨oc13, od13, .func (PySem.W.fnOf "is_connective" "is_connective" (defArgs s_is_connective) (defBody s_is_connective) (defScope s_is_connective) .none kV13 dc13 pm13 an13 cd13 ct13), sl13⟩) (c13 : PySem.W.codeIn K cd13 "is_connective" = true) (k13 : PySem.W.keepIn K (.ref f13) = true)
    (a14 : PySem.W.nsIn K mainGlobals "are_connectives" = some (some (.ref f14))) (l14 : K.lookup f14 = some ⟨oc14, od14, .func (PySem.W.fnOf "are_connectives" "are_connectives" (defArgs s_are_connectives) (defBody s_are_connectives) (defScope s_are_connectives) .none kV14 dc14 pm14 an14 cd14 ct14), sl14⟩) (c14 : PySem.W.codeIn K cd14 "are_connectives" = true) (k14 : PySem.W.keepIn K (.ref f14) = true)
    (a15 : PySem.W.nsIn K mainGlobals "is_half" = some (some (.ref f15))) (l15 : K.lookup f15 = some ⟨oc15, od15, .func (PySem.W.fnOf "is_half" "is_half" (defArgs s_is_half) (defBody s_is_half) (defScope s_is_half) .none kV15 dc15 pm15 an15 cd15 ct15), sl15⟩) (c15 : PySem.W.codeIn K cd15 "is_half" = true) (k15 : PySem.W.keepIn K (.ref f15) = true)
    (a16 : PySem.W.nsIn K mainGlobals "is_table" = some (some (.ref f16))) (l16 : K.lookup f16 = some ⟨oc16, od16, .func (PySem.W.fnOf "is_table" "is_table" (defArgs s_is_table) (defBody s_is_table) (defScope s_is_table) .none kV16 dc16 pm16 an16 cd16 ct16), sl16⟩) (c16 : PySem.W.codeIn K cd16 "is_table" = true) (k16 : PySem.W.keepIn K (.ref f16) = true)
    (a17 : PySem.W.nsIn K mainGlobals "part_text" = some (some (.ref f17))) (l17 : K.lookup f17 = some ⟨oc17, od17, .func (PySem.W.fnOf "part_text" "part_text" (defArgs s_part_text) (defBody s_part_text) (defScope s_part_text) .none kV17 dc17 pm17 an17 cd17 ct17), sl17⟩) (c17 : PySem.W.codeIn K cd17 "part_text" = true) (k17 : PySem.W.keepIn K (.ref f17) = true)
    (a18 : PySem.W.nsIn K mainGlobals "show_table" = some (some (.ref f18))) (l18 : K.lookup f18 = some ⟨oc18, od18, .func (PySem.W.fnOf "show_table" "show_table" (defArgs s_show_table) (defBody s_show_table) (defScope s_show_table) .none kV18 dc18 pm18 an18 cd18 ct18), sl18⟩) (c18 : PySem.W.codeIn K cd18 "show_table" = true) (k18 : PySem.W.keepIn K (.ref f18) = true)
    (a19 : PySem.W.nsIn K mainGlobals "number_of" = some (some (.ref f19))) (l19 : K.lookup f19 = some ⟨oc19, od19, .func (PySem.W.fnOf "number_of" "number_of" (defArgs s_number_of) (defBody s_number_of) (defScope s_number_of) .none kV19 dc19 pm19 an19 cd19 ct19), sl19⟩) (c19 : PySem.W.codeIn K cd19 "number_of" = true) (k19 : PySem.W.keepIn K (.ref f19) = true)
    (a20 : PySem.W.nsIn K mainGlobals "numbers_of" = some (some (.ref f20))) (l20 : K.lookup f20 = some ⟨oc20, od20, .func (PySem.W.fnOf "numbers_of" "numbers_of" (defArgs s_numbers_of) (defBody s_numbers_of) (defScope s_numbers_of) .none kV20 dc20 pm20 an20 cd20 ct20), sl20⟩) (c20 : PySem.W.codeIn K cd20 "numbers_of" = true) (k20 : PySem.W.keepIn K (.ref f20) = true)
    (a21 : PySem.W.nsIn K mainGlobals "connective_of" = some (some (.ref f21))) (l21 : K.lookup f21 = some ⟨oc21, od21, .func (PySem.W.fnOf "connective_of" "connective_of" (defArgs s_connective_of) (defBody s_connective_of) (defScope s_connective_of) .none kV21 dc21 pm21 an21 cd21 ct21), sl21⟩) (c21 : PySem.W.codeIn K cd21 "connective_of" = true) (k21 : PySem.W.keepIn K (.ref f21) = true)
    (a22 : PySem.W.nsIn K mainGlobals "table_of" = some (some (.ref f22))) (l22 : K.lookup f22 = some ⟨oc22, od22, .func (PySem.W.fnOf "table_of" "table_of" (defArgs s_table_of) (defBody s_table_of) (defScope s_table_of) .none kV22 dc22 pm22 an22 cd22 ct22), sl22⟩) (c22 : PySem.W.codeIn K cd22 "table_of" = true) (k22 : PySem.W.keepIn K (.ref f22) = true)
    (a23 : PySem.W.nsIn K mainGlobals "read_table" = some (some (.ref f23))) (l23 : K.lookup f23 = some ⟨oc23, od23, .func (PySem.W.fnOf "read_table" "read_table" (defArgs s_read_table) (defBody s_read_table) (defScope s_read_table) .none kV23 dc23 pm23 an23 cd23 ct23), sl23⟩) (c23 : PySem.W.codeIn K cd23 "read_table" = true) (k23 : PySem.W.keepIn K (.ref f23) = true)
    (a24 : PySem.W.nsIn K mainGlobals "fillings" = some (some (.ref f24))) (l24 : K.lookup f24 = some ⟨oc24, od24, .func (PySem.W.fnOf "fillings" "fillings" (defArgs s_fillings) (defBody s_fillings) (defScope s_fillings) .none kV24 dc24 pm24 an24 cd24 ct24), sl24⟩) (c24 : PySem.W.codeIn K cd24 "fillings" = true) (k24 : PySem.W.keepIn K (.ref f24) = true)
    (a25 : PySem.W.nsIn K mainGlobals "_law_with" = some (some (.ref f25))) (l25 : K.lookup f25 = some ⟨oc25, od25, .func (PySem.W.fnOf "_law_with" "_law_with" (defArgs s_law_with) (defBody s_law_with) (defScope s_law_with) .none kV25 dc25 pm25 an25 cd25 ct25), sl25⟩) (c25 : PySem.W.codeIn K cd25 "_law_with" = true) (k25 : PySem.W.keepIn K (.ref f25) = true)
    (a26 : PySem.W.nsIn K mainGlobals "_law_nones" = some (some (.ref f26))) (l26 : K.lookup f26 = some ⟨oc26, od26, .func (PySem.W.fnOf "_law_nones" "_law_nones" (defArgs s_law_nones) (defBody s_law_nones) (defScope s_law_nones) .none kV26 dc26 pm26 an26 cd26 ct26), sl26⟩) (c26 : PySem.W.codeIn K cd26 "_law_nones" = true) (k26 : PySem.W.keepIn K (.ref f26) = true)
    (a27 : PySem.W.nsIn K mainGlobals "_law_walked" = some (some (.ref f27))) (l27 : K.lookup f27 = some ⟨oc27, od27, .func (PySem.W.fnOf "_law_walked" "_law_walked" (defArgs s_law_walked) (defBody s_law_walked) (defScope s_law_walked) .none kV27 dc27 pm27 an27 cd27 ct27), sl27⟩) (c27 : PySem.W.codeIn K cd27 "_law_walked" = true) (k27 : PySem.W.keepIn K (.ref f27) = true)
    (a28 : PySem.W.nsIn K mainGlobals "_law_right" = some (some (.ref f28))) (l28 : K.lookup f28 = some ⟨oc28, od28, .func (PySem.W.fnOf "_law_right" "_law_right" (defArgs s_law_right) (defBody s_law_right) (defScope s_law_right) .none kV28 dc28 pm28 an28 cd28 ct28), sl28⟩) (c28 : PySem.W.codeIn K cd28 "_law_right" = true) (k28 : PySem.W.keepIn K (.ref f28) = true)
    (a29 : PySem.W.nsIn K mainGlobals "law" = some (some (.ref f29))) (l29 : K.lookup f29 = some ⟨oc29, od29, .func (PySem.W.fnOf "law" "law" (defArgs s_law) (defBody s_law) (defScope s_law) .none kV29 dc29 pm29 an29 cd29 ct29), sl29⟩) (c29 : PySem.W.codeIn K cd29 "law" = true) (k29 : PySem.W.keepIn K (.ref f29) = true)
    (z0 : PySem.W.nsIn K mainGlobals "abs" = some none)
    (z1 : PySem.W.nsIn K mainGlobals "range" = some none)
    (z2 : PySem.W.nsIn K mainGlobals "tuple" = some none)
    (z3 : PySem.W.nsIn K mainGlobals "sum" = some none)
    (z4 : PySem.W.nsIn K mainGlobals "isinstance" = some none)
    (z5 : PySem.W.nsIn K mainGlobals "int" = some none)
    (z6 : PySem.W.nsIn K mainGlobals "bool" = some none)
    (z7 : PySem.W.nsIn K mainGlobals "str" = some none)
    (z8 : PySem.W.nsIn K mainGlobals "len" = some none)
    (z9 : PySem.W.nsIn K mainGlobals "all" = some none)
    (z10 : PySem.W.nsIn K mainGlobals "zip" = some none)
    (z11 : PySem.W.nsIn K mainGlobals "set" = some none)
    {yt0 : Tok} (y0 : PySem.W.nsIn K mainGlobals "MOST_GRADES" = some (some (.int 9 yt0)))
    {yt1 : Tok} (y1 : PySem.W.nsIn K mainGlobals "MOST_PLACES" = some (some (.int 2 yt1)))
    {yt2 : Tok} (y2 : PySem.W.nsIn K mainGlobals "MOST_CONNECTIVES" = some (some (.int 8 yt2)))
    {yt3 : Tok} (y3 : PySem.W.nsIn K mainGlobals "FIGURES" = some (some (.str figures yt3)))
    : ∃ fd : FuncData, (∀ (s : Shared) (v : Value), BindsTo s fd ⟨[v], []⟩ [("_law_script", v)]) ∧ ∀ base : Heap, K.In base → base.Ns mainGlobals mg → FnOk l.prog w K mg base CX0 10 fa fd ["_law_script"] (spLaw K) := by
  have e := hfa.symm.trans (PySem.W.mg_of X G a29)
  cases e
  have F0 := fun_mk (st := s_law_draw) l0 c0 k0
  have b0 := F0.binds (ps := ["_law_pool_here", "_law_many"]) fun _ _ _ _ _ _ us hl => by obtain ⟨z0_, z1_, rfl⟩ := lenK2 hl; rfl
  have F1 := fun_mk (st := s_law_pool) l1 c1 k1
  have b1 := F1.binds (ps := ["_law_cell"]) fun _ _ _ _ _ _ us hl => by obtain ⟨z0_, rfl⟩ := lenK1 hl; rfl
  have F2 := fun_mk (st := s_law_name) l2 c2 k2
  have b2 := F2.binds (ps := ["_law_pool_here", "_law_names"]) fun _ _ _ _ _ _ us hl => by obtain ⟨z0_, z1_, rfl⟩ := lenK2 hl; rfl
  have F3 := fun_mk (st := s_law_cells) l3 c3 k3
  have b3 := F3.binds (ps := ["_law_pool_here", "_law_many", "_law_places", "_law_often"]) fun _ _ _ _ _ _ us hl => by obtain ⟨z0_, z1_, z2_, z3_, rfl⟩ := lenK4 hl; rfl
  have F4 := fun_mk (st := s_law_half) l4 c4 k4
  have b4 := F4.binds (ps := ["_law_pool_here", "_law_most", "_law_connectives", "_law_often"]) fun _ _ _ _ _ _ us hl => by obtain ⟨z0_, z1_, z2_, z3_, rfl⟩ := lenK4 hl; rfl
  have F5 := fun_mk (st := s_is_whole) l5 c5 k5
  have b5 := F5.binds (ps := ["thing"]) fun _ _ _ _ _ _ us hl => by obtain ⟨z0_, rfl⟩ := lenK1 hl; rfl
  have F6 := fun_mk (st := s_has_small_letters_alone) l6 c6 k6
  have b6 := F6.binds (ps := ["text"]) fun _ _ _ _ _ _ us hl => by obtain ⟨z0_, rfl⟩ := lenK1 hl; rfl
  have F7 := fun_mk (st := s_is_name) l7 c7 k7
  have b7 := F7.binds (ps := ["thing"]) fun _ _ _ _ _ _ us hl => by obtain ⟨z0_, rfl⟩ := lenK1 hl; rfl
  have F8 := fun_mk (st := s_count_nones) l8 c8 k8
  have b8 := F8.binds (ps := ["H"]) fun _ _ _ _ _ _ us hl => by obtain ⟨z0_, rfl⟩ := lenK1 hl; rfl
  have F9 := fun_mk (st := s_power) l9 c9 k9
  have b9 := F9.binds (ps := ["base", "exponent"]) fun _ _ _ _ _ _ us hl => by obtain ⟨z0_, z1_, rfl⟩ := lenK2 hl; rfl
  have F10 := fun_mk (st := s_is_grade) l10 c10 k10
  have b10 := F10.binds (ps := ["thing", "many"]) fun _ _ _ _ _ _ us hl => by obtain ⟨z0_, z1_, rfl⟩ := lenK2 hl; rfl
  have F11 := fun_mk (st := s_are_rising_grades) l11 c11 k11
  have b11 := F11.binds (ps := ["thing", "many"]) fun _ _ _ _ _ _ us hl => by obtain ⟨z0_, z1_, rfl⟩ := lenK2 hl; rfl
  have F12 := fun_mk (st := s_are_cells) l12 c12 k12
  have b12 := F12.binds (ps := ["thing", "many", "length"]) fun _ _ _ _ _ _ us hl => by obtain ⟨z0_, z1_, z2_, rfl⟩ := lenK3 hl; rfl
  have F13 := fun_mk (st := s_is_connective) l13 c13 k13
  have b13 := F13.binds (ps := ["thing", "many"]) fun _ _ _ _ _ _ us hl => by obtain ⟨z0_, z1_, rfl⟩ := lenK2 hl; rfl
  have F14 := fun_mk (st := s_are_connectives) l14 c14 k14
  have b14 := F14.binds (ps := ["thing", "many"]) fun _ _ _ _ _ _ us hl => by obtain ⟨z0_, z1_, rfl⟩ := lenK2 hl; rfl
  have F15 := fun_mk (st := s_is_half) l15 c15 k15
  have b15 := F15.binds (ps := ["thing"]) fun _ _ _ _ _ _ us hl => by obtain ⟨z0_, rfl⟩ := lenK1 hl; rfl
  have F16 := fun_mk (st := s_is_table) l16 c16 k16
  have b16 := F16.binds (ps := ["thing"]) fun _ _ _ _ _ _ us hl => by obtain ⟨z0_, rfl⟩ := lenK1 hl; rfl
  have F17 := fun_mk (st := s_part_text) l17 c17 k17
  have b17 := F17.binds (ps := ["word", "numbers"]) fun _ _ _ _ _ _ us hl => by obtain ⟨z0_, z1_, rfl⟩ := lenK2 hl; rfl
  have F18 := fun_mk (st := s_show_table) l18 c18 k18
  have b18 := F18.binds (ps := ["T"]) fun _ _ _ _ _ _ us hl => by obtain ⟨z0_, rfl⟩ := lenK1 hl; rfl
  have F19 := fun_mk (st := s_number_of) l19 c19 k19
  have b19 := F19.binds (ps := ["word"]) fun _ _ _ _ _ _ us hl => by obtain ⟨z0_, rfl⟩ := lenK1 hl; rfl
  have F20 := fun_mk (st := s_numbers_of) l20 c20 k20
  have b20 := F20.binds (ps := ["words"]) fun _ _ _ _ _ _ us hl => by obtain ⟨z0_, rfl⟩ := lenK1 hl; rfl
  have F21 := fun_mk (st := s_connective_of) l21 c21 k21
  have b21 := F21.binds (ps := ["words"]) fun _ _ _ _ _ _ us hl => by obtain ⟨z0_, rfl⟩ := lenK1 hl; rfl
  have F22 := fun_mk (st := s_table_of) l22 c22 k22
  have b22 := F22.binds (ps := ["parts"]) fun _ _ _ _ _ _ us hl => by obtain ⟨z0_, rfl⟩ := lenK1 hl; rfl
  have F23 := fun_mk (st := s_read_table) l23 c23 k23
  have b23 := F23.binds (ps := ["text"]) fun _ _ _ _ _ _ us hl => by obtain ⟨z0_, rfl⟩ := lenK1 hl; rfl
  have F24 := fun_mk (st := s_fillings) l24 c24 k24
  have b24 := F24.binds (ps := ["H"]) fun _ _ _ _ _ _ us hl => by obtain ⟨z0_, rfl⟩ := lenK1 hl; rfl
  have F25 := fun_mk (st := s_law_with) l25 c25 k25
  have b25 := F25.binds (ps := ["_law_half_here", "_law_row", "_law_at", "_law_one"]) fun _ _ _ _ _ _ us hl => by obtain ⟨z0_, z1_, z2_, z3_, rfl⟩ := lenK4 hl; rfl
  have F26 := fun_mk (st := s_law_nones) l26 c26 k26
  have b26 := F26.binds (ps := ["_law_half_here"]) fun _ _ _ _ _ _ us hl => by obtain ⟨z0_, rfl⟩ := lenK1 hl; rfl
  have F27 := fun_mk (st := s_law_walked) l27 c27 k27
  have b27 := F27.binds (ps := ["_law_half_here"]) fun _ _ _ _ _ _ us hl => by obtain ⟨z0_, rfl⟩ := lenK1 hl; rfl
  have F28 := fun_mk (st := s_law_right) l28 c28 k28
  have b28 := F28.binds (ps := ["_law_half_here", "_law_pool_here"]) fun _ _ _ _ _ _ us hl => by obtain ⟨z0_, z1_, rfl⟩ := lenK2 hl; rfl
  have F29 := fun_mk (st := s_law) l29 c29 k29
  have b29 := F29.binds (ps := ["_law_script"]) fun _ _ _ _ _ _ us hl => by obtain ⟨z0_, rfl⟩ := lenK1 hl; rfl
  have gb : Gb mg := ⟨PySem.W.mg_none_of X G z0, PySem.W.mg_none_of X G z1, PySem.W.mg_none_of X G z2, PySem.W.mg_none_of X G z3, PySem.W.mg_none_of X G z4, PySem.W.mg_none_of X G z5, PySem.W.mg_none_of X G z6, PySem.W.mg_none_of X G z7, PySem.W.mg_none_of X G z8, PySem.W.mg_none_of X G z9, PySem.W.mg_none_of X G z10, PySem.W.mg_none_of X G z11, ⟨_, PySem.W.mg_of X G y0, _, rfl⟩, ⟨_, PySem.W.mg_of X G y1, _, rfl⟩, ⟨_, PySem.W.mg_of X G y2, _, rfl⟩, ⟨_, PySem.W.mg_of X G y3, _, rfl⟩⟩
  refine ⟨PySem.W.fnOf "law" "law" (defArgs s_law) (defBody s_law) (defScope s_law) .none kV29 dc29 pm29 an29 cd29 ct29, fun s v => .of_eq rfl, fun base _ _ => ?_⟩
  have d_law_draw : Def l.prog w K mg base 1 "_law_draw" ["_law_pool_here", "_law_many"] spDraw := ⟨f0, _, ok_law_draw F0 gb, PySem.W.mg_of X G a0, k0, b0⟩
  have d_law_pool : Def l.prog w K mg base 1 "_law_pool" ["_law_cell"] spPool := ⟨f1, _, ok_law_pool F1 gb, PySem.W.mg_of X G a1, k1, b1⟩
  have d_law_name : Def l.prog w K mg base 2 "_law_name" ["_law_pool_here", "_law_names"] spName := ⟨f2, _, ok_law_name F2 gb d_law_draw, PySem.W.mg_of X G a2, k2, b2⟩
  have d_law_cells : Def l.prog w K mg base 2 "_law_cells" ["_law_pool_here", "_law_many", "_law_places", "_law_often"] spCells := ⟨f3, _, ok_law_cells F3 gb d_law_draw, PySem.W.mg_of X G a3, k3, b3⟩
  have d_law_half : Def l.prog w K mg base 3 "_law_half" ["_law_pool_here", "_law_most", "_law_connectives", "_law_often"] spHalf8 := ⟨f4, _, ok_law_half F4 gb d_law_draw d_law_name d_law_cells, PySem.W.mg_of X G a4, k4, b4⟩
  have d_is_whole : Def l.prog w K mg base 1 "is_whole" ["thing"] spWhole := ⟨f5, _, ok_is_whole F5 gb, PySem.W.mg_of X G a5, k5, b5⟩
  have d_has_small_letters_alone : Def l.prog w K mg base 1 "has_small_letters_alone" ["text"] spSmall := ⟨f6, _, ok_has_small_letters_alone F6 gb, PySem.W.mg_of X G a6, k6, b6⟩
  have d_is_name : Def l.prog w K mg base 2 "is_name" ["thing"] spNameQ := ⟨f7, _, ok_is_name F7 gb d_has_small_letters_alone, PySem.W.mg_of X G a7, k7, b7⟩
  have d_count_nones : Def l.prog w K mg base 1 "count_nones" ["H"] spNones := ⟨f8, _, ok_count_nones F8 gb, PySem.W.mg_of X G a8, k8, b8⟩
  have d_power : Def l.prog w K mg base 1 "power" ["base", "exponent"] spPower := ⟨f9, _, ok_power F9 gb, PySem.W.mg_of X G a9, k9, b9⟩
  have d_is_grade : Def l.prog w K mg base 2 "is_grade" ["thing", "many"] spGrade := ⟨f10, _, ok_is_grade F10 gb d_is_whole, PySem.W.mg_of X G a10, k10, b10⟩
  have d_are_rising_grades : Def l.prog w K mg base 3 "are_rising_grades" ["thing", "many"] spRising := ⟨f11, _, ok_are_rising_grades F11 gb d_is_grade, PySem.W.mg_of X G a11, k11, b11⟩
  have d_are_cells : Def l.prog w K mg base 3 "are_cells" ["thing", "many", "length"] spCellsQ := ⟨f12, _, ok_are_cells F12 gb d_is_grade, PySem.W.mg_of X G a12, k12, b12⟩
  have d_is_connective : Def l.prog w K mg base 4 "is_connective" ["thing", "many"] spConn := ⟨f13, _, ok_is_connective F13 gb d_is_name d_is_whole d_are_cells d_power, PySem.W.mg_of X G a13, k13, b13⟩
  have d_are_connectives : Def l.prog w K mg base 5 "are_connectives" ["thing", "many"] spConns := ⟨f14, _, ok_are_connectives F14 gb d_is_connective, PySem.W.mg_of X G a14, k14, b14⟩
  have d_is_half : Def l.prog w K mg base 6 "is_half" ["thing"] spIsHalf := ⟨f15, _, ok_is_half F15 gb d_is_whole d_are_rising_grades d_are_connectives, PySem.W.mg_of X G a15, k15, b15⟩
  have d_is_table : Def l.prog w K mg base 7 "is_table" ["thing"] spIsTable := ⟨f16, _, ok_is_table F16 gb d_is_half d_count_nones, PySem.W.mg_of X G a16, k16, b16⟩
  have d_part_text : Def l.prog w K mg base 1 "part_text" ["word", "numbers"] spPart := ⟨f17, _, ok_part_text F17 gb, PySem.W.mg_of X G a17, k17, b17⟩
  have d_show_table : Def l.prog w K mg base 2 "show_table" ["T"] spShow := ⟨f18, _, ok_show_table F18 gb d_part_text, PySem.W.mg_of X G a18, k18, b18⟩
  have d_number_of : Def l.prog w K mg base 1 "number_of" ["word"] spNumber := ⟨f19, _, ok_number_of F19 gb, PySem.W.mg_of X G a19, k19, b19⟩
  have d_numbers_of : Def l.prog w K mg base 2 "numbers_of" ["words"] spNumbers := ⟨f20, _, ok_numbers_of F20 gb d_number_of, PySem.W.mg_of X G a20, k20, b20⟩
  have d_connective_of : Def l.prog w K mg base 3 "connective_of" ["words"] spConnOf := ⟨f21, _, ok_connective_of F21 gb d_number_of d_numbers_of, PySem.W.mg_of X G a21, k21, b21⟩
  have d_table_of : Def l.prog w K mg base 4 "table_of" ["parts"] spTableOf := ⟨f22, _, ok_table_of F22 gb d_number_of d_numbers_of d_connective_of, PySem.W.mg_of X G a22, k22, b22⟩
  have d_read_table : Def l.prog w K mg base 8 "read_table" ["text"] spRead := ⟨f23, _, ok_read_table F23 gb d_table_of d_is_table, PySem.W.mg_of X G a23, k23, b23⟩
  have d_fillings : Def l.prog w K mg base 2 "fillings" ["H"] spFill := ⟨f24, _, ok_fillings F24 gb d_power d_count_nones, PySem.W.mg_of X G a24, k24, b24⟩
  have d_law_with : Def l.prog w K mg base 1 "_law_with" ["_law_half_here", "_law_row", "_law_at", "_law_one"] spWith := ⟨f25, _, ok_law_with F25 gb, PySem.W.mg_of X G a25, k25, b25⟩
  have d_law_nones : Def l.prog w K mg base 1 "_law_nones" ["_law_half_here"] spNonesL := ⟨f26, _, ok_law_nones F26 gb, PySem.W.mg_of X G a26, k26, b26⟩
  have d_law_walked : Def l.prog w K mg base 2 "_law_walked" ["_law_half_here"] spWalked := ⟨f27, _, ok_law_walked F27 gb d_law_nones d_law_with, PySem.W.mg_of X G a27, k27, b27⟩
  have d_law_right : Def l.prog w K mg base 9 "_law_right" ["_law_half_here", "_law_pool_here"] spRight8 := ⟨f28, _, ok_law_right F28 gb d_law_walked d_fillings d_is_half d_is_table d_read_table d_show_table d_law_draw d_law_with, PySem.W.mg_of X G a28, k28, b28⟩
  exact ok_law F29 gb d_law_pool d_law_half d_law_nones d_law_with d_law_draw d_law_right
theorem walk {l : PySem.W.OpenLaw} {q : Program} {loose : List Str} {XP : (Str → Option Value) → Heap → Prop} {YP : World → Heap → Prop} {d : DefRec} {K : Params → PySem.W.Frag} (hn : l.most = some 63) (hdf : d.params.defaults = [])
    (hY : ∀ (w : World) (h : Heap), YP w h → (K w.params).In h)
    (F : ∀ (w : World) (mg : Str → Option Value) (fa : Addr) (h : Heap), (K w.params).In h → h.Ns mainGlobals mg → mg d.name = some (.ref fa) →
      ∃ fd : FuncData, (∀ (s : Shared) (u : Value), BindsTo s fd ⟨[u], []⟩ [("_law_script", u)]) ∧ ∀ base : Heap, (K w.params).In base → base.Ns mainGlobals mg → FnOk l.prog w (K w.params) mg base CX0 10 fa fd ["_law_script"] (spLaw (K w.params))) :
    PySem.W.WalkO q loose XP YP l.row.toRowW d [] (fun f vs => PySem.call f vs) :=
  L2.walk_of (n := 63) (k := 10) (x := "_law_script") (CX := fun _ => CX0) (sp := fun w => spLaw (K w.params)) hn (by decide) hdf ⟨rfl, by decide, by decide⟩ hY F (fun _ _ a ns hl _ hS => ⟨a, ns, rfl, hS, hl, fun _ => rfl⟩) fun _ _ _ _ _ z => z
end K08
open PySem PySem.W PyProof.Rows
set_option maxRecDepth 100000 in
set_option maxHeartbeats 0 in
theorem PySem.Challenge.cw_truthgrades_k08_whole_fillings_walked_holds : PySem.Challenge.rw_truthgrades_k08_whole_fillings_walked.Holds := by
  w_on; o_law; k_head; (case hw => w_witness2)
  k_fill
  refine K08.walk (l := PySem.Challenge.rw_truthgrades_k08_whole_fillings_walked) rfl rfl (fun w h Y => PySem.W.kIn_of Y) ?F
  case F =>
    intro w mg fa h KX G hmg
    refine' K08.all_mk KX G hmg ?a0 ?l0 ?c0 ?k0 ?a1 ?l1 ?c1 ?k1 ?a2 ?l2 ?c2 ?k2 ?a3 ?l3 ?c3 ?k3 ?a4 ?l4 ?c4 ?k4 ?a5 ?l5 ?c5 ?k5 ?a6 ?l6 ?c6 ?k6 ?a7 ?l7 ?c7 ?k7 ?a8 ?l8 ?c8 ?k8 ?a9 ?l9 ?c9 ?k9 ?a10 ?l10 ?c10 ?k10 ?a11 ?l11 ?c11 ?k11 ?a12 ?l12 ?c12 ?k12 ?a13 ?l13 ?c13 ?k13 ?a14 ?l14 ?c14 ?k14 ?a15 ?l15 ?c15 ?k15 ?a16 ?l16 ?c16 ?k16 ?a17 ?l17 ?c17 ?k17 ?a18 ?l18 ?c18 ?k18 ?a19 ?l19 ?c19 ?k19 ?a20 ?l20 ?c20 ?k20 ?a21 ?l21 ?c21 ?k21 ?a22 ?l22 ?c22 ?k22 ?a23 ?l23 ?c23 ?k23 ?a24 ?l24 ?c24 ?k24 ?a25 ?l25 ?c25 ?k25 ?a26 ?l26 ?c26 ?k26 ?a27 ?l27 ?c27 ?k27 ?a28 ?l28 ?c28 ?k28 ?a29 ?l29 ?c29 ?k29 ?z0 ?z1 ?z2 ?z3 ?z4 ?z5 ?z6 ?z7 ?z8 ?z9 ?z10 ?z11 ?y0 ?y1 ?y2 ?y3
    (case a0 => k_is); (case l0 => k_is); (case c0 => k_is); (case k0 => k_is)
    (case a1 => k_is); (case l1 => k_is); (case c1 => k_is); (case k1 => k_is)
    (case a2 => k_is); (case l2 => k_is); (case c2 => k_is); (case k2 => k_is)
    (case a3 => k_is); (case l3 => k_is); (case c3 => k_is); (case k3 => k_is)
    (case a4 => k_is); (case l4 => k_is); (case c4 => k_is); (case k4 => k_is)
    (case a5 => k_is); (case l5 => k_is); (case c5 => k_is); (case k5 => k_is)
    (case a6 => k_is); (case l6 => k_is); (case c6 => k_is); (case k6 => k_is)
    (case a7 => k_is); (case l7 => k_is); (case c7 => k_is); (case k7 => k_is)
    (case a8 => k_is); (case l8 => k_is); (case c8 => k_is); (case k8 => k_is)
    (case a9 => k_is); (case l9 => k_is); (case c9 => k_is); (case k9 => k_is)
    (case a10 => k_is); (case l10 => k_is); (case c10 => k_is); (case k10 => k_is)
    (case a11 => k_is); (case l11 => k_is); (case c11 => k_is); (case k11 => k_is)
    (case a12 => k_is); (case l12 => k_is); (case c12 => k_is); (case k12 => k_is)
    (case a13 => k_is); (case l13 => k_is); (case c13 => k_is); (case k13 => k_is)
    (case a14 => k_is); (case l14 => k_is); (case c14 => k_is); (case k14 => k_is)
    (case a15 => k_is); (case l15 => k_is); (case c15 => k_is); (case k15 => k_is)
    (case a16 => k_is); (case l16 => k_is); (case c16 => k_is); (case k16 => k_is)
    (case a17 => k_is); (case l17 => k_is); (case c17 => k_is); (case k17 => k_is)
    (case a18 => k_is); (case l18 => k_is); (case c18 => k_is); (case k18 => k_is)
    (case a19 => k_is); (case l19 => k_is); (case c19 => k_is); (case k19 => k_is)
    (case a20 => k_is); (case l20 => k_is); (case c20 => k_is); (case k20 => k_is)
    (case a21 => k_is); (case l21 => k_is); (case c21 => k_is); (case k21 => k_is)
    (case a22 => k_is); (case l22 => k_is); (case c22 => k_is); (case k22 => k_is)
    (case a23 => k_is); (case l23 => k_is); (case c23 => k_is); (case k23 => k_is)
    (case a24 => k_is); (case l24 => k_is); (case c24 => k_is); (case k24 => k_is)
    (case a25 => k_is); (case l25 => k_is); (case c25 => k_is); (case k25 => k_is)
    (case a26 => k_is); (case l26 => k_is); (case c26 => k_is); (case k26 => k_is)
    (case a27 => k_is); (case l27 => k_is); (case c27 => k_is); (case k27 => k_is)
    (case a28 => k_is); (case l28 => k_is); (case c28 => k_is); (case k28 => k_is)
    (case a29 => k_is); (case l29 => k_is); (case c29 => k_is); (case k29 => k_is)
    (case z0 => k_is)
    (case z1 => k_is)
    (case z2 => k_is)
    (case z3 => k_is)
    (case z4 => k_is)
    (case z5 => k_is)
    (case z6 => k_is)
    (case z7 => k_is)
    (case z8 => k_is)
    (case z9 => k_is)
    (case z10 => k_is)
    (case z11 => k_is)
    (case y0 => k_is)
    (case y1 => k_is)
    (case y2 => k_is)
    (case y3 => k_is)
