import PyProof.Rows.All
import Wide.All
import OpenK.AllK
import Wide.FinOn
import Lean
import PyProof.EqAt
import PyProof.EqKinds
import PyProof.TupleCall
import PySem.Challenge.RW_truthgrades_k44_whole_chains_in_steps
set_option bootstrap.genMatcherCode false
set_option genSizeOfSpec false
local macro_rules | `(tactic| walk_at "om") => `(tactic| first | lia | omega)
set_option Elab.async false
set_option linter.all false
set_option maxRecDepth 100000
namespace L2
open PySem PySem.Spec PyProof.Rows

noncomputable abbrev Key := Sum Int Str
noncomputable def keyIs : Key → Value → Bool
  | .inl k, v => Value.isInt k v
  | .inr x, v => Value.isStrOf x v
noncomputable def keyH (w : World) : Key → Int
  | .inl k => hashInt k
  | .inr x => hashStr w x
theorem keyIs_shape : ∀ {k : Key} {v : Value}, keyIs k v = true → (∃ i t, k = Sum.inl i ∧ v = Value.int i t) ∨ (∃ x t, k = Sum.inr x ∧ v = Value.str x t)
  | .inl i, v, h => by
    obtain ⟨t, e⟩ := Value.isInt_shape (k := i) (v := v) h
    exact .inl ⟨i, t, rfl, e⟩
  | .inr x, v, h => by
    obtain ⟨t, e⟩ := Value.isStrOf_shape (x := x) (v := v) h
    exact .inr ⟨x, t, rfl, e⟩
theorem keyIs_int (i : Int) (t : Tok) : keyIs (.inl i) (.int i t) = true := by simp [keyIs, Value.isInt]
theorem keyIs_str (x : Str) (t : Tok) : keyIs (.inr x) (.str x t) = true := by simp [keyIs, Value.isStrOf]
theorem key_ll (a b : Int) : decide ((Sum.inl a : Key) = Sum.inl b) = (a == b) := by
  by_cases e : a = b
  · subst e; simp
  · have h : ¬ (Sum.inl a : Key) = Sum.inl b := fun q => e (Sum.inl.inj q)
    rw [decide_eq_false h]
    exact (beq_eq_false_iff_ne.mpr e).symm
theorem key_rr (a b : Str) : decide ((Sum.inr a : Key) = Sum.inr b) = decide (a = b) := by
  by_cases e : a = b
  · subst e; simp
  · have h : ¬ (Sum.inr a : Key) = Sum.inr b := fun q => e (Sum.inr.inj q)
    rw [decide_eq_false h, decide_eq_false e]
theorem key_lr (a : Int) (b : Str) : decide ((Sum.inl a : Key) = Sum.inr b) = false := decide_eq_false (fun q => nomatch q)
theorem key_rl (a : Str) (b : Int) : decide ((Sum.inr a : Key) = Sum.inl b) = false := decide_eq_false (fun q => nomatch q)

noncomputable def mixKind (prog : Program) (w : World) : PySem.KeyKind prog w Key where
  is := keyIs
  hash := keyH w
  inj := fun v a b ha hb => by
    rcases keyIs_shape ha with ⟨i, t, rfl, rfl⟩ | ⟨x, t, rfl, rfl⟩
    · rcases keyIs_shape hb with ⟨j, u, rfl, e⟩ | ⟨y, u, rfl, e⟩
      · injection e with e1 _; rw [e1]
      · exact nomatch e
    · rcases keyIs_shape hb with ⟨j, u, rfl, e⟩ | ⟨y, u, rfl, e⟩
      · exact nomatch e
      · injection e with e1 _; rw [e1]
  byValue := fun k v h => by
    rcases keyIs_shape h with ⟨i, t, rfl, rfl⟩ | ⟨x, t, rfl, rfl⟩ <;> rfl
  pyHash := fun hv h => by
    rcases keyIs_shape hv with ⟨i, t, rfl, rfl⟩ | ⟨x, t, rfl, rfl⟩
    · exact wpAny_pyHash_int h
    · exact wpAny_pyHash_str h
  eqBool := fun hu hv h => by
    rcases keyIs_shape hu with ⟨i, t, rfl, rfl⟩ | ⟨x, t, rfl, rfl⟩
    · rcases keyIs_shape hv with ⟨j, u, rfl, rfl⟩ | ⟨y, u, rfl, rfl⟩
      · rw [key_ll] at h; exact wpAny_eqBool_int h
      · rw [key_lr] at h; exact SeqAt.EqAt.int_str i t y u _ _ _ _ h
    · rcases keyIs_shape hv with ⟨j, u, rfl, rfl⟩ | ⟨y, u, rfl, rfl⟩
      · rw [key_rl] at h; exact SeqAt.EqAt.str_int x t j u _ _ _ _ h
      · rw [key_rr] at h; exact wpAny_eqBool_str h
  «strs» := fun k x t v h => by
    rcases keyIs_shape h with ⟨i, u, rfl, e⟩ | ⟨y, u, rfl, e⟩
    · exact nomatch e
    · injection e with e1 _
      subst e1
      cases v <;> rfl

theorem mixKind_int (prog : Program) (w : World) (i : Int) (t : Tok) : (mixKind prog w).is (.inl i) (.int i t) = true := keyIs_int i t
theorem mixKind_str (prog : Program) (w : World) (x : Str) (t : Tok) : (mixKind prog w).is (.inr x) (.str x t) = true := keyIs_str x t
end L2

namespace L2
open PySem PySem.Spec PyProof.Rows

inductive V where
  | non | bl (b : Bool) | int (i : Int) | str (x : Str) | byt (b : Array UInt8) | flt (b : UInt64) | ref (a : Addr) | ty (n : String)
  deriving DecidableEq

noncomputable def RelV : V → Value → Prop
  | .non, u => u = Value.none
  | .bl b, u => u = Value.bool b
  | .int i, u => ∃ t, u = Value.int i t
  | .str x, u => ∃ t, u = Value.str x t
  | .byt b, u => ∃ t, u = Value.bytes b t
  | .flt b, u => ∃ t, u = Value.float b t
  | .ref a, u => u = Value.ref a
  | .ty n, u => u = Value.type n

noncomputable abbrev Vals : List V → List Value → Prop := Paired RelV
theorem Vals.length {xs : List V} {us : List Value} (r : Vals xs us) : xs.length = us.length := Paired.length r
theorem Vals.get : ∀ {xs : List V} {us : List Value} {i : Nat} {x : V}, Vals xs us → xs[i]? = some x → ∃ u, us[i]? = some u ∧ RelV x u
  | _, _, _, _, .nil, e => by simp at e
  | _, _, 0, _, .cons r _, e => by simp at e; subst e; exact ⟨_, rfl, r⟩
  | _, _, i + 1, x, .cons _ t, e => by
    obtain ⟨u, h1, h2⟩ := Vals.get (i := i) (x := x) t (by simpa using e)
    exact ⟨u, by simpa using h1, h2⟩
theorem Vals.append : ∀ {xs ys : List V} {us ws : List Value}, Vals xs us → Vals ys ws → Vals (xs ++ ys) (us ++ ws)
  | _, _, _, _, .nil, s => s
  | _, _, _, _, .cons r t, s => .cons r (Vals.append t s)
theorem Vals.take : ∀ {xs : List V} {us : List Value} (n : Nat), Vals xs us → Vals (xs.take n) (us.take n)
  | _, _, 0, _ => .nil
  | _, _, _ + 1, .nil => .nil
  | _, _, n + 1, .cons r t => .cons r (Vals.take n t)
theorem Vals.drop : ∀ {xs : List V} {us : List Value} (n : Nat), Vals xs us → Vals (xs.drop n) (us.drop n)
  | _, _, 0, r => r
  | _, _, _ + 1, .nil => .nil
  | _, _, n + 1, .cons _ t => Vals.drop n t
noncomputable def RelO : Option V → Option Value → Prop
  | some v, some u => RelV v u
  | none, none => True
  | _, _ => False
noncomputable def KV {κ : Type} : List (κ × V) → List (κ × Value) → Prop := Paired fun (p : κ × V) (q : κ × Value) => p.1 = q.1 ∧ RelV p.2 q.2

noncomputable def kV : Key → V
  | .inl i => .int i
  | .inr x => .str x

noncomputable def PTup (h : Heap) (a : Addr) (items : Array Value) : Prop := ∃ o, h.get? a = some o ∧ o.cls = .type "tuple" ∧ (∃ n, o.data = .seq items n) ∧ o.dict = none
theorem PTup.lt {h : Heap} {a : Addr} {items : Array Value} (x : PTup h a items) : a < h.objs.size := let ⟨_, e, _⟩ := x; Heap.lt_size e
theorem PTup.isTup {h : Heap} {a : Addr} {items : Array Value} (x : PTup h a items) : IsTup h a items := let ⟨o, e, c, n, _⟩ := x; ⟨o, e, c, n⟩
theorem PTup.new (h : Heap) (items : Array Value) : PTup (h.push { cls := .type "tuple", data := .seq items }) h.objs.size items := ⟨_, Heap.get?_push_size _ rfl, rfl, ⟨_, rfl⟩, rfl⟩
inductive HO where
  /-- a list -/
  | lst (xs : List V)
  /-- a tuple (never changes) -/
  | tup (xs : List V)
  /-- a dict whose keys are ints and texts; one whose keys are tuples of ints and texts (the empty one is both) -/
  | dK (kvs : List (Key × V)) | dT (kvs : List (List Key × V))
  /-- a set of ints: its members, its size -/
  | set (S : Int → Bool) (n : Nat)
  /-- an instance of the class at C, its dict at dx, its attributes -/
  | ins (C dx : Addr) (fs : List (Str × V))
  /-- the dict of the instance at x -/
  | own (x : Addr)
  /-- the dict of an exception -/
  | xd (fs : List (Str × V))
  /-- a bound method, f of x -/
  | met (f x : Addr)
  /-- a range object lo, lo + 1, .. below hi -/
  | rng (lo hi : Int)
  /-- a thing that is known to the object (the script; a dict while a loop walks it): read, never written while it is so -/
  | frz (o : Obj) (u : HO)
  /-- a code object's table -/
  | tbl (ps : Array Value)
  /-- any other thing, by what is true of its one object (a def of one's own: SetO a S n := HO.ext fun h => ..) -/
  | ext (φ : Heap → Prop)

noncomputable abbrev Hp := Addr → Option HO
noncomputable def upd (H : Hp) (a : Addr) (o : HO) : Hp := fun b => if b = a then some o else H b
theorem upd_same {H : Hp} {a : Addr} {o : HO} : upd H a o a = some o := by unfold upd; rw [if_pos rfl]
theorem upd_ne {H : Hp} {a b : Addr} {o : HO} (h : b ≠ a) : upd H a o b = H b := by unfold upd; rw [if_neg h]
theorem ne_of {H : Hp} {a b : Addr} {o u : HO} (h : H a = some o) (h' : H b = some u) (d : o ≠ u) : a ≠ b := by
  intro e; subst e; rw [h] at h'; exact d (Option.some.inj h')
theorem ne_of_none {H : Hp} {a b : Addr} {o : HO} (h : H a = some o) (h' : H b = none) : a ≠ b := by
  intro e; subst e; rw [h] at h'; cases h'

section
variable (P : Program) (w : World)
noncomputable def ObjOk (H : Hp) (h : Heap) (a : Addr) : HO → Prop
  | .lst xs => xs.length ≤ sizeLine ∧ ∃ (its : List Value) (n : Nat), Vals xs its ∧ h.get? a = some { cls := .type "list", data := .seq its.toArray n }
  | .tup xs => xs.length ≤ sizeLine ∧ ∃ its : List Value, Vals xs its ∧ PTup h a its.toArray
  | .dK kvs => kvs.length ≤ sizeLine ∧ (a == sysModules) = false ∧ ∃ vs, KV kvs vs ∧ h.DictOf (mixKind P w) a vs
  | .dT kvs => kvs.length ≤ sizeLine ∧ (a == sysModules) = false ∧ ∃ xs : List (List Key × Addr × Value),
      Paired (fun (p : List Key × V) (q : List Key × Addr × Value) => p.1 = q.1 ∧ H q.2.1 = some (.tup (p.1.map kV)) ∧ RelV p.2 q.2.2) kvs xs ∧
      ∃ o es ep, h.get? a = some o ∧ o.ExactDict ∧ o.data = .dict es ep ∧ es.toList = xs.map (entryOfKey (tupleKind (mixKind P w))) ∧ (xs.map (·.1)).Nodup
  | .set S n => h.SetOf (intKind P w) a S n
  | .ins C dx fs => H dx = some (.own a) ∧ fs.length ≤ 1000 ∧ dx ≠ a ∧ h.get? a = some (PySem.W.instObj C dx) ∧
      ∃ mA, h.Ns1 dx mA ∧ (∀ f, RelO (fs.lookup f) (mA f)) ∧ PySem.Within mA (fs.map (·.1))
  | .own _ => ∃ o, h.get? a = some o
  | .xd fs => ∃ mA, h.Ns1 a mA ∧ ∀ f, RelO (fs.lookup f) (mA f)
  | .rng lo hi => ∃ t u v, h.get? a = some { cls := .type "range", data := .fields #[.int lo t, .int hi u, .int 1 v] }
  | .frz o u => h.get? a = some o ∧ ObjOk H h a u
  | .tbl ps => h.get? a = some { cls := .none, data := .fields ps }
  | .met f x => h.get? a = some (PySem.W.methodObj (.ref f) (.ref x))
  | .ext φ => φ h ∧ (∃ o, h.get? a = some o) ∧ ∀ h1 h2 : Heap, φ h1 → (∀ o, h1.get? a = some o → h2.get? a = some o) → φ h2
noncomputable def HOk (H : Hp) (h : Heap) : Prop := ∀ a o, H a = some o → ObjOk P w H h a o
end

section
variable {P : Program} {w : World} {H H' : Hp} {h h' : Heap} {a : Addr} {o : HO}
theorem ObjOk.lt (x : ObjOk P w H h a o) : a < h.objs.size := by
  cases o with
  | lst xs => obtain ⟨_, _, _, _, e⟩ := x; exact Heap.lt_size e
  | tup xs => obtain ⟨_, _, _, p⟩ := x; exact p.lt
  | dK kvs => obtain ⟨_, _, _, _, o, _, _, e, _⟩ := x; exact Heap.lt_size e
  | dT kvs => obtain ⟨_, _, _, _, o, _, _, e, _⟩ := x; exact Heap.lt_size e
  | set S n => obtain ⟨o, _, _, _, e, _⟩ := x; exact Heap.lt_size e
  | ins C dx fs => obtain ⟨_, _, _, e, _⟩ := x; exact Heap.lt_size e
  | own y => obtain ⟨_, e⟩ := x; exact Heap.lt_size e
  | xd fs => obtain ⟨_, ⟨_, _, _, e, _⟩, _⟩ := x; exact Heap.lt_size e
  | rng lo hi => obtain ⟨_, _, _, e⟩ := x; exact Heap.lt_size e
  | frz ob u => obtain ⟨e, _⟩ := x; exact Heap.lt_size e
  | tbl ps => exact Heap.lt_size (show h.get? a = some _ from x)
  | met f y => exact Heap.lt_size (show h.get? a = some _ from x)
  | ext φ => obtain ⟨_, ⟨_, e⟩, _⟩ := x; exact Heap.lt_size e
theorem Paired.mapP {α β : Type} {F G : α → β → Prop} : ∀ {l₁ : List α} {l₂ : List β}, Paired F l₁ l₂ → (∀ a b, F a b → G a b) → Paired G l₁ l₂
  | _, _, .nil, _ => .nil
  | _, _, .cons r t, f => .cons (f _ _ r) (Paired.mapP t f)
theorem ObjOk.stay (x : ObjOk P w H h a o) (k : ∀ b u, (b = a ∨ H b = some (.own a)) → h.get? b = some u → h'.get? b = some u)
    (ho : ∀ b, H b = some (.own a) → H' b = some (.own a)) (ht : ∀ b xs, H b = some (.tup xs) → H' b = some (.tup xs)) : ObjOk P w H' h' a o := by
  induction o with
  | lst xs => obtain ⟨z, its, n, r, e⟩ := x; exact ⟨z, its, n, r, k _ _ (.inl rfl) e⟩
  | tup xs => obtain ⟨z, its, r, ob, e, c⟩ := x; exact ⟨z, its, r, ob, k _ _ (.inl rfl) e, c⟩
  | dK kvs => obtain ⟨z, y, vs, r, ob, es, ep, e, c⟩ := x; exact ⟨z, y, vs, r, ob, es, ep, k _ _ (.inl rfl) e, c⟩
  | dT kvs =>
    obtain ⟨z, y, xs, r, ob, es, ep, e, c⟩ := x
    exact ⟨z, y, xs, Paired.mapP r fun p q z => ⟨z.1, ht _ _ z.2.1, z.2.2⟩, ob, es, ep, k _ _ (.inl rfl) e, c⟩
  | set S n => obtain ⟨ob, es, ep, t, e, c⟩ := x; exact ⟨ob, es, ep, t, k _ _ (.inl rfl) e, c⟩
  | ins C dx fs =>
    obtain ⟨d, z, ne, e, mA, ⟨od, es, ep, e2, c⟩, r⟩ := x
    exact ⟨ho _ d, z, ne, k _ _ (.inl rfl) e, mA, ⟨od, es, ep, k _ _ (.inr d) e2, c⟩, r⟩
  | own y => obtain ⟨ob, e⟩ := x; exact ⟨ob, k _ _ (.inl rfl) e⟩
  | xd fs => obtain ⟨mA, ⟨od, es, ep, e, c⟩, r⟩ := x; exact ⟨mA, ⟨od, es, ep, k _ _ (.inl rfl) e, c⟩, r⟩
  | rng lo hi => obtain ⟨t, u, v, e⟩ := x; exact ⟨t, u, v, k _ _ (.inl rfl) e⟩
  | frz ob u ih => obtain ⟨e, q⟩ := x; exact ⟨k _ _ (.inl rfl) e, ih q⟩
  | tbl ps =>
    have e : h.get? a = some { cls := .none, data := .fields ps } := x
    show h'.get? a = some { cls := .none, data := .fields ps }
    exact k a _ (.inl rfl) e
  | met f y =>
    have e : h.get? a = some (PySem.W.methodObj (.ref f) (.ref y)) := x
    show h'.get? a = some (PySem.W.methodObj (.ref f) (.ref y))
    exact k a _ (.inl rfl) e
  | ext φ => obtain ⟨p, ⟨o, e⟩, st⟩ := x; exact ⟨st _ _ p fun o q => k _ _ (.inl rfl) q, ⟨o, k _ _ (.inl rfl) e⟩, st⟩
theorem HOk.lt (x : HOk P w H h) (e : H a = some o) : a < h.objs.size := (x a o e).lt
theorem HOk.fresh (x : HOk P w H h) (e : h.objs.size ≤ a) : H a = none := by
  cases q : H a with
  | none => rfl
  | some u => exact absurd (Nat.lt_of_lt_of_le (x.lt q) e) (Nat.lt_irrefl _)
theorem HOk.kept (x : HOk P w H h) (k : ∀ b u, h.get? b = some u → h'.get? b = some u) : HOk P w H h' := fun a o e =>
  (x a o e).stay (fun b u _ q => k b u q) (fun _ q => q) fun _ _ q => q
theorem HOk.laid (x : HOk P w H h) (k : ∀ b u, h.get? b = some u → h'.get? b = some u) (hp : h.objs.size ≤ a) (new : ObjOk P w (upd H a o) h' a o) : HOk P w (upd H a o) h' := fun b u e => by
  have hn := x.fresh hp
  by_cases hb : b = a
  · subst hb; rw [upd_same] at e; cases e; exact new
  · rw [upd_ne hb] at e
    exact (x b u e).stay (fun c v _ q => k c v q) (fun c q => by rw [upd_ne (ne_of_none q hn)]; exact q) fun c xs q => by rw [upd_ne (ne_of_none q hn)]; exact q
end

noncomputable def Rd (H : Hp) (a : Addr) (u : HO) : Prop := H a = some u ∨ ∃ o, H a = some (.frz o u)
theorem Rd.ok {P : Program} {w : World} {H : Hp} {h : Heap} {a : Addr} {u : HO} (r : Rd H a u) (x : HOk P w H h) : ObjOk P w H h a u := by
  rcases r with r | ⟨o, r⟩
  · exact x a u r
  · obtain ⟨_, q⟩ := x a _ r
    exact q
noncomputable def Mut : Option HO → Prop
  | some (.lst _) => True
  | some (.dK _) => True
  | some (.dT _) => True
  | some (.set _ _) => True
  | some (.ins _ _ _) => True
  | some (.ext _) => True
  | _ => False
section
variable {P : Program} {w : World} {H : Hp} {h h' : Heap} {x e : Addr} {o' : HO}
theorem HOk.write (ok : HOk P w H h) (mu : Mut (H x)) (he : e = x ∨ H e = some (.own x)) (k : ∀ b u, b ≠ e → h.get? b = some u → h'.get? b = some u) (heo : ∃ u, h'.get? e = some u)
    (new : ObjOk P w (upd H x o') h' x o') : HOk P w (upd H x o') h' := fun b u q => by
  have nown : ∀ c y, H c = some (.own y) → c ≠ x := fun c y r z => by subst z; rw [r] at mu; exact mu
  have ntup : ∀ c xs, H c = some (.tup xs) → c ≠ x := fun c xs r z => by subst z; rw [r] at mu; exact mu
  by_cases hb : b = x
  · subst hb; rw [upd_same] at q; cases q; exact new
  · rw [upd_ne hb] at q
    by_cases hbe : b = e
    · have q' : H b = some (.own x) := by
        rcases he with z | z
        · exact absurd (hbe.trans z) hb
        · rw [hbe]; exact z
      rw [q] at q'; cases q'
      obtain ⟨v, hv⟩ := heo
      exact ⟨v, by rw [hbe]; exact hv⟩
    · refine (ok b u q).stay (fun c v hc r => k c v ?_ r) (fun c r => by rw [upd_ne (nown c b r)]; exact r) fun c xs r => by rw [upd_ne (ntup c xs r)]; exact r
      rcases hc with rfl | hc
      · exact hbe
      · rintro rfl
        rcases he with z | z
        · exact nown c b hc z
        · rw [hc] at z; cases z; exact hb rfl
end

structure Un (fs ex : List Addr) (H H' : Hp) (h h' : Heap) : Prop where
  keep : ∀ b o, h.get? b = some o → H b = none → b ∉ fs → b ∉ ex → h'.get? b = some o
  slot : ∀ b o, h.get? b = some o → H b = none → b ∈ fs → b ∉ ex → ∃ sl, h'.get? b = some { o with slots := sl }
  free : ∀ b o, h.get? b = some o → H b = none → b ∉ ex → H' b = none
  there : ∀ b o, h.get? b = some o → b ∉ ex → ∃ o', h'.get? b = some o'
  tups : ∀ b xs, H b = some (.tup xs) → H' b = some (.tup xs)
  frzs : ∀ b o u, H b = some (.frz o u) → H' b = some (.frz o u)
  tbls : ∀ b ps, H b = some (.tbl ps) → ∃ more, H' b = some (.tbl (ps ++ more))
section
variable {fs fs' ex ex' : List Addr} {H H1 H2 : Hp} {h h1 h2 h' : Heap} {a x e : Addr} {o : HO}
theorem Un.any (u : Un fs ex H H1 h h1) {b : Addr} {ob : Obj} (q : h.get? b = some ob) (n : H b = none) (hx : b ∉ ex) : ∃ sl, h1.get? b = some { ob with slots := sl } := by
  by_cases hb : b ∈ fs
  · exact u.slot b ob q n hb hx
  · exact ⟨ob.slots, u.keep b ob q n hb hx⟩
theorem Un.kept (k : ∀ b u, h.get? b = some u → h'.get? b = some u) : Un fs ex H H h h' :=
  ⟨fun b ob q _ _ _ => k b ob q, fun b ob q _ _ _ => ⟨ob.slots, k b ob q⟩, fun _ _ _ n _ => n, fun b ob q _ => ⟨ob, k b ob q⟩, fun _ _ q => q, fun _ _ _ q => q, fun _ ps q => ⟨#[], by rw [q]; simp⟩⟩
theorem Un.refl : Un fs ex H H h h := Un.kept fun _ _ q => q
theorem Un.laid (k : ∀ b u, h.get? b = some u → h'.get? b = some u) (hp : h.objs.size ≤ a) (hn : H a = none) : Un fs ex H (upd H a o) h h' where
  keep := fun b u q _ _ _ => k b u q
  slot := fun b u q _ _ _ => ⟨u.slots, k b u q⟩
  free := fun b u q n _ => by rw [upd_ne (Nat.ne_of_lt (Nat.lt_of_lt_of_le (Heap.lt_size q) hp))]; exact n
  there := fun b u q _ => ⟨u, k b u q⟩
  tups := fun b xs q => by rw [upd_ne (ne_of_none q hn)]; exact q
  frzs := fun b u xs q => by rw [upd_ne (ne_of_none q hn)]; exact q
  tbls := fun b ps q => ⟨#[], by rw [upd_ne (ne_of_none q hn), q]; simp⟩
theorem Un.write (mu : Mut (H x)) (he : e = x ∨ H e = some (.own x)) (k : ∀ b u, b ≠ e → h.get? b = some u → h'.get? b = some u) (heo : ∃ u, h'.get? e = some u) : Un fs ex H (upd H x o) h h' := by
  have hx : ∀ b, H b = none → b ≠ x := fun b n z => by subst z; rw [n] at mu; exact mu
  have hb : ∀ b, H b = none → b ≠ e := fun b n z => by
    subst z
    rcases he with r | r
    · exact hx b n r
    · rw [n] at r; cases r
  have hm : ∀ b u, H b = some u → ¬ Mut (some u) → b ≠ x := fun b u q nm z => by subst z; rw [q] at mu; exact nm mu
  refine ⟨fun b u q n _ _ => k b u (hb b n) q, fun b u q n _ _ => ⟨u.slots, k b u (hb b n) q⟩, fun b u q n _ => by rw [upd_ne (hx b n)]; exact n, fun b u q _ => ?_,
    fun b xs q => by rw [upd_ne (hm b _ q fun z => z)]; exact q, fun b u xs q => by rw [upd_ne (hm b _ q fun z => z)]; exact q, fun b ps q => ⟨#[], by rw [upd_ne (hm b _ q fun z => z), q]; simp⟩⟩
  by_cases hbe : b = e
  · subst hbe; exact heo
  · exact ⟨u, k b u hbe q⟩
end

noncomputable def trk (h : Heap) (H : Hp) : List Addr := (List.range h.objs.size).filter fun a => (H a).isSome
noncomputable def hidT (h : Heap) (H : Hp) : Heap := PySem.W.hideAll h (trk h H)
theorem hidT_size (h : Heap) (H : Hp) : (hidT h H).objs.size = h.objs.size := PySem.W.hideAll_size _ _
theorem hidT_get {h : Heap} {H : Hp} {b : Addr} {o : Obj} (e : h.get? b = some o) (n : H b = none) : (hidT h H).get? b = some o :=
  PySem.W.hideAll_get _ e fun hm => by
    have q : (H b).isSome = true := (List.mem_filter.mp hm).2
    rw [n] at q; simp at q
theorem of_hidT {h : Heap} {H : Hp} {b : Addr} {o : Obj} (e : (hidT h H).get? b = some o) : h.get? b = some o ∧ H b = none := by
  have e' : h.get? b = some o := PySem.W.of_hideAll (trk h H) e
  refine ⟨e', ?_⟩
  cases q : H b with
  | none => rfl
  | some x =>
    have hm : b ∈ trk h H := List.mem_filter.mpr ⟨List.mem_range.mpr (Heap.lt_size e'), by simp [q]⟩
    have z : (hidT h H).get? b = none := PySem.W.hideAll_none (trk h H) hm
    rw [z] at e; cases e

end L2

namespace L2
open PySem PySem.Spec PyProof.Rows

structure Mod (K : PySem.W.Frag) (mg : Str → Option Value) (base : Heap) : Prop where
  kin : K.In base
  glob : base.Ns mainGlobals mg
  blt : ∃ mb, base.Ns builtinsNs mb ∧ ∀ x : Str, x ≠ "__name__" → mb x = bootBuiltins x
  nolimit : base.NoLimit

structure Cx where
  prog : Program
  w : World
  K : PySem.W.Frag
  mg : Str → Option Value
  base : Heap
  A : Around
  N : List Str
  s₀ : Shared
  H₀ : Hp
  env : Env
  outer : List Env
  stack : List Env
  ex : List Addr
  fn : Str → Bool
  calm : Bool
  pn : List (Addr × Obj)
  xe : Value → Shared → Prop
noncomputable def frs (l : List Env) : List Addr := l.filterMap (·.frame)
noncomputable abbrev Cx.fs (X : Cx) : List Addr := frs X.outer

noncomputable def Vis (sc : Scope) (x : Str) : Prop := sc.names.lookup x = some .local ∨ sc.names.lookup x = some .cell ∨ sc.names.lookup x = some .free
noncomputable def Loc (sc : Scope) (x : Str) : Prop := sc.names.lookup x = some .local ∨ sc.names.lookup x = some .cell
noncomputable def Look (env : Env) (h : Heap) (m : Str → Option Value) (x : Str) (u : Value) : Prop :=
  (env.kindOf x = some .local ∧ m x = some u) ∨ ((env.kindOf x = some .cell ∨ env.kindOf x = some .free) ∧ ∃ c, env.cells.lookup x = some c ∧ h.IsCell c (some u))

structure Cx.Ok (X : Cx) : Prop where
  mod : Mod X.K X.mg X.base
  kind : X.env.scope.kind = .function
  glob : X.env.globals = mainGlobals
  blt : X.env.builtins = builtinsNs
  above : X.s₀.heap.objs.size ≤ X.env.locals
  inj : ∀ x y c, X.env.cells.lookup x = some c → X.env.cells.lookup y = some c → x = y
  has : ∀ x, (X.env.kindOf x = some .cell ∨ X.env.kindOf x = some .free) → ∃ c, X.env.cells.lookup x = some c
  cab : ∀ x c, X.fn x = true → X.env.cells.lookup x = some c → X.s₀.heap.objs.size ≤ c
  hd : X.calm = true → X.A.handled = none
  frames : X.A.frames = some X.stack
  stk : X.stack = X.outer ∨ (X.stack = X.env :: X.outer ∧ X.env.frame = some X.env.locals)
  exf : ∀ b ∈ X.ex, b ≠ X.env.locals ∧ ∀ x c, X.env.cells.lookup x = some c → c ≠ b
  bs : ∀ b o, X.base.get? b = some o → X.s₀.heap.get? b = some o ∧ X.H₀ b = none
  bsz : X.base.objs.size ≤ X.s₀.heap.objs.size
  noex : ∀ b o, X.base.get? b = some o → b ∉ X.ex
  exfs : ∀ b ∈ X.ex, b ∉ X.fs
  funs : X.s₀.heap.FunFrames X.base X.outer
  frf : ∀ b ∈ X.fs, X.H₀ b = none

structure Inv (X : Cx) (pins : List (Addr × Obj)) (σ : List (Option V)) (H : Hp) (s : Shared) : Prop where
  ok : X.Ok
  os : s.os = X.s₀.os
  bare : AllBare s.gens
  base : Un X.fs X.ex X.H₀ H X.s₀.heap s.heap
  loc : ∃ m, s.heap.Ns X.env.locals m ∧ ∀ (i : Nat) (x : Str) (v : V), X.N[i]? = some x → σ[i]? = some (some v) → Vis X.env.scope x → ∃ u, RelV v u ∧ Look X.env s.heap m x u
  cell : ∀ x c, X.env.cells.lookup x = some c → ∃ v, s.heap.IsCell c v
  free : H X.env.locals = none
  freeC : ∀ x c, X.env.cells.lookup x = some c → H c = none
  pin : ∀ p ∈ X.pn ++ pins, s.heap.get? p.1 = some p.2 ∧ H p.1 = none ∧ p.1 ≠ X.env.locals ∧ p.1 ∉ X.fs ∧ ∀ v, p.2.data ≠ .cell v
  hok : HOk X.prog X.w H s.heap
  len : σ.length = X.N.length

section
variable {X : Cx} {pins : List (Addr × Obj)} {σ : List (Option V)} {H H' : Hp} {s : Shared} {h' : Heap}

theorem Cx.Ok.nofr (ok : X.Ok) {b : Addr} {o : Obj} (e : X.base.get? b = some o) : b ∉ X.fs := fun hb => by
  have := (ok.funs.mem hb).1
  rw [e] at this; cases this
theorem Inv.bs (I : Inv X pins σ H s) : ∀ b o, X.base.get? b = some o → s.heap.get? b = some o ∧ H b = none := fun b o e =>
  ⟨I.base.keep b o (I.ok.bs b o e).1 (I.ok.bs b o e).2 (I.ok.nofr e) (I.ok.noex b o e), I.base.free b o (I.ok.bs b o e).1 (I.ok.bs b o e).2 (I.ok.noex b o e)⟩
theorem Inv.bk (I : Inv X pins σ H s) : ∀ b o, X.base.get? b = some o → s.heap.get? b = some o := fun b o e => (I.bs b o e).1
theorem Inv.mod (I : Inv X pins σ H s) : Mod X.K X.mg X.base := I.ok.mod
theorem Inv.kIn (I : Inv X pins σ H s) : X.K.In s.heap := I.ok.mod.kin.keeps I.bk
theorem Inv.lt (I : Inv X pins σ H s) : X.env.locals < s.heap.objs.size := let ⟨_, hn, _⟩ := I.loc; hn.lt
theorem Inv.sz (I : Inv X pins σ H s) : X.s₀.heap.objs.size ≤ s.heap.objs.size := Nat.le_trans I.ok.above (Nat.le_of_lt I.lt)
theorem Inv.nofs (I : Inv X pins σ H s) {a : Addr} (h : s.heap.objs.size ≤ a) : a ∉ X.fs := fun hb => by
  obtain ⟨_, o, ho, _⟩ := I.ok.funs.mem hb
  exact absurd (Nat.lt_of_lt_of_le (Heap.lt_size ho) (Nat.le_trans I.sz h)) (Nat.lt_irrefl _)
theorem Inv.cne (I : Inv X pins σ H s) : ∀ x c, X.env.cells.lookup x = some c → c ≠ X.env.locals := fun x c e z => by
  obtain ⟨v, o, ho, hd⟩ := I.cell x c e
  obtain ⟨m, ⟨o', es, ep, ho', hd', _⟩, _⟩ := I.loc
  rw [z, ho'] at ho; cases ho; rw [hd'] at hd; cases hd
theorem Inv.funs (I : Inv X pins σ H s) : s.heap.FunFrames X.base X.outer := by
  have all : ∀ (l : List Env), (∀ b ∈ frs l, b ∈ X.fs) → X.s₀.heap.FunFrames X.base l → s.heap.FunFrames X.base l := by
    intro l
    induction l with
    | nil => intro _ _; trivial
    | cons env r ih =>
      intro hs hl
      obtain ⟨hk, ⟨L, o, hf, hn, ho, hd⟩, hr⟩ := hl
      have hL : L ∈ X.fs := hs L (by unfold frs; rw [List.filterMap_cons, hf]; exact List.mem_cons_self)
      obtain ⟨sl, e⟩ := I.base.slot L o ho (I.ok.frf L hL) hL fun z => I.ok.exfs L z hL
      exact ⟨hk, ⟨L, _, hf, hn, e, hd⟩, ih (fun b hb => hs b (by unfold frs; rw [List.filterMap_cons, hf]; exact List.mem_cons_of_mem _ hb)) hr⟩
  exact all X.outer (fun _ hb => hb) I.ok.funs

theorem Inv.stack (I : Inv X pins σ H s) : s.heap.FunFrames X.base X.stack := by
  rcases I.ok.stk with e | ⟨e, hf⟩
  · rw [e]; exact I.funs
  · rw [e]
    obtain ⟨m, hn, _⟩ := I.loc
    refine .cons (by rw [I.ok.kind]; decide) hf hn ?_ I.funs
    exact Heap.get?_none_of_le (Nat.le_trans I.ok.bsz I.ok.above)
theorem Inv.stkSub (I : Inv X pins σ H s) : ∀ b ∈ frs X.stack, b ∈ X.env.locals :: X.fs := fun b hb => by
  rcases I.ok.stk with e | ⟨e, hf⟩
  · rw [e] at hb; exact List.mem_cons_of_mem _ hb
  · rw [e] at hb
    unfold frs at hb
    rw [List.filterMap_cons, hf] at hb
    exact hb
theorem Inv.stkFree (I : Inv X pins σ H s) : ∀ b ∈ frs X.stack, H b = none := fun b hb => by
  rcases List.mem_cons.mp (I.stkSub b hb) with e | hb
  · rw [e]; exact I.free
  · obtain ⟨_, o, ho, _⟩ := I.ok.funs.mem hb
    exact I.base.free b o ho (I.ok.frf b hb) fun z => I.ok.exfs b z hb

theorem Inv.step {g' : Array GenState} {t' : Nat} {d' : Drawn} {ch : List Addr} (I : Inv X pins σ H s)
    (hch : ∀ b ∈ ch, (b ∈ X.ex ∨ X.s₀.heap.objs.size ≤ b) ∧ b ≠ X.env.locals ∧ (∀ x c, X.env.cells.lookup x = some c → c ≠ b) ∧ ∀ p ∈ X.pn ++ pins, p.1 ≠ b)
    (keep : ∀ b o, b ≠ X.env.locals → b ∉ X.fs → b ∉ ch → s.heap.get? b = some o → H b = none → h'.get? b = some o)
    (slot : ∀ b o, b ≠ X.env.locals → b ∈ X.fs → b ∉ ch → s.heap.get? b = some o → H b = none → ∃ sl, h'.get? b = some { o with slots := sl }) (free : ∀ b o, b ∉ ch → s.heap.get? b = some o → H b = none → H' b = none)
    (there : ∀ b o, b ∉ ch → s.heap.get? b = some o → ∃ o', h'.get? b = some o')
    (tups : ∀ b xs, H b = some (.tup xs) → H' b = some (.tup xs)) (frzs : ∀ b o u, H b = some (.frz o u) → H' b = some (.frz o u)) (tbls : ∀ b ps, H b = some (.tbl ps) → ∃ more, H' b = some (.tbl (ps ++ more)))
    (ns : ∀ m, s.heap.Ns X.env.locals m → h'.Ns X.env.locals m) (hok : HOk X.prog X.w H' h') (hg : AllBare g') :
    Inv X pins σ H' { s with heap := h', gens := g', drawn := d', toks := t' } := by
  have neL : ∀ b o, X.s₀.heap.get? b = some o → b ≠ X.env.locals := fun b o e => Nat.ne_of_lt (Nat.lt_of_lt_of_le (Heap.lt_size e) I.ok.above)
  have neC : ∀ b o, X.s₀.heap.get? b = some o → b ∉ X.ex → b ∉ ch := fun b o e hx hb => by
    rcases (hch b hb).1 with z | z
    · exact hx z
    · exact absurd (Nat.lt_of_lt_of_le (Heap.lt_size e) z) (Nat.lt_irrefl _)
  have cellK : ∀ x c, X.env.cells.lookup x = some c → ∀ v, s.heap.IsCell c v → h'.IsCell c v := fun x c e v ⟨o, ho, hd⟩ => by
    have nch : c ∉ ch := fun z => (hch c z).2.2.1 x c e rfl
    by_cases hc : c ∈ X.fs
    · obtain ⟨sl, q⟩ := slot c o (I.cne x c e) hc nch ho (I.freeC x c e)
      exact ⟨_, q, hd⟩
    · exact ⟨o, keep c o (I.cne x c e) hc nch ho (I.freeC x c e), hd⟩
  refine ⟨I.ok, I.os, hg, ⟨fun b o e n hb hx => ?_, fun b o e n hb hx => ?_, fun b o e n hx => ?_, fun b o e hx => ?_, fun b xs e => tups b xs (I.base.tups b xs e), fun b o xs e => frzs b o xs (I.base.frzs b o xs e), fun b ps e => ?_⟩, ?_, fun x c e => ?_, ?_, fun x c e => ?_, fun p hp => ?_, hok, I.len⟩
  · exact keep b o (neL b o e) hb (neC b o e hx) (I.base.keep b o e n hb hx) (I.base.free b o e n hx)
  · obtain ⟨sl, e1⟩ := I.base.slot b o e n hb hx
    obtain ⟨sl', e2⟩ := slot b _ (neL b o e) hb (neC b o e hx) e1 (I.base.free b o e n hx)
    exact ⟨sl', e2⟩
  · obtain ⟨o', e1⟩ := I.base.there b o e hx
    exact free b o' (neC b o e hx) e1 (I.base.free b o e n hx)
  · obtain ⟨o', e1⟩ := I.base.there b o e hx
    exact there b o' (neC b o e hx) e1
  · obtain ⟨m1, e1⟩ := I.base.tbls b ps e
    obtain ⟨m2, e2⟩ := tbls b _ e1
    exact ⟨m1 ++ m2, by rw [e2, Array.append_assoc]⟩
  · obtain ⟨m, hn, hl⟩ := I.loc
    refine ⟨m, ns m hn, fun i x v e1 e2 e3 => ?_⟩
    obtain ⟨u, r, l⟩ := hl i x v e1 e2 e3
    refine ⟨u, r, ?_⟩
    rcases l with l | ⟨k, c, e, z⟩
    · exact .inl l
    · exact .inr ⟨k, c, e, cellK x c e _ z⟩
  · obtain ⟨v, z⟩ := I.cell x c e
    exact ⟨v, cellK x c e v z⟩
  · obtain ⟨m, ⟨o, _, _, ho, _⟩, _⟩ := I.loc
    exact free _ o (fun z => (hch _ z).2.1 rfl) ho I.free
  · obtain ⟨v, o, ho, hd⟩ := I.cell x c e
    exact free c o (fun z => (hch c z).2.2.1 x c e rfl) ho (I.freeC x c e)
  · obtain ⟨e, n, ne, nf, d⟩ := I.pin p hp
    have nch : p.1 ∉ ch := fun z => (hch p.1 z).2.2.2 p hp rfl
    exact ⟨keep p.1 p.2 ne nf nch e n, free p.1 p.2 nch e n, ne, nf, d⟩
theorem Inv.un {t' : Nat} (I : Inv X pins σ H s) (u : Un X.fs [] H H' s.heap h') (hok : HOk X.prog X.w H' h') : Inv X pins σ H' { s with heap := h', toks := t' } := by
  obtain ⟨m, ⟨o, es, ep, ho, r⟩, _⟩ := id I.loc
  obtain ⟨sl, hL⟩ := u.any ho I.free (by simp)
  exact I.step (g' := s.gens) (d' := s.drawn) (ch := []) (fun _ z => nomatch z) (fun b o _ hb _ e n => u.keep b o e n hb (by simp)) (fun b o _ hb _ e n => u.slot b o e n hb (by simp)) (fun b o _ e n => u.free b o e n (by simp)) (fun b o _ e => u.there b o e (by simp)) u.tups u.frzs u.tbls (fun m' hm => by
    obtain ⟨o', es', ep', ho', r'⟩ := hm
    rw [ho] at ho'; cases ho'
    exact ⟨_, es', ep', hL, r'⟩) hok I.bare
theorem Inv.call {g' : Array GenState} {t' : Nat} {d' : Drawn} {ch : List Addr} (I : Inv X pins σ H s) (u : Un (frs X.stack) ch H H' s.heap h') (hok : HOk X.prog X.w H' h') (hg : AllBare g')
    (hch : ∀ b ∈ ch, (b ∈ X.ex ∨ X.s₀.heap.objs.size ≤ b) ∧ b ≠ X.env.locals ∧ (∀ x c, X.env.cells.lookup x = some c → c ≠ b) ∧ ∀ p ∈ X.pn ++ pins, p.1 ≠ b) :
    Inv X pins σ H' { s with heap := h', gens := g', drawn := d', toks := t' } := by
  obtain ⟨m, ⟨o, es, ep, ho, r⟩, _⟩ := id I.loc
  obtain ⟨sl, hL⟩ := u.any ho I.free fun z => (hch _ z).2.1 rfl
  exact I.step (ch := ch) hch (fun b o hL hb hc e n => u.keep b o e n (fun z => (List.mem_cons.mp (I.stkSub b z)).elim hL hb) hc) (fun b o _ _ hc e n => u.any e n hc) (fun b o hc e n => u.free b o e n hc) (fun b o hc e => u.there b o e hc) u.tups u.frzs u.tbls (fun m' hm => by
    obtain ⟨o', es', ep', ho', r'⟩ := hm
    rw [ho] at ho'; cases ho'
    exact ⟨_, es', ep', hL, r'⟩) hok hg
theorem Inv.turned {t' : Nat} {it : Addr} (I : Inv X pins σ H s) (k : ∀ b o, b ≠ it → s.heap.get? b = some o → h'.get? b = some o) (hn : H it = none) (hL : it ≠ X.env.locals)
    (h1 : it ∈ X.ex ∨ X.s₀.heap.objs.size ≤ it) (h2 : ∀ x c, X.env.cells.lookup x = some c → c ≠ it) (h3 : ∀ p ∈ X.pn ++ pins, p.1 ≠ it) : Inv X pins σ H { s with heap := h', toks := t' } := by
  have nit : ∀ b u, H b = some u → b ≠ it := fun b u e z => by rw [z, hn] at e; cases e
  refine I.step (g' := s.gens) (d' := s.drawn) (ch := [it]) (fun b hb => ?_) (fun b o _ _ hc e _ => k b o (fun z => hc (by simp [z])) e) (fun b o _ _ hc e _ => ⟨o.slots, k b o (fun z => hc (by simp [z])) e⟩) (fun _ _ _ _ n => n)
    (fun b o hc e => ⟨o, k b o (fun z => hc (by simp [z])) e⟩) (fun _ _ e => e) (fun _ _ _ e => e) (fun b ps e => ⟨#[], by rw [e]; simp⟩) (fun m hm => ?_) (fun b u e => ?_) I.bare
  · have e : b = it := by simpa using hb
    subst e
    exact ⟨h1, hL, h2, h3⟩
  · obtain ⟨o, es, ep, ho, r⟩ := hm
    exact ⟨o, es, ep, k _ o (Ne.symm hL) ho, r⟩
  · refine (I.hok b u e).stay (fun c v hc q => k c v ?_ q) (fun _ q => q) fun _ _ q => q
    rcases hc with z | z
    · rw [z]; exact nit b u e
    · exact nit c _ z
theorem Inv.tok (I : Inv X pins σ H s) (t : Nat) : Inv X pins σ H { s with toks := t } := I.un (h' := s.heap) (t' := t) Un.refl I.hok
theorem Inv.kept {t' : Nat} (I : Inv X pins σ H s) (k : ∀ b u, s.heap.get? b = some u → h'.get? b = some u) : Inv X pins σ H { s with heap := h', toks := t' } := I.un (Un.kept k) (I.hok.kept k)
theorem Inv.laid {a : Addr} {o : HO} {t' : Nat} (I : Inv X pins σ H s) (k : ∀ b u, s.heap.get? b = some u → h'.get? b = some u) (hp : s.heap.objs.size ≤ a) (new : ObjOk X.prog X.w (upd H a o) h' a o) :
    Inv X pins σ (upd H a o) { s with heap := h', toks := t' } := I.un (Un.laid k hp (I.hok.fresh hp)) (I.hok.laid k hp new)
theorem Inv.write {x e : Addr} {o : HO} {t' : Nat} (I : Inv X pins σ H s) (mu : Mut (H x)) (he : e = x ∨ H e = some (.own x)) (k : ∀ b u, b ≠ e → s.heap.get? b = some u → h'.get? b = some u) (heo : ∃ u, h'.get? e = some u)
    (new : ObjOk X.prog X.w (upd H x o) h' x o) : Inv X pins σ (upd H x o) { s with heap := h', toks := t' } := I.un (Un.write mu he k heo) (I.hok.write mu he k heo new)
theorem Inv.pins_of {pins' : List (Addr × Obj)} (I : Inv X pins σ H s) (h : ∀ p ∈ pins', s.heap.get? p.1 = some p.2 ∧ H p.1 = none ∧ p.1 ≠ X.env.locals ∧ p.1 ∉ X.fs ∧ ∀ v, p.2.data ≠ .cell v) : Inv X pins' σ H s :=
  ⟨I.ok, I.os, I.bare, I.base, I.loc, I.cell, I.free, I.freeC, fun p hp => (List.mem_append.mp hp).elim (fun z => I.pin p (List.mem_append_left _ z)) (h p), I.hok, I.len⟩

theorem nodup_ix {N : List Str} (hN : N.Nodup) {i j : Nat} {x : Str} (a : N[i]? = some x) (b : N[j]? = some x) : i = j := by
  obtain ⟨h1, e1⟩ := List.getElem?_eq_some_iff.mp a
  obtain ⟨h2, e2⟩ := List.getElem?_eq_some_iff.mp b
  exact (List.getElem_inj hN).mp (e1.trans e2.symm)

theorem store_ok2 {M : Model} {A : Around} {E : Value → Shared → Prop} {i : Nat} {x : Str} {v : V} {u : Value} {Q : Unit → Shared → Prop} (I : Inv X pins σ H s) (hN : X.N.Nodup) (hi : X.N[i]? = some x) (hx : Loc X.env.scope x) (r : RelV v u)
    (h : ∀ s', Inv X pins (σ.set i (some v)) H s' → (∃ a, Heap.SameBut a s.heap s'.heap ∧ (a = X.env.locals ∨ X.env.cells.lookup x = some a)) → Q () s') (hf : X.fn x = true ∨ X.env.scope.names.lookup x = some .local := by first | exact .inl rfl | exact .inr rfl | assumption) : wpAny M A (storeName X.env x u) Q E s := by
  obtain ⟨m, hn, hl⟩ := id I.loc
  have hcls : (X.env.scope.kind == .class || (X.env.scope.kind == .module && X.env.locals != X.env.globals)) = false := by rw [I.ok.kind]; rfl
  have hiσ : i < σ.length := by rw [I.len]; exact (List.getElem?_eq_some_iff.mp hi).1
  have cne := I.cne
  have tracked : ∀ {a : Addr} {h' : Heap}, (∃ o, s.heap.get? a = some o ∧ H a = none) → Heap.SameBut a s.heap h' → HOk X.prog X.w H h' := fun {a h'} ha hs b ob e => by
    obtain ⟨_, _, hfree⟩ := ha
    refine (I.hok b ob e).stay (fun c w' hc q => (hs.2 c ?_).trans q) (fun _ q => q) fun _ _ q => q
    rintro rfl
    rcases hc with rfl | hc
    · rw [hfree] at e; cases e
    · rw [hfree] at hc; cases hc
  rcases hx with hk | hk
  · refine wpAny_storeName_local hk hn (fun h' hn' hs => ?_) hcls
    obtain ⟨oL, _, _, hoL, _⟩ := id hn
    refine h _ ⟨I.ok, I.os, I.bare, ⟨fun b o e n hb hx => ?_, fun b o e n hb hx => ?_, I.base.free, fun b o e hx => ?_, I.base.tups, I.base.frzs, I.base.tbls⟩, ⟨_, hn', fun j y v' e1 e2 e3 => ?_⟩, fun y c e => ?_, I.free, I.freeC, fun p hp => ?_, tracked ⟨oL, hoL, I.free⟩ hs, by simpa using I.len⟩ ⟨_, hs, .inl rfl⟩
    · exact (hs.2 b (Nat.ne_of_lt (Nat.lt_of_lt_of_le (Heap.lt_size e) I.ok.above))).trans (I.base.keep b o e n hb hx)
    · obtain ⟨sl, e1⟩ := I.base.slot b o e n hb hx
      exact ⟨sl, (hs.2 b (Nat.ne_of_lt (Nat.lt_of_lt_of_le (Heap.lt_size e) I.ok.above))).trans e1⟩
    · obtain ⟨o', e1⟩ := I.base.there b o e hx
      exact ⟨o', (hs.2 b (Nat.ne_of_lt (Nat.lt_of_lt_of_le (Heap.lt_size e) I.ok.above))).trans e1⟩
    · by_cases hj : j = i
      · subst hj
        rw [hi] at e1; cases e1
        rw [List.getElem?_set_self hiσ] at e2
        cases e2
        exact ⟨u, r, .inl ⟨hk, by simp⟩⟩
      · rw [List.getElem?_set_ne (Ne.symm hj)] at e2
        obtain ⟨u', r', q⟩ := hl j y v' e1 e2 e3
        refine ⟨u', r', ?_⟩
        rcases q with ⟨k, e⟩ | ⟨k, c, e, z⟩
        · refine .inl ⟨k, ?_⟩
          have : y ≠ x := fun e => hj (nodup_ix hN e1 (e ▸ hi))
          simp [this, e]
        · exact .inr ⟨k, c, e, z.sameBut hs (cne y c e)⟩
    · obtain ⟨w', z⟩ := I.cell y c e
      exact ⟨w', z.sameBut hs (cne y c e)⟩
    · obtain ⟨e, n, ne, nf, d⟩ := I.pin p hp
      exact ⟨(hs.2 p.1 ne).trans e, n, ne, nf, d⟩
  · have hfn : X.fn x = true := by
      rcases hf with z | z
      · exact z
      · rw [z] at hk; cases hk
    obtain ⟨c, hc⟩ := I.ok.has x (.inl hk)
    obtain ⟨w', z⟩ := I.cell x c hc
    refine wpAny_storeName_cell I.ok.kind hk hc z (fun h' hc' hs => ?_)
    obtain ⟨oc, hoc, hocd⟩ := id z
    refine h { s with heap := h' } ⟨I.ok, I.os, I.bare, ⟨fun b o e n hb hx => ?_, fun b o e n hb hx => ?_, I.base.free, fun b o e hx => ?_, I.base.tups, I.base.frzs, I.base.tbls⟩, ⟨m, hn.sameBut hs (Ne.symm (cne x c hc)), fun j y v' e1 e2 e3 => ?_⟩, fun y c' e => ?_, I.free, I.freeC, fun p hp => ?_, tracked ⟨oc, hoc, I.freeC x c hc⟩ hs, by simpa using I.len⟩ ⟨c, hs, .inr hc⟩
    · exact (hs.2 b (Nat.ne_of_lt (Nat.lt_of_lt_of_le (Heap.lt_size e) (I.ok.cab x c hfn hc)))).trans (I.base.keep b o e n hb hx)
    · obtain ⟨sl, e1⟩ := I.base.slot b o e n hb hx
      exact ⟨sl, (hs.2 b (Nat.ne_of_lt (Nat.lt_of_lt_of_le (Heap.lt_size e) (I.ok.cab x c hfn hc)))).trans e1⟩
    · obtain ⟨o', e1⟩ := I.base.there b o e hx
      exact ⟨o', (hs.2 b (Nat.ne_of_lt (Nat.lt_of_lt_of_le (Heap.lt_size e) (I.ok.cab x c hfn hc)))).trans e1⟩
    · by_cases hj : j = i
      · subst hj
        rw [hi] at e1; cases e1
        rw [List.getElem?_set_self hiσ] at e2
        cases e2
        exact ⟨u, r, .inr ⟨.inl hk, c, hc, hc'⟩⟩
      · rw [List.getElem?_set_ne (Ne.symm hj)] at e2
        obtain ⟨u', r', q⟩ := hl j y v' e1 e2 e3
        refine ⟨u', r', ?_⟩
        rcases q with q | ⟨k, c', e, z'⟩
        · exact .inl q
        · refine .inr ⟨k, c', e, z'.sameBut hs ?_⟩
          rintro rfl
          exact hj (nodup_ix hN e1 (I.ok.inj _ _ _ e hc ▸ hi))
    · by_cases hcc : c' = c
      · subst hcc; exact ⟨_, hc'⟩
      · obtain ⟨w2, z2⟩ := I.cell y c' e
        exact ⟨w2, z2.sameBut hs hcc⟩
    · obtain ⟨e, n, ne, nf, d⟩ := I.pin p hp
      refine ⟨(hs.2 p.1 ?_).trans e, n, ne, nf, d⟩
      intro q
      rw [q, hoc] at e
      have q' : oc = p.2 := Option.some.inj e
      exact d w' (by rw [← q']; exact hocd)
theorem store_ok {M : Model} {A : Around} {E : Value → Shared → Prop} {i : Nat} {x : Str} {v : V} {u : Value} {Q : Unit → Shared → Prop} (I : Inv X pins σ H s) (hN : X.N.Nodup) (hi : X.N[i]? = some x) (hx : Loc X.env.scope x) (r : RelV v u)
    (h : ∀ s', Inv X pins (σ.set i (some v)) H s' → Q () s') (hf : X.fn x = true ∨ X.env.scope.names.lookup x = some .local := by first | exact .inl rfl | exact .inr rfl | assumption) : wpAny M A (storeName X.env x u) Q E s :=
  store_ok2 I hN hi hx r (fun s' I' _ => h s' I') hf
theorem Inv.call' {s' : Shared} {ch : List Addr} (I : Inv X pins σ H s) (ho : s'.os = s.os) (u : Un (frs X.stack) ch H H' s.heap s'.heap) (hok : HOk X.prog X.w H' s'.heap) (hg : AllBare s'.gens)
    (hch : ∀ b ∈ ch, (b ∈ X.ex ∨ X.s₀.heap.objs.size ≤ b) ∧ b ≠ X.env.locals ∧ (∀ x c, X.env.cells.lookup x = some c → c ≠ b) ∧ ∀ p ∈ X.pn ++ pins, p.1 ≠ b) : Inv X pins σ H' s' := by
  obtain ⟨h', g', d', t', o'⟩ := s'
  have e : o' = s.os := ho
  subst e
  exact I.call (g' := g') (t' := t') (d' := d') u hok hg hch
end

noncomputable abbrev XK := Value → Option Addr → Hp → Prop
noncomputable abbrev St := List (Option V)
noncomputable abbrev VK := V → Hp → Prop
noncomputable abbrev TE := St → Hp → VK → Prop
noncomputable abbrev TT := St → Hp → (Bool → Hp → Prop) → Prop
noncomputable abbrev TA := St → Hp → (List V → Hp → Prop) → Prop
structure Ends where
  nx : St → Hp → Prop
  rt : VK
  bk : St → Hp → Prop := fun _ _ => False
  ct : St → Hp → Prop := fun _ _ => False
noncomputable abbrev TS := Ends → St → Hp → Prop

noncomputable def EP (X : Cx) (pins : List (Addr × Obj)) (σ : St) (Q : VK) (u : Value) (s' : Shared) : Prop := ∃ v H', Inv X pins σ H' s' ∧ RelV v u ∧ Q v H'
noncomputable def TP (X : Cx) (pins : List (Addr × Obj)) (σ : St) (Q : Bool → Hp → Prop) (b : Bool) (s' : Shared) : Prop := ∃ H', Inv X pins σ H' s' ∧ Q b H'
noncomputable def AP (X : Cx) (pins : List (Addr × Obj)) (σ : St) (Q : List V → Hp → Prop) (us : List Value) (s' : Shared) : Prop := ∃ vs H', Inv X pins σ H' s' ∧ Vals vs us ∧ Q vs H'
noncomputable def SP (X : Cx) (pins : List (Addr × Obj)) (D : Ends) (f : Flow) (s' : Shared) : Prop :=
  match f with
  | .next => ∃ σ' H', Inv X pins σ' H' s' ∧ D.nx σ' H'
  | .brk => ∃ σ' H', Inv X pins σ' H' s' ∧ D.bk σ' H'
  | .cont => ∃ σ' H', Inv X pins σ' H' s' ∧ D.ct σ' H'
  | .ret u => ∃ v σ' H', Inv X pins σ' H' s' ∧ RelV v u ∧ D.rt v H'

noncomputable def PE (X : Cx) (e : Expr) (t : TE) : Prop :=
  ∀ (pins : List (Addr × Obj)) (s : Shared) (σ : St) (H : Hp) (Q : VK), Inv X pins σ H s → t σ H Q → wpAny (model X.prog X.w) X.A (eval e X.env) (EP X pins σ Q) X.xe s
noncomputable def PT (X : Cx) (e : Expr) (t : TT) : Prop :=
  ∀ (pins : List (Addr × Obj)) (s : Shared) (σ : St) (H : Hp) (Q : Bool → Hp → Prop), Inv X pins σ H s → t σ H Q → wpAny (model X.prog X.w) X.A (isTrue e X.env (eval e X.env)) (TP X pins σ Q) X.xe s
noncomputable def PW (X : Cx) (e : Expr) (t : TT) : Prop :=
  ∀ (whole : Sem Value) (pins : List (Addr × Obj)) (s : Shared) (σ : St) (H : Hp) (Q : Bool → Hp → Prop), Inv X pins σ H s → t σ H Q → wpAny (model X.prog X.w) X.A (isTrue e X.env whole) (TP X pins σ Q) X.xe s
theorem PW.pt {X : Cx} {e : Expr} {t : TT} (h : PW X e t) : PT X e t := h _
noncomputable def PA (X : Cx) (es : List Expr) (t : TA) : Prop :=
  ∀ (pos : Pos) (pins : List (Addr × Obj)) (s : Shared) (σ : St) (H : Hp) (Q : List V → Hp → Prop), Inv X pins σ H s → t σ H Q → wpAny (model X.prog X.w) X.A (spliced (backTo pos (starEach es X.env))) (AP X pins σ Q) X.xe s
noncomputable def PS (X : Cx) (st : Stmt) (t : TS) : Prop :=
  ∀ (pins : List (Addr × Obj)) (s : Shared) (σ : St) (H : Hp) (D : Ends), Inv X pins σ H s → t D σ H → wpAny (model X.prog X.w) X.A (exec st X.env) (SP X pins D) X.xe s
noncomputable def PSs (X : Cx) (st : List Stmt) (t : TS) : Prop :=
  ∀ (pins : List (Addr × Obj)) (s : Shared) (σ : St) (H : Hp) (D : Ends), Inv X pins σ H s → t D σ H → wpAny (model X.prog X.w) X.A (execs st X.env) (SP X pins D) X.xe s
theorem thn {α : Type} {t : Sem α} {Q Q' : α → Shared → Prop} {M : Model} {A : Around} {E : Value → Shared → Prop} {s : Shared} (h : wpAny M A t Q E s) (hQ : ∀ a s, Q a s → Q' a s) : wpAny M A t Q' E s := wpAny_mono h hQ fun _ _ x => x
end L2

namespace L2
open PySem PySem.Spec PyProof.Rows
section
variable {X : Cx}

noncomputable def tVar (i : Nat) : TE := fun σ H Q => ∃ v, σ[i]? = some (some v) ∧ Q v H
noncomputable def tC (v : V) : TE := fun _ H Q => Q v H
theorem pe_var {i : Nat} {x : Str} {pos : Pos} (hN : X.N[i]? = some x) (hv : Vis X.env.scope x) (hd : (x == ("__debug__" : Str)) = false := by decide) (hcd : (x == ("__classdict__" : Str)) = false := by decide) : PE X (.Name x pos) (tVar i) := by
  intro pins s σ H Q I h
  obtain ⟨v, e, h⟩ := h
  obtain ⟨m, hn, hl⟩ := I.loc
  obtain ⟨u, r, l⟩ := hl i x v hN e hv
  have fin : EP X pins σ Q u s := ⟨v, H, I, r, h⟩
  rcases l with ⟨hk, hm⟩ | ⟨hk, c, hc, hcell⟩
  · exact wpAny_Name (wpAny_loadName_local I.ok.kind hk hn hm fin) hd
  · rcases hk with hk | hk
    · exact wpAny_Name (wpAny_loadName_cell I.ok.kind hk hc hcell fin) hd
    · exact wpAny_Name (wpAny_loadName_free I.ok.kind hk hc hcell fin hcd) hd
theorem pe_int {i j pos} : PE X (.Constant (.int i) j pos) (tC (.int i)) := fun _ _ _ H _ I h => wpAny_Constant_int ⟨.int i, H, I.tok _, ⟨_, rfl⟩, h⟩
theorem pe_bl {b j pos} : PE X (.Constant (.bool b) j pos) (tC (.bl b)) := fun _ _ _ H _ I h => Constant_bool ⟨.bl b, H, I, rfl, h⟩
theorem pe_str {x j pos} : PE X (.Constant (.str x) j pos) (tC (.str x)) := fun _ _ _ H _ I h => Calls.Constant_str ⟨.str x, H, I.tok _, ⟨_, rfl⟩, h⟩

noncomputable def Gl (X : Cx) (x : Str) : Prop := X.env.kindOf x = some .globalImplicit
theorem ld_glob {E : Value → Shared → Prop} {pins : List (Addr × Obj)} {s : Shared} {σ : St} {H : Hp} {x : Str} {u : Value} {pos : Pos} {Q : Value → Shared → Prop} (I : Inv X pins σ H s) (hg : Gl X x) (hm : X.mg x = some u) (h : Q u s)
    (hd : (x == ("__debug__" : Str)) = false := by decide) : wpAny (model X.prog X.w) X.A (eval (.Name x pos) X.env) Q E s :=
  Calls.Name_function_global I.ok.kind hg (Calls.loadGlobal_global (by rw [I.ok.glob]; exact I.mod.glob.keeps I.bk) hm h) hd
theorem ld_blt {E : Value → Shared → Prop} {pins : List (Addr × Obj)} {s : Shared} {σ : St} {H : Hp} {x : Str} {u : Value} {pos : Pos} {Q : Value → Shared → Prop} (I : Inv X pins σ H s) (hg : Gl X x) (hm : X.mg x = none) (hv : bootBuiltins x = some u) (h : Q u s)
    (hn : x ≠ "__name__" := by decide) (hd : (x == ("__debug__" : Str)) = false := by decide) : wpAny (model X.prog X.w) X.A (eval (.Name x pos) X.env) Q E s := by
  obtain ⟨mb, h1, h2⟩ := I.mod.blt
  exact Calls.Name_function_global I.ok.kind hg (Calls.loadGlobal_builtin (by rw [I.ok.glob]; exact I.mod.glob.keeps I.bk) hm (by rw [I.ok.blt]; exact h1.keeps I.bk) ((h2 x hn).trans hv) h) hd
theorem pe_glob {x : Str} {v : V} {u : Value} {pos : Pos} (hg : Gl X x) (hm : X.mg x = some u) (r : RelV v u) (hd : (x == ("__debug__" : Str)) = false := by decide) : PE X (.Name x pos) (tC v) :=
  fun _ _ _ H _ I h => ld_glob I hg hm ⟨v, H, I, r, h⟩ hd
theorem pe_bltn {x : Str} {v : V} {u : Value} {pos : Pos} (hg : Gl X x) (hm : X.mg x = none) (hv : bootBuiltins x = some u) (r : RelV v u) (hn : x ≠ "__name__" := by decide) (hd : (x == ("__debug__" : Str)) = false := by decide) : PE X (.Name x pos) (tC v) :=
  fun _ _ _ H _ I h => ld_blt I hg hm hv ⟨v, H, I, r, h⟩ hn hd

variable {a b : Expr} {ta tb : TE} {pos : Pos}
noncomputable def tB (t : TE) : TT := fun σ H Q => t σ H fun x H1 => ∃ c, x = .bl c ∧ Q c H1
theorem pt_val {e : Expr} {t : TE} (h : PE X e t) (he : ∀ whole, isTrue e X.env whole = (do let v ← whole; standAt e.pos; holding [v] (truthy v)) := by intro _; rfl) : PT X e (tB t) := by
  intro pins s σ H Q I hw
  refine isTrue_plain (thn (h pins s σ H _ I hw) fun v s1 ⟨x, H1, I1, r1, q1⟩ => ?_) (he _)
  obtain ⟨d, rfl, q⟩ := q1
  cases r1
  exact wpAny_truthy_bool ⟨H1, I1, q⟩

variable {tA tB' : TT} {rest : List Expr}
noncomputable def tAnd (t u : TT) : TT := fun σ H Q => t σ H fun c H1 => if c = true then u σ H1 Q else Q false H1
noncomputable def tOr (t u : TT) : TT := fun σ H Q => t σ H fun c H1 => if c = true then Q true H1 else u σ H1 Q
noncomputable def tNot (t : TT) : TT := fun σ H Q => t σ H fun c H1 => Q (!c) H1
theorem pw_and1 (ha : PT X a tA) : PW X (.BoolOp .And [a] pos) tA := by
  intro wh pins s σ H Q I h
  refine isTrue_and (thn (ha pins s σ H Q I h) fun c s1 e => ?_)
  cases c with
  | true => exact isTrue_and_nil e
  | false => exact e
theorem pw_or1 (ha : PT X a tA) : PW X (.BoolOp .Or [a] pos) tA := by
  intro wh pins s σ H Q I h
  refine isTrue_or (thn (ha pins s σ H Q I h) fun c s1 e => ?_)
  cases c with
  | false => exact isTrue_or_nil e
  | true => exact e
theorem pw_and (ha : PT X a tA) (hb : PW X (.BoolOp .And (b :: rest) pos) tB') : PW X (.BoolOp .And (a :: b :: rest) pos) (tAnd tA tB') := by
  intro wh pins s σ H Q I h
  refine isTrue_and (thn (ha pins s σ H _ I h) fun c s1 ⟨H1, I1, q1⟩ => ?_)
  cases c with
  | true => exact hb wh pins s1 σ H1 Q I1 q1
  | false => exact ⟨H1, I1, q1⟩
theorem pw_or (ha : PT X a tA) (hb : PW X (.BoolOp .Or (b :: rest) pos) tB') : PW X (.BoolOp .Or (a :: b :: rest) pos) (tOr tA tB') := by
  intro wh pins s σ H Q I h
  refine isTrue_or (thn (ha pins s σ H _ I h) fun c s1 ⟨H1, I1, q1⟩ => ?_)
  cases c with
  | true => exact ⟨H1, I1, q1⟩
  | false => exact hb wh pins s1 σ H1 Q I1 q1
theorem pt_not (ha : PT X a tA) : PT X (.UnaryOp .Not a pos) (tNot tA) := by
  intro pins s σ H Q I h
  exact isTrue_not (ha pins s σ H (fun c H1 => Q (!c) H1) I h)
noncomputable def tAndV (ta tb : TE) : TE := fun σ H Q => ta σ H fun x H1 => ∃ c, x = .bl c ∧ if c = true then tb σ H1 Q else Q (.bl false) H1
noncomputable def tNotV (ta : TE) : TE := fun σ H Q => ta σ H fun x H1 => ∃ c, x = .bl c ∧ Q (.bl (!c)) H1
theorem pe_one {op} {t : TE} (h : PE X a t) : PE X (.BoolOp op [a] pos) t := fun pins s σ H Q I hw => BoolOp_one (h pins s σ H Q I hw)
theorem pe_and (ha : PE X a ta) (hb : PE X (.BoolOp .And (b :: rest) pos) tb) : PE X (.BoolOp .And (a :: b :: rest) pos) (tAndV ta tb) := by
  intro pins s σ H Q I h
  refine BoolOp_and (thn (ha pins s σ H _ I h) fun v s1 ⟨x, H1, I1, r1, q1⟩ => ?_)
  obtain ⟨c, rfl, q1⟩ := q1
  cases r1
  refine wpAny_truthy_bool ?_
  cases c with
  | true => exact hb pins s1 σ H1 Q I1 q1
  | false => exact ⟨.bl false, H1, I1, rfl, q1⟩
theorem pe_not (ha : PE X a ta) : PE X (.UnaryOp .Not a pos) (tNotV ta) := by
  intro pins s σ H Q I h
  refine UnaryOp_ (thn (ha pins s σ H _ I h) fun v s1 ⟨x, H1, I1, r1, q1⟩ => ?_)
  obtain ⟨c, rfl, q1⟩ := q1
  cases r1
  exact not_of (wpAny_truthy_bool ⟨.bl (!c), H1, I1, rfl, q1⟩)
noncomputable def tIf (t : TT) (ta tb : TE) : TE := fun σ H Q => t σ H fun c H1 => if c = true then ta σ H1 Q else tb σ H1 Q
theorem pe_ifExp {c : Expr} (hc : PT X c tA) (ha : PE X a ta) (hb : PE X b tb) : PE X (.IfExp c a b pos) (tIf tA ta tb) := by
  intro pins s σ H Q I h
  refine wpAny_IfExp (thn (hc pins s σ H _ I h) fun d s1 ⟨H1, I1, q1⟩ => ?_)
  cases d with
  | true => exact ha pins s1 σ H1 Q I1 q1
  | false => exact hb pins s1 σ H1 Q I1 q1
end
end L2

namespace L2
open PySem PySem.Spec PyProof.Rows

noncomputable def SqL (K : PySem.W.Frag) (H : Hp) (a : Addr) (xs : List V) : Prop :=
  Rd H a (.lst xs) ∨
    ∃ (o : Obj) (its : Array Value) (n : Nat), K.lookup a = some o ∧ o.cls = .type "list" ∧ o.dict = none ∧ o.data = .seq its n ∧ its.size ≤ sizeLine ∧ Vals xs its.toList
noncomputable def SqT (K : PySem.W.Frag) (H : Hp) (a : Addr) (xs : List V) : Prop :=
  Rd H a (.tup xs) ∨
    ∃ (o : Obj) (its : Array Value) (n : Nat), K.lookup a = some o ∧ o.cls = .type "tuple" ∧ o.data = .seq its n ∧ its.size ≤ sizeLine ∧ Vals xs its.toList
noncomputable def absV : Value → Option V
  | .none => some .non
  | .bool b => some (.bl b)
  | .int i _ => some (.int i)
  | .str x _ => some (.str x)
  | .bytes b _ => some (.byt b)
  | .float b _ => some (.flt b)
  | .ref a => some (.ref a)
  | .type n => some (.ty n)
  | _ => none
theorem RelV.abs {x : V} {u : Value} (r : RelV x u) : absV u = some x := by
  cases x with
  | non => cases r; rfl
  | bl _ => cases r; rfl
  | int _ => obtain ⟨t, rfl⟩ := r; rfl
  | str _ => obtain ⟨t, rfl⟩ := r; rfl
  | byt _ => obtain ⟨t, rfl⟩ := r; rfl
  | flt _ => obtain ⟨t, rfl⟩ := r; rfl
  | ref _ => cases r; rfl
  | ty _ => cases r; rfl
theorem RelV.inj {x y : V} {u : Value} (r : RelV x u) (q : RelV y u) : x = y := Option.some.inj (r.abs.symm.trans q.abs)
theorem Vals.inj : ∀ {xs ys : List V} {us : List Value}, Vals xs us → Vals ys us → xs = ys
  | _, _, _, .nil, .nil => rfl
  | _, _, _, .cons r t, .cons r' t' => by rw [r.inj r', Vals.inj t t']
section
variable {X : Cx} {pins : List (Addr × Obj)} {σ : St} {H : Hp} {s : Shared} {a : Addr} {xs ys : List V}
theorem SqL.of {K : PySem.W.Frag} (h : H a = some (.lst xs)) : SqL K H a xs := .inl (.inl h)
theorem SqT.of {K : PySem.W.Frag} (h : H a = some (.tup xs)) : SqT K H a xs := .inl (.inl h)
theorem Inv.list (I : Inv X pins σ H s) (h : SqL X.K H a xs) : ∃ its : List Value, Vals xs its ∧ PlainL s.heap a its.toArray ∧ xs.length ≤ sizeLine := by
  rcases h with h | ⟨o, its, n, hk, hc, hd, hs, hz, r⟩
  · obtain ⟨z, its, n, r, e⟩ := h.ok I.hok
    exact ⟨its, r, ⟨_, n, e, rfl, rfl, rfl⟩, z⟩
  · refine ⟨its.toList, r, ⟨o, n, I.kIn a o hk, hc, hd, by simpa using hs⟩, ?_⟩
    have e := r.length
    simp only [Array.length_toList] at e
    walk_at "om"
theorem Inv.tuple (I : Inv X pins σ H s) (h : SqT X.K H a xs) : ∃ its : List Value, Vals xs its ∧ IsTup s.heap a its.toArray ∧ xs.length ≤ sizeLine := by
  rcases h with h | ⟨o, its, n, hk, hc, hs, hz, r⟩
  · obtain ⟨z, its, r, p⟩ := h.ok I.hok
    exact ⟨its, r, p.isTup, z⟩
  · refine ⟨its.toList, r, ⟨o, I.kIn a o hk, hc, n, by simpa using hs⟩, ?_⟩
    have e := r.length
    simp only [Array.length_toList] at e
    walk_at "om"
theorem Inv.list_inj (I : Inv X pins σ H s) (h : SqL X.K H a xs) (h' : SqL X.K H a ys) : xs = ys := by
  obtain ⟨its, r, ⟨o, n, e, _, _, d⟩, _⟩ := I.list h
  obtain ⟨its', r', ⟨o', n', e', _, _, d'⟩, _⟩ := I.list h'
  rw [e] at e'; cases e'
  rw [d] at d'
  injection d' with d1 _
  have : its = its' := by simpa using congrArg Array.toList d1
  subst this
  exact r.inj r'
theorem Inv.tuple_inj (I : Inv X pins σ H s) (h : SqT X.K H a xs) (h' : SqT X.K H a ys) : xs = ys := by
  obtain ⟨its, r, ⟨o, e, _, n, d⟩, _⟩ := I.tuple h
  obtain ⟨its', r', ⟨o', e', _, n', d'⟩, _⟩ := I.tuple h'
  rw [e] at e'; cases e'
  rw [d] at d'
  injection d' with d1 _
  have : its = its' := by simpa using congrArg Array.toList d1
  subst this
  exact r.inj r'
end

noncomputable abbrev Cx.wish (X : Cx) (E : Value → Shared → Prop) : Cx := { X with xe := E }
noncomputable abbrev Cx.nox (X : Cx) : Cx := X.wish fun _ _ => False
theorem Cx.Ok.wish {X : Cx} (ok : X.Ok) (E : Value → Shared → Prop) : (X.wish E).Ok :=
  ⟨ok.mod, ok.kind, ok.glob, ok.blt, ok.above, ok.inj, ok.has, ok.cab, ok.hd, ok.frames, ok.stk, ok.exf, ok.bs, ok.bsz, ok.noex, ok.exfs, ok.funs, ok.frf⟩
theorem Cx.Ok.unwish {X : Cx} {E : Value → Shared → Prop} (ok : (X.wish E).Ok) : X.Ok :=
  ⟨ok.mod, ok.kind, ok.glob, ok.blt, ok.above, ok.inj, ok.has, ok.cab, ok.hd, ok.frames, ok.stk, ok.exf, ok.bs, ok.bsz, ok.noex, ok.exfs, ok.funs, ok.frf⟩
section
variable {X : Cx} {pins : List (Addr × Obj)} {σ : St} {H : Hp} {s : Shared} {E : Value → Shared → Prop}
theorem Inv.wish (I : Inv X pins σ H s) (E : Value → Shared → Prop) : Inv (X.wish E) pins σ H s := ⟨I.ok.wish E, I.os, I.bare, I.base, I.loc, I.cell, I.free, I.freeC, I.pin, I.hok, I.len⟩
theorem Inv.unwish (I : Inv (X.wish E) pins σ H s) : Inv X pins σ H s := ⟨I.ok.unwish, I.os, I.bare, I.base, I.loc, I.cell, I.free, I.freeC, I.pin, I.hok, I.len⟩
theorem SP.unwish {D : Ends} {f : Flow} {s' : Shared} (h : SP (X.wish E) pins D f s') : SP X pins D f s' := by
  cases f with
  | next => obtain ⟨σ', H', I, q⟩ := h; exact ⟨σ', H', I.unwish, q⟩
  | brk => obtain ⟨σ', H', I, q⟩ := h; exact ⟨σ', H', I.unwish, q⟩
  | cont => obtain ⟨σ', H', I, q⟩ := h; exact ⟨σ', H', I.unwish, q⟩
  | ret u => obtain ⟨v, σ', H', I, r, q⟩ := h; exact ⟨v, σ', H', I.unwish, r, q⟩
theorem PSs.nox {st : List Stmt} {t : TS} (h : PSs X.nox st t) : PSs X st t := fun pins s σ H D I hw =>
  wpAny_mono (h pins s σ H D (I.wish _) hw) (fun _ _ q => q.unwish) fun _ _ z => False.elim z
end

section
variable {X : Cx} {st : Stmt} {rest : List Stmt} {t u : TS} {e : Expr} {te : TE} {pos : Pos}
noncomputable def tNext : TS := fun D σ H => D.nx σ H
noncomputable def tSeq (t u : TS) : TS := fun D σ H => t { D with nx := u D } σ H
theorem pss_nil : PSs X [] tNext := fun _ _ σ H _ I h => wpAny_execs_nil ⟨σ, H, I, h⟩
theorem pss_cons (h1 : PS X st t) (h2 : PSs X rest u) : PSs X (st :: rest) (tSeq t u) := by
  intro pins s σ H D I h
  refine wpAny_execs_cons (thn (h1 pins s σ H { D with nx := u D } I h) fun f s1 q => ?_)
  cases f with
  | next =>
    obtain ⟨σ', H', I', q⟩ := q
    exact h2 pins s1 σ' H' D I' q
  | ret v => exact q
  | brk => exact q
  | cont => exact q
theorem pss_one (h1 : PS X st t) : PSs X [st] t := by
  intro pins s σ H D I h
  refine wpAny_execs_cons (thn (h1 pins s σ H D I h) fun f s1 q => ?_)
  cases f with
  | next => exact wpAny_execs_nil q
  | ret v => exact q
  | brk => exact q
  | cont => exact q
theorem Inv.quiet {pins : List (Addr × Obj)} {σ : St} {H : Hp} {s : Shared} (I : Inv X pins σ H s) : interactive X.env = false := by simp [interactive, I.ok.kind]
noncomputable def tDrop (te : TE) : TS := fun D σ H => te σ H fun _ H1 => D.nx σ H1
theorem ps_expr (he : PE X e te) (hs : swapsWith e none pos.line X.env = pure false := by rfl) : PS X (.Expr e pos) (tDrop te) := by
  intro pins s σ H D I h
  exact wpAny_Expr_any (thn (he pins s σ H _ I h) fun v s1 ⟨x, H1, I1, r1, q1⟩ => ⟨σ, H1, I1, q1⟩) I.quiet hs
noncomputable def tRet (te : TE) : TS := fun D σ H => te σ H D.rt
theorem ps_ret (he : PE X e te) : PS X (.Return (some e) pos) (tRet te) := by
  intro pins s σ H D I h
  exact wpAny_Return_some (thn (he pins s σ H _ I h) fun v s1 ⟨x, H1, I1, r1, q1⟩ => ⟨x, σ, H1, I1, r1, q1⟩)
noncomputable def tIfS (c : TT) (t u : TS) : TS := fun D σ H => c σ H fun b H1 => if b = true then t D σ H1 else u D σ H1
theorem ps_if {c : Expr} {a b : List Stmt} {tc : TT} (hc : PT X c tc) (ha : PSs X a t) (hb : PSs X b u) : PS X (.If c a b pos) (tIfS tc t u) := by
  intro pins s σ H D I h
  refine wpAny_If (thn (hc pins s σ H _ I h) fun d s1 ⟨H1, I1, q1⟩ => ?_)
  cases d with
  | true => exact ha pins s1 σ H1 D I1 q1
  | false => exact hb pins s1 σ H1 D I1 q1
noncomputable def tNever : TS := fun _ _ _ => False
theorem ps_never : PS X st tNever := fun _ _ _ _ _ _ h => h.elim
end

noncomputable abbrev TG := V → St → Hp → (St → Hp → Prop) → Prop
noncomputable abbrev TGs := List V → St → Hp → (St → Hp → Prop) → Prop
noncomputable def PG (X : Cx) (target : Expr) (t : TG) : Prop :=
  ∀ (pins : List (Addr × Obj)) (s : Shared) (σ : St) (H : Hp) (v : V) (u : Value) (Q : St → Hp → Prop), Inv X pins σ H s → RelV v u → t v σ H Q →
    wpAny (model X.prog X.w) X.A (assign target X.env u) (fun _ s' => ∃ σ' H', Inv X pins σ' H' s' ∧ Q σ' H') X.xe s
noncomputable def PGs (X : Cx) (ts : List Expr) (t : TGs) : Prop :=
  ∀ (pins : List (Addr × Obj)) (s : Shared) (σ : St) (H : Hp) (vs : List V) (us : List Value) (Q : St → Hp → Prop), Inv X pins σ H s → Vals vs us → t vs σ H Q →
    wpAny (model X.prog X.w) X.A (assignInOrder ((assignEach ts X.env).map (·.2)) us) (fun _ s' => ∃ σ' H', Inv X pins σ' H' s' ∧ Q σ' H') X.xe s
section
variable {X : Cx} {pos : Pos}
noncomputable def gName (i : Nat) : TG := fun v σ H Q => Q (σ.set i (some v)) H
theorem pg_name {i : Nat} {x : Str} (hN : X.N.Nodup) (hi : X.N[i]? = some x) (hx : Loc X.env.scope x) (hf : X.fn x = true ∨ X.env.scope.names.lookup x = some .local := by first | exact .inl rfl | exact .inr rfl | assumption) : PG X (.Name x pos) (gName i) := by
  intro pins s σ H v u Q I r h
  exact wpAny_assign_Name (store_ok I hN hi hx r (fun s' I' => ⟨_, H, I', h⟩) hf)
noncomputable def gNil : TGs := fun vs σ H Q => vs = [] ∧ Q σ H
noncomputable def gCons (t : TG) (u : TGs) : TGs := fun vs σ H Q => ∃ v r, vs = v :: r ∧ t v σ H fun σ' H' => u r σ' H' Q
theorem pgs_nil : PGs X [] gNil := by
  intro pins s σ H vs us Q I r h
  obtain ⟨e, h⟩ := h
  subst e
  cases r
  exact assignInOrder_nil ⟨σ, H, I, h⟩
theorem pgs_cons {e : Expr} {es : List Expr} {t : TG} {u : TGs} (h1 : PG X e t) (h2 : PGs X es u)
    (hs : (assignEach (e :: es) X.env).map (·.2) = assign e X.env :: (assignEach es X.env).map (·.2) := by rfl) : PGs X (e :: es) (gCons t u) := by
  intro pins s σ H vs us Q I r h
  obtain ⟨v, vr, e1, h⟩ := h
  subst e1
  cases r with
  | cons r rr =>
    rw [hs]
    refine assignInOrder_cons (thn (h1 pins s σ H _ _ _ I r h) fun _ s1 ⟨σ1, H1, I1, q1⟩ => ?_)
    exact h2 pins s1 σ1 H1 _ _ Q I1 rr q1
noncomputable def gTup (K : PySem.W.Frag) (n : Nat) (t : TGs) : TG := fun v σ H Q => ∃ a xs, v = .ref a ∧ SqT K H a xs ∧ xs.length = n ∧ t xs σ H Q
theorem pg_tup {es : List Expr} {k : Nat} {t : TGs} {n : Nat} (hc : X.calm = true) (h : PGs X es t)
    (hn : (assignEach es X.env).length = n := by rfl) (hst : (assignEach es X.env).findIdx? (·.1) = none := by rfl) : PG X (.Tuple es k pos) (gTup X.K n t) := by
  intro pins s σ H v u Q I r hw
  obtain ⟨a, xs, e1, hq, hl, hw⟩ := hw
  subst e1
  cases r
  obtain ⟨its, rv, ht, hz⟩ := I.tuple hq
  refine assign_Tuple_tuple (I.ok.hd hc) ht (by simp [hn, ← hl, rv.length]) hst fun h' hx => ?_
  have I1 : Inv X pins σ H { s with heap := h' } := I.kept (t' := s.toks) fun b o e => hx b o (Nat.ne_of_lt (Heap.lt_size e)) e
  exact h pins _ σ H xs _ Q I1 (by simpa using rv) hw
noncomputable def tAsg (te : TE) (g : TG) : TS := fun D σ H => te σ H fun x H1 => g x σ H1 D.nx
theorem ps_asg {tg e : Expr} {te : TE} {g : TG} (he : PE X e te) (hg : PG X tg g) (hs : swapsWithSole [tg] e pos.line X.env = pure false := by rfl) (hw : swappedStores [tg] e X.env = pure none := by rfl)
    (h1 : (assignEach [tg] X.env).map (·.2) = [assign tg X.env] := by rfl) : PS X (.Assign [tg] e pos) (tAsg te g) := by
  intro pins s σ H D I h
  refine wpAny_Assign_stores (thn (he pins s σ H _ I h) fun v s1 ⟨x, H1, I1, r1, q1⟩ => ?_) hs hw
  rw [h1]
  exact thn (hg pins s1 σ H1 x v _ I1 r1 q1) fun _ s2 q => q
theorem ps_set {i : Nat} {x : Str} {e : Expr} {te : TE} {pos' : Pos} (hN : X.N.Nodup) (hi : X.N[i]? = some x) (hx : Loc X.env.scope x) (he : PE X e te) (hs : swapsWith e (some (.Name x pos')) pos.line X.env = pure false := by rfl) (hf : X.fn x = true ∨ X.env.scope.names.lookup x = some .local := by first | exact .inl rfl | exact .inr rfl | assumption) :
    PS X (.Assign [.Name x pos'] e pos) (tAsg te (gName i)) := by
  intro pins s σ H D I h
  refine wpAny_Assign_Name (thn (he pins s σ H _ I h) fun v s1 ⟨y, H1, I1, r1, q1⟩ => ?_) hs
  exact store_ok I1 hN hi hx r1 (fun s2 I2 => ⟨_, H1, I2, q1⟩) hf
noncomputable def tPar (i j : Nat) (ta : TA) : TS := fun D σ H => ta σ H fun vs H1 => ∃ v w, vs = [v, w] ∧ D.nx ((σ.set i (some v)).set j (some w)) H1
theorem ps_par {i j : Nat} {x y : Str} {a b : Expr} {ta : TA} {px py pt : Pos} {kt k2 pt2} (hc : X.calm = true) (hN : X.N.Nodup) (hi : X.N[i]? = some x) (hj : X.N[j]? = some y) (hij : i ≠ j)
    (hx : X.env.scope.names.lookup x = some .local) (hy : X.env.scope.names.lookup y = some .local) (ha : PA X [a, b] ta)
    (hw : swappedStores [.Tuple [.Name x px, .Name y py] kt pt] (.Tuple [a, b] k2 pt2) X.env = pure (some [x, y]))
    (hs : swapsWithSole [.Tuple [.Name x px, .Name y py] kt pt] (.Tuple [a, b] k2 pt2) pos.line X.env = pure false := by rfl) :
    PS X (.Assign [.Tuple [.Name x px, .Name y py] kt pt] (.Tuple [a, b] k2 pt2) pos) (tPar i j ta) := by
  intro pins s σ H D I h
  rw [exec_Assign_arm]
  refine wpAny_bind (wpAny_standAt ?_)
  rw [hs]
  refine wpAny_bind (wpAny_pure ?_)
  rw [if_neg (by decide)]
  refine wpAny_bind (Tuple_ (thn (ha _ pins s σ H _ I h) fun us s1 ⟨vs, H1, I1, r1, q1⟩ => ?_))
  obtain ⟨v, w, e1, q1⟩ := q1
  subst e1
  obtain ⟨u1, u2, rfl, rv, rw'⟩ : ∃ u1 u2, us = [u1, u2] ∧ RelV v u1 ∧ RelV w u2 := by
    cases r1 with
    | cons p q =>
      cases q with
      | cons p' q' =>
        cases q'
        exact ⟨_, _, rfl, p, p'⟩
  refine wpAny_newObj_type ?_ (by show 2 ≤ sizeLine; decide)
  have I2 : Inv X pins σ H1 { s1 with heap := s1.heap.push { cls := .type "tuple", data := .seq [u1, u2].toArray } } := I1.kept (t' := s1.toks) fun b o e => Heap.get?_push_of_some _ e
  rw [hw]
  refine wpAny_bind (wpAny_pure ?_)
  show wpAny (model X.prog X.w) X.A (do rule "assign.swapped-stores"; let items ← unpackItems (.ref s1.heap.objs.size) 2 none; assignInOrder [fun v => bindName X.env y v, fun v => bindName X.env x v] items.reverse; pure Flow.next) _ _ _
  refine wpAny_bind (wpAny_rule (wpAny_bind (unpackItems_tuple (items := #[u1, u2]) (I.ok.hd hc) (IsTup.new s1.heap _) fun h' hx' => ?_)))
  have I3 := I2.kept (h' := h') (t' := s1.toks) fun b o e => hx' b o (Nat.ne_of_lt (Heap.lt_size e)) e
  show wpAny _ _ (assignInOrder [fun v => bindName X.env y v, fun v => bindName X.env x v] [u2, u1] >>= fun _ => pure Flow.next) _ _ _
  refine wpAny_bind (assignInOrder_cons (wpAny_bindName (store_ok I3 hN hj (.inl hy) rw' (fun s2 I4 => ?_) (.inr hy))))
  refine assignInOrder_cons (wpAny_bindName (store_ok I4 hN hi (.inl hx) rv (fun s3 I5 => assignInOrder_nil (wpAny_pure ?_)) (.inr hx)))
  rw [List.set_comm _ _ (Ne.symm hij)] at I5
  exact ⟨_, H1, I5, q1⟩
end

section
variable {X : Cx} {pos : Pos}
noncomputable def tWhile (c : TT) (tb : TS) : TS := fun D σ H => ∃ W : Nat → St → Hp → Prop, (∃ m, W m σ H) ∧ ∀ m σ H, W m σ H →
  c σ H fun b H1 => if b = true then ∃ N : St → Hp → Prop, (∀ σ' H', N σ' H' → ∃ m', m' < m ∧ W m' σ' H') ∧ tb { D with nx := N, ct := N, bk := D.nx } σ H1 else D.nx σ H1
theorem ps_while {c : Expr} {body : List Stmt} {tc : TT} {tb : TS} (hp : PassesOwn (model X.prog X.w) X.A X.env X.xe) (hc : PT X c tc) (hb : PSs X body tb) : PS X (.While c body [] pos) (tWhile tc tb) := by
  intro pins s σ H D I h
  obtain ⟨W, ⟨m0, w0⟩, turn⟩ := h
  refine wpAny_While (codeAny_whileLoop (fun n s' => ∃ σ' H', Inv X pins σ' H' s' ∧ W n σ' H') ?_ m0 ⟨σ, H, I, w0⟩)
  rintro n s1 ⟨σ1, H1, I1, w1⟩
  refine wpAny_passesOwn hp (thn (hc pins s1 σ1 H1 _ I1 (turn n σ1 H1 w1)) fun b s2 ⟨H2, I2, q2⟩ => ?_)
  cases b with
  | true =>
    obtain ⟨N, hN, q2⟩ := q2
    rw [if_pos rfl]
    refine wpAny_passesOwn hp (thn (hb pins s2 σ1 H2 _ I2 q2) fun f s3 q3 => ?_)
    cases f with
    | next =>
      obtain ⟨σ3, H3, I3, n3⟩ := q3
      obtain ⟨m', hm, w3⟩ := hN σ3 H3 n3
      exact ⟨m', hm, σ3, H3, I3, w3⟩
    | cont =>
      obtain ⟨σ3, H3, I3, n3⟩ := q3
      obtain ⟨m', hm, w3⟩ := hN σ3 H3 n3
      exact ⟨m', hm, σ3, H3, I3, w3⟩
    | brk => exact q3
    | ret v => exact q3
  | false =>
    rw [if_neg Bool.false_ne_true]
    exact wpAny_execs_nil ⟨σ1, H2, I2, q2⟩
end

structure It where
  go : Nat → Hp → Prop
  yld : Nat → Hp → V → Hp → Prop
  stop : Nat → Hp → Prop
noncomputable def FpOk (X : Cx) (pins : List (Addr × Obj)) (H : Hp) (b : Addr) : Prop :=
  H b = none ∧ b ≠ X.env.locals ∧ b ∉ X.fs ∧ (b ∈ X.ex ∨ X.s₀.heap.objs.size ≤ b) ∧ (∀ x c, X.env.cells.lookup x = some c → c ≠ b) ∧ ∀ p ∈ X.pn ++ pins, p.1 ≠ b
theorem Inv.fpOk {X : Cx} {pins : List (Addr × Obj)} {σ : St} {H H' : Hp} {s : Shared} {b : Addr} (I : Inv X pins σ H s) (hb : s.heap.objs.size ≤ b) (hn : H' b = none) : FpOk X pins H' b := by
  refine ⟨hn, Nat.ne_of_gt (Nat.lt_of_lt_of_le I.lt hb), I.nofs hb, .inr (Nat.le_trans I.sz hb), fun x c e z => ?_, fun p hp z => ?_⟩
  · obtain ⟨v, q⟩ := I.cell x c e
    exact absurd (Nat.lt_of_lt_of_le q.lt (by rw [z]; exact hb)) (Nat.lt_irrefl _)
  · exact absurd (Nat.lt_of_lt_of_le (Heap.lt_size (I.pin p hp).1) (by rw [z]; exact hb)) (Nat.lt_irrefl _)
structure Turn (P : Program) (w : World) (K : PySem.W.Frag) (tg : Expr) (J : It) (fp : List Addr) (it : Addr) (tn : Nat → Heap → Prop) : Prop where
  mem : it ∈ fp
  obj : ∀ i h, tn i h → ∀ b ∈ fp, ∃ o, h.get? b = some o ∧ ∀ v, o.data ≠ .cell v
  keep : ∀ i h h', tn i h → (∀ b ∈ fp, ∀ o, h.get? b = some o → h'.get? b = some o) → tn i h'
  item : ∀ (X : Cx), X.prog = P → X.w = w → X.K = K → X.calm = true → ∀ (i : Nat) (pins : List (Addr × Obj)) (s : Shared) (σ : St) (H : Hp) (E : Value → Shared → Prop), Inv X pins σ H s → (∀ b ∈ fp, FpOk X pins H b) → tn i s.heap → J.go i H →
    wpAny (model P w) X.A (pyNext (.ref it)) (fun r s1 => ∃ u, r = some u ∧
      wpAny (model P w) X.A (letOwnedTupleGo tg (.ref it) u) (fun _ s2 => ∃ x H', Inv X pins σ H' s2 ∧ RelV x u ∧ J.yld i H x H' ∧ tn (i + 1) s2.heap ∧ ∀ b ∈ fp, H' b = none) E s1) E s
  done : ∀ (X : Cx), X.prog = P → X.w = w → X.K = K → X.calm = true → ∀ (i : Nat) (pins : List (Addr × Obj)) (s : Shared) (σ : St) (H : Hp) (E : Value → Shared → Prop), Inv X pins σ H s → (∀ b ∈ fp, FpOk X pins H b) → tn i s.heap → J.stop i H →
    wpAny (model P w) X.A (pyNext (.ref it)) (fun r s1 => r = none ∧ Inv X pins σ H s1) E s
  self : ∀ (A : Around) (i : Nat) (s : Shared) (Q : Value → Shared → Prop) (E : Value → Shared → Prop), tn i s.heap → Q (.ref it) s → wpAny (model P w) A (pyIter (.ref it)) Q E s
noncomputable abbrev TI := St → Hp → (It → Hp → Prop) → Prop
noncomputable def PIE (X : Cx) (pins : List (Addr × Obj)) (σ : St) (tg : Expr) (R : It → Hp → Prop) (itv : Value) (s2 : Shared) : Prop :=
  ∃ (it : Addr) (fp : List Addr) (tn : Nat → Heap → Prop) (J : It) (H' : Hp), itv = .ref it ∧ Inv X pins σ H' s2 ∧ Turn X.prog X.w X.K tg J fp it tn ∧ tn 0 s2.heap ∧ (∀ b ∈ fp, FpOk X pins H' b) ∧ R J H'
noncomputable def PI (X : Cx) (tg iter : Expr) (wi : TI) : Prop :=
  ∀ (pins : List (Addr × Obj)) (s : Shared) (σ : St) (H : Hp) (R : It → Hp → Prop), Inv X pins σ H s → wi σ H R →
    wpAny (model X.prog X.w) X.A (eval iter X.env) (fun v s1 => wpAny (model X.prog X.w) X.A (pyIter v) (PIE X pins σ tg R) X.xe s1) X.xe s

theorem go_of {M : Model} {A : Around} {E : Value → Shared → Prop} {s : Shared} {tg : Expr} {it : Addr} {u : Value} {o : Obj} {n : String} {vs : Array Value} {Q : Unit → Shared → Prop} (ho : s.heap.get? it = some o) (hc : o.cls = .type n) (hd : o.data = .fields vs)
    (hn : ["enumerate", "zip", "dict_itemiterator", "dict_reverseitemiterator", "odict_iterator", "itertools.zip_longest", "itertools.pairwise"].contains n = false) (hQ : Q () s) : wpAny M A (letOwnedTupleGo tg (.ref it) u) Q E s := by
  unfold letOwnedTupleGo
  cases tg <;> first
    | exact wpAny_pure hQ
    | (cases u <;> first
        | exact wpAny_pure hQ
        | (refine wpAny_bind (wpAny_load ho ?_)
           rw [hc, hd]
           show wpAny M A (if (["enumerate", "zip", "dict_itemiterator", "dict_reverseitemiterator", "odict_iterator", "itertools.zip_longest", "itertools.pairwise"].contains n && vs[0]? == some (rawInt _)) = true then _ else _) Q E s
           rw [if_neg (by intro h; rw [hn, Bool.false_and] at h; cases h)]
           exact wpAny_pure hQ))

noncomputable def Itl (K : PySem.W.Frag) (a : Addr) : It :=
  ⟨fun i H => ∃ xs x, SqL K H a xs ∧ xs[i]? = some x, fun i H x H' => H' = H ∧ ∀ xs, SqL K H a xs → xs[i]? = some x, fun i H => ∃ xs, SqL K H a xs ∧ xs.length ≤ i⟩
noncomputable def Itt (K : PySem.W.Frag) (a : Addr) : It :=
  ⟨fun i H => ∃ xs x, SqT K H a xs ∧ xs[i]? = some x, fun i H x H' => H' = H ∧ ∀ xs, SqT K H a xs → xs[i]? = some x, fun i H => ∃ xs, SqT K H a xs ∧ xs.length ≤ i⟩
noncomputable def Itr (lo : Int) (n : Nat) : It := ⟨fun i _ => i < n, fun i H x H' => H' = H ∧ x = .int (lo + i), fun i _ => n ≤ i⟩
theorem turn_list {P : Program} {w : World} {K : PySem.W.Frag} {tg : Expr} (a it : Addr) : Turn P w K tg (Itl K a) [it] it (fun i h => h.IsListIter it a i) where
  mem := by simp
  obj := fun i h st b hb => by
    have e : b = it := by simpa using hb
    subst e
    obtain ⟨o, e, c, d⟩ := st
    exact ⟨o, e, fun v z => by rw [d] at z; cases z⟩
  keep := fun i h h' st k => st.at fun o e => k it (by simp) o e
  item := by
    intro X hP hw hK hc i pins s σ H E I hf st hg
    subst hP hw hK
    obtain ⟨xs, x, hq, hx⟩ := hg
    obtain ⟨its, rv, p, hz⟩ := I.list hq
    obtain ⟨u, hu, ru⟩ := rv.get hx
    obtain ⟨f0, f1, f2, f3, f4, f5⟩ := hf it (by simp)
    refine wpAny_pyNext_list_item st p.isList (x := u) (by simpa using hu) fun h' st' sb => ?_
    have I1 : Inv X pins σ H { s with heap := h' } := I.turned (t' := s.toks) (fun b o hb e => (sb.2 b hb).trans e) f0 f1 f3 f4 f5
    obtain ⟨o, e, c, d⟩ := id st'
    exact ⟨u, rfl, go_of (s := { s with heap := h' }) e c d (by decide) ⟨x, H, I1, ru, ⟨rfl, fun ys hy => by rw [I.list_inj hy hq]; exact hx⟩, st', fun b hb => (hf b hb).1⟩⟩
  done := by
    intro X hP hw hK hc i pins s σ H E I hf st hg
    subst hP hw hK
    obtain ⟨xs, hq, hx⟩ := hg
    obtain ⟨its, rv, p, hz⟩ := I.list hq
    obtain ⟨f0, f1, f2, f3, f4, f5⟩ := hf it (by simp)
    have hl := rv.length
    exact wpAny_pyNext_list_end (I.ok.hd hc) st p.isList (by simp; walk_at "om") fun h' eb => ⟨rfl, I.turned (t' := s.toks) (fun b o hb e => eb b o hb e) f0 f1 f3 f4 f5⟩
  self := fun _ _ _ _ _ st h => wpAny_pyIter_listiter st h
theorem turn_tuple {P : Program} {w : World} {K : PySem.W.Frag} {tg : Expr} (a it : Addr) : Turn P w K tg (Itt K a) [it] it (fun i h => h.IsTupleIter it a i) where
  mem := by simp
  obj := fun i h st b hb => by
    have e : b = it := by simpa using hb
    subst e
    obtain ⟨o, e, c, d⟩ := st
    exact ⟨o, e, fun v z => by rw [d] at z; cases z⟩
  keep := fun i h h' st k => st.at fun o e => k it (by simp) o e
  item := by
    intro X hP hw hK hc i pins s σ H E I hf st hg
    subst hP hw hK
    obtain ⟨xs, x, hq, hx⟩ := hg
    obtain ⟨its, rv, p, hz⟩ := I.tuple hq
    obtain ⟨u, hu, ru⟩ := rv.get hx
    obtain ⟨f0, f1, f2, f3, f4, f5⟩ := hf it (by simp)
    refine wpAny_pyNext_tuple_item st (show s.heap.IsTuple a its.toArray from p) (x := u) (by simpa using hu) fun h' st' sb => ?_
    have I1 : Inv X pins σ H { s with heap := h' } := I.turned (t' := s.toks) (fun b o hb e => (sb.2 b hb).trans e) f0 f1 f3 f4 f5
    obtain ⟨o, e, c, d⟩ := id st'
    exact ⟨u, rfl, go_of (s := { s with heap := h' }) e c d (by decide) ⟨x, H, I1, ru, ⟨rfl, fun ys hy => by rw [I.tuple_inj hy hq]; exact hx⟩, st', fun b hb => (hf b hb).1⟩⟩
  done := by
    intro X hP hw hK hc i pins s σ H E I hf st hg
    subst hP hw hK
    obtain ⟨xs, hq, hx⟩ := hg
    obtain ⟨its, rv, p, hz⟩ := I.tuple hq
    obtain ⟨f0, f1, f2, f3, f4, f5⟩ := hf it (by simp)
    have hl := rv.length
    exact wpAny_pyNext_tuple_end (I.ok.hd hc) st (show s.heap.IsTuple a its.toArray from p) (by simp; walk_at "om") fun h' eb => ⟨rfl, I.turned (t' := s.toks) (fun b o hb e => eb b o hb e) f0 f1 f3 f4 f5⟩
  self := fun _ _ _ _ _ st h => wpAny_pyIter_tupleiter st h
theorem turn_range {P : Program} {w : World} {K : PySem.W.Frag} {tg : Expr} (it : Addr) (lo : Int) (n : Nat) : Turn P w K tg (Itr lo n) [it] it (fun i h => IsRangeIter h it (lo + (i : Nat) * 1) ((n : Int) - (i : Nat)) 1) where
  mem := by simp
  obj := fun i h st b hb => by
    have e : b = it := by simpa using hb
    subst e
    exact ⟨_, st, fun v z => by
      have z' : Data.fields _ = Data.cell v := z
      cases z'⟩
  keep := fun i h h' st k => k it (by simp) _ st
  item := by
    intro X hP hw hK hc i pins s σ H E I hf st hg
    subst hP hw hK
    obtain ⟨f0, f1, f2, f3, f4, f5⟩ := hf it (by simp)
    have W := Walks.range (prog := X.prog) (w := X.w) (I.ok.hd hc) it lo 1 n
    refine W.item i s _ _ hg st fun v h' tk hv st' kk => ?_
    obtain ⟨t, rfl⟩ := hv
    have I1 : Inv X pins σ H { s with heap := h', toks := tk } := I.turned (fun b o hb e => kk b o (by simpa using hb) e) f0 f1 f3 f4 f5
    refine ⟨_, rfl, go_of (s := { s with heap := h', toks := tk }) (n := "range_iterator") st' rfl rfl (by decide) ⟨.int (lo + i), H, I1, ⟨t, ?_⟩, ⟨rfl, rfl⟩, st', fun b hb => (hf b hb).1⟩⟩
    rw [Int.mul_one]
  done := by
    intro X hP hw hK hc i pins s σ H E I hf st hg
    subst hP hw hK
    obtain ⟨f0, f1, f2, f3, f4, f5⟩ := hf it (by simp)
    exact wpAny_pyNext_range_end (I.ok.hd hc) st (by have : n ≤ i := hg; walk_at "om") fun h' eb => ⟨rfl, I.turned (t' := s.toks) (fun b o hb e => eb b o hb e) f0 f1 f3 f4 f5⟩
  self := fun _ _ _ _ _ st h => wpAny_pyIter_rangeiter st h
end L2

namespace L2
open PySem PySem.Spec PyProof.Rows
section
variable {X : Cx} {tg : Expr}
noncomputable def iList (K : PySem.W.Frag) (tl : TE) : TI := fun σ H R => tl σ H fun x H1 => ∃ a, x = .ref a ∧ (∃ xs, SqL K H1 a xs) ∧ R (Itl K a) H1
noncomputable def iTup (K : PySem.W.Frag) (tl : TE) : TI := fun σ H R => tl σ H fun x H1 => ∃ a, x = .ref a ∧ (∃ xs, SqT K H1 a xs) ∧ R (Itt K a) H1
theorem pi_list {l : Expr} {tl : TE} (hl : PE X l tl) : PI X tg l (iList X.K tl) := by
  intro pins s σ H R I h
  refine thn (hl pins s σ H _ I h) fun v s1 ⟨x, H1, I1, r1, q1⟩ => ?_
  obtain ⟨a, e, ⟨xs, hq⟩, q⟩ := q1
  subst e
  cases r1
  obtain ⟨its, rv, p, hz⟩ := I1.list hq
  refine wpAny_pyIter_list p.isList ?_
  refine ⟨s1.heap.objs.size, [s1.heap.objs.size], _, _, H1, rfl, I1.kept (t' := s1.toks) fun b o e => Heap.get?_push_of_some _ e, turn_list a _, ⟨_, Heap.get?_push_size _ rfl, rfl, rfl⟩, fun b hb => ?_, q⟩
  have e : b = s1.heap.objs.size := by simpa using hb
  subst e
  exact I1.fpOk (Nat.le_refl _) (I1.hok.fresh (Nat.le_refl _))
theorem pi_tup {l : Expr} {tl : TE} (hl : PE X l tl) : PI X tg l (iTup X.K tl) := by
  intro pins s σ H R I h
  refine thn (hl pins s σ H _ I h) fun v s1 ⟨x, H1, I1, r1, q1⟩ => ?_
  obtain ⟨a, e, ⟨xs, hq⟩, q⟩ := q1
  subst e
  cases r1
  obtain ⟨its, rv, p, hz⟩ := I1.tuple hq
  refine wpAny_pyIter_tuple (show s1.heap.IsTuple a its.toArray from p) ?_
  refine ⟨s1.heap.objs.size, [s1.heap.objs.size], _, _, H1, rfl, I1.kept (t' := s1.toks) fun b o e => Heap.get?_push_of_some _ e, turn_tuple a _, ⟨_, Heap.get?_push_size _ rfl, rfl, rfl⟩, fun b hb => ?_, q⟩
  have e : b = s1.heap.objs.size := by simpa using hb
  subst e
  exact I1.fpOk (Nat.le_refl _) (I1.hok.fresh (Nat.le_refl _))
theorem range_it {pins : List (Addr × Obj)} {σ : St} {H : Hp} {s : Shared} {R : It → Hp → Prop} {E : Value → Shared → Prop} {lo hi : Int} {t u v : Tok} {tk : Nat} (I : Inv X pins σ H s) (h1 : -(2 ^ 62) ≤ lo) (h2 : lo < 2 ^ 62) (h3 : -(2 ^ 62) ≤ hi) (h4 : hi < 2 ^ 62)
    (q : R (Itr lo (hi - lo).toNat) H) : wpAny (model X.prog X.w) X.A (pyIter (.ref s.heap.objs.size)) (PIE X pins σ tg R) E { s with heap := s.heap.push { cls := .type "range", data := .fields #[.int lo t, .int hi u, .int 1 v] }, toks := tk } := by
  refine wpAny_pyIter_range (IsRange.new ..) (small_one h1 h2 h3 h4) ?_
  have I1 : Inv X pins σ H { s with heap := s.heap.push { cls := .type "range", data := .fields #[.int lo t, .int hi u, .int 1 v] }, toks := tk } := I.kept fun b o e => Heap.get?_push_of_some _ e
  refine ⟨(s.heap.push { cls := .type "range", data := .fields #[.int lo t, .int hi u, .int 1 v] }).objs.size, [(s.heap.push { cls := .type "range", data := .fields #[.int lo t, .int hi u, .int 1 v] }).objs.size], _, _, H, rfl,
    I1.kept (t' := tk) fun b o e => Heap.get?_push_of_some _ e, turn_range _ lo (hi - lo).toNat, ?_, fun b hb => ?_, q⟩
  · have e1 : lo + ((0 : Nat) : Int) * 1 = lo := by simp
    have e2 : (((hi - lo).toNat : Nat) : Int) - ((0 : Nat) : Int) = Builtin.Range.rangeSize lo hi 1 := by rw [rangeSize_one]; split <;> walk_at "om"
    show IsRangeIter _ _ (lo + ((0 : Nat) : Int) * 1) ((((hi - lo).toNat : Nat) : Int) - ((0 : Nat) : Int)) 1
    rw [e1, e2]
    exact Heap.get?_push_size _ rfl
  · have e : b = (s.heap.push { cls := .type "range", data := .fields #[.int lo t, .int hi u, .int 1 v] }).objs.size := by simpa using hb
    subst e
    exact I1.fpOk (Nat.le_refl _) (I1.hok.fresh (Nat.le_refl _))
noncomputable def iRng1 (ta : TA) : TI := fun σ H R => ta σ H fun vs H1 => ∃ j : Int, vs = [.int j] ∧ -(2 ^ 62) ≤ j ∧ j < 2 ^ 62 ∧ R (Itr 0 j.toNat) H1
theorem pi_range1 {a : Expr} {ta : TA} {p pos : Pos} (hg : Gl X "range") (hm : X.mg "range" = none) (ha : PA X [a] ta) (hs : starEach [a] X.env = [(false, eval a X.env)] := by rfl) : PI X tg (.Call (.Name "range" p) [a] [] pos) (iRng1 ta) := by
  intro pins s σ H R I h
  refine Call_ (ld_blt I hg hm boot_range (PyProof.Rows.callWith_type1 (thn (ha pos pins s σ H _ I h) fun us s1 ⟨vs, H1, I1, r1, q1⟩ => ?_) hs rfl))
  obtain ⟨j, e, q1, q2, q⟩ := q1
  subst e
  cases r1 with
  | cons r rr =>
    cases rr
    obtain ⟨t, rfl⟩ := r
    exact call_range_1 (range_it I1 (by walk_at "om") (by walk_at "om") q1 q2 (by simpa using q))
noncomputable def tFor (wi : TI) (g : TG) (tb : TS) : TS := fun D σ H => wi σ H fun J H1 => ∃ W : Nat → Nat → St → Hp → Prop, (∃ m, W 0 m σ H1) ∧ ∀ i m σ H, W i m σ H →
  (J.stop i H ∧ D.nx σ H) ∨ (J.go i H ∧ ∃ N : St → Hp → Prop, (∀ σ' H', N σ' H' → ∃ m', m' < m ∧ W (i + 1) m' σ' H') ∧ ∀ x H', J.yld i H x H' → g x σ H' fun σ2 H2 => tb { D with nx := N, ct := N, bk := D.nx } σ2 H2)
noncomputable def pinsAt (fp : List Addr) (h : Heap) : List (Addr × Obj) := fp.filterMap fun b => (h.get? b).map fun o => (b, o)
theorem mem_pinsAt {fp : List Addr} {h : Heap} {b : Addr} {o : Obj} (hb : b ∈ fp) (e : h.get? b = some o) : (b, o) ∈ pinsAt fp h := List.mem_filterMap.mpr ⟨b, hb, by rw [e]; rfl⟩
theorem of_pinsAt {fp : List Addr} {h : Heap} {p : Addr × Obj} (hp : p ∈ pinsAt fp h) : p.1 ∈ fp ∧ h.get? p.1 = some p.2 := by
  obtain ⟨b, hb, e⟩ := List.mem_filterMap.mp hp
  cases q : h.get? b with
  | none => rw [q] at e; cases e
  | some o =>
    rw [q] at e
    have e' : (b, o) = p := Option.some.inj e
    subst e'
    exact ⟨hb, q⟩
theorem Inv.pinned {pins : List (Addr × Obj)} {σ : St} {H : Hp} {s : Shared} {fp : List Addr} (I : Inv X pins σ H s) (hf : ∀ b ∈ fp, FpOk X pins H b) (ho : ∀ b ∈ fp, ∃ o, s.heap.get? b = some o ∧ ∀ v, o.data ≠ .cell v) : Inv X (pins ++ pinsAt fp s.heap) σ H s :=
  I.pins_of fun p hp => (List.mem_append.mp hp).elim (fun z => I.pin p (List.mem_append_right _ z)) fun z => by
    obtain ⟨hb, e⟩ := of_pinsAt z
    obtain ⟨f0, f1, f2, _⟩ := hf p.1 hb
    obtain ⟨o, e', d⟩ := ho p.1 hb
    rw [e] at e'; cases e'
    exact ⟨e, f0, f1, f2, d⟩
theorem Inv.unpinned {pins pl : List (Addr × Obj)} {σ : St} {H : Hp} {s : Shared} (I : Inv X (pins ++ pl) σ H s) : Inv X pins σ H s := I.pins_of fun p hp => I.pin p (List.mem_append_right _ (List.mem_append_left _ hp))
theorem ps_for {iter : Expr} {body : List Stmt} {wi : TI} {g : TG} {tb : TS} {pos : Pos} (hp : PassesOwn (model X.prog X.w) X.A X.env X.xe) (hc : X.calm = true) (hi : PI X tg iter wi) (hg : PG X tg g) (hb : PSs X body tb)
    (hs : ∀ x, foldedSetIterable iter X.env x = pure x := by intro _; rfl) : PS X (.For tg iter body [] pos) (tFor wi g tb) := by
  intro pins s σ H D I h
  refine wpAny_For (thn (hi pins s σ H _ I h) fun v s1 h1 => thn h1 fun itv s2 h2 => ?_) hs
  obtain ⟨it, fp, tn, J, H2, e, I2, T, st2, f2, W, ⟨m0, w0⟩, turn⟩ := h2
  subst e
  -- what stays true of the iterator's objects through the loop
  have stat : ∀ {H' : Hp}, (∀ b ∈ fp, H' b = none) → ∀ b ∈ fp, FpOk X pins H' b := fun hn b hb => ⟨hn b hb, (f2 b hb).2⟩
  refine codeAny_forLoop_any (fun n s' => ∃ i σ' H', Inv X pins σ' H' s' ∧ tn i s'.heap ∧ (∀ b ∈ fp, H' b = none) ∧ W i n σ' H') ?_ m0 ⟨0, σ, H2, I2, st2, fun b hb => (f2 b hb).1, w0⟩
  rintro n s3 ⟨i, σ3, H3, I3, st3, fr3, w3⟩
  rcases turn i n σ3 H3 w3 with ⟨stop, qn⟩ | ⟨go, N, hN, step⟩
  · refine wpAny_passesOwn hp (thn (T.done X rfl rfl rfl hc i pins s3 σ3 H3 X.xe I3 (stat fr3) st3 stop) fun r s4 ⟨hr, I4⟩ => ?_)
    subst hr
    exact wpAny_execs_nil ⟨σ3, H3, I4, qn⟩
  · refine wpAny_passesOwn hp (thn (T.item X rfl rfl rfl hc i pins s3 σ3 H3 X.xe I3 (stat fr3) st3 go) fun r s4 ⟨u, hr, h4⟩ => ?_)
    subst hr
    refine wpAny_passesOwn hp (thn h4 fun _ s5 ⟨x, H5, I5, r5, y5, st5, fr5⟩ => ?_)
    have I5' := I5.pinned (stat fr5) (T.obj _ _ st5)
    refine wpAny_passesOwn hp (thn (hg _ s5 σ3 H5 x u _ I5' r5 (step x H5 y5)) fun _ s6 ⟨σ6, H6, I6, q6⟩ => ?_)
    refine wpAny_passesOwn hp (thn (hb _ s6 σ6 H6 _ I6 q6) fun f s7 q7 => ?_)
    have again : ∀ {σ7 : St} {H7 : Hp}, Inv X (pins ++ pinsAt fp s5.heap) σ7 H7 s7 → N σ7 H7 → ∃ m, m < n ∧ ∃ i σ' H', Inv X pins σ' H' s7 ∧ tn i s7.heap ∧ (∀ b ∈ fp, H' b = none) ∧ W i m σ' H' := fun {σ7 H7} I7 n7 => by
      obtain ⟨m', hm, w7⟩ := hN σ7 H7 n7
      refine ⟨m', hm, i + 1, σ7, H7, I7.unpinned, T.keep _ _ _ st5 fun b hb o e => (I7.pin (b, o) (List.mem_append_right _ (List.mem_append_right _ (mem_pinsAt hb e)))).1, fun b hb => ?_, w7⟩
      obtain ⟨o, e, d⟩ := T.obj _ _ st5 b hb
      exact (I7.pin (b, o) (List.mem_append_right _ (List.mem_append_right _ (mem_pinsAt hb e)))).2.1
    cases f with
    | next => obtain ⟨σ7, H7, I7, n7⟩ := q7; exact again I7 n7
    | cont => obtain ⟨σ7, H7, I7, n7⟩ := q7; exact again I7 n7
    | brk => obtain ⟨σ7, H7, I7, q7⟩ := q7; exact ⟨σ7, H7, I7.unpinned, q7⟩
    | ret v => obtain ⟨x7, σ7, H7, I7, r7, q7⟩ := q7; exact ⟨x7, σ7, H7, I7.unpinned, r7, q7⟩
end

theorem for_list {K : PySem.W.Frag} {a : Addr} {xs : List V} {g : TG} {tb : TS} {D : Ends} {σ : St} {H : Hp} (Pv : Nat → St → Hp → Prop) (h0 : Pv 0 σ H) (hl : ∀ i σ H, i ≤ xs.length → Pv i σ H → SqL K H a xs)
    (hs : ∀ i x σ H, xs[i]? = some x → Pv i σ H → g x σ H fun σ2 H2 => tb { D with nx := Pv (i + 1), ct := Pv (i + 1), bk := D.nx } σ2 H2) (hd : ∀ σ H, Pv xs.length σ H → D.nx σ H) :
    ∃ W : Nat → Nat → St → Hp → Prop, (∃ m, W 0 m σ H) ∧ ∀ i m σ H, W i m σ H →
      ((Itl K a).stop i H ∧ D.nx σ H) ∨ ((Itl K a).go i H ∧ ∃ N : St → Hp → Prop, (∀ σ' H', N σ' H' → ∃ m', m' < m ∧ W (i + 1) m' σ' H') ∧ ∀ x H', (Itl K a).yld i H x H' → g x σ H' fun σ2 H2 => tb { D with nx := N, ct := N, bk := D.nx } σ2 H2) := by
  refine ⟨fun i m σ H => m = xs.length - i ∧ i ≤ xs.length ∧ Pv i σ H, ⟨xs.length, by simp, Nat.zero_le _, h0⟩, ?_⟩
  rintro i m σ H ⟨rfl, hi, p⟩
  have q := hl i σ H hi p
  by_cases hlt : i < xs.length
  · refine .inr ⟨⟨xs, xs[i], q, by simp [hlt]⟩, Pv (i + 1), fun σ' H' p' => ⟨xs.length - (i + 1), by walk_at "om", rfl, hlt, p'⟩, fun x H' y => ?_⟩
    obtain ⟨e, y⟩ := y
    subst e
    exact hs i x σ _ (y xs q) p
  · have e : i = xs.length := by walk_at "om"
    subst e
    exact .inl ⟨⟨xs, q, Nat.le_refl _⟩, hd σ H p⟩
theorem for_tup {K : PySem.W.Frag} {a : Addr} {xs : List V} {g : TG} {tb : TS} {D : Ends} {σ : St} {H : Hp} (Pv : Nat → St → Hp → Prop) (h0 : Pv 0 σ H) (hl : ∀ i σ H, i ≤ xs.length → Pv i σ H → SqT K H a xs)
    (hs : ∀ i x σ H, xs[i]? = some x → Pv i σ H → g x σ H fun σ2 H2 => tb { D with nx := Pv (i + 1), ct := Pv (i + 1), bk := D.nx } σ2 H2) (hd : ∀ σ H, Pv xs.length σ H → D.nx σ H) :
    ∃ W : Nat → Nat → St → Hp → Prop, (∃ m, W 0 m σ H) ∧ ∀ i m σ H, W i m σ H →
      ((Itt K a).stop i H ∧ D.nx σ H) ∨ ((Itt K a).go i H ∧ ∃ N : St → Hp → Prop, (∀ σ' H', N σ' H' → ∃ m', m' < m ∧ W (i + 1) m' σ' H') ∧ ∀ x H', (Itt K a).yld i H x H' → g x σ H' fun σ2 H2 => tb { D with nx := N, ct := N, bk := D.nx } σ2 H2) := by
  refine ⟨fun i m σ H => m = xs.length - i ∧ i ≤ xs.length ∧ Pv i σ H, ⟨xs.length, by simp, Nat.zero_le _, h0⟩, ?_⟩
  rintro i m σ H ⟨rfl, hi, p⟩
  have q := hl i σ H hi p
  by_cases hlt : i < xs.length
  · refine .inr ⟨⟨xs, xs[i], q, by simp [hlt]⟩, Pv (i + 1), fun σ' H' p' => ⟨xs.length - (i + 1), by walk_at "om", rfl, hlt, p'⟩, fun x H' y => ?_⟩
    obtain ⟨e, y⟩ := y
    subst e
    exact hs i x σ _ (y xs q) p
  · have e : i = xs.length := by walk_at "om"
    subst e
    exact .inl ⟨⟨xs, q, Nat.le_refl _⟩, hd σ H p⟩
theorem for_range {lo : Int} {n : Nat} {g : TG} {tb : TS} {D : Ends} {σ : St} {H : Hp} (Pv : Nat → St → Hp → Prop) (h0 : Pv 0 σ H)
    (hs : ∀ i σ H, i < n → Pv i σ H → g (.int (lo + i)) σ H fun σ2 H2 => tb { D with nx := Pv (i + 1), ct := Pv (i + 1), bk := D.nx } σ2 H2) (hd : ∀ σ H, Pv n σ H → D.nx σ H) :
    ∃ W : Nat → Nat → St → Hp → Prop, (∃ m, W 0 m σ H) ∧ ∀ i m σ H, W i m σ H →
      ((Itr lo n).stop i H ∧ D.nx σ H) ∨ ((Itr lo n).go i H ∧ ∃ N : St → Hp → Prop, (∀ σ' H', N σ' H' → ∃ m', m' < m ∧ W (i + 1) m' σ' H') ∧ ∀ x H', (Itr lo n).yld i H x H' → g x σ H' fun σ2 H2 => tb { D with nx := N, ct := N, bk := D.nx } σ2 H2) := by
  refine ⟨fun i m σ H => m = n - i ∧ i ≤ n ∧ Pv i σ H, ⟨n, by simp, Nat.zero_le _, h0⟩, ?_⟩
  rintro i m σ H ⟨rfl, hi, p⟩
  by_cases hlt : i < n
  · refine .inr ⟨hlt, Pv (i + 1), fun σ' H' p' => ⟨n - (i + 1), by walk_at "om", rfl, hlt, p'⟩, fun x H' y => ?_⟩
    obtain ⟨e, y⟩ := y
    subst e y
    exact hs i σ _ hlt p
  · have e : i = n := by walk_at "om"
    subst e
    exact .inl ⟨Nat.le_refl _, hd σ H p⟩
theorem while_by {c : TT} {tb : TS} {D : Ends} {σ : St} {H : Hp} (Pv : St → Hp → Prop) (μ : St → Hp → Nat) (h0 : Pv σ H)
    (hs : ∀ σ H, Pv σ H → c σ H fun b H1 => if b = true then tb { D with nx := fun σ' H' => Pv σ' H' ∧ μ σ' H' < μ σ H, ct := fun σ' H' => Pv σ' H' ∧ μ σ' H' < μ σ H, bk := D.nx } σ H1 else D.nx σ H1)
    (mono : ∀ σ H Q Q', (∀ b H1, Q b H1 → Q' b H1) → c σ H Q → c σ H Q') : tWhile c tb D σ H := by
  refine ⟨fun m σ H => m = μ σ H ∧ Pv σ H, ⟨_, rfl, h0⟩, ?_⟩
  rintro m σ H ⟨rfl, p⟩
  refine mono σ H _ _ (fun b H1 q => ?_) (hs σ H p)
  cases b with
  | true => exact ⟨_, fun σ' H' ⟨p', l⟩ => ⟨_, l, rfl, p'⟩, q⟩
  | false => exact q
end L2

namespace L2
open PySem PySem.Spec PyProof.Rows

noncomputable abbrev R2 := V → V → Hp → VK → Prop
noncomputable def OpR (X : Cx) (f : Value → Value → Sem Value) (r : R2) : Prop :=
  ∀ (pins : List (Addr × Obj)) (s : Shared) (σ : St) (H : Hp) (x y : V) (v u : Value) (Q : VK), Inv X pins σ H s → RelV x v → RelV y u → r x y H Q →
    wpAny (model X.prog X.w) X.A (f v u) (EP X pins σ Q) X.xe s
noncomputable def UnR (X : Cx) (f : Value → Sem Value) (r : V → Hp → VK → Prop) : Prop :=
  ∀ (pins : List (Addr × Obj)) (s : Shared) (σ : St) (H : Hp) (x : V) (v : Value) (Q : VK), Inv X pins σ H s → RelV x v → r x H Q →
    wpAny (model X.prog X.w) X.A (f v) (EP X pins σ Q) X.xe s
noncomputable def CallR (X : Cx) (f : Value) (r : List V → Hp → VK → Prop) : Prop :=
  ∀ (pins : List (Addr × Obj)) (s : Shared) (σ : St) (H : Hp) (xs : List V) (us : List Value) (Q : VK), Inv X pins σ H s → Vals xs us → r xs H Q →
    wpAny (model X.prog X.w) X.A (call f us) (EP X pins σ Q) X.xe s
noncomputable def tOp (r : R2) (ta tb : TE) : TE := fun σ H Q => ta σ H fun x H1 => tb σ H1 fun y H2 => r x y H2 Q
noncomputable def tUn (r : V → Hp → VK → Prop) (ta : TE) : TE := fun σ H Q => ta σ H fun x H1 => r x H1 Q
noncomputable def rI (C : Int → Int → Prop) (g : Int → Int → V) : R2 := fun x y H Q => ∃ i j, x = .int i ∧ y = .int j ∧ C i j ∧ Q (g i j) H
noncomputable def rI0 (g : Int → Int → V) : R2 := fun x y H Q => ∃ i j, x = .int i ∧ y = .int j ∧ Q (g i j) H
noncomputable def rU (g : Int → V) : V → Hp → VK → Prop := fun x H Q => ∃ i, x = .int i ∧ Q (g i) H

section
variable {X : Cx} {a b c : Expr} {ta tb tc : TE} {pos : Pos}

theorem binT (ha : PE X a ta) (hb : PE X b tb) {pins : List (Addr × Obj)} {s : Shared} {σ : St} {H : Hp} {R : V → V → Hp → Prop} (I : Inv X pins σ H s)
    (h : ta σ H fun x H1 => tb σ H1 fun y H2 => R x y H2) {Q : Value → Shared → Prop} {f : Value → Value → Sem Value}
    (hf : ∀ v u s2 x y H2, Inv X pins σ H2 s2 → RelV x v → RelV y u → R x y H2 → wpAny (model X.prog X.w) X.A (f v u) Q X.xe s2) :
    wpAny (model X.prog X.w) X.A (eval a X.env) (fun v s₁ => wpAny (model X.prog X.w) X.A (eval b X.env) (fun u s₂ => wpAny (model X.prog X.w) X.A (f v u) Q X.xe s₂) X.xe s₁) X.xe s := by
  refine thn (ha pins s σ H _ I h) fun v s1 ⟨x, H1, I1, r1, q1⟩ => ?_
  refine thn (hb pins s1 σ H1 _ I1 q1) fun u s2 ⟨y, H2, I2, r2, q2⟩ => ?_
  exact hf v u s2 x y H2 I2 r1 r2 q2

theorem pe_op {op : Operator} {r : R2} (ho : OpR X (binaryOp op) r) (ha : PE X a ta) (hb : PE X b tb) : PE X (.BinOp a op b pos) (tOp r ta tb) := by
  intro pins s σ H Q I h
  exact wpAny_BinOp (binT ha hb I h fun v u s2 x y H2 I2 rx ry q => ho pins s2 σ H2 x y v u Q I2 rx ry q)
theorem pe_un {op : UnaryOp} {r : V → Hp → VK → Prop} (ho : UnR X (unaryOp op) r) (ha : PE X a ta) : PE X (.UnaryOp op a pos) (tUn r ta) := by
  intro pins s σ H Q I h
  exact UnaryOp_ (thn (ha pins s σ H _ I h) fun v s1 ⟨x, H1, I1, r1, q1⟩ => ho pins s1 σ H1 x v Q I1 r1 q1)
theorem opI {f : Value → Value → Sem Value} {C : Int → Int → Prop} {g : Int → Int → Int}
    (rule : ∀ (i j : Int) (t u : Tok) (s : Shared) (Q : Value → Shared → Prop) (E : Value → Shared → Prop), C i j → Q (.int (g i j) s.toks) { s with toks := s.toks + 1 } → wpAny (model X.prog X.w) X.A (f (.int i t) (.int j u)) Q E s) :
    OpR X f (rI C fun i j => .int (g i j)) := by
  intro pins s σ H x y v u Q I rx ry h
  obtain ⟨i, j, rfl, rfl, hc, q⟩ := h
  obtain ⟨t, rfl⟩ := rx
  obtain ⟨t', rfl⟩ := ry
  exact rule i j t t' s _ _ hc ⟨.int (g i j), H, I.tok _, ⟨_, rfl⟩, q⟩
theorem opI0 {f : Value → Value → Sem Value} {g : Int → Int → Int}
    (rule : ∀ (i j : Int) (t u : Tok) (s : Shared) (Q : Value → Shared → Prop) (E : Value → Shared → Prop), Q (.int (g i j) s.toks) { s with toks := s.toks + 1 } → wpAny (model X.prog X.w) X.A (f (.int i t) (.int j u)) Q E s) :
    OpR X f (rI0 fun i j => .int (g i j)) := by
  intro pins s σ H x y v u Q I rx ry h
  obtain ⟨i, j, rfl, rfl, q⟩ := h
  obtain ⟨t, rfl⟩ := rx
  obtain ⟨t', rfl⟩ := ry
  exact rule i j t t' s _ _ ⟨.int (g i j), H, I.tok _, ⟨_, rfl⟩, q⟩
theorem opB0 {f : Value → Value → Sem Value} {g : Int → Int → Bool}
    (rule : ∀ (i j : Int) (t u : Tok) (s : Shared) (Q : Value → Shared → Prop) (E : Value → Shared → Prop), Q (.bool (g i j)) s → wpAny (model X.prog X.w) X.A (f (.int i t) (.int j u)) Q E s) :
    OpR X f (rI0 fun i j => .bl (g i j)) := by
  intro pins s σ H x y v u Q I rx ry h
  obtain ⟨i, j, rfl, rfl, q⟩ := h
  obtain ⟨t, rfl⟩ := rx
  obtain ⟨t', rfl⟩ := ry
  exact rule i j t t' s _ _ ⟨.bl (g i j), H, I, rfl, q⟩

noncomputable def CDiv (i j : Int) : Prop := 0 < j ∧ j < 1073741824
noncomputable def CPow (i j : Int) : Prop := 0 ≤ j ∧ j ≤ 1000000 ∧ i.natAbs < 2 ^ 64
noncomputable def CMul (i j : Int) : Prop := (-(2 ^ 64) < i ∧ i < 2 ^ 64) ∨ (-(2 ^ 64) < j ∧ j < 2 ^ 64)
theorem CMul.ok {i j : Int} (h : CMul i j) : IntMulOk i j := by
  rcases h with ⟨h1, h2⟩ | ⟨h1, h2⟩
  · exact .of_left (intBits_le_64 h1 h2)
  · exact .of_right (intBits_le_64 h1 h2)
theorem op_add : OpR X (binaryOp .Add) (rI0 fun i j => .int (i + j)) := opI0 fun _ _ _ _ _ _ _ q => add_int q
theorem op_sub : OpR X (binaryOp .Sub) (rI0 fun i j => .int (i - j)) := opI0 fun _ _ _ _ _ _ _ q => sub_int q
theorem op_mul : OpR X (binaryOp .Mult) (rI CMul fun i j => .int (i * j)) := opI fun _ _ _ _ _ _ _ hc q => mul_int q hc.ok
theorem op_fdiv : OpR X (binaryOp .FloorDiv) (rI CDiv fun i j => .int (i / j)) := opI fun i j _ _ _ _ _ hc q => by
  have h1 : (0 : Int) < j := hc.1
  have h2 : j < 1073741824 := hc.2
  exact floordiv_int (by walk_at "om") (by rw [Int.fdiv_eq_ediv_of_nonneg i (by walk_at "om")]; exact q) (.inl (PyProof.noPylong_small (by walk_at "om")))
theorem op_mod : OpR X (binaryOp .Mod) (rI (fun _ j => 0 < j) fun i j => .int (i % j)) := opI fun i j _ _ _ _ _ hc q => by
  have h1 : (0 : Int) < j := hc
  exact mod_int' (by walk_at "om") (by rw [Int.fmod_eq_emod_of_nonneg i (by walk_at "om")]; exact q)
theorem op_pow : OpR X (binaryOp .Pow) (rI CPow fun i j => .int (i ^ j.toNat)) := opI fun _ _ _ _ _ _ _ hc q => pow_int_small hc.1 hc.2.1 hc.2.2 q
theorem unI {f : Value → Sem Value} {g : Int → Int}
    (rule : ∀ (i : Int) (t : Tok) (s : Shared) (Q : Value → Shared → Prop) (E : Value → Shared → Prop), Q (.int (g i) s.toks) { s with toks := s.toks + 1 } → wpAny (model X.prog X.w) X.A (f (.int i t)) Q E s) :
    UnR X f (rU fun i => .int (g i)) := by
  intro pins s σ H x v Q I rx h
  obtain ⟨i, rfl, q⟩ := h
  obtain ⟨t, rfl⟩ := rx
  exact rule i t s _ _ ⟨.int (g i), H, I.tok _, ⟨_, rfl⟩, q⟩
theorem un_neg : UnR X (unaryOp .USub) (rU fun i => .int (-i)) := unI fun _ _ _ _ _ q => neg_int q
end

noncomputable def scal : V → V → Bool
  | .non, .non => true | .non, .int _ => true | .int _, .non => true | .non, .bl _ => true | .bl _, .non => true | .non, .str _ => true | .str _, .non => true
  | .int _, .int _ => true | .bl _, .bl _ => true | .str _, .str _ => true | .byt _, .byt _ => true
  | .int _, .str _ => true | .str _, .int _ => true | .bl _, .str _ => true | .str _, .bl _ => true
  | _, _ => false
noncomputable def rEq : R2 := fun x y H Q => scal x y = true ∧ Q (.bl (decide (x = y))) H
noncomputable def rNe : R2 := fun x y H Q => scal x y = true ∧ Q (.bl (!decide (x = y))) H

theorem dec_int {i j : Int} : decide (V.int i = V.int j) = (i == j) := by
  rw [Bool.eq_iff_iff]
  simp
theorem dec_bl {i j : Bool} : decide (V.bl i = V.bl j) = (i == j) := by
  rw [Bool.eq_iff_iff]
  simp
theorem dec_str {i j : Str} : decide (V.str i = V.str j) = (i == j) := by
  rw [Bool.eq_iff_iff]
  simp
theorem dec_byt {i j : Array UInt8} : decide (V.byt i = V.byt j) = (i.toList == j.toList) := by
  rw [Bool.eq_iff_iff]
  cases i
  cases j
  simp

section
variable {X : Cx} {a b c : Expr} {ta tb tc : TE} {pos : Pos}
theorem fin_bl {pins : List (Addr × Obj)} {σ : St} {H : Hp} {s : Shared} {Q : VK} {k k' : Bool} (I : Inv X pins σ H s) (q : Q (.bl k) H) (e : k = k') : EP X pins σ Q (.bool k') s := by
  subst e
  exact ⟨.bl k, H, I, rfl, q⟩
theorem op_eq : OpR X (compareOp .Eq) rEq := by
  intro pins s σ H x y v u Q I rx ry h
  obtain ⟨hs, q⟩ := h
  cases x with
  | non =>
    cases rx
    cases y with
    | non => cases ry; exact PySem.EqNone.eq_none_none (fin_bl I q (by simp))
    | bl j => cases ry; exact PySem.EqNone.eq_none_bool (fin_bl I q (by simp))
    | int j => obtain ⟨t', rfl⟩ := ry; exact PySem.EqNone.eq_none_int (fin_bl I q (by simp))
    | str j => obtain ⟨t', rfl⟩ := ry; exact PySem.EqNone.eq_none_str (fin_bl I q (by simp))
    | _ => exact absurd (show false = true from hs) Bool.false_ne_true
  | bl i =>
    cases rx
    cases y with
    | non => cases ry; exact PySem.EqNone.eq_bool_none (fin_bl I q (by simp))
    | bl j => cases ry; exact eq_bool (fin_bl I q dec_bl)
    | str j => obtain ⟨t', rfl⟩ := ry; exact PySem.EqMixed.eq_bool_str (fin_bl I q (by simp))
    | _ => exact absurd (show false = true from hs) Bool.false_ne_true
  | int i =>
    obtain ⟨t, rfl⟩ := rx
    cases y with
    | non => cases ry; exact PySem.EqNone.eq_int_none (fin_bl I q (by simp))
    | int j => obtain ⟨t', rfl⟩ := ry; exact eq_int (fin_bl I q dec_int)
    | str j => obtain ⟨t', rfl⟩ := ry; exact PySem.EqMixed.eq_int_str (fin_bl I q (by simp))
    | _ => exact absurd (show false = true from hs) Bool.false_ne_true
  | str i =>
    obtain ⟨t, rfl⟩ := rx
    cases y with
    | non => cases ry; exact PySem.EqNone.eq_str_none (fin_bl I q (by simp))
    | bl j => cases ry; exact PySem.EqMixed.eq_str_bool (fin_bl I q (by simp))
    | int j => obtain ⟨t', rfl⟩ := ry; exact PySem.EqMixed.eq_str_int (fin_bl I q (by simp))
    | str j => obtain ⟨t', rfl⟩ := ry; exact eq_str (fin_bl I q dec_str)
    | _ => exact absurd (show false = true from hs) Bool.false_ne_true
  | byt i =>
    obtain ⟨t, rfl⟩ := rx
    cases y with
    | byt j => obtain ⟨t', rfl⟩ := ry; exact PySem.W.eq_bytes (fin_bl I q dec_byt)
    | _ => exact absurd (show false = true from hs) Bool.false_ne_true
  | _ => cases y <;> exact absurd (show false = true from hs) Bool.false_ne_true
theorem op_ne : OpR X (compareOp .NotEq) rNe := by
  intro pins s σ H x y v u Q I rx ry h
  obtain ⟨hs, q⟩ := h
  cases x with
  | non =>
    cases rx
    cases y with
    | non => cases ry; exact PySem.EqNone.ne_none_none (fin_bl I q (by simp))
    | bl j => cases ry; exact PySem.EqNone.ne_none_bool (fin_bl I q (by simp))
    | int j => obtain ⟨t', rfl⟩ := ry; exact PySem.EqNone.ne_none_int (fin_bl I q (by simp))
    | str j => obtain ⟨t', rfl⟩ := ry; exact PySem.EqNone.ne_none_str (fin_bl I q (by simp))
    | _ => exact absurd (show false = true from hs) Bool.false_ne_true
  | bl i =>
    cases rx
    cases y with
    | non => cases ry; exact PySem.EqNone.ne_bool_none (fin_bl I q (by simp))
    | bl j => cases ry; exact ne_bool (fin_bl I q (congrArg not dec_bl))
    | str j => obtain ⟨t', rfl⟩ := ry; exact PySem.EqMixed.ne_bool_str (fin_bl I q (by simp))
    | _ => exact absurd (show false = true from hs) Bool.false_ne_true
  | int i =>
    obtain ⟨t, rfl⟩ := rx
    cases y with
    | non => cases ry; exact PySem.EqNone.ne_int_none (fin_bl I q (by simp))
    | int j => obtain ⟨t', rfl⟩ := ry; exact ne_int (fin_bl I q (congrArg not dec_int))
    | str j => obtain ⟨t', rfl⟩ := ry; exact PySem.EqMixed.ne_int_str (fin_bl I q (by simp))
    | _ => exact absurd (show false = true from hs) Bool.false_ne_true
  | str i =>
    obtain ⟨t, rfl⟩ := rx
    cases y with
    | non => cases ry; exact PySem.EqNone.ne_str_none (fin_bl I q (by simp))
    | bl j => cases ry; exact PySem.EqMixed.ne_str_bool (fin_bl I q (by simp))
    | int j => obtain ⟨t', rfl⟩ := ry; exact PySem.EqMixed.ne_str_int (fin_bl I q (by simp))
    | str j => obtain ⟨t', rfl⟩ := ry; exact ne_str (fin_bl I q (congrArg not dec_str))
    | _ => exact absurd (show false = true from hs) Bool.false_ne_true
  | byt i =>
    obtain ⟨t, rfl⟩ := rx
    cases y with
    | byt j => obtain ⟨t', rfl⟩ := ry; exact PySem.W.ne_bytes (fin_bl I q (congrArg not dec_byt))
    | _ => exact absurd (show false = true from hs) Bool.false_ne_true
  | _ => cases y <;> exact absurd (show false = true from hs) Bool.false_ne_true

theorem op_lt : OpR X (compareOp .Lt) (rI0 fun i j => .bl (decide (i < j))) := opB0 fun _ _ _ _ _ _ _ q => lt_int q
theorem op_le : OpR X (compareOp .LtE) (rI0 fun i j => .bl (decide (i ≤ j))) := opB0 fun _ _ _ _ _ _ _ q => le_int q
theorem op_gt : OpR X (compareOp .Gt) (rI0 fun i j => .bl (decide (j < i))) := opB0 fun _ _ _ _ _ _ _ q => gt_int q
theorem op_ge : OpR X (compareOp .GtE) (rI0 fun i j => .bl (decide (j ≤ i))) := opB0 fun _ _ _ _ _ _ _ q => ge_int q
theorem nomark (b : Expr) {op : CmpOp} (h : op ≠ .In := by decide) (h2 : op ≠ .NotIn := by decide) : behindInMarks op b = false := by
  have e1 : (op == CmpOp.In) = false := by cases op <;> first | rfl | exact absurd rfl h
  have e2 : (op == CmpOp.NotIn) = false := by cases op <;> first | rfl | exact absurd rfl h2
  cases b <;> simp [behindInMarks, e1, e2]
theorem pe_cmpR {op : CmpOp} {r : R2} (ho : OpR X (compareOp op) r) (ha : PE X a ta) (hb : PE X b tb) (hm : behindInMarks op b = false) : PE X (.Compare a [op] [b] pos) (tOp r ta tb) := by
  intro pins s σ H Q I h
  exact wpAny_Compare1 (binT ha hb I h fun v u s2 x y H2 I2 rx ry q => ho pins s2 σ H2 x y v u Q I2 rx ry q) hm
noncomputable def tTest (t : TE) : TT := fun σ H Q => t σ H fun x H' => ∃ k, x = .bl k ∧ Q k H'
theorem pt_cmpR {op : CmpOp} {r : R2} (ho : OpR X (compareOp op) r) (ha : PE X a ta) (hb : PE X b tb) (hm : behindInMarks op b = false) : PT X (.Compare a [op] [b] pos) (tTest (tOp r ta tb)) := by
  intro pins s σ H Q I h
  refine wpAny_isTrue_Compare1 (thn (ha pins s σ H _ I h) fun v s1 ⟨x, H1, I1, r1, q1⟩ => thn (hb pins s1 σ H1 _ I1 q1) fun u s2 ⟨y, H2, I2, r2, q2⟩ =>
    thn (ho pins s2 σ H2 x y v u _ I2 r1 r2 q2) fun c s3 ⟨z, H3, I3, r3, k, e, q3⟩ => ?_) hm
  subst e
  cases r3
  exact wpAny_truthy_bool ⟨H3, I3, q3⟩
noncomputable def tChain (r r' : R2) (ta tb tc : TE) : TE := fun σ H Q => ta σ H fun x H1 => tb σ H1 fun y H2 => r x y H2 fun z H3 => ∃ k, z = .bl k ∧
  (if k = true then tc σ H3 fun w' H4 => r' y w' H4 Q else Q (.bl false) H3)
theorem pe_chain {op op' : CmpOp} {r r' : R2} (ho : OpR X (compareOp op) r) (ho' : OpR X (compareOp op') r') (ha : PE X a ta) (hb : PE X b tb) (hc : PE X c tc)
    (hm : lastMarks [op, op'] [b, c] = false := by with_unfolding_all rfl) : PE X (.Compare a [op, op'] [b, c] pos) (tChain r r' ta tb tc) := by
  intro pins s σ H Q I h
  refine Compare_chain (thn (ha pins s σ H _ I h) fun v s1 ⟨x, H1, I1, r1, q1⟩ => chain_link (thn (hb pins s1 σ H1 _ I1 q1) fun u s2 ⟨y, H2, I2, r2, q2⟩ =>
    thn (ho pins s2 σ H2 x y v u _ I2 r1 r2 q2) fun d s3 ⟨z, H3, I3, r3, k, e, q3⟩ => ?_)) hm
  subst e
  cases r3
  refine wpAny_truthy_bool ?_
  cases k with
  | false => exact ite_ff ⟨.bl false, H3, I3, rfl, q3⟩
  | true => exact ite_tt (chain_last (thn (hc pins s3 σ H3 _ I3 q3) fun w' s4 ⟨z', H4, I4, r4, q4⟩ => ho' pins s4 σ H4 y z' u w' Q I4 r2 r4 q4))
theorem pt_chain {op op' : CmpOp} {r r' : R2} (ho : OpR X (compareOp op) r) (ho' : OpR X (compareOp op') r') (ha : PE X a ta) (hb : PE X b tb) (hc : PE X c tc)
    (hm : lastMarks [op, op'] [b, c] = false := by with_unfolding_all rfl) : PT X (.Compare a [op, op'] [b, c] pos) (tTest (tChain r r' ta tb tc)) := by
  intro pins s σ H Q I h
  refine isTrue_chain (thn (ha pins s σ H _ I h) fun v s1 ⟨x, H1, I1, r1, q1⟩ => test_link (thn (hb pins s1 σ H1 _ I1 q1) fun u s2 ⟨y, H2, I2, r2, q2⟩ =>
    thn (ho pins s2 σ H2 x y v u _ I2 r1 r2 q2) fun d s3 ⟨z, H3, I3, r3, k, e, q3⟩ => ?_)) hm
  subst e
  cases r3
  refine wpAny_truthy_bool ?_
  cases k with
  | false =>
    obtain ⟨k', e', q'⟩ := q3
    cases e'
    exact ite_ff ⟨H3, I3, q'⟩
  | true =>
    refine ite_tt (test_last (thn (hc pins s3 σ H3 _ I3 q3) fun w' s4 ⟨z', H4, I4, r4, q4⟩ => thn (ho' pins s4 σ H4 y z' u w' _ I4 r2 r4 q4) fun d' s5 ⟨z2, H5, I5, r5, k2, e2, q5⟩ => ?_))
    subst e2
    cases r5
    exact wpAny_truthy_bool ⟨H5, I5, q5⟩

theorem line63 : (sizeLine : Nat) < 2 ^ 63 := by rw [sizeLine_eq]; decide
theorem vals1 {x : V} {us : List Value} (r : Vals [x] us) : ∃ u, us = [u] ∧ RelV x u := by
  cases r with
  | cons r1 r2 => cases r2; exact ⟨_, rfl, r1⟩
theorem vals2 {x y : V} {us : List Value} (r : Vals [x, y] us) : ∃ u w', us = [u, w'] ∧ RelV x u ∧ RelV y w' := by
  cases r with
  | cons r1 r2 =>
    cases r2 with
    | cons r3 r4 => cases r4; exact ⟨_, _, rfl, r1, r3⟩
theorem call_abs : CallR X (.builtin "abs") (fun xs H Q => ∃ i, xs = [.int i] ∧ Q (.int (if i < 0 then -i else i)) H) := by
  intro pins s σ H xs us Q I r h
  obtain ⟨i, rfl, q⟩ := h
  obtain ⟨u, rfl, t, rfl⟩ := vals1 r
  exact call_abs_int fun u tk => ⟨.int (if i < 0 then -i else i), H, I.tok _, ⟨_, rfl⟩, q⟩
theorem call_max2 (hc : X.calm = true) : CallR X (.builtin "max") (fun xs H Q => ∃ i j, xs = [.int i, .int j] ∧ Q (.int (if j > i then j else i)) H) := by
  intro pins s σ H xs us Q I r h
  obtain ⟨i, j, rfl, q⟩ := h
  obtain ⟨u, w', rfl, ⟨t, rfl⟩, ⟨t', rfl⟩⟩ := vals2 r
  refine max_two_ints (I.ok.hd hc) fun h' tk k => ⟨_, H, I.kept k, ?_, q⟩
  by_cases hj : j > i
  · rw [if_pos hj, if_pos hj]; exact ⟨_, rfl⟩
  · rw [if_neg hj, if_neg hj]; exact ⟨_, rfl⟩
theorem call_int1 : CallR X (.type "int") (fun xs H Q => (∃ i, xs = [.int i] ∧ Q (.int i) H) ∨ ∃ k, xs = [.bl k] ∧ Q (.int (if k then 1 else 0)) H) := by
  intro pins s σ H xs us Q I r h
  rcases h with ⟨i, rfl, q⟩ | ⟨k, rfl, q⟩
  · obtain ⟨u, rfl, t, rfl⟩ := vals1 r
    exact call_int_int ⟨.int i, H, I, ⟨_, rfl⟩, q⟩
  · obtain ⟨u, rfl, r1⟩ := vals1 r
    cases r1
    exact call_int_bool ⟨.int (if k then 1 else 0), H, I.tok _, ⟨_, rfl⟩, q⟩
noncomputable def LenV (K : PySem.W.Frag) (x : V) (H : Hp) (n : Nat) : Prop :=
  match x with
  | .str y => y.length ≤ sizeLine ∧ n = y.length
  | .byt y => y.size ≤ sizeLine ∧ n = y.size
  | .ref p => (∃ xs, SqL K H p xs ∧ n = xs.length) ∨ ∃ xs, SqT K H p xs ∧ n = xs.length
  | _ => False
theorem call_len : CallR X (.builtin "len") (fun xs H Q => ∃ x n, xs = [x] ∧ LenV X.K x H n ∧ Q (.int n) H) := by
  intro pins s σ H xs us Q I r h
  obtain ⟨x, n, rfl, e, q⟩ := h
  obtain ⟨u, rfl, rx⟩ := vals1 r
  have hl := line63
  have hs : sizeLine = 16777216 := sizeLine_eq
  cases x with
  | str y =>
    obtain ⟨t, rfl⟩ := rx
    obtain ⟨hy, e'⟩ : y.length ≤ sizeLine ∧ n = y.length := e
    subst e'
    exact len_str (by walk_at "om") ⟨.int _, H, I.tok _, ⟨_, rfl⟩, q⟩
  | byt y =>
    obtain ⟨t, rfl⟩ := rx
    obtain ⟨hy, e'⟩ : y.size ≤ sizeLine ∧ n = y.size := e
    subst e'
    exact PySem.W.len_bytes (by walk_at "om") ⟨.int _, H, I.tok _, ⟨_, rfl⟩, q⟩
  | ref p =>
    cases rx
    have e' : (∃ xs, SqL X.K H p xs ∧ n = xs.length) ∨ ∃ xs, SqT X.K H p xs ∧ n = xs.length := e
    rcases e' with ⟨xs, hx, e'⟩ | ⟨xs, hx, e'⟩
    · subst e'
      obtain ⟨its, r', pl, hz⟩ := I.list hx
      have hlen := r'.length
      exact Calls.call_len_list pl.isList (by simp only [List.size_toArray]; walk_at "om") ⟨.int xs.length, H, I.tok _, ⟨_, by simp only [List.size_toArray]; rw [hlen]⟩, q⟩
    · subst e'
      obtain ⟨its, r', pl, hz⟩ := I.tuple hx
      have hlen := r'.length
      exact len_tuple pl (by simp only [List.size_toArray]; walk_at "om") ⟨.int xs.length, H, I.tok _, ⟨_, by simp only [List.size_toArray]; rw [hlen]⟩, q⟩
  | _ => exact (show False from e).elim
end
end L2

namespace L2
open PySem PySem.Spec PyProof.Rows

structure ObjM (h : Heap) (x dx C : Addr) (mA : Str → Option Value) : Prop where
  obj : h.get? x = some (PySem.W.instObj C dx)
  ns : h.Ns1 dx mA
  ne : dx ≠ x

theorem lookIn_ns {h : Heap} {dx : Addr} {mA : Str → Option Value} (n : h.Ns1 dx mA) : ∃ od, h.get? dx = some od ∧ ∀ name, PySem.W.lookIn name od = some (mA name) := by
  obtain ⟨o, es, ep, ho, hd, hk, _, hm⟩ := n
  refine ⟨o, ho, fun name => ?_⟩
  have e := hm name
  unfold nsFind findBy at e
  rw [← Array.find?_toList] at e
  unfold PySem.W.lookIn
  rw [hd]
  dsimp only
  split
  · rename_i y q
    rw [q] at e
    exact congrArg some e
  · rename_i q
    rw [q] at e
    have a : es.toList.any (·.refKey) = false := by
      rw [List.any_eq_false]
      intro y hy
      obtain ⟨z, t, hkey⟩ := hk y (Array.mem_toList_iff.mp hy)
      simp [DictEntry.refKey, hkey]
    have a' : ¬ es.toList.any (·.refKey) = true := by rw [a]; exact Bool.false_ne_true
    rw [if_neg a']
    exact congrArg some e

theorem ObjM.look {h : Heap} {x dx C : Addr} {mA : Str → Option Value} (I : ObjM h x dx C mA) : ∃ od, PySem.W.InstAt h x (PySem.W.instObj C dx) C (some od) ∧ ∀ name, PySem.W.lookIn name od = some (mA name) :=
  let ⟨od, ho, hl⟩ := lookIn_ns I.ns
  ⟨od, ⟨I.obj, rfl, rfl, ho⟩, hl⟩

section
variable {prog : Program} {w : World} {A : Around} {E : Value → Shared → Prop} {s : Shared} {K : PySem.W.Frag} {x dx C f : Addr} {mA : Str → Option Value} {name : Str} {v : Value}

end

theorem RelO.some_of {v : V} {o : Option Value} (r : RelO (some v) o) : ∃ u, o = some u ∧ RelV v u := by
  cases o with
  | none => exact (show False from r).elim
  | some u => exact ⟨u, rfl, r⟩
section
variable {P : Program} {w : World} {H H' : Hp} {h h' : Heap} {a C dx : Addr} {fs fs' : List (Str × V)}
theorem ins_get (hok : HOk P w H h) (e : H a = some (.ins C dx fs)) : ∃ mA, ObjM h a dx C mA ∧ (∀ f, RelO (fs.lookup f) (mA f)) ∧ PySem.Within mA (fs.map (·.1)) ∧ fs.length ≤ 1000 ∧ H dx = some (.own a) := by
  obtain ⟨d, z, ne, ob, mA, n, r, q⟩ := (show ObjOk P w H h a (.ins C dx fs) from hok a _ e)
  exact ⟨mA, ⟨ob, n, ne⟩, r, q, z, d⟩
end

structure Cls (K : PySem.W.Frag) (C : Addr) : Prop where
  pg : PySem.W.plainGet K C Str.empty = true
  hd : PySem.W.hasDictIn K C = true
  po : PySem.W.plainOver K C = true
  sa : PySem.W.findIn K (.ref C) "__setattr__" = some (some (.builtin "object.__setattr__"))
theorem Cls.get {K : PySem.W.Frag} {C : Addr} (c : Cls K C) (f : Str) : PySem.W.plainGet K C f = true := c.pg
section
variable {X : Cx} {pins : List (Addr × Obj)} {σ : St} {H : Hp} {s : Shared} {a C dx : Addr} {fs : List (Str × V)} {f : Str} {v : V} {A : Around} {E : Value → Shared → Prop}

end

section
variable {X : Cx} {o e value : Expr} {f : Str} {pos pos' tpos : Pos} {ta tv : TE}
end

section
variable {X : Cx} {pins : List (Addr × Obj)} {σ : St} {H : Hp} {s : Shared} {A : Around} {E : Value → Shared → Prop} {Q : Value → Shared → Prop} {c : Value} {b : Bool}
inductive TyOf (K : PySem.W.Frag) (H : Hp) : V → Value → Prop where
  | non : TyOf K H .non (.type "NoneType")
  | bl (x : Bool) : TyOf K H (.bl x) (.type "bool")
  | int (i : Int) : TyOf K H (.int i) (.type "int")
  | str (x : Str) : TyOf K H (.str x) (.type "str")
  | flt (x : UInt64) : TyOf K H (.flt x) (.type "float")
  | lst {a : Addr} {xs : List V} (e : H a = some (.lst xs)) : TyOf K H (.ref a) (.type "list")
  | frz {a : Addr} {o : Obj} {xs : List V} (e : H a = some (.frz o (.lst xs))) : TyOf K H (.ref a) (.type "list")
  | tup {a : Addr} {xs : List V} (e : H a = some (.tup xs)) : TyOf K H (.ref a) (.type "tuple")
  | dK {a : Addr} {kvs : List (Key × V)} (e : H a = some (.dK kvs)) : TyOf K H (.ref a) (.type "dict")
  | dT {a : Addr} {kvs : List (List Key × V)} (e : H a = some (.dT kvs)) : TyOf K H (.ref a) (.type "dict")
  | ins {a C dx : Addr} {fs : List (Str × V)} (e : H a = some (.ins C dx fs)) (cl : Cls K C) (ha : PySem.W.findIn K (.ref C) "__class__" = some (some (.builtin "object.__class__")))
      (hn : PySem.W.specialIn K (.builtin "object.__class__") "__get__" = some (some (.builtin "getset_descriptor.__get__"))) (htk : PySem.W.takesIn K (.builtin "object.__class__") = some true)
      (hm : PySem.W.mroIn K C (.type "object") = some true) : TyOf K H (.ref a) (.ref C)
theorem isinst_ok {x : V} {u t : Value} (I : Inv X pins σ H s) (rx : RelV x u) (ty : TyOf X.K H x t) (e : PySem.W.kitOne X.K t c = some b) (h : ∀ tk, Q (.bool b) { s with toks := tk }) :
    wpAny (model X.prog X.w) A (call (.builtin "isinstance") [u, c]) Q E s := by
  cases ty with
  | non => cases (show u = Value.none from rx); exact PySem.W.kia_one PySem.W.kitx_none I.kIn True.intro e (fun z => nomatch z) h
  | bl y => cases (show u = Value.bool y from rx); exact PySem.W.kia_one PySem.W.kitx_bool I.kIn True.intro e (fun z => nomatch z) h
  | int i => obtain ⟨t, q⟩ := (show ∃ t, u = Value.int i t from rx); cases q; exact PySem.W.kia_one PySem.W.kitx_int I.kIn True.intro e (fun z => nomatch z) h
  | str y => obtain ⟨t, q⟩ := (show ∃ t, u = Value.str y t from rx); cases q; exact PySem.W.kia_one PySem.W.kitx_str I.kIn True.intro e (fun z => nomatch z) h
  | flt y => obtain ⟨t, q⟩ := (show ∃ t, u = Value.float y t from rx); cases q; exact PySem.W.kia_one PySem.W.kitx_float I.kIn True.intro e (fun z => nomatch z) h
  | @lst a xs ea =>
    cases (show u = Value.ref a from rx)
    obtain ⟨_, _, n, _, h1⟩ := (show ObjOk X.prog X.w H s.heap a (.lst xs) from I.hok a _ ea)
    exact PySem.W.kia_one PySem.W.kitx_list I.kIn ⟨_, h1, rfl⟩ e (fun z => nomatch z) h
  | @frz a ob xs ea =>
    cases (show u = Value.ref a from rx)
    obtain ⟨_, _, _, n, _, h1⟩ := (show ObjOk X.prog X.w H s.heap a (.frz ob (.lst xs)) from I.hok a _ ea)
    exact PySem.W.kia_one PySem.W.kitx_list I.kIn ⟨_, h1, rfl⟩ e (fun z => nomatch z) h
  | @tup a xs ea =>
    cases (show u = Value.ref a from rx)
    obtain ⟨_, _, _, p⟩ := (show ObjOk X.prog X.w H s.heap a (.tup xs) from I.hok a _ ea)
    obtain ⟨o, h1, h2, _⟩ := p
    exact PySem.W.kia_one PySem.W.kitx_tuple I.kIn ⟨o, h1, h2⟩ e (fun z => nomatch z) h
  | @dK a kvs ea =>
    cases (show u = Value.ref a from rx)
    obtain ⟨_, _, vs, _, p⟩ := (show ObjOk X.prog X.w H s.heap a (.dK kvs) from I.hok a _ ea)
    obtain ⟨o, es, ep, h1, h2, _⟩ := p
    exact PySem.W.kia_one PySem.W.kitx_dict I.kIn ⟨o, h1, h2.1⟩ e (fun z => nomatch z) h
  | @dT a kvs ea =>
    cases (show u = Value.ref a from rx)
    obtain ⟨_, _, xs, _, o, es, ep, h1, h2, _⟩ := (show ObjOk X.prog X.w H s.heap a (.dT kvs) from I.hok a _ ea)
    exact PySem.W.kia_one PySem.W.kitx_dict I.kIn ⟨o, h1, h2.1⟩ e (fun z => nomatch z) h
  | @ins a C dx fs ea cl ha hn htk hm =>
    cases (show u = Value.ref a from rx)
    obtain ⟨mA, O, _⟩ := ins_get I.hok ea
    obtain ⟨od, J, _⟩ := O.look
    exact PySem.W.kia_one (PySem.W.kitx_own (cl.get _) cl.hd ha hn htk hm) I.kIn J e (fun z => nomatch z) h
end
end L2

namespace L2
open PySem PySem.Spec PyProof.Rows

structure Room (k : Nat) (A : Around) : Prop where
  hd : A.handled = none
  dp : A.depth + 3 * k + 5 < recursionLimit
  un : A.units + 16 * k + 200 < cLine
theorem Room.mono {j k : Nat} {A : Around} (r : Room k A) (h : j ≤ k) : Room j A := ⟨r.hd, by have := r.dp; walk_at "om", by have := r.un; walk_at "om"⟩
theorem Room.deeper {k : Nat} {A : Around} (r : Room (k + 1) A) (env : Env) : Room k (A.deeper env) :=
  ⟨r.hd, by have := r.dp; show A.depth + 1 + 3 * k + 5 < _; walk_at "om", by have := r.un; show A.units + 3 + 16 * k + 200 < _; walk_at "om"⟩
theorem Room.depth {k : Nat} {A : Around} (r : Room k A) : A.depth < recursionLimit := by have := r.dp; walk_at "om"
theorem Room.units {k : Nat} {A : Around} (r : Room k A) : A.units + 64 < cLine := by have := r.un; walk_at "om"
noncomputable def tNil : TA := fun _ H Q => Q [] H
noncomputable def tCons (ta : TE) (tr : TA) : TA := fun σ H Q => ta σ H fun x H1 => tr σ H1 fun xs H2 => Q (x :: xs) H2
section
variable {X : Cx} {e : Expr} {es : List Expr} {te : TE} {t : TA} {pos : Pos}
theorem pa_nil : PA X [] tNil := fun _ _ _ _ H Q I h => Calls.spliced_nil ⟨[], H, I, .nil, h⟩
theorem pa_cons (ha : PE X e te) (hr : PA X es t) (hs : starEach (e :: es) X.env = (false, eval e X.env) :: starEach es X.env := by rfl) : PA X (e :: es) (tCons te t) := by
  intro pos pins s σ H Q I h
  rw [hs]
  show wpAny _ _ (spliced ((false, eval e X.env) :: backTo pos (starEach es X.env))) _ _ s
  refine Calls.spliced_cons (thn (ha pins s σ H _ I h) fun u s1 ⟨x, H1, I1, r1, q1⟩ => ?_)
  exact thn (hr pos pins s1 σ H1 _ I1 q1) fun us s2 ⟨xs, H2, I2, r2, q2⟩ => ⟨x :: xs, H2, I2, .cons r1 r2, q2⟩

noncomputable def tTup (t : TA) : TE := fun σ H Q => t σ H fun xs H1 => xs.length ≤ sizeLine ∧ ∀ p, H1 p = none → Q (.ref p) (upd H1 p (.tup xs))
noncomputable def tLst (t : TA) : TE := fun σ H Q => t σ H fun xs H1 => xs.length ≤ sizeLine ∧ ∀ p, H1 p = none → Q (.ref p) (upd H1 p (.lst xs))
theorem pe_tup {x1} (h : PA X es t) : PE X (.Tuple es x1 pos) (tTup t) := by
  intro pins s σ H Q I hq
  refine wpAny_Tuple_spliced (thn (h pos pins s σ H _ I hq) fun us s1 ⟨xs, H1, I1, r, z, q⟩ => ⟨by rw [← r.length]; exact z, ?_⟩)
  have hf : H1 s1.heap.objs.size = none := I1.hok.fresh (Nat.le_refl _)
  refine ⟨.ref s1.heap.objs.size, upd H1 s1.heap.objs.size (.tup xs), I1.laid (t' := s1.toks) (fun b u e => Heap.get?_push_of_some _ e) (Nat.le_refl _) ?_, rfl, q _ hf⟩
  exact ⟨z, us, r, ⟨_, Heap.get?_push_size _ rfl, rfl, ⟨_, rfl⟩, rfl⟩⟩
theorem pe_lst (h : PA X es t) : PE X (.List es pos) (tLst t) := by
  intro pins s σ H Q I hq
  refine wpAny_List_spliced (thn (h pos pins s σ H _ I hq) fun us s1 ⟨xs, H1, I1, r, z, q⟩ => ⟨by rw [← r.length]; exact z, ?_⟩)
  have hf : H1 s1.heap.objs.size = none := I1.hok.fresh (Nat.le_refl _)
  refine ⟨.ref s1.heap.objs.size, upd H1 s1.heap.objs.size (.lst xs), I1.laid (t' := s1.toks) (fun b u e => Heap.get?_push_of_some _ e) (Nat.le_refl _) ?_, rfl, q _ hf⟩
  exact ⟨z, us, 0, r, Heap.get?_push_size _ rfl⟩
end

noncomputable abbrev Sp := List V → Hp → VK → XK → Prop
noncomputable abbrev CXT := List Env → Hp → Shared → XK → Value → Shared → Prop

structure Env0 (P : Program) (w : World) (K : PySem.W.Frag) (mg : Str → Option Value) (base : Heap) (A : Around) (outer : List Env) (s : Shared) (H : Hp) : Prop where
  frames : A.frames = some outer
  mod : Mod K mg base
  bs : ∀ b o, base.get? b = some o → s.heap.get? b = some o ∧ H b = none
  bsz : base.objs.size ≤ s.heap.objs.size
  funs : s.heap.FunFrames base outer
  frf : ∀ b ∈ frs outer, H b = none
  hok : HOk P w H s.heap
  bare : AllBare s.gens
noncomputable def CE (outer : List Env) (P : Program) (w : World) (H : Hp) (s : Shared) (Q : VK) (u : Value) (s' : Shared) : Prop :=
  ∃ v H', s'.os = s.os ∧ AllBare s'.gens ∧ Un (frs outer) [] H H' s.heap s'.heap ∧ HOk P w H' s'.heap ∧ RelV v u ∧ Q v H'
noncomputable def CR (CX : CXT) (outer : List Env) (P : Program) (w : World) (H : Hp) (s : Shared) (Q : VK) (E : XK) (r : Result) (s' : Shared) : Prop :=
  match r with
  | .ok (.ret u) => CE outer P w H s Q u s'
  | .ok _ => False
  | .error e => CX outer H s E e s'
structure FnOk (P : Program) (w : World) (K : PySem.W.Frag) (mg : Str → Option Value) (base : Heap) (CX : CXT) (k : Nat) (f : Addr) (fd : FuncData) (ps : List Str) (sp : Sp) : Prop where
  len : ∀ vs H Q E, sp vs H Q E → vs.length = ps.length
  run : ∀ (A : Around) (outer : List Env) (s : Shared) (H : Hp) (args : Args) (us : List Value) (vs : List V) (Q : VK) (E : XK), Room k A → Env0 P w K mg base A outer s H → BindsTo s fd args (ps.zip us) → Vals vs us → sp vs H Q E →
    codeAny (model P w) A (.call (.ref f) args) (CR CX outer P w H s Q E) s
section
variable {X : Cx} {pins : List (Addr × Obj)} {σ : St} {H : Hp} {s s' : Shared}
theorem Inv.env0 (I : Inv X pins σ H s) : Env0 X.prog X.w X.K X.mg X.base X.A X.stack s H :=
  ⟨I.ok.frames, I.ok.mod, I.bs, Nat.le_trans I.ok.bsz I.sz, I.stack, I.stkFree, I.hok, I.bare⟩
theorem Inv.after {Q : VK} {u : Value} (I : Inv X pins σ H s) (h : CE X.stack X.prog X.w H s Q u s') : EP X pins σ Q u s' := by
  obtain ⟨v, H', os, bare, un, hok, r, q⟩ := h
  obtain ⟨hh, g, d, t, os'⟩ := s'
  obtain rfl : os' = s.os := os
  exact ⟨v, H', I.call (h' := hh) (g' := g) (d' := d) (t' := t) (ch := []) un hok bare (fun b z => absurd z (by simp)), r, q⟩
end

noncomputable def tCall (sp : Sp) (dvs : List V) (E : XK) (t : TA) : TE := fun σ H Q => t σ H fun vs H1 => sp (vs ++ dvs) H1 Q E
noncomputable def Binds (K : PySem.W.Frag) (fd : FuncData) (ps : List Str) (ds : List Value) : Prop :=
  ∀ (s : Shared) (us : List Value), K.In s.heap → (us ++ ds).length = ps.length → BindsTo s fd ⟨us, []⟩ (ps.zip (us ++ ds))
theorem Binds.all {K : PySem.W.Frag} {fd : FuncData} {ps : List Str} (h : ∀ us : List Value, us.length = ps.length → bindArgs fd ⟨us, []⟩ = pure (ps.zip us)) : Binds K fd ps [] := fun s us _ hl => by
  rw [List.append_nil] at hl ⊢
  exact .of_eq (h us hl)

noncomputable def Passes (CX : CXT) (X : Cx) (E : XK) : Prop := ∀ (pins : List (Addr × Obj)) (σ : St) (H : Hp) (s : Shared) (e : Value) (s' : Shared), Inv X pins σ H s → CX X.stack H s E e s' → X.xe e s'

section
variable {X : Cx} {CX : CXT} {k : Nat} {f C : Addr} {fd : FuncData} {ps : List Str} {sp : Sp} {dvs : List V} {ds : List Value} {E : XK} {x m : Str} {p pos apos : Pos} {e o : Expr} {es : List Expr} {ta : TE} {t : TA}

theorem run_fn {pins : List (Addr × Obj)} {σ : St} {H : Hp} {s : Shared} {Q : VK} {us : List Value} {vs : List V} (F : FnOk X.prog X.w X.K X.mg X.base CX k f fd ps sp) (hr : Room k X.A) (hb : Binds X.K fd ps ds) (hd : Vals dvs ds) (hx : Passes CX X E)
    (I : Inv X pins σ H s) (r : Vals vs us) (h : sp (vs ++ dvs) H Q E) : wpAny (model X.prog X.w) X.A (call (.ref f) us) (EP X pins σ Q) X.xe s := by
  have r2 : Vals (vs ++ dvs) (us ++ ds) := r.append hd
  have hl : (us ++ ds).length = ps.length := by rw [← r2.length]; exact F.len _ _ _ _ h
  refine wpAny_call (codeAny_mono (F.run X.A X.stack s H ⟨us, []⟩ (us ++ ds) (vs ++ dvs) Q E hr I.env0 (hb s us I.kIn hl) r2 h) fun r s' hq => ?_)
  cases r with
  | error e => exact hx pins σ H s e s' I hq
  | ok fl =>
    cases fl with
    | ret u => exact I.after hq
    | next => exact False.elim hq
    | brk => exact False.elim hq
    | cont => exact False.elim hq

theorem pe_call (F : FnOk X.prog X.w X.K X.mg X.base CX k f fd ps sp) (hr : Room k X.A) (hg : Gl X x) (hm : X.mg x = some (.ref f)) (hk : PySem.W.keepIn X.K (.ref f) = true) (hb : Binds X.K fd ps ds) (hd : Vals dvs ds) (hx : Passes CX X E)
    (ha : PA X (e :: es) t) (hdb : (x == ("__debug__" : Str)) = false := by decide) (he : starEach (e :: es) X.env = (false, eval e X.env) :: starEach es X.env := by rfl) (hpl : (backTo pos (starEach es X.env)).any (·.1) = false := by rfl) :
    PE X (.Call (.Name x p) (e :: es) [] pos) (tCall sp dvs E t) := by
  intro pins s σ H Q I h
  refine wpAny_Call_Name_kw (ld_glob I hg hm ?_ hdb)
  refine PySem.W.callWith_K (h₀ := X.base) I.ok.mod.kin hk (thn (ha pos pins s σ H _ I h) fun us s1 ⟨vs, H1, I1, r, q⟩ => ⟨I1.kIn, ?_⟩) he hpl
  exact run_fn F hr hb hd hx I1 r q
end

section
variable {X : Cx} {CX : CXT} {k : Nat} {f C : Addr} {fd : FuncData} {ps ks : List Str} {sp : Sp} {E : XK} {x m : Str} {p pos apos kpos : Pos} {e o : Expr} {es : List Expr} {kws : List Keyword} {te ta : TE} {t tk : TA} {nm : Option Str}
variable {g : List Value → List Value → List Value} {gV : List V → List V → List V}
end

structure FnScope (N P : List Str) (sc : Scope) : Prop where
  kind : sc.kind = .function
  co : sc.isCoroutine = false
  gen : sc.isGenerator = false
  nd : N.Nodup
  pre : N.take P.length = P
  par : ∀ x ∈ P, sc.names.lookup x = some .local ∨ sc.names.lookup x = some .cell
  nofree : ∀ y ∈ sc.names, y.2 ≠ .free

theorem bindL_out {kindOf : Str → Option NameKind} {x : Str} : ∀ {binds : List (Str × Value)} {m : Str → Option Value}, (∀ v, (x, v) ∉ binds) → bindL kindOf binds m x = m x
  | [], _, _ => rfl
  | (n, v) :: r, m, h => by
    unfold bindL
    rw [bindL_out fun w hw => h w (List.mem_cons_of_mem _ hw)]
    split
    · have : x ≠ n := by rintro rfl; exact h v List.mem_cons_self
      simp [this]
    · rfl
theorem bindC_out {kindOf : Str → Option NameKind} {x : Str} : ∀ {binds : List (Str × Value)} {m : Str → Option Value}, (∀ v, (x, v) ∉ binds) → bindC kindOf binds m x = m x
  | [], _, _ => rfl
  | (n, v) :: r, m, h => by
    unfold bindC
    rw [bindC_out fun w hw => h w (List.mem_cons_of_mem _ hw)]
    split
    · rfl
    · have : x ≠ n := by rintro rfl; exact h v List.mem_cons_self
      simp [this]
theorem bindL_get {kindOf : Str → Option NameKind} {x : Str} {v : Value} : ∀ {P : List Str} {vs : List Value} {i : Nat} {m : Str → Option Value}, P.Nodup → P[i]? = some x → vs[i]? = some v → kindOf x = some .local →
    bindL kindOf (P.zip vs) m x = some v
  | [], _, _, _, _, h, _, _ => by simp at h
  | _ :: _, [], _, _, _, _, h, _ => by simp at h
  | p :: P, w :: vs, 0, m, nd, h1, h2, hk => by
    simp at h1 h2; subst h1; subst h2
    show bindL kindOf ((p, w) :: P.zip vs) m p = _
    unfold bindL
    rw [bindL_out fun v hv => (List.nodup_cons.mp nd).1 (List.of_mem_zip hv).1, if_pos hk]
    simp
  | p :: P, w :: vs, i + 1, m, nd, h1, h2, hk => by
    show bindL kindOf ((p, w) :: P.zip vs) m x = _
    unfold bindL
    exact bindL_get (i := i) (List.nodup_cons.mp nd).2 (by simpa using h1) (by simpa using h2) hk
theorem bindC_get {kindOf : Str → Option NameKind} {x : Str} {v : Value} : ∀ {P : List Str} {vs : List Value} {i : Nat} {m : Str → Option Value}, P.Nodup → P[i]? = some x → vs[i]? = some v → kindOf x ≠ some .local →
    bindC kindOf (P.zip vs) m x = some v
  | [], _, _, _, _, h, _, _ => by simp at h
  | _ :: _, [], _, _, _, _, h, _ => by simp at h
  | p :: P, w :: vs, 0, m, nd, h1, h2, hk => by
    simp at h1 h2; subst h1; subst h2
    show bindC kindOf ((p, w) :: P.zip vs) m p = _
    unfold bindC
    rw [bindC_out fun v hv => (List.nodup_cons.mp nd).1 (List.of_mem_zip hv).1, if_neg hk]
    simp
  | p :: P, w :: vs, i + 1, m, nd, h1, h2, hk => by
    show bindC kindOf ((p, w) :: P.zip vs) m x = _
    unfold bindC
    exact bindC_get (i := i) (List.nodup_cons.mp nd).2 (by simpa using h1) (by simpa using h2) hk

noncomputable def start (N : List Str) (vs : List V) : St := vs.map some ++ List.replicate (N.length - vs.length) none

noncomputable def cxOf (CX : CXT) (P : Program) (w : World) (K : PySem.W.Frag) (mg : Str → Option Value) (base : Heap) (N : List Str) (qual : Str) (scope : Scope) (f : Addr) (cd : Value) (A : Around) (outer : List Env) (s : Shared) (H : Hp) (E : XK) : Cx where
  prog := P
  w := w
  K := K
  mg := mg
  base := base
  A := A.deeper (envOfC qual scope s.heap.objs.size f cd)
  N := N
  s₀ := s
  H₀ := H
  env := envOfC qual scope s.heap.objs.size f cd
  outer := outer
  stack := envOfC qual scope s.heap.objs.size f cd :: outer
  ex := []
  calm := true
  fn := fun _ => true
  pn := []
  xe := fun e s' => wpAny (model P w) (A.deeper (envOfC qual scope s.heap.objs.size f cd)) (leaving (envOfC qual scope s.heap.objs.size f cd) e) (fun _ s'' => CX outer H s E e s'') (fun e' s'' => CX outer H s E e' s'') s'

theorem cell_has {sc : Scope} {n : Nat} {x : Str} (h : sc.names.lookup x = some .cell) : ∃ c, (cellsFrom n sc.names []).lookup x = some c := by
  have q := PySem.W.cellsFrom_some sc.names n [] (.inl h)
  exact Option.isSome_iff_exists.mp q

theorem inv_start {CX : CXT} {P : Program} {w : World} {K : PySem.W.Frag} {mg : Str → Option Value} {base : Heap} {N ps : List Str} {qual : Str} {scope : Scope} {f : Addr} {cd : Value} {A : Around} {outer : List Env} {s s1 : Shared} {H : Hp} {E : XK} {us : List Value} {vs : List V}
    (S : FnScope N ps scope) (hd : A.handled = none) (e0 : Env0 P w K mg base A outer s H) (hl : vs.length = ps.length) (r : Vals vs us)
    (x : InCallC s s.heap.objs.size (bindL (envOfC qual scope s.heap.objs.size f cd).kindOf (ps.zip us) fun _ => none) (cellsFrom (s.heap.objs.size + 1) scope.names []) (bindC (envOfC qual scope s.heap.objs.size f cd).kindOf (ps.zip us) fun _ => none) s1) :
    Inv (cxOf CX P w K mg base N qual scope f cd A outer s H E) [] (start N vs) H s1 := by
  have hpl : ps.length ≤ N.length := by have := congrArg List.length S.pre; rw [List.length_take] at this; walk_at "om"
  obtain ⟨h1, tk, rfl, hk⟩ := x.done
  have noA : ∀ b : Addr, b ∉ (cxOf CX P w K mg base N qual scope f cd A outer s H E).ex := fun b z => absurd (show b ∈ ([] : List Addr) from z) (by simp)
  refine ⟨⟨e0.mod, S.kind, rfl, rfl, Nat.le_refl _, fun y z c h1 h2 => ?_, fun y hy => ?_, fun y c _ h => ?_, fun _ => hd, Around.frames_deeper e0.frames, .inr ⟨rfl, rfl⟩, fun b z => absurd z (noA b), e0.bs, e0.bsz, fun b _ _ => noA b, fun b z => absurd z (noA b), e0.funs, e0.frf⟩,
    rfl, e0.bare, Un.kept hk, ⟨_, x.toInCall.ns, fun i y v h1 h2 h3 => ?_⟩, fun y c h => ⟨_, x.cell y c h⟩, e0.hok.fresh (Nat.le_refl _), fun y c h => ?_, fun p hp => absurd (show p ∈ ([] : List (Addr × Obj)) from hp) (by simp), e0.hok.kept hk, ?_⟩
  · exact name_of_addr x.apart (PySem.mem_of_lookup h1) (PySem.mem_of_lookup h2)
  · have hy : scope.names.lookup y = some .cell ∨ scope.names.lookup y = some .free := hy
    rcases hy with hy | hy
    · exact cell_has hy
    · exact absurd rfl (S.nofree _ (PySem.mem_of_lookup hy))
  · exact Nat.le_of_lt (x.above y c (PySem.mem_of_lookup h))
  · have hi : i < vs.length := by
      unfold start at h2
      by_cases hi : i < vs.length
      · exact hi
      · rw [List.getElem?_append_right (by simpa using hi)] at h2
        rw [List.getElem?_replicate] at h2
        split at h2 <;> cases h2
    have ha : vs[i]? = some v := by
      unfold start at h2
      rw [List.getElem?_append_left (by simpa using hi), List.getElem?_map] at h2
      cases e : vs[i]? with
      | none => rw [e] at h2; cases h2
      | some a => rw [e] at h2; cases h2; rfl
    obtain ⟨u, hu, rv⟩ := r.get ha
    have hp : ps[i]? = some y := by
      rw [← S.pre, List.getElem?_take_of_lt (by walk_at "om")]; exact h1
    have ndP : ps.Nodup := by rw [← S.pre]; exact S.nd.sublist (List.take_sublist _ _)
    refine ⟨u, rv, ?_⟩
    rcases S.par y (List.mem_of_getElem? hp) with k | k
    · exact .inl ⟨k, bindL_get ndP hp hu k⟩
    · obtain ⟨c, e⟩ := cell_has (n := s.heap.objs.size + 1) k
      refine .inr ⟨.inl k, c, e, ?_⟩
      have q := x.cell y c e
      rw [bindC_get ndP hp hu (by show scope.names.lookup y ≠ _; rw [k]; decide)] at q
      exact q
  · exact e0.hok.fresh (Nat.le_of_lt (x.above y c (PySem.mem_of_lookup h)))
  · unfold start
    show _ = N.length
    rw [List.length_append, List.length_map, List.length_replicate]
    walk_at "om"

theorem fn_of {CX : CXT} {P : Program} {w : World} {K : PySem.W.Frag} {mg : Str → Option Value} {base : Heap} {k : Nat} {f : Addr} {name qual : Str} {params : Arguments} {body : List Stmt} {scope : Scope} {dV kV doc pm cdv ct oc : Value} {an od : Option Addr}
    {osl : Array (Option Value)} {N ps : List Str} {sp : Sp} (lk : K.lookup f = some ⟨oc, od, .func (PySem.W.fnOf name qual params body scope dV kV doc pm an cdv ct), osl⟩) (hcd : PySem.W.codeIn K cdv qual = true) (S : FnScope N ps scope)
    (len : ∀ vs H Q E, sp vs H Q E → vs.length = ps.length)
    (hbody : ∀ (A : Around) (outer : List Env) (s : Shared) (H : Hp) (vs : List V) (Q : VK) (E : XK), Room k (A.deeper (envOfC qual scope s.heap.objs.size f cdv)) → sp vs H Q E →
      ∃ t, PSs (cxOf CX P w K mg base N qual scope f cdv A outer s H E) body t ∧ t { nx := fun _ H' => Q .non H', rt := Q } (start N vs) H) :
    FnOk P w K mg base CX (k + 1) f (PySem.W.fnOf name qual params body scope dV kV doc pm an cdv ct) ps sp := by
  refine ⟨len, fun A outer s H args us vs Q E hr e0 hb r hsp => ?_⟩
  have hl := len _ _ _ _ hsp
  have KX : K.In s.heap := e0.mod.kin.keeps fun b o e => (e0.bs b o e).1
  have lim : s.heap.NoLimit := e0.mod.nolimit.keeps fun b o e => (e0.bs b o e).1
  have hkind : ∀ y ∈ ps.zip us, scope.names.lookup y.1 = some .local ∨ (scope.names.lookup y.1 = some .cell ∧ ((cellsFrom (s.heap.objs.size + 1) scope.names []).lookup y.1).isSome = true) := fun ⟨n, v⟩ hy => by
    rcases S.par n (List.of_mem_zip hy).1 with q | q
    · exact .inl q
    · exact .inr ⟨q, PySem.W.cellsFrom_some _ _ _ (.inl q)⟩
  refine codeAny_call_function hr.depth (KX _ _ lk) rfl S.co S.gen rfl (PySem.W.codeRec_of KX hcd) (hb _ _ _ _ ?_)
  refine wpAny_newFunctionEnv_cells S.kind hkind fun env he s1 x => ?_
  subst he
  refine ⟨lim.keeps x.toInCall.keep, codeAny_func ?_⟩
  obtain ⟨t, ht, hq⟩ := hbody A outer s H vs Q E (hr.deeper _) hsp
  have I : Inv (cxOf CX P w K mg base N qual scope f cdv A outer s H E) [] (start N vs) H s1 := inv_start S hr.hd e0 hl r x
  refine wpAny_mono (ht [] s1 (start N vs) H _ I hq) (fun fl s' hs => ?_) fun e s' hs => hs
  have fin : ∀ {σ' : St} {H' : Hp} {v : V} {u : Value}, Inv (cxOf CX P w K mg base N qual scope f cdv A outer s H E) [] σ' H' s' → RelV v u → Q v H' → CE outer P w H s Q u s' :=
    fun {σ' H' v u} J rv q => ⟨v, H', J.os, J.bare, J.base, J.hok, rv, q⟩
  cases fl with
  | ret u =>
    obtain ⟨v, σ', H', J, rv, q⟩ := hs
    exact fin J rv q
  | next =>
    obtain ⟨σ', H', J, q⟩ := hs
    exact fin (v := V.non) (u := Value.none) J rfl q
  | brk =>
    obtain ⟨_, _, _, q⟩ := hs
    exact False.elim q
  | cont =>
    obtain ⟨_, _, _, q⟩ := hs
    exact False.elim q
end L2

namespace L2
open PySem PySem.Spec PyProof.Rows
section
variable {X : Cx} {x : Str} {p pos : Pos} {e : Expr} {es : List Expr} {t : TA} {id T : String} {r : List V → Hp → VK → Prop}

noncomputable def tCB (r : List V → Hp → VK → Prop) (t : TA) : TE := fun σ H Q => t σ H fun vs H1 => r vs H1 Q
theorem pe_callB (hc : CallR X (.builtin id) r) (hg : Gl X x) (hm : X.mg x = none) (hv : bootBuiltins x = some (.builtin id)) (ha : PA X (e :: es) t) (hn : x ≠ "__name__" := by decide) (hdb : (x == ("__debug__" : Str)) = false := by decide)
    (he : starEach (e :: es) X.env = (false, eval e X.env) :: starEach es X.env := by rfl) (hpl : (backTo pos (starEach es X.env)).any (·.1) = false := by rfl) : PE X (.Call (.Name x p) (e :: es) [] pos) (tCB r t) := by
  intro pins s σ H Q I h
  refine wpAny_Call_Name_kw (ld_blt I hg hm hv ?_ hn hdb)
  exact PyProof.Rows.callWith_builtin1 (thn (ha pos pins s σ H _ I h) fun us s1 ⟨vs, H1, I1, r1, q1⟩ => hc pins s1 σ H1 vs us Q I1 r1 q1) he hpl
theorem pe_callTy (hc : CallR X (.type T) r) (hg : Gl X x) (hm : X.mg x = none) (hv : bootBuiltins x = some (.type T)) (ha : PA X (e :: es) t) (hn : x ≠ "__name__" := by decide) (hdb : (x == ("__debug__" : Str)) = false := by decide)
    (he : starEach (e :: es) X.env = (false, eval e X.env) :: starEach es X.env := by rfl) (hpl : (backTo pos (starEach es X.env)).any (·.1) = false := by rfl) : PE X (.Call (.Name x p) (e :: es) [] pos) (tCB r t) := by
  intro pins s σ H Q I h
  refine wpAny_Call_Name_kw (ld_blt I hg hm hv ?_ hn hdb)
  exact PyProof.Rows.callWith_type1 (thn (ha pos pins s σ H _ I h) fun us s1 ⟨vs, H1, I1, r1, q1⟩ => hc pins s1 σ H1 vs us Q I1 r1 q1) he hpl
end
end L2

namespace HT
open PySem PyProof.Rows

section
open PySem.SeqAt
open PySem.AutoSeq1 (wpAny_loadPart')
open PySem.MeetsSeq PySem.MeetsSeq2 PySem.MeetsSeq3

end

section
variable {prog : Program} {w : World} {A : Around} {E : Value → Shared → Prop} {s : Shared}

theorem cat_tup {t b : Addr} {vs ws : List Value} {Q : Value → Shared → Prop} (ht : IsTup s.heap t vs.toArray) (hb : IsTup s.heap b ws.toArray) (hv : vs ≠ [])
    (h1 : ws = [] → Q (.ref t) s) (h2 : ws ≠ [] → Q (.ref s.heap.objs.size) { s with heap := s.heap.push { cls := .type "tuple", data := .seq (vs ++ ws).toArray } })
    (hsz : vs.length + ws.length ≤ sizeLine) : wpAny (model prog w) A (binaryOp .Add (.ref t) (.ref b)) Q E s := by
  obtain ⟨⟨cls, dd, data, sl⟩, ho, hc, n, hd⟩ := id ht
  obtain ⟨⟨cls2, dd2, data2, sl2⟩, ho2, hc2, n2, hd2⟩ := id hb
  simp only at hc hd hc2 hd2
  subst hc hd hc2 hd2
  have e : vs.toArray ++ ws.toArray = (vs ++ ws).toArray := by simp
  by_cases hw : ws = []
  · exact concat_meets ⟨_, ho, rfl⟩ ⟨_, ho2, rfl⟩ noFill_tuple_add seq_tuple_add PySem.F.slot_tuple_add PySem.F.entry_tuple_add (PySem.F.args_tuple_add_2 _ _)
      (tuple_addW1 t b vs.toArray ws.toArray n n2 dd dd2 sl sl2 (by simpa using hv) (by simp [hw])) ⟨ho, ho2, h1 hw⟩
  · refine concat_meets ⟨_, ho, rfl⟩ ⟨_, ho2, rfl⟩ noFill_tuple_add seq_tuple_add PySem.F.slot_tuple_add PySem.F.entry_tuple_add (PySem.F.args_tuple_add_2 _ _)
      (tuple_addW2 t b vs.toArray ws.toArray n n2 dd dd2 sl sl2 (by simpa using hv) (by simpa using hw) (by rw [List.size_toArray, List.size_toArray]; exact hsz)) ⟨ho, ho2, ?_⟩
    rw [e]
    exact h2 hw

noncomputable def sIx (n d : Nat) : Option Int → Nat
  | none => d
  | some v => if v < 0 then (v + (n : Int)).toNat else min v.toNat n
theorem sIx_none (n d : Nat) : sIx n d none = d := rfl
theorem sIx_nat (n d k : Nat) : sIx n d (some (k : Int)) = min k n := by
  show (if (k : Int) < 0 then ((k : Int) + (n : Int)).toNat else min (k : Int).toNat n) = min k n
  rw [if_neg (by walk_at "om"), Int.toNat_natCast]
theorem sIx_le (n d : Nat) (hd : d ≤ n) (o : Option Int) : sIx n d o ≤ n := by
  cases o with
  | none => exact hd
  | some v =>
    show (if v < 0 then (v + (n : Int)).toNat else min v.toNat n) ≤ n
    by_cases hv : v < 0
    · rw [if_pos hv]; walk_at "om"
    · rw [if_neg hv]; exact Nat.min_le_right _ _
theorem clip_eq (v : Int) (n d : Nat) : (if v < 0 then max (v + (n : Int)) 0 else min v (n : Int)) = ((sIx n d (some v) : Nat) : Int) := by
  show (if v < 0 then max (v + (n : Int)) 0 else min v (n : Int)) = (((if v < 0 then (v + (n : Int)).toNat else min v.toNat n) : Nat) : Int)
  by_cases hv : v < 0
  · simp only [if_pos hv]; walk_at "om"
  · simp only [if_neg hv]; walk_at "om"
theorem adjust_gen (lo hi : Option Int) (n : Nat) : Builtin.Slice.sliceAdjust lo hi 1 (n : Int) = (((sIx n 0 lo : Nat) : Int), ((sIx n n hi : Nat) : Int)) := by
  have h1 : ¬ ((1 : Int) < 0) := by walk_at "om"
  unfold Builtin.Slice.sliceAdjust
  simp only [h1, if_false]
  refine Prod.ext ?_ ?_
  · cases lo with
    | none => rfl
    | some v => exact clip_eq v n 0
  · cases hi with
    | none => rfl
    | some v => exact clip_eq v n n
theorem places_gen (i j : Nat) : Builtin.Slice.slicePlaces (i : Int) (j : Int) 1 = j - i := by
  unfold Builtin.Slice.slicePlaces
  have h1 : (1 : Int) > 0 := by walk_at "om"
  simp only [h1, if_true, Int.ediv_one]
  split <;> walk_at "om"
theorem slicePart_ {v : Value} {o : Option Int} {Q : Option Int → Shared → Prop} (p : IsPart v o) (h : Q o s) : wpAny (model prog w) A (Builtin.Slice.slicePartIndex v) Q E s := by
  cases p with
  | none => exact slicePart_none h
  | int i t => exact slicePart_int h
theorem sliceApplied_gen {sl : Addr} {vl vu : Value} {lo hi : Option Int} {n : Nat} {Q : Int × Int × Nat → Shared → Prop} (hs : s.heap.IsSliceOf sl vl vu .none) (pl : IsPart vl lo) (pu : IsPart vu hi)
    (h : Q (((sIx n 0 lo : Nat) : Int), 1, sIx n n hi - sIx n 0 lo) s) : wpAny (model prog w) A (Builtin.Slice.sliceApplied (.ref sl) (pure (n : Int))) Q E s := by
  obtain ⟨os, hos, hcs, hds⟩ := id hs
  unfold Builtin.Slice.sliceApplied Builtin.Slice.sliceFields
  refine wpAny_bind (wpAny_bind (wpAny_field hos hds (x := vl) rfl (wpAny_bind (wpAny_field hos hds (x := vu) rfl (wpAny_bind (wpAny_field hos hds (x := .none) rfl (wpAny_pure ?_)))))))
  refine wpAny_bind (slicePart_none ?_)
  show wpAny _ _ (if ((1 : Int) == 0) = true then _ else _) _ _ s
  rw [if_neg (by decide)]
  refine wpAny_bind (slicePart_ pl (wpAny_bind (slicePart_ pu (wpAny_bind (wpAny_pure ?_)))))
  show wpAny _ _ (match Builtin.Slice.sliceAdjust lo hi 1 (n : Int) with | (lo, hi) => pure (lo, (1 : Int), Builtin.Slice.slicePlaces lo hi 1)) _ _ s
  rw [adjust_gen lo hi n]
  show wpAny _ _ (pure (((sIx n 0 lo : Nat) : Int), (1 : Int), Builtin.Slice.slicePlaces ((sIx n 0 lo : Nat) : Int) ((sIx n n hi : Nat) : Int) 1)) _ _ s
  rw [places_gen]
  exact wpAny_pure h
theorem pick_gen (xs : Array Value) (i k : Nat) : ((List.range k).filterMap fun (m : Nat) => xs[((i : Int) + (m : Int) * 1).toNat]?).toArray = ((xs.toList.drop i).take k).toArray := by
  have e : (fun (m : Nat) => xs[((i : Int) + (m : Int) * 1).toNat]?) = fun m => xs[i + m]? := by
    funext m
    have : ((i : Int) + (m : Int) * 1).toNat = i + m := by walk_at "om"
    rw [this]
  rw [e]
  have := pick_run xs i k
  rw [List.filterMap_map] at this
  have e2 : ((fun x => xs[x]?) ∘ fun x => i + x) = fun m => xs[i + m]? := rfl
  rw [e2] at this
  rw [this]

theorem getItem_tuple_cut {t sl : Addr} {items : Array Value} {vl vu : Value} {lo hi : Option Int} {Q : Value → Shared → Prop} (ht : IsTup s.heap t items) (hs : s.heap.IsSliceOf sl vl vu .none) (pl : IsPart vl lo) (pu : IsPart vu hi)
    (hw : ¬ (sIx items.size 0 lo = 0 ∧ sIx items.size items.size hi = items.size))
    (h : Q (.ref s.heap.objs.size) { s with heap := s.heap.push { cls := .type "tuple", data := .seq ((items.toList.drop (sIx items.size 0 lo)).take (sIx items.size items.size hi - sIx items.size 0 lo)).toArray } })
    (hsz : items.size ≤ sizeLine) : wpAny (model prog w) A (getItem (.ref t) (.ref sl)) Q E s := by
  have htake : sizeOk (.seq ((items.toList.drop (sIx items.size 0 lo)).take (sIx items.size items.size hi - sIx items.size 0 lo)).toArray) := by
    show ((items.toList.drop (sIx items.size 0 lo)).take (sIx items.size items.size hi - sIx items.size 0 lo)).toArray.size ≤ sizeLine
    rw [List.size_toArray, List.length_take, List.length_drop, Array.length_toList]
    walk_at "om"
  have hj : sIx items.size items.size hi ≤ items.size := sIx_le _ _ (Nat.le_refl _) hi
  obtain ⟨os, hos, hcs, hds⟩ := id hs
  have hTs : s.TypeIs (.ref sl) "slice" := ⟨os, hos, hcs⟩
  unfold getItem
  try with_reducible refine wpAny_holding ?_
  first | refine wpAny_bind (wpAny_pure ?_) | skip
  refine wpAny_bind (wpAny_sequenceKey ht.typeIs (by decide) ?_)
  refine wpAny_bind (wpAny_callSpecial?_slot (name := Str.ofString "__getitem__") ht.typeIs PyProof.Rows.slot_tuple_getitem
    (wpAny_call_entry PyProof.Rows.slot_tuple_getitem ht.typeIs entry_tuple_getitem ?_ (args_tuple_getitem _ _)))
  show wpAny _ _ (Builtin.Tuple.tupleItemsOf (.ref t) >>= _) _ _ s
  refine wpAny_bind (tupleItemsOf_ ht ?_)
  refine wpAny_bind (wpAny_typeOf hTs ?_)
  rw [if_pos (by decide)]
  refine wpAny_bind (sliceApplied_gen hs pl pu ?_)
  have hno : ¬ ((((sIx items.size 0 lo : Nat) : Int) == 0 && (1 : Int) == 1 && (sIx items.size items.size hi - sIx items.size 0 lo) == items.size) = true) := by
    intro q
    rw [Bool.and_eq_true, Bool.and_eq_true] at q
    have q1 : ((sIx items.size 0 lo : Nat) : Int) = 0 := eq_of_beq q.1.1
    have q2 : sIx items.size items.size hi - sIx items.size 0 lo = items.size := eq_of_beq q.2
    exact hw ⟨by walk_at "om", by walk_at "om"⟩
  show wpAny _ _ (if (((sIx items.size 0 lo : Nat) : Int) == 0 && (1 : Int) == 1 && (sIx items.size items.size hi - sIx items.size 0 lo) == items.size) = true then _ else _) _ _ s
  rw [if_neg hno, pick_gen]
  first
    | exact wpAny_bind (m := Builtin.Tuple.tupleExact _) (wpAny_newObj_type (wpAny_pure ⟨_, rfl, wpAny_pure h⟩) htake)
    | exact wpAny_bind (m := Builtin.Tuple.tupleExact _) (wpAny_newObj_type (wpAny_bind (wpAny_pure (wpAny_pure ⟨_, rfl, wpAny_pure h⟩))) htake)
    | exact wpAny_bind (wpAny_bind (m := Builtin.Tuple.tupleExact _) (wpAny_newObj_type (wpAny_pure (wpAny_pure ⟨_, rfl, wpAny_pure h⟩)) htake))
    | exact wpAny_bind (wpAny_bind (m := Builtin.Tuple.tupleExact _) (wpAny_newObj_type (wpAny_pure ⟨_, rfl, wpAny_pure h⟩) htake))
end
end HT

namespace L2
open PySem PySem.Spec PyProof.Rows

noncomputable abbrev TO := St → Hp → (Option Int → Hp → Prop) → Prop
noncomputable def PO (X : Cx) (e : Option Expr) (t : TO) : Prop :=
  ∀ (pins : List (Addr × Obj)) (s : Shared) (σ : St) (H : Hp) (Q : Option Int → Hp → Prop), Inv X pins σ H s → t σ H Q →
    wpAny (model X.prog X.w) X.A (evalPart e X.env) (fun u s' => ∃ o H', Inv X pins σ H' s' ∧ IsPart u o ∧ Q o H') X.xe s
noncomputable def tNoPart : TO := fun _ H Q => Q none H
noncomputable def tPart (t : TE) : TO := fun σ H Q => t σ H fun x H1 => ∃ i, x = .int i ∧ Q (some i) H1

section
variable {X : Cx} {e : Expr} {te : TE} {lo hi : Option Expr} {tl th : TO} {pos p2 : Pos}

theorem po_none : PO X none tNoPart := by
  intro pins s σ H Q I h
  rw [evalPart_none]
  exact wpAny_pure ⟨none, H, I, .none, h⟩
theorem po_some (h : PE X e te) : PO X (some e) (tPart te) := by
  intro pins s σ H Q I hw
  rw [evalPart_some]
  refine thn (h pins s σ H _ I hw) fun u s1 ⟨x, H1, I1, r1, q1⟩ => ?_
  obtain ⟨i, rfl, q⟩ := q1
  obtain ⟨t, rfl⟩ := r1
  exact ⟨some i, H1, I1, .int i t, q⟩

noncomputable def SlR (X : Cx) (r : V → Option Int → Option Int → Hp → VK → Prop) : Prop :=
  ∀ (pins : List (Addr × Obj)) (s : Shared) (σ : St) (H : Hp) (x : V) (v vl vu : Value) (lo hi : Option Int) (sl : Addr) (Q : VK), Inv X pins σ H s → RelV x v → s.heap.IsSliceOf sl vl vu .none → IsPart vl lo → IsPart vu hi → r x lo hi H Q →
    ∃ T id, typeLookup (.type T) "__getitem__" = pure (some (.builtin id)) ∧ s.TypeIs v T ∧ wpAny (model X.prog X.w) X.A (getItem v (.ref sl)) (EP X pins σ Q) X.xe s
theorem SlR.or {r r' : V → Option Int → Option Int → Hp → VK → Prop} (h : SlR X r) (h' : SlR X r') : SlR X (fun x lo hi H Q => r x lo hi H Q ∨ r' x lo hi H Q) := by
  intro pins s σ H x v vl vu lo hi sl Q I rx hs pl pu q
  rcases q with q | q
  · exact h pins s σ H x v vl vu lo hi sl Q I rx hs pl pu q
  · exact h' pins s σ H x v vl vu lo hi sl Q I rx hs pl pu q
noncomputable def tSl (r : V → Option Int → Option Int → Hp → VK → Prop) (te : TE) (tl th : TO) : TE := fun σ H Q => te σ H fun x H1 => tl σ H1 fun l H2 => th σ H2 fun u H3 => r x l u H3 Q
theorem pe_slice {r : V → Option Int → Option Int → Hp → VK → Prop} (hr : SlR X r) (he : PE X e te) (hl : PO X lo tl) (hu : PO X hi th) : PE X (.Subscript e (.Slice lo hi none p2) pos) (tSl r te tl th) := by
  intro pins s σ H Q I h
  refine Subscript_ (thn (he pins s σ H _ I h) fun v s1 ⟨x, H1, I1, r1, q1⟩ => ?_)
  refine wpAny_Slice (thn (hl pins s1 σ H1 _ I1 q1) fun vl s2 ⟨l, H2, I2, pl, q2⟩ => thn (hu pins s2 σ H2 _ I2 q2) fun vu s3 ⟨u, H3, I3, pu, q3⟩ => ?_)
  rw [evalPart_none]
  refine wpAny_pure ?_
  have I4 : Inv X pins σ H3 { s3 with heap := s3.heap.push { cls := .type "slice", data := .fields #[vl, vu, .none] } } := I3.kept (t' := s3.toks) fun b ob q => Heap.get?_push_of_some _ q
  obtain ⟨T, id, hT, ht, hg⟩ := hr pins { s3 with heap := s3.heap.push { cls := .type "slice", data := .fields #[vl, vu, .none] } } σ H3 x v vl vu l u s3.heap.objs.size Q I4 r1 (Heap.IsSliceOf.new ..) pl pu q3
  show wpAny (model X.prog X.w) X.A (subscriptTail e (.Slice lo hi none p2) v (.ref s3.heap.objs.size)) (EP X pins σ Q) X.xe { s3 with heap := s3.heap.push { cls := .type "slice", data := .fields #[vl, vu, .none] } }
  exact tail_any (ops := [.ref s3.heap.objs.size, v]) ht hT hg (by with_unfolding_all rfl)

noncomputable def cutV (xs : List V) (lo hi : Option Int) : List V := (xs.drop (HT.sIx xs.length 0 lo)).take (HT.sIx xs.length xs.length hi - HT.sIx xs.length 0 lo)
theorem cutV_length (xs : List V) (lo hi : Option Int) : (cutV xs lo hi).length ≤ xs.length := by
  unfold cutV
  rw [List.length_take, List.length_drop]
  walk_at "om"
noncomputable def rSlT (K : PySem.W.Frag) : V → Option Int → Option Int → Hp → VK → Prop := fun x lo hi H Q => ∃ a xs, x = .ref a ∧ SqT K H a xs ∧
  ¬ (HT.sIx xs.length 0 lo = 0 ∧ HT.sIx xs.length xs.length hi = xs.length) ∧ ∀ p, H p = none → Q (.ref p) (upd H p (.tup (cutV xs lo hi)))
theorem sl_tup : SlR X (rSlT X.K) := by
  intro pins s σ H x v vl vu lo hi sl Q I rx hs pl pu h
  obtain ⟨a, xs, rfl, hx, hw, q⟩ := h
  cases rx
  obtain ⟨its, r, ht, hz⟩ := I.tuple hx
  have hlen : its.toArray.size = xs.length := by rw [List.size_toArray]; exact r.length.symm
  refine ⟨"tuple", _, PyProof.Rows.slot_tuple_getitem.lookup, ht.typeIs, ?_⟩
  refine HT.getItem_tuple_cut ht hs pl pu (by rw [hlen]; exact hw) ?_ (by rw [hlen]; exact hz)
  rw [hlen]
  refine ⟨.ref s.heap.objs.size, _, I.laid (t' := s.toks) (o := .tup (cutV xs lo hi)) (fun b ob q => Heap.get?_push_of_some _ q) (Nat.le_refl _) ?_, rfl, q _ (I.hok.fresh (Nat.le_refl _))⟩
  exact ⟨Nat.le_trans (cutV_length xs lo hi) hz, _, (r.drop (HT.sIx xs.length 0 lo)).take (HT.sIx xs.length xs.length hi - HT.sIx xs.length 0 lo), PTup.new _ _⟩

noncomputable def rCatT (K : PySem.W.Frag) : R2 := fun x y H Q => ∃ a b xs ys, x = .ref a ∧ y = .ref b ∧ SqT K H a xs ∧ SqT K H b ys ∧ xs ≠ [] ∧ xs.length + ys.length ≤ sizeLine ∧
  (ys = [] → Q (.ref a) H) ∧ (ys ≠ [] → ∀ p, H p = none → Q (.ref p) (upd H p (.tup (xs ++ ys))))
theorem Vals.nil_iff {xs : List V} {us : List Value} (r : Vals xs us) : us = [] ↔ xs = [] := by
  cases r with
  | nil => simp
  | cons _ _ => simp
theorem op_catT : OpR X (binaryOp .Add) (rCatT X.K) := by
  intro pins s σ H x y v u Q I rx ry h
  obtain ⟨a, b, xs, ys, rfl, rfl, ha, hb, hx, hz, q1, q2⟩ := h
  cases rx
  cases ry
  obtain ⟨its, r1, p1, _⟩ := I.tuple ha
  obtain ⟨its2, r2, p2, _⟩ := I.tuple hb
  refine HT.cat_tup p1 p2 (fun z => hx (r1.nil_iff.mp z)) (fun z => ⟨.ref a, H, I, rfl, q1 (r2.nil_iff.mp z)⟩) (fun z => ?_) (by rw [← r1.length, ← r2.length]; exact hz)
  refine ⟨.ref s.heap.objs.size, _, I.laid (t' := s.toks) (o := .tup (xs ++ ys)) (fun b ob q => Heap.get?_push_of_some _ q) (Nat.le_refl _) ?_, rfl, q2 (fun w => z (r2.nil_iff.mpr w)) _ (I.hok.fresh (Nat.le_refl _))⟩
  exact ⟨by rw [List.length_append]; exact hz, _, r1.append r2, PTup.new _ _⟩
end
end L2

namespace L2
open PySem PySem.Spec PyProof.Rows

noncomputable def ixN (n : Nat) (i : Int) : Option Nat := if 0 ≤ i then (if i < n then some i.toNat else none) else if -(n : Int) ≤ i then some (i + n).toNat else none
noncomputable def atI {α : Type} (xs : List α) (i : Int) : Option α := (ixN xs.length i).bind fun j => xs[j]?
theorem ixN_seq {n : Nat} {i : Int} {j : Nat} (h : ixN n i = some j) : seqIndex? i n = some j ∧ j < n ∧ -(n : Int) ≤ i ∧ i < n := by
  unfold ixN at h
  by_cases h0 : 0 ≤ i
  · rw [if_pos h0] at h
    by_cases h1 : i < n
    · rw [if_pos h1] at h
      have e : i.toNat = j := Option.some.inj h
      exact ⟨by rw [seqIndex_of h0 h1, e], by walk_at "om", by walk_at "om", h1⟩
    · rw [if_neg h1] at h; cases h
  · rw [if_neg h0] at h
    by_cases h1 : -(n : Int) ≤ i
    · rw [if_pos h1] at h
      have e : (i + n).toNat = j := Option.some.inj h
      exact ⟨by rw [seqIndex_neg (by walk_at "om") h1, e], by walk_at "om", h1, by walk_at "om"⟩
    · rw [if_neg h1] at h; cases h
theorem atI_get {α : Type} {xs : List α} {i : Int} {v : α} (h : atI xs i = some v) : ∃ j, seqIndex? i xs.length = some j ∧ xs[j]? = some v ∧ j < xs.length ∧ -(xs.length : Int) ≤ i ∧ i < xs.length := by
  unfold atI at h
  cases e : ixN xs.length i with
  | none => rw [e] at h; cases h
  | some j =>
    rw [e] at h
    obtain ⟨h1, h2, h3, h4⟩ := ixN_seq e
    exact ⟨j, h1, h, h2, h3, h4⟩
theorem atI_nat {α : Type} {xs : List α} {j : Nat} {v : α} (h : xs[j]? = some v) : atI xs (j : Int) = some v := by
  have hj : j < xs.length := (List.getElem?_eq_some_iff.mp h).1
  have e : ixN xs.length (j : Int) = some j := by
    unfold ixN
    rw [if_pos (by walk_at "om"), if_pos (by walk_at "om")]; simp
  unfold atI; rw [e]; exact h
noncomputable def PlainIx (b : Expr) : Prop := ∀ o i, subscripted b false o i = operate [o, i] (getItem o i)
noncomputable def IxR (X : Cx) (r : R2) : Prop :=
  ∀ (value slice : Expr) (pins : List (Addr × Obj)) (s : Shared) (σ : St) (H : Hp) (x y : V) (v u : Value) (Q : VK), Inv X pins σ H s → RelV x v → RelV y u → r x y H Q →
    subscripted slice false v u = operate [v, u] (getItem v u) → wpAny (model X.prog X.w) X.A (subscriptTail value slice v u) (EP X pins σ Q) X.xe s
noncomputable def MtR (X : Cx) (id : String) (r : V → List V → Hp → VK → Prop) : Prop :=
  ∀ (pins : List (Addr × Obj)) (s : Shared) (σ : St) (H : Hp) (x : V) (xs : List V) (v : Value) (us : List Value) (Q : VK), Inv X pins σ H s → RelV x v → Vals xs us → r x xs H Q →
    wpAny (model X.prog X.w) X.A (call (.builtin id) (v :: us)) (EP X pins σ Q) X.xe s
section
variable {X : Cx} {a b : Expr} {ta tb : TE} {pos : Pos}
theorem IxR.or {r r' : R2} (h : IxR X r) (h' : IxR X r') : IxR X (fun x y H Q => r x y H Q ∨ r' x y H Q) := by
  intro value slice pins s σ H x y v u Q I rx ry q hs
  rcases q with q | q
  · exact h value slice pins s σ H x y v u Q I rx ry q hs
  · exact h' value slice pins s σ H x y v u Q I rx ry q hs
theorem pe_ix {r : R2} (hr : IxR X r) (ha : PE X a ta) (hb : PE X b tb) (hs : PlainIx b) : PE X (.Subscript a b pos) (tOp r ta tb) := by
  intro pins s σ H Q I h
  exact Subscript_ (binT ha hb I h fun v u s2 x y H2 I2 rx ry q => hr a b pins s2 σ H2 x y v u Q I2 rx ry q (hs _ _))

noncomputable def rIxL (K : PySem.W.Frag) : R2 := fun x y H Q => ∃ p xs i v, x = .ref p ∧ y = .int i ∧ SqL K H p xs ∧ atI xs i = some v ∧ Q v H
noncomputable def rIxT (K : PySem.W.Frag) : R2 := fun x y H Q => ∃ p xs i v, x = .ref p ∧ y = .int i ∧ SqT K H p xs ∧ atI xs i = some v ∧ Q v H
noncomputable def rIxS : R2 := fun x y H Q => ∃ z i c, x = .str z ∧ y = .int i ∧ z.length ≤ sizeLine ∧ atI z.cps.toList i = some c ∧ Q (.str ⟨#[c]⟩) H
theorem ix_list : IxR X (rIxL X.K) := by
  intro value slice pins s σ H x y v u Q I rx ry h hs
  obtain ⟨p, xs, i, z, rfl, rfl, hq, he, q⟩ := h
  cases rx
  obtain ⟨t, rfl⟩ := ry
  obtain ⟨its, r, pl, hz⟩ := I.list hq
  obtain ⟨j, h1, h2, h3, h4, h5⟩ := atI_get he
  obtain ⟨w, ew, rw'⟩ := r.get h2
  have hl := r.length
  have hn := line63
  have fin : EP X pins σ Q w s := ⟨z, H, I, rw', q⟩
  by_cases h0 : 0 ≤ i
  · have hj : i.toNat = j := by
      rw [seqIndex_of h0 h5] at h1
      exact Option.some.inj h1
    exact item_listR pl.isList h0 (by walk_at "om") (by rw [hj]; simpa using ew) fin hs
  · have hj : (i + (its.toArray.size : Int)).toNat = j := by
      rw [seqIndex_neg (by walk_at "om") h4] at h1
      rw [List.size_toArray, ← hl]
      exact Option.some.inj h1
    exact subscriptTail_builtinR (x := w) pl.isList.typeIs slot_list_getitem.lookup
      (wpAny_getItem_list_neg (Q := fun r s' => r = w ∧ EP X pins σ Q r s') pl.isList (by walk_at "om") (by rw [List.size_toArray] <;> walk_at "om") (by walk_at "om") (by rw [hj]; simpa using ew) ⟨rfl, fin⟩) hs
theorem ix_tup : IxR X (rIxT X.K) := by
  intro value slice pins s σ H x y v u Q I rx ry h hs
  obtain ⟨p, xs, i, z, rfl, rfl, hq, he, q⟩ := h
  cases rx
  obtain ⟨t, rfl⟩ := ry
  obtain ⟨its, r, pl, hz⟩ := I.tuple hq
  obtain ⟨j, h1, h2, h3, h4, h5⟩ := atI_get he
  obtain ⟨w, ew, rw'⟩ := r.get h2
  have hl := r.length
  have hn := line63
  have fin : EP X pins σ Q w s := ⟨z, H, I, rw', q⟩
  exact subscriptTail_builtinR (x := w) pl.typeIs slot_tuple_getitem.lookup
    (getItem_tuple (j := j) (Q := fun r s' => r = w ∧ EP X pins σ Q r s') pl (by walk_at "om") (by walk_at "om") (by rw [List.size_toArray, ← hl]; exact h1) (by simpa using ew) ⟨rfl, fin⟩) hs
theorem ix_str : IxR X rIxS := by
  intro value slice pins s σ H x y v u Q I rx ry h hs
  obtain ⟨z, i, c, rfl, rfl, hz, he, q⟩ := h
  obtain ⟨t, rfl⟩ := rx
  obtain ⟨t', rfl⟩ := ry
  obtain ⟨j, h1, h2, h3, h4, h5⟩ := atI_get he
  have hl : z.cps.toList.length = z.length := by simp [Str.length]
  rw [hl] at h1 h4 h5
  have hn := line63
  exact tail_any (typeIs_str s z t) slot_str_getitem.lookup (getItem_str (c := c) (by
    have e1 : decide (i < -(2 ^ 63 : Int)) = false := decide_eq_false (by walk_at "om")
    have e2 : decide (i ≥ 2 ^ 63) = false := decide_eq_false (by walk_at "om")
    rw [e1, e2, Bool.or_false]) (by rw [h1]; simpa using h2) ⟨.str ⟨#[c]⟩, H, I.tok _, ⟨_, rfl⟩, q⟩) hs
noncomputable def rIx (K : PySem.W.Frag) : R2 := fun x y H Q => rIxL K x y H Q ∨ rIxT K x y H Q ∨ rIxS x y H Q
theorem ix_seq : IxR X (rIx X.K) := ix_list.or (ix_tup.or ix_str)

theorem slice_bounds (lo hi : Option Int) (n : Nat) : (sliceBounds lo hi none n).1 = ((HT.sIx n 0 lo : Nat) : Int) ∧ (sliceBounds lo hi none n).2.1 = ((HT.sIx n n hi : Nat) : Int) ∧ (sliceBounds lo hi none n).2.2 = 1 := by
  refine ⟨?_, ?_, rfl⟩
  · cases lo with
    | none => simp [sliceBounds, HT.sIx]
    | some i =>
      simp only [sliceBounds, HT.sIx, Option.getD_none, show (1 : Int) > 0 by decide, if_true]
      by_cases h : i < 0
      · simp only [h, if_true] <;> walk_at "om"
      · simp only [h, if_false] <;> walk_at "om"
  · cases hi with
    | none => simp [sliceBounds, HT.sIx]
    | some i =>
      simp only [sliceBounds, HT.sIx, Option.getD_none, show (1 : Int) > 0 by decide, if_true]
      by_cases h : i < 0
      · simp only [h, if_true] <;> walk_at "om"
      · simp only [h, if_false] <;> walk_at "om"
theorem slicePick_cut (its : List Value) (lo hi : Option Int) : slicePick its.toArray lo hi none = ((its.drop (HT.sIx its.length 0 lo)).take (HT.sIx its.length its.length hi - HT.sIx its.length 0 lo)).toArray := by
  obtain ⟨h1, h2, h3⟩ := slice_bounds lo hi its.toArray.size
  unfold slicePick
  rw [h1, h2, h3]
  simp only [sliceRange_one, pick_run, List.size_toArray] <;> rfl
noncomputable def rSlL (K : PySem.W.Frag) : V → Option Int → Option Int → Hp → VK → Prop := fun x lo hi H Q => ∃ a xs, x = .ref a ∧ SqL K H a xs ∧ ∀ p, H p = none → Q (.ref p) (upd H p (.lst (cutV xs lo hi)))
theorem sl_list : SlR X (rSlL X.K) := by
  intro pins s σ H x v vl vu lo hi sl Q I rx hs pl pu h
  obtain ⟨a, xs, rfl, hx, q⟩ := h
  cases rx
  obtain ⟨its, r, ht, hz⟩ := I.list hx
  have hlen := r.length
  refine ⟨"list", _, slot_list_getitem.lookup, ht.isList.typeIs, ?_⟩
  refine wpAny_getItem_list_slice ht.isList hs pl pu .none (by simp) ?_ (by rw [List.size_toArray] <;> walk_at "om")
  rw [slicePick_cut, ← hlen]
  refine ⟨.ref s.heap.objs.size, _, I.laid (t' := s.toks) (o := .lst (cutV xs lo hi)) (fun b ob q => Heap.get?_push_of_some _ q) (Nat.le_refl _) ?_, rfl, q _ (I.hok.fresh (Nat.le_refl _))⟩
  exact ⟨Nat.le_trans (cutV_length xs lo hi) hz, _, 0, (r.drop (HT.sIx xs.length 0 lo)).take (HT.sIx xs.length xs.length hi - HT.sIx xs.length 0 lo), Heap.get?_push_size _ rfl⟩

noncomputable def flatV : V → Bool
  | .non => true
  | .bl _ => true
  | .int _ => true
  | .str _ => true
  | _ => false
noncomputable def eqV : V → V → Bool
  | .non, .non => true
  | .bl a, .bl b => a == b
  | .bl a, .int b => (if a then 1 else 0) == b
  | .int a, .bl b => a == (if b then 1 else 0)
  | .int a, .int b => a == b
  | .str a, .str b => a == b
  | _, _ => false
theorem eqAt_V {A : Around} {s : Shared} {y x : V} {u v : Value} (ry : RelV y u) (rx : RelV x v) (fy : flatV y = true) (fx : flatV x = true) : SeqAt.EqAt A s u v (eqV y x) := by
  cases y with
  | non =>
    cases ry
    cases x with
    | non => cases rx; exact SeqAt.EqAt.same _
    | bl b => cases rx; exact SeqAt.EqAt.none_bool b
    | int b => obtain ⟨t, rfl⟩ := rx; exact SeqAt.EqAt.none_int b t
    | str b => obtain ⟨t, rfl⟩ := rx; exact SeqAt.EqAt.none_str b t
    | _ => exact absurd (show false = true from fx) Bool.false_ne_true
  | bl a =>
    cases ry
    cases x with
    | non => cases rx; exact SeqAt.EqAt.bool_none a
    | bl b => cases rx; exact SeqAt.EqAt.bool_bool a b
    | int b => obtain ⟨t, rfl⟩ := rx; exact SeqAt.EqAt.bool_int a b t
    | str b => obtain ⟨t, rfl⟩ := rx; exact SeqAt.EqAt.bool_str a b t
    | _ => exact absurd (show false = true from fx) Bool.false_ne_true
  | int a =>
    obtain ⟨t', rfl⟩ := ry
    cases x with
    | non => cases rx; exact SeqAt.EqAt.int_none a t'
    | bl b => cases rx; exact SeqAt.EqAt.int_bool a t' b
    | int b => obtain ⟨t, rfl⟩ := rx; exact SeqAt.EqAt.int_int a t' b t
    | str b => obtain ⟨t, rfl⟩ := rx; exact SeqAt.EqAt.int_str a t' b t
    | _ => exact absurd (show false = true from fx) Bool.false_ne_true
  | str a =>
    obtain ⟨t', rfl⟩ := ry
    cases x with
    | non => cases rx; exact SeqAt.EqAt.str_none a t'
    | bl b => cases rx; exact SeqAt.EqAt.str_bool a t' b
    | int b => obtain ⟨t, rfl⟩ := rx; exact SeqAt.EqAt.str_int a t' b t
    | str b => obtain ⟨t, rfl⟩ := rx; exact SeqAt.EqAt.str_str a t' b t
    | _ => exact absurd (show false = true from fx) Bool.false_ne_true
  | _ => exact absurd (show false = true from fy) Bool.false_ne_true
noncomputable def eqU (x : V) (u : Value) : Bool := match u with
  | .none => eqV .non x
  | .bool b => eqV (.bl b) x
  | .int i _ => eqV (.int i) x
  | .str z _ => eqV (.str z) x
  | _ => false
theorem eqU_of {x y : V} {u : Value} (r : RelV y u) (f : flatV y = true) : eqU x u = eqV y x := by
  cases y with
  | non => cases r; rfl
  | bl b => cases r; rfl
  | int i => obtain ⟨t, rfl⟩ := r; rfl
  | str z => obtain ⟨t, rfl⟩ := r; rfl
  | _ => exact absurd (show false = true from f) Bool.false_ne_true
theorem any_eqU {x : V} : ∀ {xs : List V} {us : List Value}, Vals xs us → xs.all flatV = true → us.any (eqU x) = xs.any fun y => eqV y x
  | _, _, .nil, _ => rfl
  | y :: xs, u :: us, .cons r t, f => by
    rw [List.all_cons, Bool.and_eq_true] at f
    rw [List.any_cons, List.any_cons, eqU_of r f.1, any_eqU t f.2]
theorem mem_eqAt {A : Around} {s : Shared} {x : V} {v : Value} (rx : RelV x v) (fx : flatV x = true) : ∀ {xs : List V} {us : List Value}, Vals xs us → xs.all flatV = true → ∀ u ∈ us, SeqAt.EqAt A s u v (eqU x u)
  | _, _, .nil, _ => fun u hu => by cases hu
  | y :: xs, u :: us, .cons r t, f => fun u' hu => by
    rw [List.all_cons, Bool.and_eq_true] at f
    rcases List.mem_cons.mp hu with rfl | hu
    · rw [eqU_of r f.1]; exact eqAt_V r rx f.1 fx
    · exact mem_eqAt rx fx t f.2 u' hu
noncomputable def inV (x : V) (xs : List V) : Bool := xs.any fun y => eqV y x
noncomputable def rIn (K : PySem.W.Frag) (neg : Bool) : R2 := fun x y H Q => ∃ p xs, y = .ref p ∧ (SqL K H p xs ∨ SqT K H p xs) ∧ flatV x = true ∧ xs.all flatV = true ∧ Q (.bl (if neg then !inV x xs else inV x xs)) H
theorem op_notIn_seq : OpR X (compareOp .NotIn) (rIn X.K true) := by
  intro pins s σ H x y v u Q I rx ry h
  obtain ⟨p, xs, rfl, hq, fx, fs, q⟩ := h
  cases ry
  rcases hq with hq | hq
  · obtain ⟨its, r, pl, hz⟩ := I.list hq
    refine SeqAt.notIn_listAt (eqU x) pl.isList (fun w hw => mem_eqAt rx fx r fs w (by simpa using hw)) ⟨.bl _, H, I, rfl, ?_⟩
    rw [show its.toArray.any (eqU x) = its.any (eqU x) by simp, any_eqU r fs]
    exact q
  · obtain ⟨its, r, pl, hz⟩ := I.tuple hq
    refine SeqAt.notIn_tupleAt (eqU x) pl (fun w hw => mem_eqAt rx fx r fs w (by simpa using hw)) ⟨.bl _, H, I, rfl, ?_⟩
    rw [show its.toArray.any (eqU x) = its.any (eqU x) by simp, any_eqU r fs]
    exact q
theorem call_list_of : CallR X (.type "list") (fun xs H Q => ∃ p ys, xs = [.ref p] ∧ (SqL X.K H p ys ∨ SqT X.K H p ys) ∧ ∀ l, H l = none → Q (.ref l) (upd H l (.lst ys))) := by
  intro pins s σ H xs us Q I r h
  obtain ⟨p, ys, rfl, hq, q⟩ := h
  obtain ⟨u, rfl, rx⟩ := vals1 r
  cases rx
  have fin : ∀ (its : List Value), Vals ys its → ys.length ≤ sizeLine → ∀ (h' : Heap) (c' : Nat), (∀ b o', s.heap.get? b = some o' → h'.get? b = some o') →
      h'.get? s.heap.objs.size = some { cls := .type "list", dict := none, data := .seq its.toArray c', slots := #[] } → EP X pins σ Q (.ref s.heap.objs.size) { s with heap := h' } := fun its r' hz h' c' kp e =>
    ⟨.ref s.heap.objs.size, _, I.laid (t' := s.toks) kp (Nat.le_refl _) (show ObjOk X.prog X.w _ h' _ (.lst ys) from ⟨hz, its, c', r', e⟩), rfl, q _ (I.hok.fresh (Nat.le_refl _))⟩
  rcases hq with hq | hq
  · obtain ⟨its, r', pl, hz⟩ := I.list hq
    have hlen := r'.length
    obtain ⟨o, ho, hc, n, hd⟩ := pl.isList
    exact call_list_seq p (.inl rfl) ho hc hd (fun h' c' kp e => fin its r' hz h' c' kp e) (by simp only [List.size_toArray] <;> walk_at "om")
  · obtain ⟨its, r', pl, hz⟩ := I.tuple hq
    have hlen := r'.length
    obtain ⟨o, ho, hc, n, hd⟩ := pl
    exact call_list_seq p (.inr rfl) ho hc hd (fun h' c' kp e => fin its r' hz h' c' kp e) (by simp only [List.size_toArray] <;> walk_at "om")
theorem call_tuple_of : CallR X (.type "tuple") (fun xs H Q => ∃ p ys, xs = [.ref p] ∧ ((SqL X.K H p ys ∧ ∀ l, H l = none → Q (.ref l) (upd H l (.tup ys))) ∨ (SqT X.K H p ys ∧ Q (.ref p) H))) := by
  intro pins s σ H xs us Q I r h
  obtain ⟨p, ys, rfl, h⟩ := h
  obtain ⟨u, rfl, rx⟩ := vals1 r
  cases rx
  rcases h with ⟨hq, q⟩ | ⟨hq, q⟩
  · obtain ⟨its, r', pl, hz⟩ := I.list hq
    have hlen := r'.length
    refine call_tuple_list pl.isList (fun h' kp => ?_) (by simp only [List.size_toArray] <;> walk_at "om")
    have I1 : Inv X pins σ H { s with heap := h' } := I.kept (t' := s.toks) kp
    have I2 : Inv X pins σ (upd H h'.objs.size (.tup ys)) { s with heap := h'.push { cls := .type "tuple", data := .seq its.toArray } } :=
      I1.laid (t' := s.toks) (fun b o e => Heap.get?_push_of_some _ e) (Nat.le_refl _) (show ObjOk X.prog X.w _ _ _ (.tup ys) from ⟨hz, its, r', PTup.new _ _⟩)
    exact ⟨.ref h'.objs.size, _, I2, rfl, q _ (I1.hok.fresh (Nat.le_refl _))⟩
  · obtain ⟨its, r', pl, hz⟩ := I.tuple hq
    exact call_tuple_same pl ⟨.ref p, H, I, rfl, q⟩

noncomputable def tyV (K : PySem.W.Frag) (T : String) (x : V) (H : Hp) : Prop := match x with
  | .str _ => T = "str"
  | .int _ => T = "int"
  | .ref p => (T = "list" ∧ ∃ xs, SqL K H p xs) ∨ (T = "tuple" ∧ ∃ o, K.lookup p = some o ∧ o.cls = .type "tuple" ∧ o.dict = none) ∨
      (T = "dict" ∧ ((∃ kvs, H p = some (.dK kvs)) ∨ ∃ kvs, H p = some (.dT kvs))) ∨ (T = "set" ∧ ∃ S n, H p = some (.set S n)) ∨ (T = "tuple" ∧ ∃ xs, H p = some (.tup xs))
  | _ => False
theorem tyV_is {pins : List (Addr × Obj)} {σ : St} {H : Hp} {s : Shared} {T : String} {x : V} {v : Value} (I : Inv X pins σ H s) (r : RelV x v) (ty : tyV X.K T x H) :
    s.TypeIs v T ∧ ∀ a, v = .ref a → ∃ ob, s.heap.get? a = some ob ∧ ob.dict = none := by
  cases x with
  | str z =>
    obtain ⟨t, rfl⟩ := r
    cases (show T = "str" from ty)
    exact ⟨typeIs_str s z t, fun _ e => nomatch e⟩
  | int i =>
    obtain ⟨t, rfl⟩ := r
    cases (show T = "int" from ty)
    exact ⟨typeIs_int s i t, fun _ e => nomatch e⟩
  | ref p =>
    cases r
    rcases ty with ⟨rfl, xs, hq⟩ | ⟨rfl, o, hk, hc, hd⟩ | ⟨rfl, hk⟩ | ⟨rfl, S, n, hk⟩ | ⟨rfl, xs, hk⟩
    rotate_left 4
    · obtain ⟨_, its, _, o, e, c, _, hd⟩ := I.hok p _ hk
      exact ⟨⟨o, e, c⟩, fun a e2 => by cases e2; exact ⟨o, e, hd⟩⟩
    · obtain ⟨its, _, pl, _⟩ := I.list hq
      refine ⟨pl.isList.typeIs, fun a e => ?_⟩
      cases e
      obtain ⟨o, n, e, c, hd, _⟩ := pl
      exact ⟨o, e, hd⟩
    · refine ⟨⟨o, I.kIn p o hk, hc⟩, fun a e => ?_⟩
      cases e
      exact ⟨o, I.kIn _ o hk, hd⟩
    · have z : ∃ o, s.heap.get? p = some o ∧ o.ExactDict := by
        rcases hk with ⟨kvs, hk⟩ | ⟨kvs, hk⟩
        · obtain ⟨_, _, _, _, o, _, _, e, ex, _⟩ := I.hok p _ hk
          exact ⟨o, e, ex⟩
        · obtain ⟨_, _, _, _, o, _, _, e, ex, _⟩ := I.hok p _ hk
          exact ⟨o, e, ex⟩
      obtain ⟨o, e, ex⟩ := z
      refine ⟨⟨o, e, ex.1⟩, fun a e2 => ?_⟩
      cases e2
      exact ⟨o, e, ex.2.1⟩
    · obtain ⟨o, _, _, _, e, ex, _⟩ := I.hok p _ hk
      refine ⟨⟨o, e, ex.1⟩, fun a e2 => ?_⟩
      cases e2
      exact ⟨o, e, ex.2.1⟩
  | _ => exact False.elim ty
noncomputable def tBM0 (K : PySem.W.Frag) (T : String) (r : V → List V → Hp → VK → Prop) (to : TE) : TE := fun σ H Q => to σ H fun x H1 => tyV K T x H1 ∧ r x [] H1 Q
noncomputable def tBM (K : PySem.W.Frag) (T : String) (r : V → List V → Hp → VK → Prop) (to : TE) (t : TA) : TE := fun σ H Q => to σ H fun x H1 => tyV K T x H1 ∧ t σ H1 fun xs H2 => r x xs H2 Q
variable {o e : Expr} {es : List Expr} {to : TE} {t : TA} {name : Str} {apos cpos : Pos} {T id : String} {r : V → List V → Hp → VK → Prop}
theorem pe_bm0 (pa : PlainAttrs T) (slot : Slot T name id) (hty : typeOf (.builtin id) = pure (.type "method_descriptor")) (hm : MtR X id r) (ho : PE X o to)
    (hbase : attributeBase o name X.env (eval o X.env) = eval o X.env := by rfl) (hline : (apos.endLine == cpos.line) = true := by rfl) : PE X (.Call (.Attribute o name apos) [] [] cpos) (tBM0 X.K T r to) := by
  intro pins s σ H Q I h
  refine wpAny_Call_method0_late hbase hline (thn (ho pins s σ H _ I h) fun v s1 ⟨x, H1, I1, r1, ty, q1⟩ => ?_)
  obtain ⟨h1, h2⟩ := tyV_is I1 r1 ty
  exact ⟨T, id, pa, slot, hty, h1, h2, Calls.callWith_builtin rfl (PySem.evalArgs_none (hm pins s1 σ H1 x [] v [] Q I1 r1 .nil q1))⟩
theorem pe_bm (pa : PlainAttrs T) (slot : Slot T name id) (hty : typeOf (.builtin id) = pure (.type "method_descriptor")) (hm : MtR X id r) (ho : PE X o to) (ha : PA X (e :: es) t)
    (hbase : attributeBase o name X.env (eval o X.env) = eval o X.env := by rfl)
    (hfew : ((backTo cpos (starEach (e :: es) X.env)).all (fun x => !x.1) && (backToKw cpos (keywordEach [] X.env)).all (fun x => x.1.isSome)
      && decide ((e :: es).length + ([] : List Keyword).length + (if ([] : List Keyword).isEmpty then 0 else 1) < 30)) = true := by rfl)
    (hline : (apos.endLine == cpos.line) = true := by rfl) (hs : starEach (e :: es) X.env = (false, eval e X.env) :: starEach es X.env := by rfl) (hplain : (backTo cpos (starEach es X.env)).any (·.1) = false := by rfl) :
    PE X (.Call (.Attribute o name apos) (e :: es) [] cpos) (tBM X.K T r to t) := by
  intro pins s σ H Q I h
  refine wpAny_Call_method_late hbase hfew hline rfl (thn (ho pins s σ H _ I h) fun v s1 ⟨x, H1, I1, r1, ty, q1⟩ => ?_)
  obtain ⟨h1, h2⟩ := tyV_is I1 r1 ty
  refine ⟨T, id, pa, slot, hty, h1, h2, ?_⟩
  have hA := ha cpos pins s1 σ H1 _ I1 q1
  rw [hs] at hA ⊢
  refine Calls.callWith_builtin (by show (false || (backTo cpos (starEach es X.env)).any (·.1)) = false; rw [hplain] <;> rfl) (Calls.evalArgs_plain ?_)
  exact thn hA fun us s2 ⟨vs, H2, I2, r2, q2⟩ => hm pins s2 σ H2 x vs v us Q I2 r1 r2 q2
/- xs.append(e), list.index on a module's tuple .. are MtR facts of 06m -/
end
end L2

namespace L2
open PySem PySem.Spec PyProof.Rows

noncomputable def MtM (X : Cx) (id : String) (r : V → List V → Hp → VK → Prop) : Prop :=
  ∀ (pins : List (Addr × Obj)) (s : Shared) (σ : St) (H : Hp) (x : V) (xs : List V) (v : Value) (us : List Value) (Q : VK), Inv X pins σ H s → RelV x v → Vals xs us → r x xs H Q →
    wpAny (model X.prog X.w) X.A (call (.builtin id) (v :: us)) (EP X pins σ Q) X.xe s

theorem Vals.one : ∀ {x : V} {us : List Value}, Vals [x] us → ∃ u, us = [u] ∧ RelV x u
  | _, _, .cons r .nil => ⟨_, rfl, r⟩
theorem Vals.zero : ∀ {us : List Value}, Vals [] us → us = []
  | _, .nil => rfl
theorem Vals.dropLast {xs : List V} {us : List Value} (h : Vals xs us) : Vals xs.dropLast us.dropLast := by
  induction h with
  | nil => exact .nil
  | cons r t ih =>
    cases t with
    | nil => exact .nil
    | cons q t' => exact .cons r ih
theorem Vals.rep {xs : List V} {us : List Value} (h : Vals xs us) : ∀ k : Nat, Vals (List.replicate k xs).flatten (List.replicate k us).flatten
  | 0 => .nil
  | k + 1 => by
    rw [List.replicate_succ, List.replicate_succ, List.flatten_cons, List.flatten_cons]
    exact Vals.append h (Vals.rep h k)
theorem erase_last {α : Type} (l : List α) : l.eraseIdx (l.length - 1) = l.dropLast := by
  induction l with
  | nil => rfl
  | cons a r ih =>
    cases r with
    | nil => rfl
    | cons b r =>
      have e : (a :: b :: r).length - 1 = ((b :: r).length - 1) + 1 := by
        have h1 : (a :: b :: r).length = r.length + 2 := rfl
        have h2 : (b :: r).length = r.length + 1 := rfl
        walk_at "om"
      rw [e, List.eraseIdx_cons_succ, ih]
      all_goals rfl
theorem foldl_rep (its : List Value) : ∀ (k : Nat) (acc : List Value),
    List.foldl (fun x1 x2 => x1 ++ x2) acc.toArray (List.replicate k its.toArray) = (acc ++ (List.replicate k its).flatten).toArray
  | 0, acc => by simp
  | k + 1, acc => by
    have e : acc.toArray ++ its.toArray = (acc ++ its).toArray := by simp
    have e2 : (acc ++ its) ++ (List.replicate k its).flatten = acc ++ (List.replicate (k + 1) its).flatten := by
      rw [List.replicate_succ, List.flatten_cons, List.append_assoc]
    rw [← e2, ← foldl_rep its k (acc ++ its), ← e, List.replicate_succ, List.foldl_cons]

section
variable {X : Cx} {pins : List (Addr × Obj)} {σ : St} {H : Hp} {s : Shared} {l b : Addr} {xs ys zs : List V}

theorem Inv.lset {its its' : List Value} {n : Nat} {f : Array Value → Array Value} {t' : Nat} (I : Inv X pins σ H s) (hH : H l = some (.lst xs))
    (e : s.heap.get? l = some { cls := .type "list", data := .seq its.toArray n }) (hf : f its.toArray = its'.toArray) (hv : Vals ys its') (hz : ys.length ≤ sizeLine) :
    Inv X pins σ (upd H l (.lst ys)) { s with heap := s.heap.update l (Obj.mapSeq f), toks := t' } := by
  have q := PySem.IsL.update e f
  rw [hf] at q
  refine I.write (x := l) (e := l) (by rw [hH]; exact trivial) (.inl rfl) (fun b' u hb hu => (Heap.get?_update_other s.heap (Obj.mapSeq f) (Ne.symm hb)).trans hu) ⟨_, q⟩ ?_
  exact ⟨hz, its', _, hv, q⟩
theorem Inv.lnew {its : List Value} {t' : Nat} (I : Inv X pins σ H s) (hv : Vals ys its) (hz : ys.length ≤ sizeLine) :
    Inv X pins σ (upd H s.heap.objs.size (.lst ys)) { s with heap := s.heap.push { cls := .type "list", data := .seq its.toArray }, toks := t' } :=
  I.laid (fun _ _ q => Heap.get?_push_of_some _ q) (Nat.le_refl _) ⟨hz, its, 0, hv, Heap.get?_push_size _ rfl⟩
theorem Inv.fresh (I : Inv X pins σ H s) : H s.heap.objs.size = none := I.hok.fresh (Nat.le_refl _)
theorem Inv.lstM (I : Inv X pins σ H s) (hH : H l = some (.lst xs)) : xs.length ≤ sizeLine ∧ ∃ (its : List Value) (n : Nat), Vals xs its ∧ xs.length = its.length ∧ s.heap.get? l = some { cls := .type "list", data := .seq its.toArray n } := by
  obtain ⟨z, its, n, r, e⟩ := I.hok l _ hH
  exact ⟨z, its, n, r, r.length, e⟩

theorem notLongL {n : Nat} (h : n ≤ sizeLine) : Builtin.List.listTooLong n = false := by
  unfold Builtin.List.listTooLong
  exact decide_eq_false (by walk_at "om")
end

section
variable {X : Cx}

noncomputable def rAppend : V → List V → Hp → VK → Prop := fun x vs H Q => ∃ l xs y, x = .ref l ∧ vs = [y] ∧ H l = some (.lst xs) ∧ xs.length < sizeLine ∧ Q .non (upd H l (.lst (xs ++ [y])))
theorem mt_append : MtM X "list.append" rAppend := by
  intro pins s σ H x vs v us Q I rx rv h
  obtain ⟨l, xs, y, rfl, rfl, hH, hz, q⟩ := h
  cases rx
  obtain ⟨u, rfl, ru⟩ := rv.one
  obtain ⟨z, its, n, r, hl, e⟩ := I.lstM hH
  refine call_meets F.slot_list_append ⟨_, e, rfl⟩ F.entry_list_append (F.args_list_append_2 _ _) (PySem.list_append l its.toArray n u (by rw [List.size_toArray]; walk_at "om")) ⟨e, ?_⟩
  refine ⟨.non, _, I.lset (its' := its ++ [u]) hH e (by simp) (r.append (.cons ru .nil)) ?_, rfl, q⟩
  rw [List.length_append, List.length_singleton]
  walk_at "om"

noncomputable def rExtend : V → List V → Hp → VK → Prop := fun x vs H Q => ∃ l b xs zs, x = .ref l ∧ vs = [.ref b] ∧ H l = some (.lst xs) ∧ H b = some (.lst zs) ∧ xs.length + zs.length ≤ sizeLine ∧ Q .non (upd H l (.lst (xs ++ zs)))
theorem mt_extend : MtM X "list.extend" rExtend := by
  intro pins s σ H x vs v us Q I rx rv h
  obtain ⟨l, b, xs, zs, rfl, rfl, hH, hB, hz, q⟩ := h
  cases rx
  obtain ⟨u, rfl, ru⟩ := rv.one
  cases ru
  obtain ⟨z, its, n, r, hl, e⟩ := I.lstM hH
  obtain ⟨z2, its2, n2, r2, hl2, e2⟩ := I.lstM hB
  have hsz : its.toArray.size + its2.toArray.size ≤ sizeLine := by rw [List.size_toArray, List.size_toArray]; walk_at "om"
  have hlong : ¬ (!its.toArray.isEmpty && Builtin.List.listTooLong (its.toArray.size + its2.toArray.size)) = true := by
    rw [notLongL hsz, Bool.and_false]
    exact Bool.false_ne_true
  refine call_meets F.slot_list_extend ⟨_, e, rfl⟩ F.entry_list_extend (F.args_list_extend_2 _ _)
    (AutoSeq1.list_extend_list_list_0 l its.toArray n b its2.toArray n2 hlong (by rw [List.size_toArray]; walk_at "om") (by walk_at "om")) ⟨e, e2, ?_⟩
  refine ⟨.non, _, I.lset (its' := its ++ its2) hH e (by simp) (r.append r2) ?_, rfl, q⟩
  rw [List.length_append]
  walk_at "om"

noncomputable def rPop : V → List V → Hp → VK → Prop := fun x vs H Q => ∃ l xs y, x = .ref l ∧ vs = [] ∧ H l = some (.lst xs) ∧ xs[xs.length - 1]? = some y ∧ Q y (upd H l (.lst xs.dropLast))
theorem mt_pop : MtM X "list.pop" rPop := by
  intro pins s σ H x vs v us Q I rx rv h
  obtain ⟨l, xs, y, rfl, rfl, hH, hy, q⟩ := h
  cases rx
  have hus := rv.zero
  subst hus
  obtain ⟨z, its, n, r, hl, e⟩ := I.lstM hH
  obtain ⟨u, hu, ru⟩ := r.get hy
  have hy' : its.toArray[its.toArray.size - 1]? = some u := by
    show its.toArray[its.length - 1]? = some u
    rw [← Array.getElem?_toList, ← hl]
    exact hu
  refine call_meets F.slot_list_pop ⟨_, e, rfl⟩ F.entry_list_pop (F.args_list_pop_1 _) (MeetsSeq.list_pop_last l its.toArray n u hy' (by rw [List.size_toArray]; walk_at "om")) ⟨e, ?_⟩
  refine ⟨y, _, I.lset (its' := its.dropLast) hH e ?_ r.dropLast ?_, ru, q⟩
  · show its.toArray.eraseIdxIfInBounds (its.toArray.size - 1) = its.dropLast.toArray
    rw [List.size_toArray, List.eraseIdxIfInBounds_toArray, erase_last]
  · rw [List.length_dropLast]
    walk_at "om"

noncomputable def rCat : R2 := fun x y H Q => ∃ l b xs zs, x = .ref l ∧ y = .ref b ∧ H l = some (.lst xs) ∧ H b = some (.lst zs) ∧ xs.length + zs.length ≤ sizeLine ∧ ∀ p, H p = none → Q (.ref p) (upd H p (.lst (xs ++ zs)))
theorem op_cat : OpR X (binaryOp .Add) rCat := by
  intro pins s σ H x y v u Q I rx ry h
  obtain ⟨l, b, xs, zs, rfl, rfl, hH, hB, hz, q⟩ := h
  cases rx
  cases ry
  obtain ⟨z, its, n, r, hl, e⟩ := I.lstM hH
  obtain ⟨z2, its2, n2, r2, hl2, e2⟩ := I.lstM hB
  refine PySem.P.add_list e e2 ?_ (by rw [List.size_toArray, List.size_toArray]; walk_at "om")
  have ea : its.toArray ++ its2.toArray = (its ++ its2).toArray := by simp
  rw [ea]
  exact ⟨.ref _, _, I.lnew (t' := s.toks) (r.append r2) (by rw [List.length_append]; walk_at "om"), rfl, q _ I.fresh⟩
theorem len_rep {α : Type} (xs : List α) (k : Nat) : (List.replicate k xs).flatten.length = k * xs.length := by
  induction k with
  | zero => simp
  | succ k ih => rw [List.replicate_succ, List.flatten_cons, List.length_append, ih, Nat.succ_mul, Nat.add_comm]
end

section
variable {prog : Program} {w : World} {A : Around} {E : Value → Shared → Prop} {s : Shared}
set_option maxRecDepth 100000 in
end

section
variable {X : Cx}
end
end L2

namespace Att
open PySem PySem.W PySem.Calls PyProof.Rows

theorem ints_of_wellAll {P : Params} {h : Heap} : ∀ (ns : List Int) (vs : List Value), WellAll P h vs (ns.map WData.int) → IntsAre vs ns := by
  intro ns
  induction ns with
  | nil =>
    intro vs w
    rw [List.map_nil] at w
    cases w
    exact .nil
  | cons n ns ih =>
    intro vs w
    rw [List.map_cons] at w
    cases w with
    | cons a b =>
      cases a
      exact .cons _ _ (ih _ b)

theorem script_of {l : OpenLaw} {n : Nat} (hn : l.most = some n) {P : Params} {h : Heap} {args : List WData} {vals : List Value}
    (hpre : l.row.toRowW.claim.pre args = true) (hwl : WellAll P h vals args) :
    ∃ a vs ns, vals = [Value.ref a] ∧ args = [WData.list (ns.map WData.int)] ∧ h.get? a = some { cls := .type "list", data := .seq vs.toArray } ∧ IntsAre vs ns ∧ ns.length ≤ n := by
  have hsh : WShape.hasAll [] args [.list .int] = true := (pre_splitW hpre).1
  have hc : l.pre.holds [] { args := args } = true := (pre_splitW hpre).2
  obtain ⟨d, r, rfl, h1, h2⟩ := hasAllW_cons hsh
  obtain rfl := hasAllW_nil h2
  obtain ⟨xs, rfl, h3⟩ := hasW_list h1
  obtain ⟨ns, rfl⟩ := items_int h3
  have hlen : ns.length ≤ n := by
    unfold OpenLaw.pre at hc
    have h4 : (WTm.not (.lt (.lit (.int (n : Int))) (.len (.arg 0)))).holds [] { args := [.list (ns.map .int)] } = true := by
      have h4 := (holds_andW hc).1
      rw [hn] at h4
      exact h4
    have h5 := condW_of h4 (w_not (w_lt w_lit (w_len_list (w_arg rfl))))
    rw [List.length_map] at h5
    refine Nat.le_of_not_lt fun q => ?_
    have q' : (n : Int) < ((ns.length : Nat) : Int) := by walk_at "om"
    first
      | (rw [decide_eq_true q'] at h5; exact absurd h5 (by decide))
      | (simp at h5; walk_at "om")
  cases hwl with
  | cons w1 w2 =>
    cases w2
    cases w1 with
    | list ho hall => exact ⟨_, _, ns, rfl, rfl, ho, ints_of_wellAll ns _ hall, hlen⟩

theorem post_true (l : OpenLaw) (args : List WData) : l.row.toRowW.claim.post args (.bool true) args = true :=
  postW_of (r := l.row.toRowW) (X := (true == true))
    (show WShape.has [] (.bool true) .bool = true by first | rfl | decide | simp [WShape.has, WShape.arms, WShape.armsAll])
    (show (WTm.eq .res (.lit (.bool true))).value [] { args := args, res := some (.bool true), after := args } = some (.bool (true == true)) from w_eq_bool (w_res rfl) w_lit) rfl

theorem attach_call {l : OpenLaw} {n : Nat} {q : Program} {loose : List Str} {XP : (Str → Option Value) → Heap → Prop} {YP : World → Heap → Prop} {d : DefRec}
    (hn : l.most = some n) (hdf : d.params.defaults = [])
    (call : ∀ (w : World) (s₀ s₁ : Shared) (mg mb : Str → Option Value) (fa : Addr) (o : Obj) (pm cd doc : Value) (a : Addr) (vs : List Value) (ns : List Int),
      Ground q loose [] XP w s₀ mg mb s₁.heap → YP w s₁.heap →
      s₁.heap.get? fa = some o → o.data = .func (docDef d.name d.params d.body d.scope pm cd doc) → s₁.heap.CodeRec cd d.name → mg d.name = some (.ref fa) →
      s₁.heap.get? a = some { cls := .type "list", data := .seq vs.toArray } → IntsAre vs ns → ns.length ≤ n → s₁.gens = #[] →
      codeAny (model l.prog w) callerA (.call (.ref fa) ⟨[.ref a], []⟩) (fun r s' => r = .ok (.ret (.bool true)) ∧ OldK s₁.heap s'.heap ∧ s'.os = s₁.os ∧ AllBare s'.gens) s₁) :
    WalkO q loose XP YP l.row.toRowW d [] (fun f vs => PySem.call f vs) := by
  intro w s₀ s₁ mg mb G Y fa o pm cd doc dV kV ho hd hcd hD hmg hg args vals as hpre hlay hrd hwl hlo
  obtain rfl : dV = .none := Dflts.none hD hdf
  obtain rfl : kV = .none := Dflts.noKw hD
  obtain ⟨a, vs, ns, rfl, rfl, hobj, hints, hlen⟩ := script_of hn hpre hwl
  refine enter_call (codeAny_mono (call w s₀ s₁ mg mb fa o pm cd doc a vs ns G Y ho (fd_plain hd) hcd hmg hobj hints hlen hg) fun r s' hq => ?_)
  obtain ⟨rfl, h2, h3, h4⟩ := hq
  exact ⟨.inl ⟨.bool true, .bool true, [], rfl, fun _ => rfl, .bool true, post_true l _, fun _ => ⟨List.Pairwise.nil, fun _ hm => (nomatch hm)⟩⟩, h2, h3, h4⟩

section
variable {prog : Program} {w : World} {A : Around} {E : Value → Shared → Prop} {s : Shared} {K : Frag}

end
end Att

namespace L2
open PySem PySem.Spec PyProof.Rows

theorem vals_ints : ∀ {vs : List Value} {ns : List Int}, IntsAre vs ns → Vals (ns.map V.int) vs
  | _, _, .nil => .nil
  | _, _, .cons n t h => .cons ⟨t, rfl⟩ (vals_ints h)

noncomputable def Only (H : Hp) : Prop := ∀ b, H b = none ∨ ∃ o xs, H b = some (.frz o (.lst xs))

theorem law_call {P : Program} {w : World} {K : PySem.W.Frag} {mg mb : Str → Option Value} {CX : CXT} {k : Nat} {fa a : Addr} {fd : FuncData} {x : Str} {sp : Sp} {s₁ : Shared} {vs : List Value} {ns : List Int}
    (KX : K.In s₁.heap) (hns : s₁.heap.Ns mainGlobals mg) (hb : s₁.heap.Ns builtinsNs mb) (hbb : ∀ x : Str, x ≠ "__name__" → mb x = bootBuiltins x) (hlim : s₁.heap.NoLimit) (hg : s₁.gens = #[])
    (ha : s₁.heap.get? a = some { cls := .type "list", data := .seq vs.toArray }) (hi : IntsAre vs ns) (hl : ns.length ≤ sizeLine) (hr : Room k callerA)
    (F : ∀ base : Heap, K.In base → base.Ns mainGlobals mg → FnOk P w K mg base CX k fa fd [x] sp) (hbind : ∀ (s : Shared) (u : Value), BindsTo s fd ⟨[u], []⟩ [(x, u)])
    (hsp : ∀ H : Hp, Only H → SqL K H a (ns.map V.int) → sp [.ref a] H (fun v _ => v = .bl true) fun _ _ _ => False)
    (hCX : ∀ H e s', CX [] H s₁ (fun _ _ _ => False) e s' → False) :
    codeAny (model P w) callerA (.call (.ref fa) ⟨[.ref a], []⟩) (fun r s' => r = .ok (.ret (.bool true)) ∧ OldK s₁.heap s'.heap ∧ s'.os = s₁.os ∧ AllBare s'.gens) s₁ := by
  have rv := vals_ints hi
  have lenV := hi.length
  -- from an abstract heap in which nothing but the script may be tracked
  have core : ∀ H : Hp, Only H → SqL K H a (ns.map V.int) → HOk P w H s₁.heap → (∀ b, H b ≠ none → b = a) → (H a ≠ none → K.lookup a = none) →
      codeAny (model P w) callerA (.call (.ref fa) ⟨[.ref a], []⟩) (fun r s' => r = .ok (.ret (.bool true)) ∧ OldK s₁.heap s'.heap ∧ s'.os = s₁.os ∧ AllBare s'.gens) s₁ := by
    intro H hO hS hok hA hK
    have base_of : ∀ {b : Addr} {o : Obj}, s₁.heap.get? b = some o → H b = none → (hidT s₁.heap H).get? b = some o := fun e n => hidT_get e n
    have noA : ∀ {b : Addr} {o : Obj} {es : Array DictEntry} {ep : Nat}, s₁.heap.get? b = some o → o.data = .dict es ep → H b = none := fun {b o es ep} e d => by
      cases q : H b with
      | none => rfl
      | some u =>
        have e' : b = a := hA b (by rw [q]; simp)
        subst e'
        rw [ha] at e; cases e
        have d' : Data.seq vs.toArray _ = Data.dict es ep := d
        cases d'
    have nsK : ∀ {b : Addr} {m : Str → Option Value}, s₁.heap.Ns b m → (hidT s₁.heap H).Ns b m := fun {b m} ⟨o, es, ep, e, d, r⟩ => ⟨o, es, ep, base_of e (noA e d), d, r⟩
    have hKb : K.In (hidT s₁.heap H) := fun b o e => base_of (KX b o e) (by
      cases q : H b with
      | none => rfl
      | some u =>
        have e' : b = a := hA b (by rw [q]; simp)
        subst e'
        rw [hK (by rw [q]; simp)] at e; cases e)
    have hM : Mod K mg (hidT s₁.heap H) := ⟨hKb, nsK hns, ⟨mb, nsK hb, hbb⟩, let ⟨mc, h1, h2⟩ := hlim; ⟨mc, nsK h1, h2⟩⟩
    have e0 : Env0 P w K mg (hidT s₁.heap H) callerA [] s₁ H := ⟨rfl, hM, fun b o e => of_hidT e, Nat.le_of_eq (hidT_size _ _), trivial, fun b hb => absurd (show b ∈ ([] : List Addr) from hb) (by simp), hok, .of_eq hg⟩
    refine codeAny_mono ((F _ hKb (nsK hns)).run callerA [] s₁ H ⟨[.ref a], []⟩ [.ref a] [.ref a] _ _ hr e0 (hbind s₁ (.ref a)) (.cons rfl .nil) (hsp H hO hS)) fun r s' h => ?_
    cases r with
    | error e => exact (hCX H e s' h).elim
    | ok fl =>
      cases fl with
      | next => exact False.elim h
      | brk => exact False.elim h
      | cont => exact False.elim h
      | ret u =>
        obtain ⟨v, H', os, bare, un, hok', r', q⟩ := h
        have q' : v = .bl true := q
        subst q'
        obtain rfl : u = Value.bool true := r'
        refine ⟨rfl, OldK.of_keep fun b o e => ?_, os, bare⟩
        cases q : H b with
        | none => exact un.keep b o e q (by intro z; exact absurd (show b ∈ ([] : List Addr) from z) (by simp)) (by simp)
        | some u =>
          rcases hO b with z | ⟨ob, xs, z⟩
          · rw [q] at z; cases z
          · have z2 := un.frzs b ob _ z
            obtain ⟨e1, _⟩ := hok b _ z
            obtain ⟨e2, _⟩ := hok' b _ z2
            rw [e] at e1; cases e1
            exact e2
  cases hk : K.lookup a with
  | some o =>
    -- the script is one of the module's own objects
    have e := KX a o hk
    rw [ha] at e
    cases e
    refine core (fun _ => none) (fun _ => .inl rfl) (.inr ⟨_, vs.toArray, _, hk, rfl, rfl, rfl, by rw [List.size_toArray, lenV]; exact hl, by simpa using rv⟩) (fun b u z => by have z' : (none : Option HO) = some u := z; cases z') (fun b z => absurd rfl z) fun z => absurd rfl z
  | none =>
    refine core (fun b => if b = a then some (.frz { cls := .type "list", data := .seq vs.toArray } (.lst (ns.map V.int))) else none) (fun b => ?_) (.inl (.inr ⟨{ cls := .type "list", data := .seq vs.toArray }, if_pos rfl⟩)) (fun b u z => ?_) (fun b z => ?_) fun _ => hk
    · by_cases hb : b = a
      · exact .inr ⟨_, _, if_pos hb⟩
      · exact .inl (if_neg hb)
    · by_cases hb : b = a
      · have z' := (if_pos hb).symm.trans z
        cases z'
        subst hb
        exact ⟨ha, by rw [List.length_map]; exact hl, vs, _, rv, ha⟩
      · have z' := (if_neg hb).symm.trans z
        cases z'
    · by_cases hb : b = a
      · exact hb
      · exact absurd (if_neg hb) z
end L2

namespace L2
open PySem PySem.Spec PyProof.Rows

theorem walk_of {l : PySem.W.OpenLaw} {n k : Nat} {q : Program} {loose : List Str} {XP : (Str → Option Value) → Heap → Prop} {YP : World → Heap → Prop} {d : DefRec} {K : Params → PySem.W.Frag} {CX : World → CXT} {sp : World → Sp} {x : Str}
    (hn : l.most = some n) (hn2 : n ≤ sizeLine) (hdf : d.params.defaults = []) (hr : Room k callerA)
    (hY : ∀ (w : World) (h : Heap), YP w h → (K w.params).In h)
    (F : ∀ (w : World) (mg : Str → Option Value) (fa : Addr) (h : Heap), (K w.params).In h → h.Ns mainGlobals mg → mg d.name = some (.ref fa) →
      ∃ fd : FuncData, (∀ (s : Shared) (u : Value), BindsTo s fd ⟨[u], []⟩ [(x, u)]) ∧
        ∀ base : Heap, (K w.params).In base → base.Ns mainGlobals mg → FnOk l.prog w (K w.params) mg base (CX w) k fa fd [x] (sp w))
    (hsp : ∀ (w : World) (H : Hp) (a : Addr) (ns : List Int), ns.length ≤ n → Only H → SqL (K w.params) H a (ns.map V.int) → sp w [.ref a] H (fun v _ => v = .bl true) fun _ _ _ => False)
    (hCX : ∀ (w : World) (H : Hp) (s : Shared) (e : Value) (s' : Shared), CX w [] H s (fun _ _ _ => False) e s' → False) :
    PySem.W.WalkO q loose XP YP l.row.toRowW d [] (fun f vs => PySem.call f vs) := by
  refine Att.attach_call hn hdf fun w s₀ s₁ mg mb fa o pm cd doc a vs ns G Y ho hd hcd hmg hobj hints hlen hg => ?_
  have KX := hY w _ Y
  obtain ⟨fd, hb, hF⟩ := F w mg fa _ KX G.T.g hmg
  exact law_call KX G.T.g G.T.b G.T.builtins G.T.nolimit hg hobj hints (Nat.le_trans hlen hn2) hr hF hb (fun H hO hS => hsp w H a ns hlen hO hS) fun H e s' => hCX w H s₁ e s'
end L2

/- THE LAST THEOREM (shape; LID, My.* are yours):
   My.Adr: a structure of the addresses that your layer names (classes, functions); My.Txt K t: a structure (Prop) of the equations over K;
   My.txt_mk : {K} {implicit addresses ..} (e1 : nsIn K mainGlobals "law" = some (some (.ref f))) (e2 : K.lookup f = some ⟨oc, od, .func (fnOf "law" "law" params body scope dV kV doc pm an cdv ct), sl⟩) (e3 : codeIn K cdv "law" = true) .. : ∃ t, My.Txt K t

set_option maxRecDepth 100000 in
set_option maxHeartbeats 0 in
theorem PySem.Challenge.cw_LID_holds : PySem.Challenge.rw_LID.Holds := by
  w_on; o_law; k_head; (case hw => w_witness2)
  k_fill
  refine L2.walk_of (l := PySem.Challenge.rw_LID) (n := 63) (k := 40) (x := "script") (CX := fun w => ..) (sp := fun _ => My.sp_law) rfl (by decide) rfl ⟨rfl, by decide, by decide⟩ (fun w h Y => PySem.W.kIn_of Y) ?F ?S ?C
  case F =>
    intro w mg fa h KX G hmg
    have T : ∃ t, My.Txt (L2.KOf KX) t := by
      dsimp only [L2.KOf]                          -- K must stand as «<heap const> w.params» for k_is
      refine' My.txt_mk ?e1 ?e2 ?e3 ..
      (case e1 => PySem.W.k_is)                    -- in the order: a name -> its address -> its object -> its parts
      (case e2 => PySem.W.k_is)
      ..
    obtain ⟨t, T⟩ := T
    have e0 := hmg.symm.trans (PySem.W.mg_of KX G T.law)
    cases e0                                       -- fa is the law's own address
    exact ⟨_, fun s u => .of_eq rfl, fun base kb nb => My.law_fn T kb nb⟩     -- if «.of_eq rfl» comes too early: refine' ⟨_, ?b, fun base kb nb => My.law_fn T kb nb⟩; exact fun s u => .of_eq rfl
  case S => exact fun w H a ns hl hO hS => ..
  case C => exact ..
(the tactic k_is has no namespace: write k_is) -/

namespace L2
open PySem PySem.Spec PyProof.Rows

noncomputable def defArgs (s : Stmt) : Arguments := match s with
  | .FunctionDef _ a _ _ _ _ _ _ _ _ => a
  | _ => { posonlyargs := [], args := [], vararg := none, kwonlyargs := [], kw_defaults := [], kwarg := none, defaults := [] }
noncomputable def defBody (s : Stmt) : List Stmt := match s with
  | .FunctionDef _ _ b _ _ _ _ _ _ _ => b
  | _ => []
noncomputable def defScope (s : Stmt) : Scope := match s with
  | .FunctionDef _ _ _ _ _ _ sc _ _ _ => sc
  | _ => { kind := .function, names := [], isGenerator := false, isCoroutine := false }

noncomputable abbrev CX0 : CXT := fun _ _ _ _ _ _ => False
noncomputable abbrev E0 : XK := fun _ _ _ => False
theorem pass0 {X : Cx} : Passes CX0 X E0 := fun _ _ _ _ _ _ _ h => h.elim

structure Fun (K : PySem.W.Frag) (x qual : Str) (st : Stmt) (f : Addr) (fd : FuncData) : Prop where
  ex : ∃ (oc : Value) (od : Option Addr) (kV doc pm : Value) (an : Option Addr) (cdv ct : Value) (osl : Array (Option Value)),
    fd = PySem.W.fnOf x qual (defArgs st) (defBody st) (defScope st) .none kV doc pm an cdv ct ∧ K.lookup f = some ⟨oc, od, .func fd, osl⟩ ∧ PySem.W.codeIn K cdv qual = true
  kp : PySem.W.keepIn K (.ref f) = true
section
variable {P : Program} {w : World} {K : PySem.W.Frag} {mg : Str → Option Value} {base : Heap}
theorem Fun.ok {x qual : Str} {st : Stmt} {f : Addr} {fd : FuncData} {N ps : List Str} {k : Nat} {sp : Sp} (F : Fun K x qual st f fd) (S : FnScope N ps (defScope st)) (len : ∀ vs H Q E, sp vs H Q E → vs.length = ps.length)
    (hbody : ∀ (cdv : Value) (A : Around) (outer : List Env) (s : Shared) (H : Hp) (vs : List V) (Q : VK) (E : XK), Room k (A.deeper (envOfC qual (defScope st) s.heap.objs.size f cdv)) → sp vs H Q E →
      ∃ t, PSs (cxOf CX0 P w K mg base N qual (defScope st) f cdv A outer s H E).nox (defBody st) t ∧ t { nx := fun _ H' => Q .non H', rt := Q } (start N vs) H) : FnOk P w K mg base CX0 (k + 1) f fd ps sp := by
  obtain ⟨oc, od, kV, doc, pm, an, cdv, ct, osl, rfl, lk, hcd⟩ := F.ex
  refine fn_of lk hcd S len fun A outer s H vs Q E hr hsp => ?_
  obtain ⟨t, h, q⟩ := hbody cdv A outer s H vs Q E hr hsp
  exact ⟨t, h.nox, q⟩
theorem Fun.binds {x qual : Str} {st : Stmt} {f : Addr} {fd : FuncData} {ps : List Str} (F : Fun K x qual st f fd)
    (h : ∀ (kV doc pm : Value) (an : Option Addr) (cdv ct : Value) (us : List Value), us.length = ps.length → bindArgs (PySem.W.fnOf x qual (defArgs st) (defBody st) (defScope st) .none kV doc pm an cdv ct) ⟨us, []⟩ = pure (ps.zip us)) : Binds K fd ps [] := by
  obtain ⟨oc, od, kV, doc, pm, an, cdv, ct, osl, rfl, lk, hcd⟩ := F.ex
  exact .all (h kV doc pm an cdv ct)
theorem fun_mk {x qual : Str} {st : Stmt} {f : Addr} {oc : Value} {od an : Option Addr} {osl : Array (Option Value)} {kV doc pm cdv ct : Value} (l : K.lookup f = some ⟨oc, od, .func (PySem.W.fnOf x qual (defArgs st) (defBody st) (defScope st) .none kV doc pm an cdv ct), osl⟩)
    (c : PySem.W.codeIn K cdv qual = true) (k : PySem.W.keepIn K (.ref f) = true) : Fun K x qual st f (PySem.W.fnOf x qual (defArgs st) (defBody st) (defScope st) .none kV doc pm an cdv ct) := ⟨⟨oc, od, kV, doc, pm, an, cdv, ct, osl, rfl, l, c⟩, k⟩
end
theorem hu_of {A : Around} {k : Nat} (hr : Room k A) : A.units + 1 < cLine := Nat.lt_of_le_of_lt (Nat.add_le_add_left (by decide : 1 ≤ 64) _) hr.units
theorem small1000 {n : Nat} (h : n ≤ 1000) : n < sizeLine := Nat.lt_of_le_of_lt h (by decide)

section
variable {X : Cx}
theorem pv (i : Nat) {x : Str} {pos : Pos} (hN : X.N[i]? = some x := by rfl) (hv : Vis X.env.scope x := by first | exact Or.inl rfl | exact Or.inr (Or.inl rfl) | exact Or.inr (Or.inr rfl)) (hd : (x == ("__debug__" : Str)) = false := by decide)
    (hcd : (x == ("__classdict__" : Str)) = false := by decide) : PE X (.Name x pos) (tVar i) := pe_var hN hv hd hcd
end

theorem iteF {A B : Prop} (h : B) : if false = true then A else B := by
  rw [if_neg Bool.false_ne_true]
  exact h
theorem iteT {A B : Prop} (h : A) : if true = true then A else B := by
  rw [if_pos rfl]
  exact h
theorem ite2 {c A B : Prop} [Decidable c] (h1 : c → A) (h2 : ¬ c → B) : if c then A else B := by
  by_cases h : c
  · rw [if_pos h]
    exact h1 h
  · rw [if_neg h]
    exact h2 h
noncomputable def Same (H H' : Hp) : Prop := ∀ b o, H b = some o → H' b = some o
theorem Same.refl (H : Hp) : Same H H := fun _ _ h => h
theorem Same.trans {H H1 H2 : Hp} (a : Same H H1) (b : Same H1 H2) : Same H H2 := fun c o h => b c o (a c o h)
theorem Same.free {H H' : Hp} (e : Same H H') {l : Addr} (h : H' l = Option.none) : H l = Option.none := by
  cases q : H l with
  | none => rfl
  | some o =>
    rw [e l o q] at h
    cases h
end L2

set_option Elab.async false
set_option linter.all false
set_option maxRecDepth 100000
set_option maxHeartbeats 4000000
namespace L2
open PySem PySem.Spec PyProof.Rows

noncomputable abbrev NoX : Value → Shared → Prop := fun _ _ => False
theorem wpX {α : Type} {M : Model} {A : Around} {t : Sem α} {Q : α → Shared → Prop} {E : Value → Shared → Prop} {s : Shared} (h : wpAny M A t Q NoX s) : wpAny M A t Q E s :=
  wpAny_mono h (fun _ _ q => q) fun _ _ f => f.elim

noncomputable def testAll (ifs : List Expr) (env : Env) : Sem Bool :=
  forIn ifs true fun c r => if r = true then do let ok ← isTrue c env (eval c env); pure (ForInStep.yield ok) else pure (ForInStep.yield r)

theorem comp_loop_any {prog : Program} {w : World} {A : Around} {R : Result → Shared → Prop} {s : Shared} {elt tg iter : Expr} {ifs : List Expr} {scope : Scope} {pos : Pos} {it acc : Value} {env : Env} (Iv : Nat → Shared → Prop)
    (turn : ∀ n s, Iv n s → wpAny (model prog w) A (pyNext it) (fun r s1 => match r with
      | none => R (.ok .next) s1
      | some v => wpAny (model prog w) A (letOwnedTupleGo tg it v) (fun _ s2 => wpAny (model prog w) A (assign tg env v) (fun _ s3 => wpAny (model prog w) A (testAll ifs env) (fun ok s4 =>
            if ok = true then wpAny (model prog w) A (eval elt env) (fun x s5 => wpAny (model prog w) A (call (.builtin "list.append") [acc, x]) (fun _ s6 => ∃ m, m < n ∧ Iv m s6) NoX s5) NoX s4
            else ∃ m, m < n ∧ Iv m s4) NoX s3) NoX s2) NoX s1) NoX s)
    (n : Nat) (h : Iv n s) : codeAny (model prog w) A (.compLoop (.ListComp elt [⟨tg, iter, ifs, 0⟩] scope pos) 0 it acc env) R s := by
  refine codeAny_loop rfl Iv (fun n s hI => ?_) n h
  show wpAny (model prog w) A ((compTurn (.ListComp elt [⟨tg, iter, ifs, 0⟩] scope pos) 0 it acc env).onRaise (fun x => do noteFrame x env; theTreesLotGoes x)) _ _ s
  refine wpAny_noted (wpX ?_)
  rw [compTurn_list]
  refine wpAny_bind (wpAny_standAt (wpAny_bind (thn (turn n s hI) fun r s1 h1 => ?_)))
  cases r with
  | none => exact wpAny_pure h1
  | some v =>
    refine wpAny_bind (thn h1 fun _ s2 h2 => wpAny_bind (thn h2 fun _ s3 h3 => wpAny_bind (thn h3 fun ok s4 h4 => ?_)))
    cases ok with
    | false => exact wpAny_pure ⟨rfl, h4⟩
    | true => exact wpAny_bind (wpAny_bind (thn h4 fun x s5 h5 => wpAny_bind (thn h5 fun _ s6 h6 => wpAny_pure (wpAny_pure ⟨rfl, h6⟩))))

noncomputable def stepCap (env : Env) (y : Str × NameKind) (cs : List (Str × Addr)) : List (Str × Addr) := if (y.2 == NameKind.free) = true then (y.1, (env.cells.lookup y.1).getD 0) :: cs else cs
noncomputable def capOf (env : Env) (scope : Scope) : List (Str × Addr) := scope.names.foldl (fun c y => stepCap env y c) []
theorem forIn_steps {α β : Type} {f : α → β → Sem (ForInStep β)} {g : β → α → β} : ∀ (l : List α) (c : β), (∀ x ∈ l, ∀ c, f x c = pure (.yield (g c x))) → forIn l c f = pure (l.foldl g c)
  | [], c, _ => rfl
  | x :: l, c, h => by
    rw [List.forIn_cons, h x List.mem_cons_self, pure_bind]
    exact forIn_steps l (g c x) fun y hy => h y (List.mem_cons_of_mem _ hy)
theorem closure_is {env : Env} {scope : Scope} (h : ∀ y ∈ scope.names, y.2 = .free → ∃ c, env.cells.lookup y.1 = some c) : closureFor scope env = pure (capOf env scope) := by
  simp only [closureFor]
  rw [forIn_steps (g := fun c y => stepCap env y c) scope.names [] (fun y hy c => ?_)]
  · rfl
  · obtain ⟨n, k⟩ := y
    by_cases hk : k = .free
    · subst hk
      obtain ⟨a, ha⟩ := h _ hy rfl
      have ha' : env.cells.lookup n = some a := ha
      simp [stepCap, cellOf, ha']
    · have hb : (k == NameKind.free) = false := by simpa using hk
      simp only [stepCap, hb, Bool.false_eq_true, if_false]
theorem fold_cap_sub {env : Env} : ∀ (ns : List (Str × NameKind)) (cs : List (Str × Addr)), (∀ y ∈ ns, y.2 = .free → ∃ c, env.cells.lookup y.1 = some c) → (∀ x c, cs.lookup x = some c → env.cells.lookup x = some c) →
    ∀ x c, (ns.foldl (fun c y => stepCap env y c) cs).lookup x = some c → env.cells.lookup x = some c
  | [], _, _, h => h
  | y :: ns, cs, hf, h => by
    refine fold_cap_sub ns (stepCap env y cs) (fun z hz => hf z (List.mem_cons_of_mem _ hz)) fun x c e => ?_
    unfold stepCap at e
    split at e
    · rename_i hk
      have hk' : y.2 = .free := by simpa using hk
      obtain ⟨a, ha⟩ := hf y List.mem_cons_self hk'
      rw [List.lookup_cons] at e
      split at e
      · rename_i hx
        have hx' : x = y.1 := by simpa using hx
        rw [ha] at e
        rw [hx', ha]
        exact e
      · exact h x c e
    · exact h x c e
theorem fold_cap_has {env : Env} (x : Str) : ∀ (ns : List (Str × NameKind)) (cs : List (Str × Addr)), ((x, NameKind.free) ∈ ns ∨ ∃ c, cs.lookup x = some c) → ∃ c, (ns.foldl (fun c y => stepCap env y c) cs).lookup x = some c
  | [], _, h => by
    rcases h with h | h
    · exact absurd h (by simp)
    · exact h
  | y :: ns, cs, h => by
    refine fold_cap_has x ns (stepCap env y cs) ?_
    rcases h with h | ⟨c, h⟩
    · rcases List.mem_cons.mp h with e | h
      · subst e
        exact .inr ⟨(List.lookup x env.cells).getD 0, by simp [stepCap]⟩
      · exact .inl h
    · refine .inr ?_
      unfold stepCap
      split
      · rw [List.lookup_cons]
        split
        · exact ⟨_, rfl⟩
        · exact ⟨c, h⟩
      · exact ⟨c, h⟩
noncomputable def relK (env : Env) (n : Str) (k : NameKind) : NameKind := if (k == NameKind.free && env.scope.kind == .function && env.kindOf n == some .cell) = true then .cell else k
noncomputable def relP (env : Env) (y : Str × NameKind) : Str × NameKind := if (y.2 == NameKind.free && env.scope.kind == .function && env.kindOf y.1 == some .cell) = true then (y.1, NameKind.cell) else (y.1, y.2)
theorem relP_eq (env : Env) (y : Str × NameKind) : relP env y = (y.1, relK env y.1 y.2) := by
  unfold relP relK
  split <;> rfl
theorem lookup_rel {env : Env} (x : Str) : ∀ ns : List (Str × NameKind), (ns.map (relP env)).lookup x = (ns.lookup x).map (relK env x)
  | [] => rfl
  | (n, k) :: r => by
    have ih := lookup_rel (env := env) x r
    rw [List.map_cons, relP_eq, List.lookup_cons, List.lookup_cons]
    cases hx : x == n with
    | true =>
      have e : x = n := by simpa using hx
      subst e
      rfl
    | false => exact ih
theorem relabel_lookup {env : Env} {scope : Scope} (x : Str) : (relabel scope env).names.lookup x = (scope.names.lookup x).map (relK env x) := lookup_rel x scope.names

noncomputable def capOne (N : List Str) (scope : Scope) (p : Option Nat × Str) : Bool := match p.1 with
  | none => true
  | some j => decide (N[j]? = some p.2) && decide (scope.names.lookup p.2 = some .free)
structure CompOk (N : List Str) (sc : Scope) (N' : List Str) (ix : List (Option Nat)) (scope : Scope) : Prop where
  kind : scope.kind = .function
  nocell : ∀ y ∈ scope.names, y.2 ≠ .cell
  locs : ∀ y ∈ scope.names, y.2 = .local → scope.names.lookup y.1 = some .local
  frees : ∀ y ∈ scope.names, y.2 = .free → (sc.names.lookup y.1 = some .cell ∨ sc.names.lookup y.1 = some .free)
  nd : N'.Nodup
  len : ix.length = N'.length
  cap : (ix.zip N').all (capOne N scope) = true
noncomputable def ixSt (ix : List (Option Nat)) (σ : St) : St := ix.map fun o => o.bind fun i => (σ[i]?).join
noncomputable def cxComp (X : Cx) (N' : List Str) (scope : Scope) (C : Addr) (fp : List Addr) (s₀ : Shared) (H₀ : Hp) : Cx where
  prog := X.prog
  w := X.w
  K := X.K
  mg := X.mg
  base := X.base
  A := X.A
  N := N'
  s₀ := s₀
  H₀ := H₀
  env := compEnvC scope (capOf X.env scope) C X.env
  outer := X.stack
  stack := X.stack
  ex := fp
  fn := fun _ => false
  calm := X.calm
  pn := []
  xe := NoX

section
variable {X : Cx} {N' : List Str} {ix : List (Option Nat)} {scope : Scope} {pins : List (Addr × Obj)} {σ : St} {H : Hp} {s : Shared} {fp : List Addr}
theorem CompOk.has (S : CompOk X.N X.env.scope N' ix scope) (ok : X.Ok) : ∀ y ∈ scope.names, y.2 = .free → ∃ c, X.env.cells.lookup y.1 = some c := fun y hy hk => ok.has y.1 (S.frees y hy hk)
theorem CompOk.sub (S : CompOk X.N X.env.scope N' ix scope) (ok : X.Ok) : ∀ x c, (capOf X.env scope).lookup x = some c → X.env.cells.lookup x = some c :=
  fold_cap_sub scope.names [] (S.has ok) fun x c e => by simp at e
theorem CompOk.frK (S : CompOk X.N X.env.scope N' ix scope) {x : Str} (h : (relabel scope X.env).names.lookup x = some .cell ∨ (relabel scope X.env).names.lookup x = some .free) : scope.names.lookup x = some .free := by
  rw [relabel_lookup] at h
  cases e : scope.names.lookup x with
  | none => rw [e] at h; simp at h
  | some k =>
    rw [e] at h
    cases k with
    | free => rfl
    | cell => exact absurd rfl (S.nocell _ (PySem.mem_of_lookup e))
    | «local» => simp [relK] at h
    | globalExplicit => simp [relK] at h
    | globalImplicit => simp [relK] at h
theorem comp_enter {h1 : Heap} {m : Str → Option Value} {tk : Nat} (S : CompOk X.N X.env.scope N' ix scope) (I : Inv X pins σ H s) (hf : ∀ b ∈ fp, FpOk X pins H b) (hlt : ∀ b ∈ fp, b < s.heap.objs.size)
    (ns : h1.Ns s.heap.objs.size m) (kp : ∀ b o, s.heap.get? b = some o → h1.get? b = some o) :
    Inv (cxComp X N' scope s.heap.objs.size fp s H) [] (ixSt ix σ) H { s with heap := h1, toks := tk } := by
  have sub := S.sub I.ok
  have cellS : ∀ x c, (capOf X.env scope).lookup x = some c → c < s.heap.objs.size := fun x c e => by
    obtain ⟨v, q⟩ := I.cell x c (sub x c e)
    exact q.lt
  refine ⟨⟨I.ok.mod, S.kind, I.ok.glob, I.ok.blt, Nat.le_refl _, fun x y c h1 h2 => I.ok.inj x y c (sub x c h1) (sub y c h2), fun x hx => ?_, fun x c z _ => ?_, I.ok.hd, I.ok.frames, .inl rfl, fun b hb => ⟨?_, fun x c e => ?_⟩, I.bs, Nat.le_trans I.ok.bsz I.sz, fun b o e hb => ?_, fun b hb z => ?_, I.stack, I.stkFree⟩,
    rfl, I.bare, Un.kept kp, ⟨m, ns, fun i x v h1 h2 h3 => ?_⟩, fun x c e => ?_, I.hok.fresh (Nat.le_refl _), fun x c e => I.freeC x c (sub x c e), fun p hp => absurd (show p ∈ ([] : List (Addr × Obj)) from hp) (by simp), I.hok.kept kp, ?_⟩
  · exact fold_cap_has x scope.names [] (.inl (PySem.mem_of_lookup (S.frK hx)))
  · exact absurd (show false = true from z) (by simp)
  · exact Nat.ne_of_lt (hlt b hb)
  · exact (hf b hb).2.2.2.2.1 x c (sub x c e)
  · rcases (hf b hb).2.2.2.1 with z | z
    · exact I.ok.noex b o e z
    · exact absurd (Nat.lt_of_lt_of_le (Heap.lt_size e) (Nat.le_trans I.ok.bsz z)) (Nat.lt_irrefl _)
  · rcases List.mem_cons.mp (I.stkSub b z) with e | e
    · exact (hf b hb).2.1 e
    · exact (hf b hb).2.2.1 e
  · have hi : i < ix.length := by
      have := (List.getElem?_eq_some_iff.mp h1).1
      rw [S.len]; exact this
    have e1 : ix[i]? = some ix[i] := List.getElem?_eq_getElem hi
    have h2' : (ixSt ix σ)[i]? = some (some v) := h2
    rw [ixSt, List.getElem?_map, e1] at h2'
    have h2'' : (ix[i].bind fun j => (σ[j]?).join) = some v := Option.some.inj h2'
    cases ej : ix[i] with
    | none => rw [ej] at h2''; cases h2''
    | some j =>
      rw [ej] at h2''
      have h2j : (σ[j]?).join = some v := h2''
      have hz : (ix[i], x) ∈ ix.zip N' := by
        have ez : (ix.zip N')[i]? = some (ix[i], x) := by rw [List.getElem?_zip_eq_some]; exact ⟨e1, h1⟩
        exact List.mem_of_getElem? ez
      have cq := List.all_eq_true.mp S.cap _ hz
      have cq' : (decide (X.N[j]? = some x) && decide (scope.names.lookup x = some .free)) = true := by
        unfold capOne at cq
        simp only [ej] at cq
        exact cq
      rw [Bool.and_eq_true] at cq'
      have c1 := of_decide_eq_true cq'.1
      have c2 := of_decide_eq_true cq'.2
      have kx : X.env.scope.names.lookup x = some .cell ∨ X.env.scope.names.lookup x = some .free := S.frees (x, .free) (PySem.mem_of_lookup c2) rfl
      have hs : σ[j]? = some (some v) := by
        cases q : σ[j]? with
        | none => rw [q] at h2j; cases h2j
        | some o => rw [q] at h2j; have : o = some v := h2j; rw [this]
      obtain ⟨m0, hn0, hl0⟩ := I.loc
      obtain ⟨u, ru, lk⟩ := hl0 j x v c1 hs (kx.elim (fun z => .inr (.inl z)) fun z => .inr (.inr z))
      refine ⟨u, ru, .inr ⟨?_, ?_⟩⟩
      · show (relabel scope X.env).names.lookup x = some .cell ∨ (relabel scope X.env).names.lookup x = some .free
        rw [relabel_lookup, c2]
        simp only [Option.map_some, relK]
        split
        · exact .inl rfl
        · exact .inr rfl
      · rcases lk with ⟨k, _⟩ | ⟨_, c, ec, hc⟩
        · have k' : X.env.scope.names.lookup x = some .local := k
          rw [k'] at kx
          rcases kx with z | z <;> cases z
        · obtain ⟨c', ec'⟩ := fold_cap_has (env := X.env) x scope.names [] (.inl (PySem.mem_of_lookup c2))
          have := sub x c' ec'
          rw [ec] at this; cases this
          exact ⟨c, ec', hc.keeps kp⟩
  · obtain ⟨v, q⟩ := I.cell x c (sub x c e)
    exact ⟨v, q.keeps kp⟩
  · show (ixSt ix σ).length = N'.length
    rw [ixSt, List.length_map, S.len]

noncomputable def PF (X : Cx) (ifs : List Expr) (t : TT) : Prop := ∀ (pins : List (Addr × Obj)) (s : Shared) (σ : St) (H : Hp) (Q : Bool → Hp → Prop), Inv X pins σ H s → t σ H Q → wpAny (model X.prog X.w) X.A (testAll ifs X.env) (TP X pins σ Q) X.xe s
noncomputable def tYes : TT := fun _ H Q => Q true H
theorem pf_nil : PF X [] tYes := fun _ _ _ H _ I h => wpAny_tests_nil ⟨H, I, h⟩
theorem pf_one {c : Expr} {t : TT} (hc : PT X c t) : PF X [c] t := fun pins s σ H Q I h => wpAny_tests_one (hc pins s σ H Q I h)

noncomputable def CompGo (J : It) (g : TG) (tt : TT) (te : TE) (σ0 : St) (H1 : Hp) (Q : VK) (D : Addr) : Prop := ∃ W : Nat → Nat → St → Hp → Prop, (∃ m, W 0 m σ0 (upd H1 D (.lst []))) ∧ ∀ i m σ' H', W i m σ' H' →
  (J.stop i H' ∧ Q (.ref D) H') ∨ (J.go i H' ∧ ∀ x H2, J.yld i H' x H2 → g x σ' H2 fun σ2 H3 => tt σ2 H3 fun b H4 =>
    if b = true then te σ2 H4 fun v H5 => ∃ xs, H5 D = some (.lst xs) ∧ xs.length < sizeLine ∧ ∃ m', m' < m ∧ W (i + 1) m' σ2 (upd H5 D (.lst (xs ++ [v]))) else ∃ m', m' < m ∧ W (i + 1) m' σ2 H4)
noncomputable def tComp (ix : List (Option Nat)) (wi : TI) (g : TG) (tt : TT) (te : TE) : TE := fun σ H Q => wi σ H fun J H1 => ∀ D, H1 D = none → CompGo J g tt te (ixSt ix σ) H1 Q D

theorem comp_block {elt tg iter : Expr} {ifs : List Expr} {pos : Pos} {g : TG} {tt : TT} {te : TE} {Q : VK} {Z : Value → Addr → Result → Shared → Prop} {it : Addr} {tn : Nat → Heap → Prop} {J : It}
    (S : CompOk X.N X.env.scope N' ix scope) (hc : X.calm = true)
    (hg : ∀ C fp s₀ H₀, PG (cxComp X N' scope C fp s₀ H₀) tg g) (ht : ∀ C fp s₀ H₀, PF (cxComp X N' scope C fp s₀ H₀) ifs tt) (he : ∀ C fp s₀ H₀, PE (cxComp X N' scope C fp s₀ H₀) elt te)
    (I : Inv X pins σ H s) (T : Turn X.prog X.w X.K tg J fp it tn) (st : tn 0 s.heap) (hf : ∀ b ∈ fp, FpOk X pins H b)
    (h : ∀ D, H D = none → ∃ W : Nat → Nat → St → Hp → Prop, (∃ m, W 0 m (ixSt ix σ) (upd H D (.lst []))) ∧ ∀ i m σ' H', W i m σ' H' →
      (J.stop i H' ∧ Q (.ref D) H') ∨ (J.go i H' ∧ ∀ x H2, J.yld i H' x H2 → g x σ' H2 fun σ2 H3 => tt σ2 H3 fun b H4 =>
        if b = true then te σ2 H4 fun v H5 => ∃ xs, H5 D = some (.lst xs) ∧ xs.length < sizeLine ∧ ∃ m', m' < m ∧ W (i + 1) m' σ2 (upd H5 D (.lst (xs ++ [v]))) else ∃ m', m' < m ∧ W (i + 1) m' σ2 H4))
    (hZ : ∀ D C H' s' m, Inv X pins σ H' s' → s'.heap.Ns C m → H' C = none → s.heap.objs.size ≤ C → Q (.ref D) H' → Z (.ref D) C (.ok .next) s') :
    wpAny (model X.prog X.w) X.A (newList []) (fun acc s3 => wpAny (model X.prog X.w) X.A (newFunctionEnv scope X.env.globals (capOf X.env scope) [] X.env.qual none .none (some X.env)) (fun cenv s4 =>
      codeAny (model X.prog X.w) X.A (.compStart (.ListComp elt [⟨tg, iter, ifs, 0⟩] scope pos) 0 (.ref it) acc { cenv with scope := relabel scope X.env }) (Z acc cenv.locals) s4) X.xe s3) X.xe s := by
  refine wpAny_newObj_type (wpAny_newFunctionEnv S.nocell (by intro y hy; simp at hy) (fun h1 ns1 sb1 => ?_) S.kind)
  have I3 : Inv X pins σ (upd H s.heap.objs.size (.lst [])) { s with heap := s.heap.push { cls := .type "list", data := .seq ([] : List Value).toArray }, toks := s.toks } := I.lnew (ys := []) (its := []) .nil (Nat.zero_le _)
  generalize hs3 : ({ s with heap := s.heap.push { cls := .type "list", data := .seq ([] : List Value).toArray } } : Shared) = s3 at ns1 sb1 ⊢
  have I3 : Inv X pins σ (upd H s.heap.objs.size (.lst [])) s3 := by rw [← hs3]; exact I3
  have hsz : s3.heap.objs.size = s.heap.objs.size + 1 := by rw [← hs3]; exact Heap.size_push _ _
  have st3 : tn 0 s3.heap := by
    rw [← hs3]
    exact T.keep _ _ _ st fun b _ o e => Heap.get?_push_of_some _ e
  have blw : ∀ b ∈ fp, b < s.heap.objs.size := fun b hb => by
    obtain ⟨o, e, _⟩ := T.obj _ _ st b hb
    exact Heap.lt_size e
  have hf3 : ∀ b ∈ fp, FpOk X pins (upd H s.heap.objs.size (.lst [])) b := fun b hb => ⟨by rw [upd_ne (Nat.ne_of_lt (blw b hb))]; exact (hf b hb).1, (hf b hb).2⟩
  obtain ⟨W, ⟨m0, w0⟩, turn⟩ := h s.heap.objs.size I.fresh
  have kp : ∀ b o, s3.heap.get? b = some o → h1.get? b = some o := fun b o e => (sb1.2 b (Nat.ne_of_lt (Heap.lt_size e))).trans (Heap.get?_push_of_some _ e)
  have J0 := comp_enter (tk := s3.toks + ([] : List (Str × Value)).length) S I3 hf3 (fun b hb => by rw [hsz]; exact Nat.lt_succ_of_lt (blw b hb)) ns1 kp
  have st4 : tn 0 h1 := T.keep _ _ _ st3 fun b _ o e => kp b o e
  have stat : ∀ {H' : Hp} {pl : List (Addr × Obj)}, (∀ b ∈ fp, H' b = none) → (∀ b ∈ fp, ∀ p ∈ pl, p.1 ≠ b) → ∀ b ∈ fp, FpOk (cxComp X N' scope s3.heap.objs.size fp s3 (upd H s.heap.objs.size (.lst []))) pl H' b := fun hn hp b hb =>
    ⟨hn b hb, (J0.ok.exf b hb).1, J0.ok.exfs b hb, .inl hb, (J0.ok.exf b hb).2, fun p q => hp b hb p q⟩
  have loop : codeAny (model X.prog X.w) X.A (.compLoop (.ListComp elt [⟨tg, iter, ifs, 0⟩] scope pos) 0 (.ref it) (.ref s.heap.objs.size) (cxComp X N' scope s3.heap.objs.size fp s3 (upd H s.heap.objs.size (.lst []))).env) (Z (.ref s.heap.objs.size) s3.heap.objs.size)
      { s3 with heap := h1, toks := s3.toks + ([] : List (Str × Value)).length } := by
    refine comp_loop_any (fun n s' => ∃ i σ' H', Inv (cxComp X N' scope s3.heap.objs.size fp s3 (upd H s.heap.objs.size (.lst []))) [] σ' H' s' ∧ tn i s'.heap ∧ (∀ b ∈ fp, H' b = none) ∧ W i n σ' H') ?_ m0
      ⟨0, _, _, J0, st4, fun b hb => (hf3 b hb).1, w0⟩
    rintro n s5 ⟨i, σ5, H5, I5, st5, fr5, w5⟩
    rcases turn i n σ5 H5 w5 with ⟨stop, q⟩ | ⟨go, step⟩
    · refine thn (T.done (cxComp X N' scope s3.heap.objs.size fp s3 (upd H s.heap.objs.size (.lst []))) rfl rfl rfl hc i [] s5 σ5 H5 NoX I5 (stat (pl := []) fr5 (fun _ _ p hp => absurd hp (by simp))) st5 stop) fun r s6 ⟨hr, I6⟩ => ?_
      subst hr
      have I7 : Inv X pins σ H5 s6 := I3.call' (ch := fp) I6.os I6.base I6.hok I6.bare fun b hb => ⟨(hf3 b hb).2.2.2.1, (hf3 b hb).2.1, (hf3 b hb).2.2.2.2.1, (hf3 b hb).2.2.2.2.2⟩
      obtain ⟨m6, n6, _⟩ := I6.loc
      exact hZ _ _ H5 s6 m6 I7 n6 I6.free (by rw [hsz]; exact Nat.le_succ _) q
    · refine thn (T.item (cxComp X N' scope s3.heap.objs.size fp s3 (upd H s.heap.objs.size (.lst []))) rfl rfl rfl hc i [] s5 σ5 H5 NoX I5 (stat (pl := []) fr5 (fun _ _ p hp => absurd hp (by simp))) st5 go) fun r s6 ⟨u, hr, h6⟩ => ?_
      subst hr
      refine thn h6 fun _ s7 ⟨x, H7, I7, r7, y7, st7, fr7⟩ => ?_
      have I7' := I7.pinned (stat (pl := []) fr7 (fun _ _ p hp => absurd hp (by simp))) (T.obj _ _ st7)
      refine thn (hg _ _ _ _ _ s7 σ5 H7 x u _ I7' r7 (step x H7 y7)) fun _ s8 ⟨σ8, H8, I8, q8⟩ => ?_
      refine thn (ht _ _ _ _ _ s8 σ8 H8 _ I8 q8) fun b s9 ⟨H9, I9, q9⟩ => ?_
      have again : ∀ {σ' : St} {H' : Hp} {s' : Shared} {m' : Nat}, Inv (cxComp X N' scope s3.heap.objs.size fp s3 (upd H s.heap.objs.size (.lst []))) ([] ++ pinsAt fp s7.heap) σ' H' s' → m' < n → W (i + 1) m' σ' H' →
          ∃ m, m < n ∧ ∃ i σ' H', Inv (cxComp X N' scope s3.heap.objs.size fp s3 (upd H s.heap.objs.size (.lst []))) [] σ' H' s' ∧ tn i s'.heap ∧ (∀ b ∈ fp, H' b = none) ∧ W i m σ' H' := fun {σ' H' s' m'} I' hm w' => by
        refine ⟨m', hm, i + 1, σ', H', I'.unpinned, T.keep _ _ _ st7 fun b hb o e => (I'.pin (b, o) (List.mem_append_right _ (List.mem_append_right _ (mem_pinsAt hb e)))).1, fun b hb => ?_, w'⟩
        obtain ⟨o, e, d⟩ := T.obj _ _ st7 b hb
        exact (I'.pin (b, o) (List.mem_append_right _ (List.mem_append_right _ (mem_pinsAt hb e)))).2.1
      cases b with
      | false =>
        obtain ⟨m', hm, w'⟩ := (show ∃ m', m' < n ∧ W (i + 1) m' σ8 H9 from q9)
        exact again I9 hm w'
      | true =>
        refine thn (he _ _ _ _ _ s9 σ8 H9 _ I9 q9) fun v s10 ⟨y, H10, I10, r10, q10⟩ => ?_
        obtain ⟨xs, hx, hl, m', hm, w'⟩ := q10
        refine thn (mt_append _ s10 σ8 H10 (.ref s.heap.objs.size) [y] (.ref s.heap.objs.size) [v] (fun _ H' => W (i + 1) m' σ8 H') I10 rfl (.cons r10 .nil) ⟨_, xs, y, rfl, rfl, hx, hl, w'⟩) fun _ s11 ⟨_, H11, I11, _, q11⟩ => ?_
        exact again I11 hm q11
  exact codeAny_compStart_list loop (T.self _ _ _ _ _ st4 loop)

theorem pe_comp {elt tg iter : Expr} {ifs : List Expr} {pos : Pos} {wi : TI} {g : TG} {tt : TT} {te : TE} (S : CompOk X.N X.env.scope N' ix scope) (hc : X.calm = true) (hi : PI X tg iter wi)
    (hg : ∀ C fp s₀ H₀, PG (cxComp X N' scope C fp s₀ H₀) tg g) (ht : ∀ C fp s₀ H₀, PF (cxComp X N' scope C fp s₀ H₀) ifs tt) (he : ∀ C fp s₀ H₀, PE (cxComp X N' scope C fp s₀ H₀) elt te)
    (hs : ∀ x, foldedSetIterable iter X.env x = pure x := by intro _; rfl) : PE X (.ListComp elt [⟨tg, iter, ifs, 0⟩] scope pos) (tComp ix wi g tt te) := by
  intro pins s σ H Q I h
  rw [eval_ListComp]
  refine wpAny_comprehension_free (use := none) rfl hs (closure_is (S.has I.ok)) S.kind S.locs (thn (hi pins s σ H _ I h) fun v s1 h1 => thn h1 fun itv s2 h2 => ?_)
  obtain ⟨it, fp, tn, J, H2, e, I2, T, st2, f2, q⟩ := h2
  subst e
  refine comp_block (Z := fun acc C => compPost (model X.prog X.w) X.A X.xe none (EP X pins σ Q) acc C) S hc hg ht he I2 T st2 f2 q ?_
  intro D C H' s' m I' hn hC hz qD
  refine ⟨m, hn, fun h' sb => ?_⟩
  have I'' : Inv X pins σ H' { s' with heap := h', toks := s'.toks } := I'.turned (it := C) (fun b o hb e => (sb.2 b hb).trans e) hC (fun z => absurd (Nat.lt_of_lt_of_le I2.lt (by rw [← z]; exact hz)) (Nat.lt_irrefl _))
    (.inr (Nat.le_trans I2.sz hz)) (fun x c e z => by obtain ⟨v, w⟩ := I2.cell x c e; exact absurd (Nat.lt_of_lt_of_le w.lt (by rw [z]; exact hz)) (Nat.lt_irrefl _)) (fun p hp z => absurd (Nat.lt_of_lt_of_le (Heap.lt_size (I2.pin p hp).1) (by rw [z]; exact hz)) (Nat.lt_irrefl _))
  exact ⟨.ref D, H', I'', rfl, qD⟩
theorem ps_setComp {i : Nat} {y : Str} {py spos : Pos} {elt tg iter : Expr} {ifs : List Expr} {pos : Pos} {wi : TI} {g : TG} {tt : TT} {te : TE} (S : CompOk X.N X.env.scope N' ix scope) (hc : X.calm = true) (hi : PI X tg iter wi)
    (hg : ∀ C fp s₀ H₀, PG (cxComp X N' scope C fp s₀ H₀) tg g) (ht : ∀ C fp s₀ H₀, PF (cxComp X N' scope C fp s₀ H₀) ifs tt) (he : ∀ C fp s₀ H₀, PE (cxComp X N' scope C fp s₀ H₀) elt te)
    (hN : X.N.Nodup) (hy : X.N[i]? = some y) (hl : X.env.scope.names.lookup y = some .local) (hsw : swapsWith (.ListComp elt [⟨tg, iter, ifs, 0⟩] scope pos) (some (.Name y py)) spos.line X.env = pure true)
    (hs : ∀ x, foldedSetIterable iter X.env x = pure x := by intro _; rfl) : PS X (.Assign [.Name y py] (.ListComp elt [⟨tg, iter, ifs, 0⟩] scope pos) spos) (tAsg (tComp ix wi g tt te) (gName i)) := by
  intro pins s σ H D I h
  rw [exec_Assign_Name_used _ _ _ _ hsw]
  refine wpAny_bind (wpAny_standAt (wpAny_bind ?_))
  rw [arm_evalThenUse_ListComp]
  refine wpAny_bind (thn (wpAny_comprehension_free (use := some (assign (.Name y py) X.env)) (Q := fun _ s' => SP X pins D .next s') rfl hs (closure_is (S.has I.ok)) S.kind S.locs
    (thn (hi pins s σ H _ I h) fun v s1 h1 => thn h1 fun itv s2 h2 => ?_)) fun _ s' q => wpAny_pure (wpAny_pure q))
  obtain ⟨it, fp, tn, J, H2, e, I2, T, st2, f2, q⟩ := h2
  subst e
  refine comp_block (Q := fun x H1 => gName i x σ H1 D.nx) (Z := fun acc C => compPost (model X.prog X.w) X.A X.xe (some (assign (.Name y py) X.env)) (fun _ s' => SP X pins D .next s') acc C) S hc hg ht he I2 T st2 f2 q ?_
  intro Dl C H' s' m I' hn hC hz qD
  have neL : C ≠ X.env.locals := fun z => absurd (Nat.lt_of_lt_of_le I2.lt (by rw [← z]; exact hz)) (Nat.lt_irrefl _)
  have neC : ∀ x c, X.env.cells.lookup x = some c → c ≠ C := fun x c e z => by obtain ⟨v, w⟩ := I2.cell x c e; exact absurd (Nat.lt_of_lt_of_le w.lt (by rw [z]; exact hz)) (Nat.lt_irrefl _)
  show wpAny (model X.prog X.w) X.A (assign (.Name y py) X.env (.ref Dl)) _ X.xe s'
  refine wpAny_assign_Name (store_ok2 I' hN hy (.inl hl) (show RelV (.ref Dl) (.ref Dl) from rfl) (fun s'' J' ⟨a, sb, ha⟩ => ?_) (.inr hl))
  have na : C ≠ a := by
    rcases ha with z | z
    · rw [z]; exact neL
    · exact Ne.symm (neC y a z)
  refine ⟨m, hn.sameBut sb na, fun h' sb' => ?_⟩
  have I'' : Inv X pins (σ.set i (some (.ref Dl))) H' { s'' with heap := h', toks := s''.toks } := J'.turned (it := C) (fun b o hb e => (sb'.2 b hb).trans e) hC neL (.inr (Nat.le_trans I2.sz hz)) neC
    (fun p hp z => absurd (Nat.lt_of_lt_of_le (Heap.lt_size (I2.pin p hp).1) (by rw [z]; exact hz)) (Nat.lt_irrefl _))
  exact ⟨_, H', I'', qD⟩
end
end L2

set_option Elab.async false
set_option linter.all false
set_option maxRecDepth 100000
set_option maxHeartbeats 4000000
namespace L2
open PySem PySem.Spec PyProof.Rows
theorem bt_abs : bootBuiltins "abs" = some (.builtin "abs") := by decide +kernel
theorem bt_len : bootBuiltins "len" = some (.builtin "len") := by decide +kernel
theorem bt_all : bootBuiltins "all" = some (.builtin "all") := by decide +kernel
theorem bt_isinstance : bootBuiltins "isinstance" = some (.builtin "isinstance") := by decide +kernel
theorem bt_int : bootBuiltins "int" = some (.type "int") := by decide +kernel
theorem bt_bool : bootBuiltins "bool" = some (.type "bool") := by decide +kernel
theorem bt_str : bootBuiltins "str" = some (.type "str") := by decide +kernel
theorem bt_tuple : bootBuiltins "tuple" = some (.type "tuple") := by decide +kernel
theorem bt_list : bootBuiltins "list" = some (.type "list") := by decide +kernel

noncomputable def Def (P : Program) (w : World) (K : PySem.W.Frag) (mg : Str → Option Value) (base : Heap) (k : Nat) (x : Str) (ps : List Str) (sp : Sp) : Prop :=
  ∃ (f : Addr) (fd : FuncData), FnOk P w K mg base CX0 k f fd ps sp ∧ mg x = some (.ref f) ∧ PySem.W.keepIn K (.ref f) = true ∧ Binds K fd ps []
section
variable {X : Cx}
theorem pe_def {k k' : Nat} {x : Str} {ps : List Str} {sp : Sp} {e : Expr} {es : List Expr} {t : TA} {p pos : Pos} (D : Def X.prog X.w X.K X.mg X.base k x ps sp) (hr : Room k' X.A) (hk : k ≤ k') (hg : Gl X x) (ha : PA X (e :: es) t)
    (hdb : (x == ("__debug__" : Str)) = false := by decide) (he : starEach (e :: es) X.env = (false, eval e X.env) :: starEach es X.env := by rfl) (hpl : (backTo pos (starEach es X.env)).any (·.1) = false := by rfl) :
    PE X (.Call (.Name x p) (e :: es) [] pos) (tCall sp [] E0 t) := by
  obtain ⟨f, fd, F, m, kp, b⟩ := D
  exact pe_call F (hr.mono hk) hg m kp b .nil pass0 ha hdb he hpl

theorem call_isiT : CallR X (.builtin "isinstance") (fun xs H Q => ∃ x n t b, xs = [x, .ty n] ∧ TyOf X.K H x t ∧ PySem.W.kitOne X.K t (.type n) = some b ∧ Q (.bl b) H) := by
  intro pins s σ H xs us Q I r h
  obtain ⟨x, n, t, b, rfl, ty, e, q⟩ := h
  obtain ⟨u, w', rfl, r1, r2⟩ := vals2 r
  cases r2
  exact isinst_ok I r1 ty e fun tk => ⟨.bl b, H, I.tok tk, rfl, q⟩
theorem kit_same {K : PySem.W.Frag} (n : String) : PySem.W.kitOne K (.type n) (.type n) = some true := by simp [PySem.W.kitOne]
noncomputable def Its (z : Str) : It := ⟨fun i _ => i < z.cps.size, fun i H x H' => H' = H ∧ ∃ c, z.cps[i]? = some c ∧ x = .str ⟨#[c]⟩, fun i _ => z.cps.size ≤ i⟩
noncomputable def iStr (tl : TE) : TI := fun σ H R => tl σ H fun x H1 => ∃ z, x = .str z ∧ R (Its z) H1
theorem turn_str {P : Program} {w : World} {K : PySem.W.Frag} {tg : Expr} {z : Str} {tk : Tok} {it : Addr} {ty : String} (hty : ty = "str_ascii_iterator" ∨ ty = "str_iterator") :
    Turn P w K tg (Its z) [it] it (fun i h => h.IsStrIter it ty z tk i ∧ i ≤ z.cps.size) where
  mem := by simp
  obj := fun i h st b hb => by
    have e : b = it := by simpa using hb
    subst e
    obtain ⟨⟨o, h1, h2, h3⟩, _⟩ := st
    exact ⟨o, h1, fun v q => by rw [h3] at q; cases q⟩
  keep := fun i h h' st k => by
    obtain ⟨⟨o, h1, h2⟩, h3⟩ := st
    exact ⟨⟨o, k it (by simp) o h1, h2⟩, h3⟩
  item := by
    intro X hP hw hK hc i pins s σ H E I hf st hg
    subst hP hw hK
    obtain ⟨f0, f1, f2, f3, f4, f5⟩ := hf it (by simp)
    have fin : ∀ (v : Value) (h' : Heap) (tk' : Nat), SignAt z i v → h'.IsStrIter it ty z tk (i + 1) → (∀ b o, b ∉ [it] → s.heap.get? b = some o → h'.get? b = some o) →
        ∃ u, some v = some u ∧ wpAny (model X.prog X.w) X.A (letOwnedTupleGo tg (.ref it) u) (fun _ s2 => ∃ x H', Inv X pins σ H' s2 ∧ RelV x u ∧ (Its z).yld i H x H' ∧ (s2.heap.IsStrIter it ty z tk (i + 1) ∧ i + 1 ≤ z.cps.size) ∧ ∀ b ∈ [it], H' b = none) E { s with heap := h', toks := tk' } := by
      intro v h' tk' hv st' kk
      obtain ⟨c, t, hcx, rfl⟩ := hv
      have I1 : Inv X pins σ H { s with heap := h', toks := tk' } := I.turned (fun b o hb e => kk b o (by simpa using hb) e) f0 f1 f3 f4 f5
      obtain ⟨o, h1, h2, h3⟩ := id st'
      refine ⟨_, rfl, go_of (s := { s with heap := h', toks := tk' }) (n := ty) h1 h2 h3 ?_ ⟨.str ⟨#[c]⟩, H, I1, ⟨t, rfl⟩, ⟨rfl, c, hcx, rfl⟩, ⟨st', hg⟩, fun b hb => (hf b hb).1⟩⟩
      rcases hty with rfl | rfl <;> decide
    rcases hty with rfl | rfl
    · exact (Walks.strAscii (I.ok.hd hc) it z tk).item i s _ _ hg st.1 fun v h' tk' hv st' kk => fin v h' tk' hv st' kk
    · exact (Walks.strWide (I.ok.hd hc) it z tk).item i s _ _ hg st.1 fun v h' tk' hv st' kk => fin v h' tk' hv st' kk
  done := by
    intro X hP hw hK hc i pins s σ H E I hf st hg
    subst hP hw hK
    obtain ⟨f0, f1, f2, f3, f4, f5⟩ := hf it (by simp)
    have e : i = z.cps.size := Nat.le_antisymm st.2 hg
    subst e
    rcases hty with rfl | rfl
    · exact (Walks.strAscii (I.ok.hd hc) it z tk).done s _ _ st.1 fun h' tk' kk => ⟨rfl, I.turned (fun b o hb e => kk b o (by simpa using hb) e) f0 f1 f3 f4 f5⟩
    · exact (Walks.strWide (I.ok.hd hc) it z tk).done s _ _ st.1 fun h' tk' kk => ⟨rfl, I.turned (fun b o hb e => kk b o (by simpa using hb) e) f0 f1 f3 f4 f5⟩
  self := fun A i s Q E st h => by
    rcases hty with rfl | rfl
    · exact wpAny_pyIter_striter_ascii st.1 h
    · exact wpAny_pyIter_striter_wide st.1 h
theorem pi_str {tg l : Expr} {tl : TE} (hl : PE X l tl) : PI X tg l (iStr tl) := by
  intro pins s σ H R I h
  refine thn (hl pins s σ H _ I h) fun v s1 ⟨x, H1, I1, r1, q1⟩ => ?_
  obtain ⟨z, rfl, q⟩ := q1
  obtain ⟨t, rfl⟩ := r1
  have fin : ∀ ty : String, ty = "str_ascii_iterator" ∨ ty = "str_iterator" → PIE X pins σ tg R (.ref s1.heap.objs.size) { s1 with heap := s1.heap.push { cls := .type ty, data := .fields #[.str z t, .int 0 0] } } := fun ty hty => by
    refine ⟨s1.heap.objs.size, [s1.heap.objs.size], _, _, H1, rfl, I1.kept (t' := s1.toks) fun b o e => Heap.get?_push_of_some _ e, turn_str (z := z) (tk := t) hty, ⟨⟨_, Heap.get?_push_size _ rfl, rfl, rfl⟩, Nat.zero_le _⟩, fun b hb => ?_, q⟩
    have e : b = s1.heap.objs.size := by simpa using hb
    subst e
    exact I1.fpOk (Nat.le_refl _) (I1.hok.fresh (Nat.le_refl _))
  cases ha : z.cps.all (· < 128)
  · exact wpAny_pyIter_wide ha (fin _ (.inr rfl))
  · exact wpAny_pyIter_ascii ha (fin _ (.inl rfl))

noncomputable def rSlS : V → Option Int → Option Int → Hp → VK → Prop := fun x lo hi H Q => ∃ z, x = .str z ∧ z.length ≤ sizeLine ∧ Q (.str (PySem.Txt.slice z lo hi)) H
theorem sl_str : SlR X rSlS := by
  intro pins s σ H x v vl vu lo hi sl Q I rx hs pl pu h
  obtain ⟨z, rfl, hz, q⟩ := h
  obtain ⟨t, rfl⟩ := rx
  refine ⟨"str", _, F.slot_str_getitem.lookup, typeIs_str _ _ _, ?_⟩
  cases pl with
  | none =>
    cases pu with
    | none => exact wpAny_getItem_str_slice (l := none) (u := none) (st := none) hs rfl (post_val_or_str ⟨Nat.le_trans (PySem.Txt.slice_le z _ _) hz, fun t' k => ⟨.str _, H, I.tok k, ⟨t', rfl⟩, q⟩⟩)
    | int j uj => exact wpAny_getItem_str_slice (l := none) (u := some (j, uj)) (st := none) hs rfl (post_val_or_str ⟨Nat.le_trans (PySem.Txt.slice_le z _ _) hz, fun t' k => ⟨.str _, H, I.tok k, ⟨t', rfl⟩, q⟩⟩)
  | int i ui =>
    cases pu with
    | none => exact wpAny_getItem_str_slice (l := some (i, ui)) (u := none) (st := none) hs rfl (post_val_or_str ⟨Nat.le_trans (PySem.Txt.slice_le z _ _) hz, fun t' k => ⟨.str _, H, I.tok k, ⟨t', rfl⟩, q⟩⟩)
    | int j uj => exact wpAny_getItem_str_slice (l := some (i, ui)) (u := some (j, uj)) (st := none) hs rfl (post_val_or_str ⟨Nat.le_trans (PySem.Txt.slice_le z _ _) hz, fun t' k => ⟨.str _, H, I.tok k, ⟨t', rfl⟩, q⟩⟩)
theorem sl_any : SlR X (fun x lo hi H Q => rSlL X.K x lo hi H Q ∨ (rSlT X.K x lo hi H Q ∨ rSlS x lo hi H Q)) := sl_list.or (sl_tup.or sl_str)
end
end L2

set_option Elab.async false
set_option linter.all false
set_option maxRecDepth 100000
set_option maxHeartbeats 4000000
namespace L2
open PySem PySem.Spec PyProof.Rows
noncomputable def cW (R : St → Prop) (P : Nat → List V → Hp → Prop) (n : Nat) (D : Addr) : Nat → Nat → St → Hp → Prop := fun i m σ' H => m = n - i ∧ i ≤ n ∧ R σ' ∧ ∃ ys, P i ys H ∧ H D = some (.lst ys)
noncomputable def cYes (R : St → Prop) (P : Nat → List V → Hp → Prop) (n : Nat) (D : Addr) (σ : St) (i : Nat) : VK := fun v H5 => ∃ xs, H5 D = some (.lst xs) ∧ xs.length < sizeLine ∧ ∃ m', m' < n - i ∧ cW R P n D (i + 1) m' σ (upd H5 D (.lst (xs ++ [v])))
noncomputable def cNo (R : St → Prop) (P : Nat → List V → Hp → Prop) (n : Nat) (D : Addr) (σ : St) (i : Nat) : Hp → Prop := fun H4 => ∃ m', m' < n - i ∧ cW R P n D (i + 1) m' σ H4
theorem cyes {R : St → Prop} {P : Nat → List V → Hp → Prop} {n : Nat} {D : Addr} {σ : St} {i : Nat} {ys : List V} {v : V} {H : Hp} (hi : i < n) (r : R σ) (h : H D = some (.lst ys)) (hl : ys.length < sizeLine) (p : P (i + 1) (ys ++ [v]) (upd H D (.lst (ys ++ [v])))) : cYes R P n D σ i v H :=
  ⟨ys, h, hl, n - (i + 1), by walk_at "om", rfl, hi, r, _, p, upd_same⟩
theorem cno {R : St → Prop} {P : Nat → List V → Hp → Prop} {n : Nat} {D : Addr} {σ : St} {i : Nat} {ys : List V} {H : Hp} (hi : i < n) (r : R σ) (h : H D = some (.lst ys)) (p : P (i + 1) ys H) : cNo R P n D σ i H :=
  ⟨n - (i + 1), by walk_at "om", rfl, hi, r, _, p, h⟩
theorem comp_gen {J : It} {g : TG} {tt : TT} {te : TE} {σ0 : St} {H1 : Hp} {Q : VK} {D : Addr} {n : Nat} {xv : Nat → V} {st : Nat → St} (R : St → Prop) (P : Nat → List V → Hp → Prop) (r0 : R σ0) (h0 : P 0 [] (upd H1 D (.lst [])))
    (hj : ∀ i ys H, i < n → P i ys H → H D = some (.lst ys) → J.go i H ∧ ∀ x H2, J.yld i H x H2 → H2 = H ∧ x = xv i) (he : ∀ ys H, P n ys H → H D = some (.lst ys) → J.stop n H)
    (hg : ∀ i ys σ' H (K : St → Hp → Prop), i < n → R σ' → P i ys H → K (st i) H → g (xv i) σ' H K)
    (hs : ∀ i ys H, i < n → P i ys H → H D = some (.lst ys) → tt (st i) H fun b H4 => if b = true then te (st i) H4 (cYes R P n D (st i) i) else cNo R P n D (st i) i H4)
    (hd : ∀ ys H, P n ys H → H D = some (.lst ys) → Q (.ref D) H) :
    CompGo J g tt te σ0 H1 Q D := by
  refine ⟨cW R P n D, ⟨n, by simp [cW, r0]; exact ⟨_, h0, upd_same⟩⟩, ?_⟩
  rintro i m σ' H' ⟨rfl, hi, r, ys, p, hD⟩
  by_cases hlt : i < n
  · obtain ⟨g1, g2⟩ := hj i ys H' hlt p hD
    refine .inr ⟨g1, fun x H2 y => ?_⟩
    obtain ⟨rfl, rfl⟩ := g2 x H2 y
    exact hg i ys σ' H2 _ hlt r p (hs i ys H2 hlt p hD)
  · have e : i = n := by walk_at "om"
    subst e
    exact .inl ⟨he ys H' p hD, hd ys H' p hD⟩
noncomputable def Rset (t : Nat) (σ0 : St) : St → Prop := fun σ' => ∀ v, σ'.set t v = σ0.set t v
theorem rset0 {t : Nat} {σ0 : St} : Rset t σ0 σ0 := fun _ => rfl
theorem rset1 {t : Nat} {σ0 : St} {x : Option V} : Rset t σ0 (σ0.set t x) := fun v => by rw [List.set_set]
theorem comp_range {t : Nat} {tt : TT} {te : TE} {σ0 : St} {H1 : Hp} {Q : VK} {D : Addr} {lo : Int} {n : Nat} (P : Nat → List V → Hp → Prop) (h0 : P 0 [] (upd H1 D (.lst [])))
    (hs : ∀ i ys H, i < n → P i ys H → H D = some (.lst ys) → tt (σ0.set t (some (.int (lo + i)))) H fun b H4 => if b = true then te (σ0.set t (some (.int (lo + i)))) H4 (cYes (Rset t σ0) P n D (σ0.set t (some (.int (lo + i)))) i) else cNo (Rset t σ0) P n D (σ0.set t (some (.int (lo + i)))) i H4)
    (hd : ∀ ys H, P n ys H → H D = some (.lst ys) → Q (.ref D) H) :
    CompGo (Itr lo n) (gName t) tt te σ0 H1 Q D :=
  comp_gen (xv := fun i => .int (lo + i)) (st := fun i => σ0.set t (some (.int (lo + i)))) (Rset t σ0) P rset0 h0 (fun i _ H hi _ _ => ⟨hi, fun x H2 y => y⟩) (fun _ _ _ _ => Nat.le_refl n)
    (fun i _ σ' H K _ r _ k => by show K (σ'.set t (some (.int (lo + i)))) H; rw [r]; exact k) hs hd
theorem comp_list {K : PySem.W.Frag} {a : Addr} {xs : List V} {t : Nat} {tt : TT} {te : TE} {σ0 : St} {H1 : Hp} {Q : VK} {D : Addr} (P : Nat → List V → Hp → Prop) (h0 : P 0 [] (upd H1 D (.lst []))) (hl : ∀ i ys H, P i ys H → H D = some (.lst ys) → SqL K H a xs)
    (hs : ∀ i ys H x, xs[i]? = some x → P i ys H → H D = some (.lst ys) → tt (σ0.set t (some x)) H fun b H4 => if b = true then te (σ0.set t (some x)) H4 (cYes (Rset t σ0) P xs.length D (σ0.set t (some x)) i) else cNo (Rset t σ0) P xs.length D (σ0.set t (some x)) i H4)
    (hd : ∀ ys H, P xs.length ys H → H D = some (.lst ys) → Q (.ref D) H) :
    CompGo (Itl K a) (gName t) tt te σ0 H1 Q D := by
  have get : ∀ i, i < xs.length → xs[i]? = some (xs.getD i .non) := fun i hi => by simp [List.getD, hi]
  refine comp_gen (xv := fun i => xs.getD i .non) (st := fun i => σ0.set t (some (xs.getD i .non))) (Rset t σ0) P rset0 h0 (fun i ys H hi p hD => ⟨⟨xs, _, hl i ys H p hD, get i hi⟩, fun x H2 y => ⟨y.1, ?_⟩⟩) (fun ys H p hD => ⟨xs, hl _ ys H p hD, Nat.le_refl _⟩)
    (fun i _ σ' H K _ r _ k => by show K (σ'.set t (some (xs.getD i .non))) H; rw [r]; exact k) (fun i ys H hi p hD => hs i ys H _ (get i hi) p hD) hd
  have e := y.2 xs (hl i ys H p hD)
  rw [get i hi] at e
  exact (Option.some.inj e).symm
theorem comp_tup {K : PySem.W.Frag} {a : Addr} {xs : List V} {t : Nat} {tt : TT} {te : TE} {σ0 : St} {H1 : Hp} {Q : VK} {D : Addr} (P : Nat → List V → Hp → Prop) (h0 : P 0 [] (upd H1 D (.lst []))) (hl : ∀ i ys H, P i ys H → H D = some (.lst ys) → SqT K H a xs)
    (hs : ∀ i ys H x, xs[i]? = some x → P i ys H → H D = some (.lst ys) → tt (σ0.set t (some x)) H fun b H4 => if b = true then te (σ0.set t (some x)) H4 (cYes (Rset t σ0) P xs.length D (σ0.set t (some x)) i) else cNo (Rset t σ0) P xs.length D (σ0.set t (some x)) i H4)
    (hd : ∀ ys H, P xs.length ys H → H D = some (.lst ys) → Q (.ref D) H) :
    CompGo (Itt K a) (gName t) tt te σ0 H1 Q D := by
  have get : ∀ i, i < xs.length → xs[i]? = some (xs.getD i .non) := fun i hi => by simp [List.getD, hi]
  refine comp_gen (xv := fun i => xs.getD i .non) (st := fun i => σ0.set t (some (xs.getD i .non))) (Rset t σ0) P rset0 h0 (fun i ys H hi p hD => ⟨⟨xs, _, hl i ys H p hD, get i hi⟩, fun x H2 y => ⟨y.1, ?_⟩⟩) (fun ys H p hD => ⟨xs, hl _ ys H p hD, Nat.le_refl _⟩)
    (fun i _ σ' H K _ r _ k => by show K (σ'.set t (some (xs.getD i .non))) H; rw [r]; exact k) (fun i ys H hi p hD => hs i ys H _ (get i hi) p hD) hd
  have e := y.2 xs (hl i ys H p hD)
  rw [get i hi] at e
  exact (Option.some.inj e).symm
theorem comp_str {z : Str} {t : Nat} {tt : TT} {te : TE} {σ0 : St} {H1 : Hp} {Q : VK} {D : Addr} (P : Nat → List V → Hp → Prop) (h0 : P 0 [] (upd H1 D (.lst [])))
    (hs : ∀ i ys H c, z.cps[i]? = some c → P i ys H → H D = some (.lst ys) → tt (σ0.set t (some (.str ⟨#[c]⟩))) H fun b H4 => if b = true then te (σ0.set t (some (.str ⟨#[c]⟩))) H4 (cYes (Rset t σ0) P z.cps.size D (σ0.set t (some (.str ⟨#[c]⟩))) i) else cNo (Rset t σ0) P z.cps.size D (σ0.set t (some (.str ⟨#[c]⟩))) i H4)
    (hd : ∀ ys H, P z.cps.size ys H → H D = some (.lst ys) → Q (.ref D) H) :
    CompGo (Its z) (gName t) tt te σ0 H1 Q D := by
  have get : ∀ i, i < z.cps.size → z.cps[i]? = some (z.cps.getD i 0) := fun i hi => by simp [Array.getD, hi]
  refine comp_gen (xv := fun i => .str ⟨#[z.cps.getD i 0]⟩) (st := fun i => σ0.set t (some (.str ⟨#[z.cps.getD i 0]⟩))) (Rset t σ0) P rset0 h0 (fun i ys H hi p hD => ⟨hi, fun x H2 y => ⟨y.1, ?_⟩⟩) (fun ys H p hD => Nat.le_refl _)
    (fun i _ σ' H K _ r _ k => by show K (σ'.set t (some (.str ⟨#[z.cps.getD i 0]⟩))) H; rw [r]; exact k) (fun i ys H hi p hD => hs i ys H _ (get i hi) p hD) hd
  obtain ⟨c, e, ex⟩ := y.2
  rw [get i hi] at e
  rw [ex, ← Option.some.inj e]
end L2
namespace L2
open PySem PySem.Spec PyProof.Rows
theorem yes {σ : St} {H : Hp} {A B : Hp → Prop} (h : A H) : tYes σ H fun b H4 => if b = true then A H4 else B H4 := by
  show if true = true then A H else B H
  rw [if_pos rfl]
  exact h
end L2

set_option Elab.async false
set_option linter.all false
set_option maxRecDepth 100000
set_option maxHeartbeats 4000000
namespace L2
open PySem PySem.Spec PyProof.Rows
section
variable {X : Cx} (K : PySem.W.Frag)
theorem kix_seq (hK : X.K = K := by rfl) : IxR X (rIx K) := hK ▸ ix_seq
theorem kop_notIn_seq (hK : X.K = K := by rfl) : OpR X (compareOp .NotIn) (rIn K true) := hK ▸ op_notIn_seq
theorem ksl_any (hK : X.K = K := by rfl) : SlR X (fun x lo hi H Q => rSlL K x lo hi H Q ∨ (rSlT K x lo hi H Q ∨ rSlS x lo hi H Q)) := hK ▸ sl_any
theorem kcall_len (hK : X.K = K := by rfl) : CallR X (.builtin "len") (fun xs H Q => ∃ x n, xs = [x] ∧ LenV K x H n ∧ Q (.int n) H) := hK ▸ call_len
theorem kcall_list_of (hK : X.K = K := by rfl) : CallR X (.type "list") (fun xs H Q => ∃ p ys, xs = [.ref p] ∧ (SqL K H p ys ∨ SqT K H p ys) ∧ ∀ l, H l = none → Q (.ref l) (upd H l (.lst ys))) := hK ▸ call_list_of
theorem kcall_tuple_of (hK : X.K = K := by rfl) : CallR X (.type "tuple") (fun xs H Q => ∃ p ys, xs = [.ref p] ∧ ((SqL K H p ys ∧ ∀ l, H l = none → Q (.ref l) (upd H l (.tup ys))) ∨ (SqT K H p ys ∧ Q (.ref p) H))) := hK ▸ call_tuple_of
theorem kcall_isiT (hK : X.K = K := by rfl) : CallR X (.builtin "isinstance") (fun xs H Q => ∃ x n t b, xs = [x, .ty n] ∧ TyOf K H x t ∧ PySem.W.kitOne K t (.type n) = some b ∧ Q (.bl b) H) := hK ▸ call_isiT
theorem kpi_list {tg l : Expr} {tl : TE} (hl : PE X l tl) (hK : X.K = K := by rfl) : PI X tg l (iList K tl) := hK ▸ pi_list hl
theorem kpi_tup {tg l : Expr} {tl : TE} (hl : PE X l tl) (hK : X.K = K := by rfl) : PI X tg l (iTup K tl) := hK ▸ pi_tup hl
theorem kpe_bm {o e : Expr} {es : List Expr} {to : TE} {t : TA} {name : Str} {apos cpos : Pos} {T id : String} {r : V → List V → Hp → VK → Prop} (pa : PlainAttrs T) (slot : Slot T name id) (hty : typeOf (.builtin id) = pure (.type "method_descriptor")) (hm : MtR X id r) (ho : PE X o to) (ha : PA X (e :: es) t)
    (hbase : attributeBase o name X.env (eval o X.env) = eval o X.env := by rfl)
    (hfew : ((backTo cpos (starEach (e :: es) X.env)).all (fun x => !x.1) && (backToKw cpos (keywordEach [] X.env)).all (fun x => x.1.isSome)
      && decide ((e :: es).length + ([] : List Keyword).length + (if ([] : List Keyword).isEmpty then 0 else 1) < 30)) = true := by rfl)
    (hline : (apos.endLine == cpos.line) = true := by rfl) (hs : starEach (e :: es) X.env = (false, eval e X.env) :: starEach es X.env := by rfl) (hplain : (backTo cpos (starEach es X.env)).any (·.1) = false := by rfl) (hK : X.K = K := by rfl) :
    PE X (.Call (.Attribute o name apos) (e :: es) [] cpos) (tBM K T r to t) := hK ▸ pe_bm pa slot hty hm ho ha hbase hfew hline hs hplain
theorem kpe_bm0 {o : Expr} {to : TE} {name : Str} {apos cpos : Pos} {T id : String} {r : V → List V → Hp → VK → Prop} (pa : PlainAttrs T) (slot : Slot T name id) (hty : typeOf (.builtin id) = pure (.type "method_descriptor")) (hm : MtR X id r) (ho : PE X o to)
    (hbase : attributeBase o name X.env (eval o X.env) = eval o X.env := by rfl) (hline : (apos.endLine == cpos.line) = true := by rfl) (hK : X.K = K := by rfl) : PE X (.Call (.Attribute o name apos) [] [] cpos) (tBM0 K T r to) := hK ▸ pe_bm0 pa slot hty hm ho hbase hline
theorem kpg_tup {es : List Expr} {k : Nat} {pos : Pos} {t : TGs} {n : Nat} (hc : X.calm = true) (h : PGs X es t) (hn : (assignEach es X.env).length = n := by rfl) (hst : (assignEach es X.env).findIdx? (·.1) = none := by rfl) (hK : X.K = K := by rfl) : PG X (.Tuple es k pos) (gTup K n t) := hK ▸ pg_tup hc h hn hst
end
end L2

set_option Elab.async false
set_option linter.all false
set_option maxRecDepth 100000
set_option maxHeartbeats 4000000
namespace L2
open PySem PySem.Spec PyProof.Rows

noncomputable def Mid (i : Int) : Prop := i.natAbs < 2 ^ 8000
theorem Mid.log {i : Int} (h : Mid i) : i.natAbs.log2 < 8000 := by
  rcases Nat.eq_zero_or_pos i.natAbs with z | z
  · rw [z]; decide
  · exact (Nat.log2_lt (Nat.ne_of_gt z)).mpr h
theorem Mid.bits {i : Int} (h : Mid i) : Builtin.Int.intBits i ≤ 2 ^ 20 := by
  have := h.log
  have e : (2 : Nat) ^ 20 = 1048576 := by decide
  unfold Builtin.Int.intBits
  split
  · exact Nat.zero_le _
  · walk_at "om"
section
variable {X : Cx}
theorem op_mulM : OpR X (binaryOp .Mult) (rI (fun i j => Mid i ∧ Mid j) fun i j => .int (i * j)) := opI fun _ _ _ _ _ _ _ hc q => mul_int q (IntMulOk.of_bits hc.1.bits hc.2.bits)
theorem op_fdivM : OpR X (binaryOp .FloorDiv) (rI (fun _ j => j ≠ 0 ∧ Mid j) fun i j => .int (i.fdiv j)) := opI fun _ _ _ _ _ _ _ hc q => floordiv_int hc.1 q (.inl (PyProof.noPylong_of_log2 (Nat.lt_trans hc.2.log (by decide))))
end

structure Fly (l : List Env) (H' : Hp) (old : Heap) (e : Addr) (cls : Value) (h : Heap) : Prop where
  ex : ∃ B a0, Heap.FlyingW B l e cls a0 h ∧ ∀ b o, h.get? b = some o → b ∉ frs l → ((∃ u, H' b = some u) ∨ ∃ u, old.get? b = some u) → B.get? b = some o
  new : H' e = none
  nold : old.get? e = none
noncomputable def CX1 (P : Program) (w : World) : CXT := fun outer H s E e s' => ∃ (ea : Addr) (cls : Value) (H' : Hp), e = .ref ea ∧ s'.os = s.os ∧ AllBare s'.gens ∧ Un (frs outer) [] H H' s.heap s'.heap ∧ HOk P w H' s'.heap ∧ Fly outer H' s.heap ea cls s'.heap ∧ E cls none H'
theorem ObjOk.some {P : Program} {w : World} {H : Hp} {h : Heap} {a : Addr} {o : HO} (x : ObjOk P w H h a o) : ∃ ob, h.get? a = some ob := by
  cases o with
  | lst xs => obtain ⟨_, _, _, _, e⟩ := x; exact ⟨_, e⟩
  | tup xs => obtain ⟨_, _, _, o, e, _⟩ := x; exact ⟨_, e⟩
  | dK kvs => obtain ⟨_, _, _, _, o, _, _, e, _⟩ := x; exact ⟨_, e⟩
  | dT kvs => obtain ⟨_, _, _, _, o, _, _, e, _⟩ := x; exact ⟨_, e⟩
  | set S n => obtain ⟨o, _, _, _, e, _⟩ := x; exact ⟨_, e⟩
  | ins C dx fs => obtain ⟨_, _, _, e, _⟩ := x; exact ⟨_, e⟩
  | own y => exact x
  | xd fs => obtain ⟨_, ⟨_, _, _, e, _⟩, _⟩ := x; exact ⟨_, e⟩
  | rng lo hi => obtain ⟨_, _, _, e⟩ := x; exact ⟨_, e⟩
  | frz ob u => obtain ⟨e, _⟩ := x; exact ⟨_, e⟩
  | tbl ps => exact ⟨_, x⟩
  | met f y => exact ⟨_, x⟩
  | ext φ => obtain ⟨_, z, _⟩ := x; exact z
section
variable {X : Cx} {pins : List (Addr × Obj)} {σ : St} {H H' : Hp} {s s' : Shared} {h2 : Heap}
theorem Inv.left (I : Inv X pins σ H s) (hex : X.ex = []) (k : ∀ b o, s.heap.get? b = some o → b ∉ frs X.stack → ((∃ u, H b = some u) ∨ ∃ u, X.s₀.heap.get? b = some u) → h2.get? b = some o)
    (sl : ∀ b o, s.heap.get? b = some o → b ∈ frs X.outer → ∃ q, h2.get? b = some { o with slots := q }) : Un (frs X.outer) [] X.H₀ H X.s₀.heap h2 ∧ HOk X.prog X.w H h2 := by
  have nx : ∀ b, b ∉ X.ex := fun b z => by rw [hex] at z; exact absurd z (by simp)
  have neL : ∀ b o, X.s₀.heap.get? b = some o → b ≠ X.env.locals := fun b o e => Nat.ne_of_lt (Nat.lt_of_lt_of_le (Heap.lt_size e) I.ok.above)
  have nst : ∀ b, b ≠ X.env.locals → b ∉ frs X.outer → b ∉ frs X.stack := fun b h1 h3 z => (List.mem_cons.mp (I.stkSub b z)).elim h1 h3
  refine ⟨⟨fun b o e n nf _ => ?_, fun b o e n hb _ => ?_, fun b o e n _ => I.base.free b o e n (nx b), fun b o e _ => ?_, I.base.tups, I.base.frzs, I.base.tbls⟩, fun a o e => ?_⟩
  · exact k b o (I.base.keep b o e n nf (nx b)) (nst b (neL b o e) nf) (.inr ⟨o, e⟩)
  · obtain ⟨q, e1⟩ := I.base.slot b o e n hb (nx b)
    obtain ⟨q', e2⟩ := sl b _ e1 hb
    exact ⟨q', e2⟩
  · obtain ⟨o', e1⟩ := I.base.there b o e (nx b)
    by_cases hb : b ∈ frs X.outer
    · obtain ⟨q, e2⟩ := sl b o' e1 hb
      exact ⟨_, e2⟩
    · exact ⟨o', k b o' e1 (nst b (neL b o e) hb) (.inr ⟨o, e⟩)⟩
  · refine (I.hok a o e).stay (fun b u hb q => ?_) (fun _ q => q) fun _ _ q => q
    have ht : ∃ u, H b = some u := by
      rcases hb with z | z
      · exact ⟨o, by rw [z]; exact e⟩
      · exact ⟨_, z⟩
    refine k b u q (fun z => ?_) (.inl ht)
    obtain ⟨v, hv⟩ := ht
    rw [I.stkFree b z] at hv
    cases hv
theorem Inv.cov (I : Inv X pins σ H s) (hex : X.ex = []) {b : Addr} (h : (∃ u, H b = some u) ∨ ∃ u, X.s₀.heap.get? b = some u) : (∃ o, s.heap.get? b = some o) ∧ b ≠ X.env.locals := by
  rcases h with ⟨u, e⟩ | ⟨u, e⟩
  · refine ⟨(I.hok b u e).some, fun z => ?_⟩
    rw [z, I.free] at e
    cases e
  · exact ⟨I.base.there b u e (by rw [hex]; simp), Nat.ne_of_lt (Nat.lt_of_lt_of_le (Heap.lt_size e) I.ok.above)⟩
end
noncomputable def Thrown (X : Cx) (E : XK) : Prop := ∀ (pins : List (Addr × Obj)) (σ : St) (H : Hp) (s : Shared) (h' : Heap) (e : Addr) (cls : Value) (vs : List Value), Inv X pins σ H s → Heap.MadeExcOf s.heap h' e cls vs → E cls none H → X.xe (.ref e) { s with heap := h' }
section
variable {P : Program} {w : World} {K : PySem.W.Frag} {mg : Str → Option Value} {base : Heap} {N : List Str} {qual : Str} {scope : Scope} {f : Addr} {cd : Value} {A : Around} {outer : List Env} {s : Shared} {H : Hp} {E : XK}
theorem frs_mem {l : List Env} : ∀ env ∈ l, ∀ b, env.frame = some b → b ∈ frs l := fun env he b hb => List.mem_filterMap.mpr ⟨env, he, hb⟩
theorem thrown1 : Thrown (cxOf (CX1 P w) P w K mg base N qual scope f cd A outer s H E) E := by
  intro pins σ H1 s1 h' e cls vs I hm q
  have hex : (cxOf (CX1 P w) P w K mg base N qual scope f cd A outer s H E).ex = [] := rfl
  have hst : (cxOf (CX1 P w) P w K mg base N qual scope f cd A outer s H E).stack = envOfC qual scope s.heap.objs.size f cd :: outer := rfl
  have fin : ∀ b o, s1.heap.get? b = some o → b ∉ frs (envOfC qual scope s.heap.objs.size f cd :: outer) → (PySem.W.hideAll s1.heap (frs (envOfC qual scope s.heap.objs.size f cd :: outer))).get? b = some o := fun b o e1 nb => PySem.W.hideAll_get _ e1 nb
  refine wpAny_leaves_madeW (base := PySem.W.hideAll s1.heap (frs (envOfC qual scope s.heap.objs.size f cd :: outer))) (h := s1.heap) (L := s.heap.objs.size) I.ok.frames rfl (fun b o z => PySem.W.of_hideAll _ z)
    (PySem.W.funFrames_hide I.stack frs_mem) hm fun h'' t fl tp bt up => ?_
  have k : ∀ b o, s1.heap.get? b = some o → b ∉ frs (envOfC qual scope s.heap.objs.size f cd :: outer) → ((∃ u, H1 b = some u) ∨ ∃ u, s.heap.get? b = some u) → h''.get? b = some o := fun b o e1 nb _ => fl.1 b o (fin b o e1 nb)
  obtain ⟨un, hok⟩ := I.left (h2 := h'') hex k (fun b o e1 hb => up b o (hm.keeps b o e1) (by
    obtain ⟨_, o2, e2, nf⟩ := I.funs.mem hb
    rw [e1] at e2
    cases e2
    exact nf))
  have hnew : H1 e = none := by
    cases z : H1 e with
    | none => rfl
    | some u =>
      obtain ⟨ob, eo⟩ := (I.hok e u z).some
      rw [hm.new] at eo
      cases eo
  refine ⟨e, cls, H1, rfl, I.os, I.bare, un, hok, ⟨⟨_, _, fl, fun b o e1 nb hc => ?_⟩, hnew, ?_⟩, q⟩
  · obtain ⟨⟨o', eo⟩, neL⟩ := I.cov hex hc
    have nb' : b ∉ frs (envOfC qual scope s.heap.objs.size f cd :: outer) := fun z => (List.mem_cons.mp (I.stkSub b z)).elim neL nb
    have e2 := fl.1 b o' (fin b o' eo nb')
    have e3 : o = o' := Option.some.inj (e1.symm.trans e2)
    rw [e3]
    exact fin b o' eo nb'
  · cases z : s.heap.get? e with
    | none => rfl
    | some u =>
      obtain ⟨ob, eo⟩ := I.base.there e u z (by rw [hex]; simp)
      rw [hm.new] at eo
      cases eo
end

theorem exc_obj {K : PySem.W.Frag} {g : Heap} {C : Addr} {bmB : List Value} {newId : String} (X : K.In g) (q : PySem.W.excIn K C bmB newId = true) :
    ∃ tl N nm qn bs hd sn sub ab col dd k0 k1 k2 k3 k5 mN, g.get? C = some (excClassObj nm qn C N bs tl hd sn sub ab col dd k0 k1 k2 k3 k5 newId) ∧ g.Ns N mN ∧ mN "__init__" = none ∧ OwnTail g bmB tl := by
  unfold PySem.W.excIn at q
  split at q
  · rename_i d1 c1 l1 at1
    split at q
    · rename_i C1 tl j0 j1 j2 j3 n1 j5 hm1 hs1
      simp only [Bool.and_eq_true, beq_iff_eq, Bool.not_eq_true'] at q
      obtain ⟨⟨⟨⟨⟨r1, r2⟩, r3⟩, r4⟩, r5⟩, r6⟩ := q
      subst r1 r2
      obtain ⟨nm, bs, mro, ns, qn, hd, sn, sub, ab, col, del⟩ := c1
      have hm2 : mro = _ := hm1
      have r3' : del = false := r3
      subst hm2 r3'
      have sl2 : l1 = #[j0, j1, j2, j3, some (.builtin n1), j5] := by
        cases l1 with
        | mk ls =>
          have : ls = _ := hs1
          rw [this]
      subst sl2
      exact ⟨tl, ns, nm, qn, bs, hd, sn, sub, ab, col, d1, j0, j1, j2, j3, j5, _, X _ _ at1, .of_isNs (PySem.W.isNs_of_in X r5), PySem.W.nsMap_none_of_in X r5 r6, PySem.W.tail_of_in X r4⟩
    · cases q
  · cases q
section
variable {X : Cx}
noncomputable def tRaise (C : Addr) (E : XK) (t : TA) : TS := fun _ σ H => t σ H fun vs H1 => vs.length ≤ sizeLine ∧ E (.ref C) none H1
theorem ps_raise {x : Str} {C : Addr} {bmB bmN : List Value} {newId nid initId inN Bn B0 : String} {E : XK} {e0 : Expr} {es : List Expr} {t : TA} {np cpos pos : Pos} (hg : Gl X x) (hm : X.mg x = some (.ref C)) (q : PySem.W.excIn X.K C bmB newId = true)
    (Fn : ExcBaseFacts Bn newId inN bmN) (hBn : bmB.contains (.type Bn) = true) (FB : ExcBaseFacts B0 nid initId bmB) (hc : X.calm = true) (hx : Thrown X E) (ha : PA X (e0 :: es) t) (hdb : (x == ("__debug__" : Str)) = false := by decide)
    (he : starEach (e0 :: es) X.env = (false, eval e0 X.env) :: starEach es X.env := by rfl) (hpl : (backTo cpos (starEach es X.env)).any (·.1) = false := by rfl) :
    PS X (.Raise (some (.Call (.Name x np) (e0 :: es) [] cpos)) none pos) (tRaise C E t) := by
  intro pins s σ H D I h
  obtain ⟨tl, N, nm, qn, bs, hd, sn, sub, ab, col, dd, k0, k1, k2, k3, k5, mN, hC, hN, hni, T⟩ := exc_obj I.mod.kin q
  have ha' := ha cpos pins s σ H _ I h
  rw [he] at ha'
  refine wpAny_Raise_call_subU (C := C) (nm := nm) (q := qn) (N := N) (bs := bs) (bm := tl) (hdct := hd) (sn := sn) (sub := sub) (ab := ab) (col := col) (dd := dd) (k0 := k0) (k1 := k1) (k2 := k2) (k3 := k3) (k5 := k5)
    Fn hBn FB (mN := mN) (T.hasType FB.hasBase) (I.ok.hd hc) (by rw [he]; show (false || (backTo cpos (starEach es X.env)).any (·.1)) = false; rw [hpl]; rfl) hni (ld_glob I hg hm ⟨rfl, ?_⟩ hdb)
  rw [he]
  refine Calls.evalArgs_plain (wpAny_mono ha' (fun us s2 ⟨vs, H2, I2, r, hz, qE⟩ => ⟨rfl, ?_, I2.bk _ _ hC, hN.keeps I2.bk, T.keeps I2.bk, fun h' e hm => ?_⟩) fun _ _ y => y)
  · rw [← r.length]; exact hz
  · exact hx pins σ H2 s2 h' e _ _ I2 hm qE
end
end L2

set_option Elab.async false
set_option linter.all false
set_option maxRecDepth 100000
set_option maxHeartbeats 4000000
namespace L2
open PySem PySem.Spec PyProof.Rows
section
variable {X : Cx}
end
section
variable {X : Cx} {pins : List (Addr × Obj)} {σ : St} {H : Hp} {s : Shared}
theorem Inv.adopt {e : Addr} {u : HO} (I : Inv X pins σ H s) (hn : H e = none) (h0 : X.s₀.heap.get? e = none) (nL : e ≠ X.env.locals) (nC : ∀ x c, X.env.cells.lookup x = some c → c ≠ e) (nP : ∀ p ∈ X.pn ++ pins, p.1 ≠ e)
    (ok : ObjOk X.prog X.w (upd H e u) s.heap e u) : Inv X pins σ (upd H e u) s := by
  have ne : ∀ {b : Addr} {v : HO}, H b = some v → b ≠ e := fun q => ne_of_none q hn
  refine ⟨I.ok, I.os, I.bare, ⟨I.base.keep, I.base.slot, fun b o q n hx => ?_, I.base.there, fun b xs q => ?_, fun b o v q => ?_, fun b ps q => ?_⟩, I.loc, I.cell, ?_, fun x c q => ?_, fun p hp => ?_, fun a o q => ?_, I.len⟩
  · have z : b ≠ e := fun z => by rw [z, h0] at q; cases q
    rw [upd_ne z]
    exact I.base.free b o q n hx
  · have q1 := I.base.tups b xs q
    rw [upd_ne (ne q1)]
    exact q1
  · have q1 := I.base.frzs b o v q
    rw [upd_ne (ne q1)]
    exact q1
  · obtain ⟨more, q1⟩ := I.base.tbls b ps q
    exact ⟨more, by rw [upd_ne (ne q1)]; exact q1⟩
  · rw [upd_ne (Ne.symm nL)]
    exact I.free
  · rw [upd_ne (nC x c q)]
    exact I.freeC x c q
  · obtain ⟨p1, p2, p3⟩ := I.pin p hp
    exact ⟨p1, by rw [upd_ne (nP p hp)]; exact p2, p3⟩
  · by_cases z : a = e
    · subst z
      rw [upd_same] at q
      cases q
      exact ok
    · rw [upd_ne z] at q
      exact (I.hok a o q).stay (fun _ _ _ r => r) (fun c r => by rw [upd_ne (ne r)]; exact r) fun c xs r => by rw [upd_ne (ne r)]; exact r
end
section
variable {X : Cx} {pins : List (Addr × Obj)} {R : Value → St → Hp → Prop} {e : Value} {s' : Shared}
end
section
variable {X : Cx} {pins : List (Addr × Obj)} {σ : St} {H : Hp} {s : Shared} {ea : Addr}
end
end L2
namespace L2
open PySem PySem.Spec PyProof.Rows
noncomputable def Def1 (P : Program) (w : World) (K : PySem.W.Frag) (mg : Str → Option Value) (base : Heap) (k : Nat) (x : Str) (ps : List Str) (sp : Sp) : Prop :=
  ∃ (f : Addr) (fd : FuncData), FnOk P w K mg base (CX1 P w) k f fd ps sp ∧ mg x = some (.ref f) ∧ PySem.W.keepIn K (.ref f) = true ∧ Binds K fd ps []
section
variable {X : Cx} {k k' : Nat} {x : Str} {ps : List Str} {sp : Sp} {e : Expr} {es : List Expr} {t : TA} {p pos : Pos}
theorem pe_def1 (D : Def1 X.prog X.w X.K X.mg X.base k x ps sp) (hr : Room k' X.A) (hk : k ≤ k') (hg : Gl X x) (ha : PA X (e :: es) t)
    (hdb : (x == ("__debug__" : Str)) = false := by decide) (he : starEach (e :: es) X.env = (false, eval e X.env) :: starEach es X.env := by rfl) (hpl : (backTo pos (starEach es X.env)).any (·.1) = false := by rfl) :
    PE X (.Call (.Name x p) (e :: es) [] pos) (tCall sp [] E0 t) := by
  obtain ⟨f, fd, F, m, kp, b⟩ := D
  exact pe_call F (hr.mono hk) hg m kp b .nil (fun _ _ _ _ _ _ _ h => by obtain ⟨_, _, _, _, _, _, _, _, _, z⟩ := h; exact False.elim z) ha hdb he hpl
end
section
variable {P : Program} {w : World} {K : PySem.W.Frag} {mg : Str → Option Value} {base : Heap}
theorem Fun.ok1 {x qual : Str} {st : Stmt} {f : Addr} {fd : FuncData} {N ps : List Str} {k : Nat} {sp : Sp} (F : Fun K x qual st f fd) (S : FnScope N ps (defScope st)) (len : ∀ vs H Q E, sp vs H Q E → vs.length = ps.length)
    (hbody : ∀ (cdv : Value) (A : Around) (outer : List Env) (s : Shared) (H : Hp) (vs : List V) (Q : VK) (E : XK), Room k (A.deeper (envOfC qual (defScope st) s.heap.objs.size f cdv)) → sp vs H Q E →
      ∃ t, PSs (cxOf (CX1 P w) P w K mg base N qual (defScope st) f cdv A outer s H E) (defBody st) t ∧ t { nx := fun _ H' => Q .non H', rt := Q } (start N vs) H) : FnOk P w K mg base (CX1 P w) (k + 1) f fd ps sp := by
  obtain ⟨oc, od, kV, doc, pm, an, cdv, ct, osl, rfl, lk, hcd⟩ := F.ex
  exact fn_of lk hcd S len fun A outer s H vs Q E hr hsp => hbody cdv A outer s H vs Q E hr hsp
end
end L2

set_option Elab.async false
set_option linter.all false
set_option maxRecDepth 100000
set_option maxHeartbeats 4000000
namespace L2
open PySem PySem.Spec PyProof.Rows
section
variable {prog : Program} {w : World} {A : Around} {E : Value → Shared → Prop} {s : Shared} {K : PySem.W.Frag} {e C : Addr} {h : Heap}
end
end L2
namespace L2
open PySem PySem.Spec PyProof.Rows
noncomputable def eqVs (xs ys : List V) : Bool := (xs.zip ys).all (fun p => eqV p.1 p.2) && xs.length == ys.length
theorem eqAt_get {A : Around} {s : Shared} {xs ys : List V} {us vs : List Value} (rx : Vals xs us) (ry : Vals ys vs) (fx : xs.all flatV = true) (fy : ys.all flatV = true) (j : Nat) (h1 : j < us.toArray.size) (h2 : j < vs.toArray.size) :
    SeqAt.EqAt A s us.toArray[j] vs.toArray[j] (eqV (xs.getD j .non) (ys.getD j .non)) := by
  have l1 := rx.length
  have l2 := ry.length
  have g1 : j < us.length := by simpa using h1
  have g2 : j < vs.length := by simpa using h2
  have k1 : xs[j]? = some (xs.getD j .non) := by simp [List.getD, show j < xs.length by walk_at "om"]
  have k2 : ys[j]? = some (ys.getD j .non) := by simp [List.getD, show j < ys.length by walk_at "om"]
  obtain ⟨u, e1, r1⟩ := rx.get k1
  obtain ⟨v, e2, r2⟩ := ry.get k2
  have f1 := List.all_eq_true.mp fx _ (List.mem_of_getElem? k1)
  have f2 := List.all_eq_true.mp fy _ (List.mem_of_getElem? k2)
  have w1 : us.toArray[j] = u := by
    rw [List.getElem?_eq_getElem g1] at e1
    simpa using Option.some.inj e1
  have w2 : vs.toArray[j] = v := by
    rw [List.getElem?_eq_getElem g2] at e2
    simpa using Option.some.inj e2
  rw [w1, w2]
  exact eqAt_V r1 r2 f1 f2
theorem range_all : ∀ (xs ys : List V), xs.length = ys.length → ((List.range xs.length).all fun j => eqV (xs.getD j .non) (ys.getD j .non)) = (xs.zip ys).all fun p => eqV p.1 p.2
  | [], [], _ => rfl
  | [], _ :: _, h => by cases h
  | _ :: _, [], h => by cases h
  | x :: xs, y :: ys, h => by
    have ih := range_all xs ys (by simpa using h)
    rw [List.length_cons, List.range_succ_eq_map, List.all_cons, List.all_map, List.zip_cons_cons, List.all_cons, ← ih]
    rfl
section
variable {X : Cx}
theorem bools_at {bs : List Bool} : ∀ {us : List Value}, Vals (bs.map V.bl) us → us = bs.map Value.bool := by
  induction bs with
  | nil => intro us r; rw [List.map_nil] at r; cases r; rfl
  | cons b bs ih =>
    intro us r
    rw [List.map_cons] at r
    cases r with
    | cons r1 r2 => rw [List.map_cons, ← ih r2]; cases r1; rfl
theorem range_bools : ∀ bs : List Bool, ((List.range bs.length).all fun i => bs.getD i true) = bs.all id
  | [] => rfl
  | b :: bs => by
    have ih := range_bools bs
    rw [List.length_cons, List.range_succ_eq_map, List.all_cons, List.all_map, List.all_cons, ← ih]
    rfl
theorem call_all (hc : X.calm = true) : CallR X (.builtin "all") (fun xs H Q => ∃ (p : Addr) (bs : List Bool), xs = [.ref p] ∧ SqL X.K H p (bs.map V.bl) ∧ Q (.bl (bs.all id)) H) := by
  intro pins s σ H xs us Q I r h
  obtain ⟨p, bs, rfl, hq, q⟩ := h
  obtain ⟨u, rfl, ru⟩ := vals1 r
  cases ru
  obtain ⟨its, rv, pl, _⟩ := I.list hq
  have hl : s.heap.IsList p its.toArray := pl.isList
  have hlt : p < s.heap.objs.size := by obtain ⟨_, e, _⟩ := hl; exact Heap.lt_size e
  refine call_all_walk (wpAny_pyIter_list hl ⟨_, _, _, _, _, _, fun i => bs.getD i true, rfl, Walks.list (A := X.A.in1) (I.ok.hd hc) _ p (Nat.ne_of_lt hlt) its.toArray, ⟨⟨_, Heap.get?_push_size _ rfl, rfl, rfl⟩, hl.push _⟩, fun i v s' Q' E' hv hQ => ?_, fun h' tk hk => ⟨.bl _, H, I.kept (old_kept hk), rfl, ?_⟩⟩)
  · have hv' : its[i]? = some v := by simpa using hv
    rw [bools_at rv, List.getElem?_map] at hv'
    obtain ⟨b, hb, rfl⟩ := Option.map_eq_some_iff.mp hv'
    have e : bs.getD i true = b := by simp [List.getD, hb]
    have z : Q' (bs.getD i true) s' := hQ
    rw [e] at z
    exact wpAny_truthy_bool z
  · have e1 : its.toArray.size = bs.length := by
      have := rv.length
      rw [List.length_map] at this
      simp; walk_at "om"
    rw [e1]
    have e2 := range_bools bs
    rw [e2]
    exact q
theorem bt_max : bootBuiltins "max" = some (.builtin "max") := by decide +kernel
theorem kcall_all (K : PySem.W.Frag) (hc : X.calm = true) (hK : X.K = K := by rfl) : CallR X (.builtin "all") (fun xs H Q => ∃ (p : Addr) (bs : List Bool), xs = [.ref p] ∧ SqL K H p (bs.map V.bl) ∧ Q (.bl (bs.all id)) H) := hK ▸ call_all hc
end
end L2

set_option Elab.async false
set_option linter.all false
set_option maxRecDepth 100000
set_option maxHeartbeats 4000000
namespace L2
open PySem PySem.Spec PyProof.Rows
section
variable {X : Cx} {tg : Expr}
noncomputable def rNeT (K : PySem.W.Frag) : R2 := fun x y H Q => ∃ p q xs ys, x = .ref p ∧ y = .ref q ∧ SqT K H p xs ∧ SqT K H q ys ∧ xs.all flatV = true ∧ ys.all flatV = true ∧ xs.length = ys.length ∧ Q (.bl (!eqVs xs ys)) H
theorem op_neT (K : PySem.W.Frag) {k : Nat} (hr : Room k X.A) (hK : X.K = K := by rfl) : OpR X (compareOp .NotEq) (rNeT K) := by
  subst hK
  intro pins s σ H x y v u Q I rx ry h
  obtain ⟨p, q, xs, ys, rfl, rfl, h1, h2, f1, f2, hz, hq⟩ := h
  cases rx
  cases ry
  obtain ⟨us, r1, pl1, _⟩ := I.tuple h1
  obtain ⟨vs, r2, pl2, _⟩ := I.tuple h2
  have hu : X.A.units < cLine := Nat.lt_of_succ_lt (hu_of hr)
  have l1 := r1.length
  have l2 := r2.length
  refine SeqAt.RcNeAt.tuples pl1 pl2 hu (eqAt_get r1 r2 f1 f2) X.prog X.w _ _ ⟨.bl _, H, I, rfl, ?_⟩
  have e : min us.toArray.size vs.toArray.size = xs.length := by simp; walk_at "om"
  have e2 : (us.toArray.size == vs.toArray.size) = true := by simp; walk_at "om"
  rw [e, range_all xs ys hz, e2, Bool.and_true]
  unfold eqVs at hq
  rw [hz] at hq
  simpa using hq
theorem kcall_max2 (K : PySem.W.Frag) (hc : X.calm = true) : CallR X (.builtin "max") (fun xs H Q => ∃ i j, xs = [.int i, .int j] ∧ Q (.int (if j > i then j else i)) H) := call_max2 hc
end
end L2

set_option Elab.async false
set_option linter.all false
set_option maxRecDepth 100000
set_option maxHeartbeats 4000000
namespace L2
open PySem PySem.Spec PyProof.Rows
section
variable {prog : Program} {w : World} {A : Around} {E : Value → Shared → Prop} {s : Shared}
end
section
variable {X : Cx}
end
end L2

set_option Elab.async false
set_option linter.all false
set_option maxRecDepth 100000
set_option maxHeartbeats 4000000
namespace L2
open PySem PySem.Spec PyProof.Rows
section
variable {prog : Program} {w : World} {A : Around} {E : Value → Shared → Prop} {s : Shared}
variable {z TI TO i1 i2 t1 t2 : Addr} {xs ys : Array Value} {k1 k2 : Nat}
end
end L2
namespace L2
open PySem PySem.Spec PyProof.Rows
section
variable {X : Cx}
end
end L2

set_option Elab.async false
set_option linter.all false
set_option maxRecDepth 100000
set_option maxHeartbeats 4000000
namespace L2
open PySem PySem.Spec PyProof.Rows
section
variable {X : Cx}
theorem op_le_str : OpR X (compareOp .LtE) (fun x y H Q => ∃ i j, x = .str i ∧ y = .str j ∧ Q (.bl (!decide (j.cps.toList < i.cps.toList))) H) := by
  intro pins s σ H x y v u Q I rx ry h
  obtain ⟨i, j, rfl, rfl, q⟩ := h
  obtain ⟨t, rfl⟩ := rx
  obtain ⟨t', rfl⟩ := ry
  exact PySem.P.le_str (fin_bl I q rfl)
end
theorem eqV_self {v : V} (h : flatV v = true) : eqV v v = true := by
  cases v with
  | non => rfl
  | bl b => simp [eqV]
  | int i => simp [eqV]
  | str x => simp [eqV]
  | _ => cases h
theorem Paired.at {α β : Type} {F : α → β → Prop} : ∀ {l₁ : List α} {l₂ : List β}, Paired F l₁ l₂ → ∀ (i : Nat) (x : α) (y : β), l₁[i]? = some x → l₂[i]? = some y → F x y
  | _, _, .nil, i, x, y, h, _ => by simp at h
  | _, _, .cons r t, 0, x, y, h, k => by simp at h k; subst h k; exact r
  | _, _, .cons r t, i + 1, x, y, h, k => Paired.at t i x y (by simpa using h) (by simpa using k)
section
variable {X : Cx} {pins : List (Addr × Obj)} {σ : St} {H : Hp} {s : Shared}
end
end L2

set_option Elab.async false
set_option linter.all false
set_option maxRecDepth 100000
set_option maxHeartbeats 4000000
namespace L2
open PySem PySem.Spec PyProof.Rows
end L2

set_option Elab.async false
set_option linter.all false
set_option maxRecDepth 100000
set_option maxHeartbeats 4000000
namespace L4
open PySem L2
noncomputable def Tk (H H' : Hp) : Prop := ∀ b xs, H b = some (.tup xs) → H' b = some (.tup xs)
theorem Tk.put {t : Addr} {H : Hp} {xs : List V} {o : HO} (h : H t = some (.lst xs)) : Tk H (upd H t o) := fun c u q => by rw [upd_ne (ne_of q h (by intro z; cases z))]; exact q
theorem same_new {H : Hp} {p : Addr} (h : H p = none) (o : HO) : Same H (upd H p o) := fun b u q => by rw [upd_ne (ne_of_none q h)]; exact q
theorem Tk.of {H H' : Hp} (s : Same H H') : Tk H H' := fun b xs q => s b _ q
theorem take_snoc {α : Type} {xs : List α} {i : Nat} {x : α} (h : xs[i]? = some x) : xs.take (i + 1) = xs.take i ++ [x] := by rw [List.take_add_one, h]; rfl
theorem small9 {n : Nat} (h : n ≤ 1000) : n ≤ sizeLine := Nat.le_of_lt (small1000 h)
end L4

set_option Elab.async false
set_option linter.all false
set_option maxRecDepth 100000
set_option maxHeartbeats 4000000
namespace Fr
theorem gcd_step' (l s : Int) (h : 0 < s) : Int.gcd s (l % s) = Int.gcd l s := by
  have e : l % s = l - s * (l / s) := by rw [Int.emod_def]
  rw [e]
  have : Int.gcd s (l - s * (l / s)) = Int.gcd s l := by
    rw [Int.gcd_comm, Int.gcd_comm s l]
    simp
  rw [this, Int.gcd_comm]
noncomputable def sg (t b : Int) : Int := if 0 < b then (Int.gcd t b : Int) else -(Int.gcd t b : Int)
theorem frac {t b : Int} (hb : b ≠ 0) : sg t b ≠ 0 ∧ 0 < b.fdiv (sg t b) ∧ Int.gcd (t.fdiv (sg t b)) (b.fdiv (sg t b)) = 1 ∧ t.fdiv (sg t b) * b = t * b.fdiv (sg t b) ∧ (sg t b).natAbs ≤ b.natAbs ∧ (t.fdiv (sg t b)).natAbs ≤ t.natAbs ∧ (b.fdiv (sg t b)).natAbs ≤ b.natAbs := by
  have hd : 0 < Int.gcd t b := Int.gcd_pos_of_ne_zero_right t hb
  have hdl : Int.gcd t b ≤ b.natAbs := Nat.le_of_dvd (by walk_at "om") (Int.gcd_dvd_natAbs_right t b)
  have d1 : (Int.gcd t b : Int) ∣ t := Int.gcd_dvd_left t b
  have d2 : (Int.gcd t b : Int) ∣ b := Int.gcd_dvd_right t b
  have hg : sg t b ≠ 0 := by unfold sg; split <;> walk_at "om"
  have hga : (sg t b).natAbs = Int.gcd t b := by unfold sg; split <;> walk_at "om"
  have e1 : sg t b ∣ t := by unfold sg; split; exact d1; exact Int.neg_dvd.mpr d1
  have e2 : sg t b ∣ b := by unfold sg; split; exact d2; exact Int.neg_dvd.mpr d2
  have hpos : 0 < sg t b ↔ 0 < b := by unfold sg; split <;> walk_at "om"
  generalize sg t b = g at *
  obtain ⟨x, hx⟩ := e1
  obtain ⟨y, hy⟩ := e2
  have fx : t.fdiv g = x := by rw [hx]; exact Int.mul_fdiv_cancel_left x hg
  have fy : b.fdiv g = y := by rw [hy]; exact Int.mul_fdiv_cancel_left y hg
  rw [fx, fy]
  have ga : Int.gcd t b = g.natAbs * Int.gcd x y := by rw [hx, hy, Int.gcd_mul_left]
  have g1 : Int.gcd x y = 1 := by
    rw [hga] at ga
    have : Int.gcd t b * 1 = Int.gcd t b * Int.gcd x y := by walk_at "om"
    exact (Nat.eq_of_mul_eq_mul_left hd this).symm
  have ny : y ≠ 0 := by intro z; rw [z, Int.mul_zero] at hy; exact hb hy
  refine ⟨hg, ?_, g1, ?_, by walk_at "om", ?_, ?_⟩
  · by_cases hbp : 0 < b
    · have hgp := hpos.mpr hbp
      rw [hy] at hbp
      exact Int.pos_of_mul_pos_right hbp hgp |> fun z => z
    · have hgn : g < 0 := by
        rcases Int.lt_trichotomy g 0 with z | z | z
        · exact z
        · exact absurd z hg
        · exact absurd (hpos.mp z) hbp
      rcases Int.lt_trichotomy y 0 with z | z | z
      · exfalso
        apply hbp
        rw [hy]
        exact Int.mul_pos_of_neg_of_neg hgn z
      · exact absurd z ny
      · exact z
  · rw [hx, hy]
    rw [← Int.mul_assoc, Int.mul_comm x g]
  · rw [hx, Int.natAbs_mul]
    exact Nat.le_mul_of_pos_left _ (by walk_at "om")
  · rw [hy, Int.natAbs_mul]
    exact Nat.le_mul_of_pos_left _ (by walk_at "om")
end Fr
namespace Fr
theorem ratmk {x y : Int} (y0 : 0 < y) (g : Int.gcd x y = 1) : (Rat.divInt x y).num = x ∧ ((Rat.divInt x y).den : Int) = y := by
  have yn : y.toNat ≠ 0 := by walk_at "om"
  have ye : (y.toNat : Int) = y := Int.toNat_of_nonneg (Int.le_of_lt y0)
  have c : Nat.Coprime x.natAbs y.toNat := by
    have e : y.toNat = y.natAbs := by walk_at "om"
    unfold Nat.Coprime
    rw [e]
    exact g
  have h : (⟨x, y.toNat, yn, c⟩ : Rat) = Rat.divInt x y := by
    rw [Rat.mk_eq_divInt, ye]
  rw [← h]
  exact ⟨rfl, ye⟩
theorem fracR {t b : Int} (hb : b ≠ 0) : t.fdiv (sg t b) = (Rat.divInt t b).num ∧ b.fdiv (sg t b) = ((Rat.divInt t b).den : Int) ∧ (Rat.divInt t b).num.natAbs ≤ t.natAbs ∧ ((Rat.divInt t b).den : Int).natAbs ≤ b.natAbs := by
  obtain ⟨_, f2, f3, f4, _, f6, f7⟩ := frac (t := t) hb
  have e : Rat.divInt (t.fdiv (sg t b)) (b.fdiv (sg t b)) = Rat.divInt t b := (Rat.divInt_eq_divInt_iff (by walk_at "om") hb).mpr f4
  obtain ⟨h1, h2⟩ := ratmk f2 f3
  rw [e] at h1 h2
  rw [h1, h2]
  exact ⟨rfl, rfl, f6, f7⟩
theorem ratself (r : Rat) : Rat.divInt r.num r.den = r := Rat.num_divInt_den r
theorem den0 (r : Rat) : (r.den : Int) ≠ 0 := by
  have := r.den_nz
  walk_at "om"
theorem denp (r : Rat) : 0 < (r.den : Int) := by
  have := r.den_nz
  walk_at "om"
theorem ratadd (r s : Rat) : Rat.divInt (r.num * s.den + s.num * r.den) (r.den * s.den) = r + s := by
  rw [← Rat.divInt_add_divInt _ _ (den0 r) (den0 s), ratself, ratself]
theorem ratsub (r s : Rat) : Rat.divInt (r.num * s.den - s.num * r.den) (r.den * s.den) = r - s := by
  rw [← Rat.divInt_sub_divInt _ _ (den0 r) (den0 s), ratself, ratself]
theorem ratmul (r s : Rat) : Rat.divInt (r.num * s.num) (r.den * s.den) = r * s := by
  rw [← Rat.divInt_mul_divInt, ratself, ratself]
end Fr
namespace L4
open PySem L2
noncomputable def Sz (n : Nat) (i : Int) : Prop := i.natAbs < 2 ^ n
theorem Sz.mul {n m : Nat} {i j : Int} (h : Sz n i) (k : Sz m j) : Sz (n + m) (i * j) := by
  unfold Sz at *
  rw [Int.natAbs_mul, Nat.pow_add]
  exact Nat.mul_lt_mul'' h k
theorem Sz.add {n : Nat} {i j : Int} (h : Sz n i) (k : Sz n j) : Sz (n + 1) (i + j) := by
  unfold Sz at *
  rw [Nat.pow_succ]
  walk_at "om"
theorem Sz.sub {n : Nat} {i j : Int} (h : Sz n i) (k : Sz n j) : Sz (n + 1) (i - j) := by
  unfold Sz at *
  rw [Nat.pow_succ]
  walk_at "om"
theorem Sz.mono {n m : Nat} {i : Int} (h : Sz n i) (k : n ≤ m) : Sz m i := Nat.lt_of_lt_of_le h (Nat.pow_le_pow_right (by decide) k)
theorem Sz.mid {n : Nat} {i : Int} (h : Sz n i) (k : n ≤ 8000) : Mid i := h.mono k
theorem Sz.le {n : Nat} {i j : Int} (h : Sz n j) (k : i.natAbs ≤ j.natAbs) : Sz n i := Nat.lt_of_le_of_lt k h
theorem mul_ne {i j : Int} (h : 0 < i) (k : 0 < j) : i * j ≠ 0 := Int.ne_of_gt (Int.mul_pos h k)
noncomputable def spShared : Sp := fun vs H Q _ => ∃ a b : Int, vs = [.int a, .int b] ∧ Q (.int (Int.gcd a b : Int)) H
noncomputable def spFrac (C : Addr) : Sp := fun vs H Q E => ∃ t b : Int, vs = [.int t, .int b] ∧ Mid b ∧ (b = 0 → E (.ref C) none H) ∧ (b ≠ 0 → ∀ p, H p = none → Q (.ref p) (upd H p (.tup [.int (t.fdiv (Fr.sg t b)), .int (b.fdiv (Fr.sg t b))])))
noncomputable abbrev tupR (r : Rat) : HO := .tup [.int r.num, .int r.den]
theorem _root_.L2.SqT.same {K : PySem.W.Frag} {H H' : Hp} {a : Addr} {xs : List V} (h : SqT K H a xs) (e : Same H H') : SqT K H' a xs := by
  rcases h with (h | ⟨o, h⟩) | h
  · exact .inl (.inl (e _ _ h))
  · exact .inl (.inr ⟨o, e _ _ h⟩)
  · exact .inr h
theorem _root_.L2.SqT.put {K : PySem.W.Frag} {H : Hp} {a D : Addr} {xs ys : List V} {o : HO} (h : SqT K H a xs) (hD : H D = some (.lst ys)) : SqT K (upd H D o) a xs := by
  rcases h with (h | ⟨u, h⟩) | h
  · exact .inl (.inl (by rw [upd_ne (ne_of h hD (by intro z; cases z))]; exact h))
  · exact .inl (.inr ⟨u, by rw [upd_ne (ne_of h hD (by intro z; cases z))]; exact h⟩)
  · exact .inr h
noncomputable def FR (K : PySem.W.Frag) (H : Hp) (v : V) (r : Rat) (n : Nat) : Prop := ∃ p, v = .ref p ∧ SqT K H p [.int r.num, .int r.den] ∧ Sz n r.num ∧ Sz n r.den
theorem FR.same {K : PySem.W.Frag} {H H' : Hp} {v : V} {r : Rat} {n : Nat} (h : FR K H v r n) (s : Same H H') : FR K H' v r n := by
  obtain ⟨p, e, hp, k⟩ := h
  exact ⟨p, e, hp.same s, k⟩
theorem FR.mono {K : PySem.W.Frag} {H : Hp} {v : V} {r : Rat} {n m : Nat} (h : FR K H v r n) (k : n ≤ m) : FR K H v r m := by
  obtain ⟨p, e, hp, a, b⟩ := h
  exact ⟨p, e, hp, a.mono k, b.mono k⟩
theorem FR.put {K : PySem.W.Frag} {H : Hp} {v : V} {r : Rat} {n : Nat} {D : Addr} {xs : List V} {o : HO} (h : FR K H v r n) (hD : H D = some (.lst xs)) : FR K (upd H D o) v r n := by
  obtain ⟨p, e, hp, k⟩ := h
  exact ⟨p, e, hp.put hD, k⟩
theorem FR.new {K : PySem.W.Frag} {H : Hp} {p : Addr} {r : Rat} {n : Nat} (a : Sz n r.num) (b : Sz n r.den) : FR K (upd H p (tupR r)) (.ref p) r n := ⟨p, rfl, SqT.of upd_same, a, b⟩
noncomputable def spR (K : PySem.W.Frag) (op : Rat → Rat → Rat) : Sp := fun vs H Q _ => ∃ (a b : V) (r s : Rat) (n m : Nat), vs = [a, b] ∧ FR K H a r n ∧ FR K H b s m ∧ n + m ≤ 7000 ∧ ∀ v H', Same H H' → FR K H' v (op r s) (n + m + 1) → Q v H'
theorem ansR {K : PySem.W.Frag} {H : Hp} {n : Nat} {t b : Int} {r : Rat} {Q : VK} (h : ∀ v H', Same H H' → FR K H' v r n → Q v H') (e : Rat.divInt t b = r) (nb : b ≠ 0) (st : Sz n t) (sb : Sz n b) : ∀ p, H p = none → Q (.ref p) (upd H p (.tup [.int (t.fdiv (Fr.sg t b)), .int (b.fdiv (Fr.sg t b))])) := fun p hp => by
  subst e
  obtain ⟨f1, f2, f3, f4⟩ := Fr.fracR (t := t) nb
  rw [f1, f2]
  exact h _ _ (same_new hp _) (FR.new (st.le f3) (sb.le f4))
noncomputable def spLow (K : PySem.W.Frag) : Sp := fun vs H Q _ => ∃ (t b : Int) (n : Nat), vs = [.int t, .int b] ∧ 0 < b ∧ Sz n t ∧ Sz n b ∧ n ≤ 8000 ∧ ∀ v H', Same H H' → FR K H' v (Rat.divInt t b) n → Q v H'
theorem _root_.L2.Same.put {H H' : Hp} {l : Addr} {o : HO} (h : Same H H') (n : H l = none) : Same H (upd H' l o) := fun b u e => by rw [upd_ne (ne_of_none e n)]; exact h b u e
noncomputable def FRs (K : PySem.W.Frag) (H : Hp) (zs : List (V × Rat)) (n : Nat) : Prop := ∀ z ∈ zs, FR K H z.1 z.2 n
end L4

set_option Elab.async false
set_option linter.all false
namespace L2
open PySem PySem.Spec PyProof.Rows
variable {X : Cx}
theorem pe_globR {x : Str} {v : V} {pos : Pos} (hg : Gl X x) (hm : ∃ u, X.mg x = some u ∧ RelV v u) (hd : (x == ("__debug__" : Str)) = false := by decide) : PE X (.Name x pos) (tC v) := by
  obtain ⟨u, h, r⟩ := hm
  exact pe_glob hg h r hd
end L2

set_option Elab.async false
set_option linter.all false
set_option maxRecDepth 100000
set_option maxHeartbeats 4000000
namespace HT
open PySem PyProof.Rows
open PySem.SeqAt
open PySem.AutoSeq1 (wpAny_loadPart')
open PySem.MeetsSeq PySem.MeetsSeq2 PySem.MeetsSeq3
variable {prog : Program} {w : World} {A : Around} {E : Value → Shared → Prop} {s : Shared}
theorem getItem_tuple_whole {t sl : Addr} {items : Array Value} {vl vu : Value} {lo hi : Option Int} {Q : Value → Shared → Prop} (ht : IsTup s.heap t items) (hs : s.heap.IsSliceOf sl vl vu .none) (pl : IsPart vl lo) (pu : IsPart vu hi)
    (hw : sIx items.size 0 lo = 0 ∧ sIx items.size items.size hi = items.size)
    (h : Q (.ref t) s) : wpAny (model prog w) A (getItem (.ref t) (.ref sl)) Q E s := by
  obtain ⟨os, hos, hcs, hds⟩ := id hs
  have hTs : s.TypeIs (.ref sl) "slice" := ⟨os, hos, hcs⟩
  unfold getItem
  try with_reducible refine wpAny_holding ?_
  first | refine wpAny_bind (wpAny_pure ?_) | skip
  refine wpAny_bind (wpAny_sequenceKey ht.typeIs (by decide) ?_)
  refine wpAny_bind (wpAny_callSpecial?_slot (name := Str.ofString "__getitem__") ht.typeIs PyProof.Rows.slot_tuple_getitem
    (wpAny_call_entry PyProof.Rows.slot_tuple_getitem ht.typeIs entry_tuple_getitem ?_ (args_tuple_getitem _ _)))
  show wpAny _ _ (Builtin.Tuple.tupleItemsOf (.ref t) >>= _) _ _ s
  refine wpAny_bind (tupleItemsOf_ ht ?_)
  refine wpAny_bind (wpAny_typeOf hTs ?_)
  rw [if_pos (by decide)]
  refine wpAny_bind (sliceApplied_gen hs pl pu ?_)
  have hyes : (((sIx items.size 0 lo : Nat) : Int) == 0 && (1 : Int) == 1 && (sIx items.size items.size hi - sIx items.size 0 lo) == items.size) = true := by
    rw [hw.1, hw.2]
    simp
  show wpAny _ _ (if (((sIx items.size 0 lo : Nat) : Int) == 0 && (1 : Int) == 1 && (sIx items.size items.size hi - sIx items.size 0 lo) == items.size) = true then _ else _) _ _ s
  rw [if_pos hyes]
  refine wpAny_bind (m := Builtin.Tuple.tupleIsExact _) (wpAny_bind (wpAny_typeOf ht.typeIs (wpAny_pure ?_)))
  rw [if_pos (by decide)]
  first
    | exact wpAny_bind (wpAny_rule (wpAny_pure ⟨_, rfl, wpAny_pure h⟩))
    | exact wpAny_rule (wpAny_pure ⟨_, rfl, wpAny_pure h⟩)
    | exact wpAny_bind (wpAny_rule ⟨_, rfl, wpAny_pure h⟩)
    | exact wpAny_pure ⟨_, rfl, wpAny_pure h⟩
end HT
namespace L2
open PySem PySem.Spec PyProof.Rows
variable {X : Cx}
noncomputable def rSlTW (K : PySem.W.Frag) : V → Option Int → Option Int → Hp → VK → Prop := fun x lo hi H Q => ∃ a xs, x = .ref a ∧ SqT K H a xs ∧
  (HT.sIx xs.length 0 lo = 0 ∧ HT.sIx xs.length xs.length hi = xs.length) ∧ Q (.ref a) H
theorem sl_tupW : SlR X (rSlTW X.K) := by
  intro pins s σ H x v vl vu lo hi sl Q I rx hs pl pu h
  obtain ⟨a, xs, rfl, hx, hw, q⟩ := h
  cases rx
  obtain ⟨its, r, ht, hz⟩ := I.tuple hx
  have hlen : its.toArray.size = xs.length := by rw [List.size_toArray]; exact r.length.symm
  refine ⟨"tuple", _, PyProof.Rows.slot_tuple_getitem.lookup, ht.typeIs, ?_⟩
  exact HT.getItem_tuple_whole ht hs pl pu (by rw [hlen]; exact hw) ⟨.ref a, H, I, rfl, q⟩
end L2

set_option Elab.async false
set_option linter.all false
set_option maxRecDepth 100000
set_option maxHeartbeats 4000000
namespace L2
open PySem PySem.Spec PyProof.Rows
section
variable {X : Cx}
noncomputable def rCatA (K : PySem.W.Frag) : R2 := fun x y H Q => ∃ a b xs ys, x = .ref a ∧ y = .ref b ∧ SqT K H a xs ∧ SqT K H b ys ∧ xs.length + ys.length ≤ sizeLine ∧
  (xs = [] → Q (.ref b) H) ∧ (xs ≠ [] → ys = [] → Q (.ref a) H) ∧ (xs ≠ [] → ys ≠ [] → ∀ p, H p = none → Q (.ref p) (upd H p (.tup (xs ++ ys))))
theorem op_catA (K : PySem.W.Frag) (hK : X.K = K := by rfl) : OpR X (binaryOp .Add) (rCatA K) := by
  subst hK
  intro pins s σ H x y v u Q I rx ry h
  obtain ⟨a, b, xs, ys, rfl, rfl, ha, hb, hz, q0, q1, q2⟩ := h
  by_cases hx : xs = []
  · cases rx
    cases ry
    obtain ⟨its, r1, p1, _⟩ := I.tuple ha
    obtain ⟨its2, r2, p2, _⟩ := I.tuple hb
    obtain ⟨⟨cls, dd, data, sl⟩, ho, hc, n, hd⟩ := id p1
    obtain ⟨⟨cls2, dd2, data2, sl2⟩, ho2, hc2, n2, hd2⟩ := id p2
    simp only at hc hd hc2 hd2
    subst hc hd hc2 hd2
    have hv : its = [] := (Vals.nil_iff r1).mpr hx
    exact concat_meets ⟨_, ho, rfl⟩ ⟨_, ho2, rfl⟩ noFill_tuple_add seq_tuple_add PySem.F.slot_tuple_add PySem.F.entry_tuple_add (PySem.F.args_tuple_add_2 _ _)
      (tuple_addW0 a b its.toArray its2.toArray n n2 dd dd2 sl sl2 (by simp [hv])) ⟨ho, ho2, ⟨.ref b, H, I, rfl, q0 hx⟩⟩
  · exact op_catT pins s σ H _ _ v u Q I rx ry ⟨a, b, xs, ys, rfl, rfl, ha, hb, hx, hz, q1 hx, q2 hx⟩
end
end L2

set_option Elab.async false
set_option linter.all false
set_option maxRecDepth 100000
set_option maxHeartbeats 4000000
namespace L4
open PySem L2
end L4

set_option Elab.async false
set_option linter.all false
set_option maxRecDepth 100000
set_option maxHeartbeats 4000000
namespace L4
open PySem L2 PySem.StrLaws
end L4

set_option Elab.async false
set_option linter.all false
set_option maxRecDepth 100000
set_option maxHeartbeats 4000000
namespace L4
open PySem L2 PySem.StrLaws
noncomputable def Small (x : Str) : Prop := ∀ c ∈ x.cps.toList, 97 ≤ c ∧ c ≤ 122
end L4

set_option Elab.async false
set_option linter.all false
set_option maxRecDepth 100000
set_option maxHeartbeats 4000000
namespace L4
open PySem L2
theorem map_str {z : Str} {D : Addr} {t : Nat} {te : TE} {σ0 : St} {H1 : Hp} {Q : VK} (h : Nat → V) (hl : z.length ≤ 1000) (hD : H1 D = none)
    (he : ∀ c ∈ z.cps.toList, ∀ H' Q', Same H1 H' → (∀ H'', Same H' H'' → Q' (h c) H'') → te (σ0.set t (some (.str ⟨#[c]⟩))) H' Q')
    (q : ∀ H', Same H1 H' → H' D = some (.lst (z.cps.toList.map h)) → Q (.ref D) H') : CompGo (Its z) (gName t) tYes te σ0 H1 Q D := by
  refine comp_str (fun i ys H' => Same H1 H' ∧ ys = (z.cps.toList.take i).map h) ⟨same_new hD _, rfl⟩ ?_ ?_
  · rintro i ys H' c hc ⟨s1, rfl⟩ hD'
    have hi : i < z.cps.size := (Array.getElem?_eq_some_iff.mp hc).1
    have hc' : z.cps.toList[i]? = some c := by simpa using hc
    have hs : z.cps.size = z.length := rfl
    refine yes (he c (List.mem_of_getElem? hc') H' _ s1 fun H'' s2 => ?_)
    refine cyes hi rset1 (s2 _ _ hD') (by rw [List.length_map, List.length_take]; exact small1000 (by walk_at "om")) ⟨fun b o qb => ?_, ?_⟩
    · rw [upd_ne (ne_of_none qb hD)]
      exact s2 b o (s1 b o qb)
    · rw [take_snoc hc', List.map_append]
      rfl
  · rintro ys H' ⟨s1, rfl⟩ hD'
    rw [List.take_of_length_le (by simp)] at hD'
    exact q H' s1 hD'
theorem trues {α : Type} (as : List α) : as.map (fun _ => V.bl true) = (as.map fun _ => true).map V.bl := by rw [List.map_map]; rfl
theorem all_trues {α : Type} (as : List α) : (as.map fun _ => true).all id = true := by
  rw [List.all_eq_true]
  intro x hx
  obtain ⟨_, _, rfl⟩ := List.mem_map.mp hx
  rfl
theorem Same.rfl' {H : Hp} : Same H H := fun _ _ h => h
end L4

set_option Elab.async false
set_option linter.all false
set_option maxRecDepth 100000
set_option maxHeartbeats 4000000
namespace L4
open PySem L2 PySem.StrLaws
inductive Th where
  | non
  | bl (b : Bool)
  | int (i : Int)
  | str (x : Str)
  | lst
  | dct
  | tup (ts : List Th)
inductive IsTh (H : Hp) : Th → V → Prop where
  | non : IsTh H .non .non
  | bl (b : Bool) : IsTh H (.bl b) (.bl b)
  | int (i : Int) : IsTh H (.int i) (.int i)
  | str (x : Str) (h : x.length ≤ 3000) : IsTh H (.str x) (.str x)
  | lst {a : Addr} {xs : List V} (e : H a = some (.lst xs)) : IsTh H .lst (.ref a)
  | dct {a : Addr} {kvs : List (Key × V)} (e : H a = some (.dK kvs)) : IsTh H .dct (.ref a)
  | tup {a : Addr} {ts : List Th} {xs : List V} (e : H a = some (.tup xs)) (hl : ts.length = xs.length) (h8 : ts.length ≤ 1000) (hi : ∀ (i : Nat) (t : Th) (x : V), ts[i]? = some t → xs[i]? = some x → IsTh H t x) : IsTh H (.tup ts) (.ref a)
theorem IsTh.same {H H' : Hp} (s : Same H H') {t : Th} {v : V} (h : IsTh H t v) : IsTh H' t v := by
  induction h with
  | non => exact .non
  | bl b => exact .bl b
  | int i => exact .int i
  | str x h => exact .str x h
  | lst e => exact .lst (s _ _ e)
  | dct e => exact .dct (s _ _ e)
  | tup e hl h8 hi ih => exact .tup (s _ _ e) hl h8 ih
theorem IsTh.get {H : Hp} {ts : List Th} {a : Addr} (h : IsTh H (.tup ts) (.ref a)) : ∃ xs, H a = some (.tup xs) ∧ ts.length = xs.length ∧ ts.length ≤ 1000 ∧ ∀ (i : Nat) (t : Th), ts[i]? = some t → ∃ x, xs[i]? = some x ∧ IsTh H t x := by
  cases h with
  | tup e hl h8 hi =>
    refine ⟨_, e, hl, h8, fun i t ht => ?_⟩
    have hil : i < ts.length := (List.getElem?_eq_some_iff.mp ht).1
    rename_i xs
    have hx : xs[i]? = some (xs.getD i .non) := by simp [List.getD, show i < xs.length by walk_at "om"]
    exact ⟨_, hx, hi i t _ ht hx⟩
theorem IsTh.ref {H : Hp} {ts : List Th} {v : V} (h : IsTh H (.tup ts) v) : ∃ a, v = .ref a := by
  cases h with
  | tup e hl h8 hi => exact ⟨_, rfl⟩
noncomputable def tyTh : Th → Value
  | .non => .type "NoneType"
  | .bl _ => .type "bool"
  | .int _ => .type "int"
  | .str _ => .type "str"
  | .lst => .type "list"
  | .dct => .type "dict"
  | .tup _ => .type "tuple"
theorem IsTh.ty {K : PySem.W.Frag} {H : Hp} {t : Th} {v : V} (h : IsTh H t v) : TyOf K H v (tyTh t) := by
  cases h with
  | non => exact .non
  | bl b => exact .bl b
  | int i => exact .int i
  | str x h => exact .str x
  | lst e => exact .lst e
  | dct e => exact .dK e
  | tup e hl h8 hi => exact .tup e
noncomputable def isIntB : Th → Bool
  | .bl _ => true
  | .int _ => true
  | _ => false
noncomputable def isBoolB : Th → Bool
  | .bl _ => true
  | _ => false
noncomputable def isStrB : Th → Bool
  | .str _ => true
  | _ => false
theorem kit_int {K : PySem.W.Frag} (t : Th) : PySem.W.kitOne K (tyTh t) (.type "int") = some (isIntB t) := by cases t <;> first | rfl | exact kit_same _
theorem kit_bool {K : PySem.W.Frag} (t : Th) : PySem.W.kitOne K (tyTh t) (.type "bool") = some (isBoolB t) := by cases t <;> first | rfl | exact kit_same _
theorem kit_str {K : PySem.W.Frag} (t : Th) : PySem.W.kitOne K (tyTh t) (.type "str") = some (isStrB t) := by cases t <;> first | rfl | exact kit_same _
noncomputable def wholeB : Th → Bool
  | .int _ => true
  | _ => false
end L4

set_option Elab.async false
set_option linter.all false
set_option maxRecDepth 100000
set_option maxHeartbeats 4000000
namespace L4
open PySem L2 PySem.StrLaws
end L4

set_option Elab.async false
set_option linter.all false
set_option maxRecDepth 100000
set_option maxHeartbeats 4000000
namespace L4
open PySem L2 PySem.StrLaws
end L4

set_option Elab.async false
set_option linter.all false
set_option maxRecDepth 100000
set_option maxHeartbeats 4000000
namespace L4
open PySem L2
open Classical in
noncomputable def cutH (X : Addr → Prop) (H : Hp) : Hp := fun b => if X b then none else H b
theorem cut_yes {X : Addr → Prop} {H : Hp} {b : Addr} (h : ¬ X b) : cutH X H b = H b := by
  unfold cutH
  rw [if_neg h]
theorem cut_no {X : Addr → Prop} {H : Hp} {b : Addr} (h : X b) : cutH X H b = none := by
  unfold cutH
  rw [if_pos h]
theorem cut_of {X : Addr → Prop} {H : Hp} {b : Addr} {o : HO} (h : cutH X H b = some o) : ¬ X b ∧ H b = some o := by
  by_cases hx : X b
  · rw [cut_no hx] at h
    cases h
  · rw [cut_yes hx] at h
    exact ⟨hx, h⟩
theorem cut_same {X : Addr → Prop} {H H' : Hp} (s : Same H H') : Same (cutH X H) (cutH X H') := fun b o h => by
  obtain ⟨h1, h2⟩ := cut_of h
  rw [cut_yes h1]
  exact s _ _ h2
theorem cut_upd {X : Addr → Prop} {H : Hp} {p : Addr} {o : HO} (h : X p) : cutH X (upd H p o) = cutH X H := by
  funext b
  by_cases hb : X b
  · rw [cut_no hb, cut_no hb]
  · rw [cut_yes hb, cut_yes hb, upd_ne (fun z => hb (by rw [z]; exact h))]
noncomputable def Ths (H : Hp) : List Th → List V → Prop := Paired fun t v => IsTh H t v
theorem Ths.same {H H' : Hp} (s : Same H H') {ts : List Th} {vs : List V} (h : Ths H ts vs) : Ths H' ts vs := by
  unfold Ths at h ⊢
  induction h with
  | nil => exact .nil
  | cons r _ ih => exact .cons (r.same s) ih
theorem Ths.at {H : Hp} {ts : List Th} {vs : List V} (h : Ths H ts vs) : ∀ (i : Nat) (t : Th) (v : V), ts[i]? = some t → vs[i]? = some v → IsTh H t v := fun i t v a b => Paired.at h i t v a b
theorem Ths.len {H : Hp} {ts : List Th} {vs : List V} (h : Ths H ts vs) : ts.length = vs.length := Paired.length h
theorem Ths.tup {H : Hp} {ts : List Th} {vs : List V} {p : Addr} (h : Ths H ts vs) (e : H p = some (.tup vs)) (h8 : ts.length ≤ 1000) : IsTh H (.tup ts) (.ref p) := .tup e h.len h8 fun i t v a b => h.at i t v a b
section
variable {X : Addr → Prop} {H0 : Hp} {σ : St}
end
end L4

set_option Elab.async false
set_option linter.all false
set_option maxRecDepth 100000
set_option maxHeartbeats 4000000
namespace L4
open PySem L2
theorem ths_map {α : Type} {H : Hp} (f : α → Th) (g : α → V) : ∀ (as : List α), (∀ a ∈ as, IsTh H (f a) (g a)) → Ths H (as.map f) (as.map g)
  | [], _ => .nil
  | a :: as, h => .cons (h a List.mem_cons_self) (ths_map f g as fun b hb => h b (List.mem_cons_of_mem _ hb))
end L4

set_option Elab.async false
set_option linter.all false
set_option maxRecDepth 100000
set_option maxHeartbeats 4000000
namespace L4
open PySem L2
end L4

set_option Elab.async false
set_option linter.all false
set_option maxRecDepth 100000
set_option maxHeartbeats 4000000
namespace L2
open PySem PySem.Spec PyProof.Rows
open Builtin
section
variable {X : Cx}
end
end L2

set_option Elab.async false
set_option linter.all false
set_option maxRecDepth 100000
set_option maxHeartbeats 4000000
namespace L4
open PySem L2
section
variable {B : Th → Bool} {H0 H : Hp} {l : Addr} {n : Nat} {σ : St}
end
end L4

set_option Elab.async false
set_option linter.all false
set_option maxRecDepth 100000
set_option maxHeartbeats 4000000
namespace L4
open PySem L2 PySem.StrLaws
end L4

set_option Elab.async false
set_option linter.all false
set_option maxRecDepth 100000
set_option maxHeartbeats 4000000
namespace L2
open PySem PySem.Spec PyProof.Rows
end L2

set_option Elab.async false
set_option linter.all false
set_option maxRecDepth 100000
set_option maxHeartbeats 4000000
namespace L2
open PySem PySem.Spec PyProof.Rows PySem.Builtin PySem.Builtin.Str
section
variable {X : Cx} {e : Expr} {es : List Expr} {te ta tb : TE} {t : TA} {pos : Pos} {a b : Expr} {st : Stmt} {rest : List Stmt} {ts us : TS}
end
end L2

set_option Elab.async false
set_option linter.all false
set_option maxRecDepth 100000
set_option maxHeartbeats 4000000
namespace L2
open PySem PySem.Spec PyProof.Rows PySem.Builtin PySem.Builtin.Str
section
variable {X : Cx}
end
end L2

set_option Elab.async false
set_option linter.all false
set_option maxRecDepth 100000
set_option maxHeartbeats 4000000
namespace L4
open PySem L2 PySem.StrLaws
end L4

set_option Elab.async false
set_option linter.all false
set_option maxRecDepth 100000
set_option maxHeartbeats 4000000
namespace L4
open PySem L2 PySem.StrLaws
end L4

set_option Elab.async false
set_option linter.all false
set_option maxRecDepth 100000
set_option maxHeartbeats 4000000
namespace L4
open PySem L2 PySem.StrLaws
section
end
end L4

set_option Elab.async false
set_option linter.all false
set_option maxRecDepth 100000
set_option maxHeartbeats 4000000
namespace L4
open PySem L2
section
variable {X : Addr → Prop} {H0 H : Hp} {σ : St} {B : Th → Bool} {l : Addr} {n : Nat}
end
end L4

set_option Elab.async false
set_option linter.all false
set_option maxRecDepth 100000
set_option maxHeartbeats 4000000
namespace L4
open PySem L2
end L4

set_option Elab.async false
set_option linter.all false
set_option maxRecDepth 100000
set_option maxHeartbeats 4000000
namespace L4
open PySem L2
end L4
namespace L4
open PySem L2
end L4

set_option Elab.async false
set_option linter.all false
set_option maxRecDepth 100000
set_option maxHeartbeats 4000000
namespace L4
open PySem L2
end L4

set_option Elab.async false
set_option linter.all false
set_option maxRecDepth 100000
set_option maxHeartbeats 4000000
namespace L4
open PySem L2 PySem.StrLaws
section
end
end L4

set_option Elab.async false
set_option linter.all false
set_option maxRecDepth 100000
set_option maxHeartbeats 4000000
namespace L4
open PySem L2 PySem.StrLaws
section
variable {X : Addr → Prop} {H0 : Hp} {σ : St} {K : PySem.W.Frag}
end
end L4

set_option Elab.async false
set_option linter.all false
set_option maxRecDepth 100000
set_option maxHeartbeats 4000000
namespace L4
open PySem L2 PySem.StrLaws
section
end
section
end
end L4

set_option Elab.async false
set_option linter.all false
set_option maxRecDepth 100000
set_option maxHeartbeats 4000000
namespace L2
open PySem PySem.Spec PyProof.Rows
section
variable {X : Cx}
end
theorem iteDT {c A B : Prop} [Decidable c] (hc : decide c = true) (h : A) : if decide c = true then A else B := by rw [if_pos hc]; exact h
theorem iteDF {c A B : Prop} [Decidable c] (hc : decide c = false) (h : B) : if decide c = true then A else B := by rw [if_neg (by rw [hc]; exact Bool.false_ne_true)]; exact h
noncomputable def KTup (K : PySem.W.Frag) (a : Addr) (xs : List V) : Prop := ∃ (o : Obj) (its : Array Value) (n : Nat), K.lookup a = some o ∧ o.cls = .type "tuple" ∧ o.data = .seq its n ∧ its.size ≤ sizeLine ∧ Vals xs its.toList
theorem KTup.sq {K : PySem.W.Frag} {H : Hp} {a : Addr} {xs : List V} (h : KTup K a xs) : SqT K H a xs := .inr h
theorem comp_tt2 {K : PySem.W.Frag} {a : Addr} {n : Nat} {xs : List V} {ad : Nat → Addr} {v1 v2 : Nat → V} {tt : TT} {te : TE} {H1 : Hp} {Q : VK} {D : Addr} {more : St} (P : Nat → List V → Hp → Prop) (h0 : P 0 [] (upd H1 D (.lst []))) (hn : xs.length = n) (hx : ∀ i, i < n → xs[i]? = some (.ref (ad i)))
    (hl : ∀ i ys H, P i ys H → H D = some (.lst ys) → SqT K H a xs) (ht : ∀ i ys H, i < n → P i ys H → SqT K H (ad i) [v1 i, v2 i])
    (hs : ∀ i ys H, i < n → P i ys H → H D = some (.lst ys) → tt (some (v1 i) :: some (v2 i) :: more) H fun b H4 => if b = true then te (some (v1 i) :: some (v2 i) :: more) H4 (cYes (fun σ => ∃ x y, σ = x :: y :: more) P n D (some (v1 i) :: some (v2 i) :: more) i) else cNo (fun σ => ∃ x y, σ = x :: y :: more) P n D (some (v1 i) :: some (v2 i) :: more) i H4)
    (hd : ∀ ys H, P n ys H → H D = some (.lst ys) → Q (.ref D) H) :
    CompGo (Itt K a) (gTup K 2 (gCons (gName 0) (gCons (gName 1) gNil))) tt te (none :: none :: more) H1 Q D := by
  refine comp_gen (xv := fun i => .ref (ad i)) (st := fun i => some (v1 i) :: some (v2 i) :: more) (fun σ => ∃ x y, σ = x :: y :: more) P ⟨_, _, rfl⟩ h0 (fun i ys H hi p hD => ⟨⟨xs, _, hl i ys H p hD, hx i hi⟩, fun x H2 y => ⟨y.1, ?_⟩⟩) (fun ys H p hD => ⟨xs, hl _ ys H p hD, Nat.le_of_eq hn⟩)
    (fun i ys σ' H K' hi r p k => ?_) hs hd
  · have e := y.2 xs (hl i ys H p hD)
    rw [hx i hi] at e
    exact (Option.some.inj e).symm
  · obtain ⟨x, y, rfl⟩ := r
    exact ⟨ad i, _, rfl, ht i ys H hi p, rfl, _, _, rfl, _, _, rfl, rfl, k⟩
end L2
namespace L4
open PySem L2
theorem comp_frl {K : PySem.W.Frag} {a : Addr} {gs : List Int} {f : Int → Rat} {t : Nat} {te : TE} {σ0 : St} {H1 : Hp} {Q : VK} {D : Addr} {b : Nat} (ha : H1 a = some (.lst (gs.map V.int))) (hD : H1 D = none) (hn : gs.length ≤ 900)
    (he : ∀ g H' Q', g ∈ gs → Same H1 H' → (∀ v H'', Same H' H'' → FR K H'' v (f g) b → Q' v H'') → te (σ0.set t (some (.int g))) H' Q')
    (q : ∀ zs H', Same H1 H' → zs.map Prod.snd = gs.map f → FRs K H' zs b → H' D = some (.lst (zs.map Prod.fst)) → Q (.ref D) H') : CompGo (Itl K a) (gName t) tYes te σ0 H1 Q D := by
  refine comp_list (xs := gs.map V.int) (fun i ys H' => Same H1 H' ∧ ∃ zs : List (V × Rat), ys = zs.map Prod.fst ∧ zs.map Prod.snd = (gs.take i).map f ∧ FRs K H' zs b) ⟨same_new hD _, [], rfl, rfl, fun z hz => by cases hz⟩ (fun i ys H' h _ => SqL.of (h.1 _ _ ha)) ?_ ?_
  · rintro i ys H' x hx ⟨s1, zs, rfl, hl, hz⟩ hD'
    have hi : i < (gs.map V.int).length := (List.getElem?_eq_some_iff.mp hx).1
    rw [List.getElem?_map] at hx
    obtain ⟨g, hg, rfl⟩ := Option.map_eq_some_iff.mp hx
    refine yes (he g H' _ (List.mem_of_getElem? hg) s1 fun v H'' s2 f2 => ?_)
    have hlen : zs.length ≤ 900 := by
      have := congrArg List.length hl
      rw [List.length_map, List.length_map, List.length_take] at this
      walk_at "om"
    refine cyes hi rset1 (s2 _ _ hD') (by rw [List.length_map]; exact small1000 (by walk_at "om")) ⟨(s1.trans s2).put hD, zs ++ [(v, f g)], by rw [List.map_append]; rfl, by rw [List.map_append, hl, take_snoc hg, List.map_append]; rfl, ?_⟩
    intro z hz'
    rcases List.mem_append.mp hz' with h | h
    · exact ((hz z h).same s2).put (s2 _ _ hD')
    · rw [List.mem_singleton.mp h]
      exact f2.put (s2 _ _ hD')
  · rintro ys H' ⟨s1, zs, rfl, hl, hz⟩ hD'
    rw [List.length_map, List.take_length] at hl
    exact q zs H' s1 hl hz hD'
theorem FR.k {K : PySem.W.Frag} {H : Hp} {a : Addr} {r : Rat} {n : Nat} (h : KTup K a [.int r.num, .int r.den]) (x : Sz n r.num) (y : Sz n r.den) : FR K H (.ref a) r n := ⟨a, rfl, h.sq, x, y⟩
noncomputable def lessR (r s : Rat) : Rat := if s < r then s else r
noncomputable def greatR (r s : Rat) : Rat := if r < s then s else r
noncomputable def thenR (k : Str) (r s : Rat) : Rat := if s < r then (if k = "least" then s else if k = "cut" then 1 - r + s else s / r) else 1
noncomputable def withR (k : Str) (r s : Rat) : Rat := if k = "least" then lessR r s else if k = "cut" then greatR (r + s - 1) 0 else r * s
noncomputable def connR (k nm : Str) (rs : List Rat) : Rat :=
  if nm = "false" then 0 else if nm = "true" then 1 else if nm = "not" then thenR k (rs.getD 0 0) 0 else if nm = "then" then thenR k (rs.getD 0 0) (rs.getD 1 0)
  else if nm = "with" then withR k (rs.getD 0 0) (rs.getD 1 0) else if nm = "or" then greatR (rs.getD 0 0) (rs.getD 1 0) else lessR (rs.getD 0 0) (rs.getD 1 0)
noncomputable def Kd (k : Str) : Prop := k = "least" ∨ k = "cut" ∨ k = "times"
noncomputable def spBelow (K : PySem.W.Frag) : Sp := fun vs H Q _ => ∃ (a b : V) (r s : Rat) (n m : Nat), vs = [a, b] ∧ FR K H a r n ∧ FR K H b s m ∧ n + m ≤ 7000 ∧ Q (.bl (decide (r < s))) H
noncomputable def spOverR (K : PySem.W.Frag) : Sp := fun vs H Q _ => ∃ (a b : V) (r s : Rat) (n m : Nat), vs = [a, b] ∧ FR K H a r n ∧ FR K H b s m ∧ n + m ≤ 7000 ∧ s ≠ 0 ∧ ∀ v H', Same H H' → FR K H' v (r / s) (n + m + 1) → Q v H'
noncomputable def spLG (K : PySem.W.Frag) (f : Rat → Rat → Rat) : Sp := fun vs H Q _ => ∃ (a b : V) (r s : Rat) (n m : Nat), vs = [a, b] ∧ FR K H a r n ∧ FR K H b s m ∧ n + m ≤ 7000 ∧ ∀ v, FR K H v (f r s) (n + m + 1) → Q v H
noncomputable def spThen (K : PySem.W.Frag) (f : Str → Rat → Rat → Rat) : Sp := fun vs H Q _ => ∃ (k : Str) (a b : V) (r s : Rat) (n m : Nat), vs = [.str k, a, b] ∧ Kd k ∧ FR K H a r n ∧ FR K H b s m ∧ 0 ≤ s ∧ n + m ≤ 6000 ∧ ∀ v H', Same H H' → FR K H' v (f k r s) (n + m + 10) → Q v H'
noncomputable def arity (nm : Str) : Nat := if nm = "false" ∨ nm = "true" then 0 else if nm = "not" then 1 else 2
noncomputable def names7 : List Str := ["and", "or", "then", "with", "not", "false", "true"]
noncomputable def spConn (K : PySem.W.Frag) : Sp := fun vs H Q _ => ∃ (k nm : Str) (g : Addr) (zs : List (V × Rat)) (n : Nat), vs = [.str k, .str nm, .ref g] ∧ Kd k ∧ nm ∈ names7 ∧ zs.length = arity nm ∧ H g = some (.lst (zs.map Prod.fst)) ∧ FRs K H zs n ∧ (∀ z ∈ zs, 0 ≤ z.2) ∧ n ≤ 3000 ∧ ∀ v H', Same H H' → FR K H' v (connR k nm (zs.map Prod.snd)) (2 * n + 12) → Q v H'
theorem sz0 : Sz 0 0 := by unfold Sz; decide
end L4
namespace Fr
theorem ratlt (r s : Rat) : (r.num * s.den < s.num * r.den) ↔ r < s := (Rat.lt_iff r s).symm
theorem ratdiv (r s : Rat) : Rat.divInt (r.num * s.den) (r.den * s.num) = r / s := by
  have h := Rat.divInt_mul_divInt r.num (s.den : Int) (d₁ := (r.den : Int)) (d₂ := s.num)
  rw [ratself] at h
  rw [← h, Rat.div_def, Rat.inv_def]
end Fr

set_option Elab.async false
set_option linter.all false
set_option maxRecDepth 100000
set_option maxHeartbeats 4000000
namespace L2
open PySem PySem.Spec PyProof.Rows
theorem owner_rev : Manifest.owners.lookup (String.ofList ['d', 'e', 's', 'r', 'e', 'v', 'e', 'r'].reverse) = some Manifest.sig_reversed := by kernel_rfl
theorem slot_rev_next : Slot "reversed" "__next__" "reversed.__next__" :=
  .of (owner := "reversed") (n := "__next__") (by rw [typeLookup_type, builtinLookup_eq_fast]; kernel_rfl) (by decide +kernel) (by decide +kernel) (by decide +kernel)
    (by first | exact .inl (by decide +kernel) | exact .inr (by decide +kernel)) (by rw [isSubtype_type]; kernel_rfl)
theorem entry_rev_next : entryFor table "reversed.__next__" = some Builtin.«reversed.__next__» := entryFor_of_tree (by kernel_rfl)
theorem args_rev_next_1 (a : Value) : argsOk "reversed.__next__" ⟨[a], []⟩ := by
  unfold argsOk; rw [signature?_of (id := "reversed.__next__") (n := ['_', '_', 't', 'x', 'e', 'n', '_', '_']) (o := ['d', 'e', 's', 'r', 'e', 'v', 'e', 'r']) (by kernel_rfl) owner_rev]; kernel_rfl
theorem slot_rev_hint : Slot "reversed" "__length_hint__" "reversed.__length_hint__" :=
  .of (owner := "reversed") (n := "__length_hint__") (by rw [typeLookup_type, builtinLookup_eq_fast]; kernel_rfl) (by decide +kernel) (by decide +kernel) (by decide +kernel)
    (by first | exact .inl (by decide +kernel) | exact .inr (by decide +kernel)) (by rw [isSubtype_type]; kernel_rfl)
theorem entry_rev_hint : entryFor table "reversed.__length_hint__" = some Builtin.«reversed.__length_hint__» := entryFor_of_tree (by kernel_rfl)
theorem args_rev_hint_1 (a : Value) : argsOk "reversed.__length_hint__" ⟨[a], []⟩ := by
  unfold argsOk; rw [signature?_of (id := "reversed.__length_hint__") (n := ['_', '_', 't', 'n', 'i', 'h', '_', 'h', 't', 'g', 'n', 'e', 'l', '_', '_']) (o := ['d', 'e', 's', 'r', 'e', 'v', 'e', 'r']) (by kernel_rfl) owner_rev]; kernel_rfl
theorem slot_rev_iter : Slot "reversed" "__iter__" "reversed.__iter__" :=
  .of (owner := "reversed") (n := "__iter__") (by rw [typeLookup_type, builtinLookup_eq_fast]; kernel_rfl) (by decide +kernel) (by decide +kernel) (by decide +kernel)
    (by first | exact .inl (by decide +kernel) | exact .inr (by decide +kernel)) (by rw [isSubtype_type]; kernel_rfl)
theorem args_rev_iter_1 (a : Value) : argsOk "reversed.__iter__" ⟨[a], []⟩ := by
  unfold argsOk; rw [signature?_of (id := "reversed.__iter__") (n := ['_', '_', 'r', 'e', 't', 'i', '_', '_']) (o := ['d', 'e', 's', 'r', 'e', 'v', 'e', 'r']) (by kernel_rfl) owner_rev]; kernel_rfl
theorem entry_rev_iter : entryFor table "reversed.__iter__" = some Builtin.«dict_keyiterator.__iter__» :=
  entryFor_alias (id' := "dict_keyiterator.__iter__") (by kernel_rfl) (by first | rfl | decide +kernel | (unfold String.splitOn; simp +decide [String.splitOnAux])) (by decide +kernel) (by kernel_rfl)
theorem no_rev_tup : typeLookup (.type "tuple") "__reversed__" = pure none := am_miss_of_fast (by decide +kernel)
theorem no_len_rev : typeLookup (.type "reversed") "__len__" = pure none := am_miss_of_fast (by decide +kernel)
theorem slot_rev_init : Slot "reversed" "__init__" "object.__init__" :=
  .of (owner := "object") (n := "__init__") (by rw [typeLookup_type, builtinLookup_eq_fast]; kernel_rfl) (by decide +kernel) (by decide +kernel) (by decide +kernel)
    (by first | exact .inl (by decide +kernel) | exact .inr (by decide +kernel)) (by rw [isSubtype_type]; kernel_rfl)
theorem called_rev : TypeCalled "reversed" "reversed.__new__" "object.__init__" :=
  ⟨by decide +kernel, by decide +kernel, ⟨_, _, PySem.F.mro_reversed⟩, PySem.F.made_reversed, by decide +kernel, by rw [isSubtype_type]; kernel_rfl, slot_rev_init⟩
theorem sub_tup_dict : isSubtype (.type "tuple") (.type "dict") = pure false := by rw [isSubtype_type]; kernel_rfl
theorem seq_nat' {v n : Nat} (h : v < n) : seqIndex? (v : Int) n = some v := by
  unfold seqIndex?
  have h1 : ¬ ((v : Int) < 0) := by walk_at "om"
  simp only [h1, if_false]
  rw [if_pos (by simp; walk_at "om")]
  rfl
noncomputable def revO (t : Addr) (i : Int) : Obj := { cls := .type "reversed", data := .fields #[.ref t, rawInt i] }
noncomputable def IsRev (h : Heap) (a t : Addr) (i : Int) : Prop := ∃ o, h.get? a = some o ∧ o.cls = .type "reversed" ∧ o.data = .fields #[.ref t, rawInt i]
theorem IsRev.typeIs {s : Shared} {a t : Addr} {i : Int} (x : IsRev s.heap a t i) : s.TypeIs (.ref a) "reversed" := let ⟨o, ho, hc, _⟩ := x; ⟨o, ho, hc⟩
theorem IsRev.at {h h' : Heap} {a t : Addr} {i : Int} (x : IsRev h a t i) (e : ∀ o, h.get? a = some o → h'.get? a = some o) : IsRev h' a t i := let ⟨o, ho, r⟩ := x; ⟨o, e _ ho, r⟩
theorem meets_rev_new (t : Addr) (items : Array Value) (hz : (items.size : Int) < 2 ^ 63) :
    Meets (Builtin.«reversed.__new__» ⟨[.type "reversed", .ref t], []⟩) (fun _ R s => IsTup s.heap t items ∧ ∀ tk, R (.ok (.ret (.ref s.heap.objs.size))) { s with heap := s.heap.push (revO t ((items.size : Int) - 1)), toks := tk }) :=
  .of_wp fun prog w A R s h => by
    obtain ⟨ht, h⟩ := h
    have hT : s.TypeIs (.ref t) "tuple" := ht.typeIs
    unfold Builtin.«reversed.__new__»
    refine wpAny_bind (wpAny_of_eq (newClass_reversed _) ?_)
    try dsimp only
    refine wpAny_bind (wpAny_of_eq (a := ()) (by first | rfl | kernel_rfl) ?_)
    refine wpAny_bind (wpAny_of_eq (a := ()) (by first | rfl | kernel_rfl) ?_)
    try dsimp only
    refine wpAny_bind (wpAny_specialOf hT no_rev_tup ?_)
    try dsimp only
    refine wpAny_bind ?_
    refine wpAny_bind (m := isInstance (.ref t) (.type "dict")) (wpAny_isInstance (T := "tuple") (b := false) hT sub_tup_dict ?_)
    rw [if_neg Bool.false_ne_true]
    refine wpAny_bind (m := specialOf (.ref t) "__getitem__") (wpAny_specialOf hT PySem.F.slot_tuple_getitem.lookup ?_)
    refine wpAny_of_eq (a := true) (by first | rfl | kernel_rfl) ?_
    show wpAny _ _ (call (.builtin "len") [.ref t] >>= _) _ _ _
    refine wpAny_bind (len_tuple ht hz ?_)
    show wpAny _ _ (asInt? (.int items.size (s.toks + 1)) >>= _) _ _ _
    refine wpAny_bind (wpAny_of_eq (a := some (items.size : Int)) rfl ?_)
    show wpAny _ _ (newObj (.type "reversed") (.fields #[.ref t, rawInt ((items.size : Int) - 1)]) >>= _) _ _ _
    refine wpAny_bind (wpAny_newObj_type (wpAny_pure ?_) (by size_fits))
    exact ⟨_, rfl, h _⟩
section
variable {prog : Program} {w : World} {A : Around} {E : Value → Shared → Prop} {s : Shared}
theorem call_reversed_tuple {t : Addr} {items : Array Value} {Q : Value → Shared → Prop} (ht : IsTup s.heap t items) (hz : (items.size : Int) < 2 ^ 63)
    (h : ∀ tk, Q (.ref s.heap.objs.size) { s with heap := s.heap.push (revO t ((items.size : Int) - 1)), toks := tk }) : wpAny (model prog w) A (call (.type "reversed") [.ref t]) Q E s := by
  refine callType_new called_rev (by decide) (PySem.F.typeCall_reversed_1 _) (PySem.F.newCall_reversed_1 _) (fun obj => PySem.F.args_object_init_2 obj _) PySem.F.entry_reversed_new (meets_rev_new t items hz) ⟨ht, fun tk => ?_⟩
  exact ⟨⟨_, Heap.get?_push_size _ rfl, rfl⟩, h tk⟩
theorem next_rev_item {it t : Addr} {i : Nat} {items : Array Value} {x : Value} {Q : Option Value → Shared → Prop} (hit : IsRev s.heap it t (i : Int)) (ht : IsTup s.heap t items) (hx : items[i]? = some x) (hz : (items.size : Int) < 2 ^ 63)
    (hQ : ∀ h' tk, IsRev h' it t ((i : Int) - 1) → Heap.SameBut it s.heap h' → Q (some x) { s with heap := h', toks := tk }) : wpAny (model prog w) A (pyNext (.ref it)) Q E s := by
  obtain ⟨o, ho, hc, hd⟩ := id hit
  have hi : i < items.size := by
    rcases Nat.lt_or_ge i items.size with z | z
    · exact z
    · rw [Array.getElem?_eq_none z] at hx; cases hx
  unfold pyNext
  refine wpAny_bind (wpAny_attempt (wpAny_callSpecial?_slot (name := Str.ofString "__next__") hit.typeIs slot_rev_next
    (wpAny_call_entry slot_rev_next hit.typeIs entry_rev_next ?_ (args_rev_next_1 _))))
  unfold Builtin.«reversed.__next__»
  refine wpAny_bind (wpAny_of_eq (a := (Value.ref it, [])) rfl ?_)
  try dsimp only
  refine wpAny_bind (wpAny_field ho hd (x := .ref t) rfl ?_)
  refine wpAny_bind (wpAny_field ho hd (x := rawInt (i : Int)) rfl ?_)
  show wpAny _ _ (if (i : Int) < 0 then _ else _) _ _ s
  rw [if_neg (by walk_at "om")]
  show wpAny _ _ (specialOf (.ref t) "__getitem__" >>= _) _ _ s
  refine wpAny_bind (wpAny_specialOf ht.typeIs PySem.F.slot_tuple_getitem.lookup ?_)
  show wpAny _ _ (mkInt (i : Int) >>= _) _ _ _
  refine wpAny_bind (wpAny_mkInt ?_)
  refine wpAny_bind (wpAny_attempt (getItem_tuple (s := { s with toks := s.toks + 1 }) ht (by walk_at "om") (by walk_at "om") (j := i) (seq_nat' hi) hx ?_))
  show wpAny _ _ (field (.ref it) 1 >>= _) _ _ _
  refine wpAny_bind (wpAny_field ho hd (x := rawInt (i : Int)) rfl ?_)
  show wpAny _ _ (setField (.ref it) 1 (rawInt ((i : Int) - 1)) >>= _) _ _ _
  refine wpAny_bind (wpAny_setField ho hd (by simp) (wpAny_pure ⟨x, rfl, wpAny_pure (hQ _ _ ?_ (Heap.SameBut.update ..))⟩))
  exact ⟨_, Heap.get?_update_self _ ho (Obj.isFreed_of_fields (Obj.data_mapFields hd _)), (Obj.cls_mapFields ..).trans hc, by
    rw [Obj.data_mapFields hd]; simp⟩
theorem next_rev_end {it t : Addr} {Q : Option Value → Shared → Prop} (hh : A.handled = none) (hit : IsRev s.heap it t (-1))
    (hQ : ∀ h', Heap.ExtBut it s.heap h' → Q none { s with heap := h' }) : wpAny (model prog w) A (pyNext (.ref it)) Q E s := by
  obtain ⟨o, ho, hc, hd⟩ := id hit
  unfold pyNext
  refine wpAny_bind (wpAny_attempt (wpAny_callSpecial?_slot (name := Str.ofString "__next__") hit.typeIs slot_rev_next
    (wpAny_call_entry slot_rev_next hit.typeIs entry_rev_next ?_ (args_rev_next_1 _))))
  unfold Builtin.«reversed.__next__»
  refine wpAny_bind (wpAny_of_eq (a := (Value.ref it, [])) rfl ?_)
  try dsimp only
  refine wpAny_bind (wpAny_field ho hd (x := .ref t) rfl ?_)
  refine wpAny_bind (wpAny_field ho hd (x := rawInt (-1)) rfl ?_)
  show wpAny _ _ (if (-1 : Int) < 0 then _ else _) _ _ s
  rw [if_pos (by decide)]
  refine wpAny_bind (wpAny_rule ?_)
  refine wpAny_bind ?_
  refine wpAny_bind (m := setField (.ref it) 1 (rawInt (-1))) (wpAny_setField ho hd (by simp) ?_)
  have ho2 := Heap.get?_update_self (Obj.mapFields fun vs => vs.set! 1 (rawInt (-1))) ho (Obj.isFreed_of_fields (Obj.data_mapFields hd _))
  have hd2 := Obj.data_mapFields hd (fun vs => vs.set! 1 (rawInt (-1)))
  refine wpAny_setField ho2 hd2 (by simp) ?_
  refine wpAny_bind ?_
  show wpAny _ _ (newExc (.type "StopIteration") [] >>= _) _ _ _
  refine wpAny_bind ?_
  simp only [newExc, newTuple]
  refine wpAny_bind (wpAny_newObj_type ?_ (by size_fits))
  refine wpAny_bind (m := firstArgMember _ _) (wpAny_of_eq (a := Value.none) (by first | rfl | (simp only [firstArgMember]; rfl)) ?_)
  refine wpAny_newObj_type ?_ (by size_fits)
  simp only [raiseNew]
  refine wpAny_bind (wpAny_handled ?_)
  first | rw [show A.in1.handled = none from hh] | rw [hh]
  refine wpAny_bind (wpAny_pure (wpAny_throw ?_))
  refine wpAny_bind (wpAny_isInstance (T := "StopIteration") (b := true) ⟨_, Heap.get?_push_size _ rfl, rfl⟩ isSubtype_stop ?_)
  refine wpAny_pure (hQ _ ?_)
  intro b o' hb e
  exact Heap.get?_push_of_some _ (Heap.get?_push_of_some _ ((Heap.get?_update_other _ _ (Ne.symm hb)).trans ((Heap.get?_update_other _ _ (Ne.symm hb)).trans e)))
theorem pyIter_rev {it t : Addr} {i : Int} {Q : Value → Shared → Prop} (hit : IsRev s.heap it t i) (h : Q (.ref it) s) : wpAny (model prog w) A (pyIter (.ref it)) Q E s := by
  refine wpAny_pyIter_slot hit.typeIs slot_rev_iter (wpAny_call_entry slot_rev_iter hit.typeIs entry_rev_iter ?_ (args_rev_iter_1 _))
  show wpAny _ _ (ret (.ref it)) _ _ s
  exact wpAny_pure ⟨_, rfl, "reversed", _, hit.typeIs, slot_rev_next.lookup, h⟩
theorem hint_rev {it t : Addr} {i : Nat} {items : Array Value} {Q : Bool → Shared → Prop} (hit : IsRev s.heap it t ((i : Int) - 1)) (ht : IsTup s.heap t items) (hi : i ≤ items.size) (hz : items.size ≤ 1000)
    (h : ∀ b tk, Q b { s with toks := tk }) : wpAny (model prog w) A (Builtin.List.listLengthHint (.ref it)) Q E s := by
  obtain ⟨o, ho, hc, hd⟩ := id hit
  unfold Builtin.List.listLengthHint
  refine wpAny_bind (wpAny_specialOf hit.typeIs no_len_rev ?_)
  show wpAny _ _ (specialOf (Value.ref it) (Str.ofString "__length_hint__") >>= _) _ _ _
  refine wpAny_bind (wpAny_specialOf hit.typeIs slot_rev_hint.lookup ?_)
  generalize hid : ("reversed.__length_hint__" : String) = id0
  wp_delta
  rw [show splitId id0 = some ("reversed", "__length_hint__") from by subst hid; decide +kernel]
  subst hid
  refine wpAny_bind (wpAny_isInstance (T := "reversed") (b := true) hit.typeIs PySem.F.sub_reversed_self ?_)
  refine wpAny_ite_split (fun hab => absurd hab (by decide)) (fun _ => ?_)
  refine wpAny_ite_split (fun hab => absurd hab (by decide +kernel)) (fun _ => ?_)
  refine wpAny_bind (wpAny_rule ?_)
  refine wpAny_bind (wpAny_of_eq (slot_rev_hint.bind _) ?_)
  have htl : Builtin.List.listTooLong ((i : Int).toNat) = false := by simp [Builtin.List.listTooLong, sizeLine]; walk_at "om"
  have hfi : Builtin.List.listFitsIndex (i : Int) = true := by simp [Builtin.List.listFitsIndex]; walk_at "om"
  refine wpAny_bind (wpAny_attempt (wpAny_call_entry slot_rev_hint hit.typeIs entry_rev_hint ?_ (args_rev_hint_1 _)))
  unfold Builtin.«reversed.__length_hint__»
  refine wpAny_bind (wpAny_of_eq (a := Value.ref it) rfl ?_)
  refine wpAny_bind (wpAny_field ho hd (x := .ref t) rfl ?_)
  show wpAny _ _ (if (Value.ref t == Value.none) = true then _ else call (.builtin "len") [.ref t] >>= _) _ _ s
  rw [if_neg (show ¬ ((Value.ref t == Value.none) = true) from Bool.false_ne_true)]
  refine wpAny_bind (len_tuple ht (by walk_at "om") ?_)
  show wpAny _ _ (asInt? (.int items.size (s.toks + 1)) >>= _) _ _ _
  refine wpAny_bind (wpAny_of_eq (a := some (items.size : Int)) rfl ?_)
  refine wpAny_bind (wpAny_field ho hd (x := rawInt ((i : Int) - 1)) rfl ?_)
  show wpAny _ _ (if ((items.size : Nat) : Int) < ((i : Int) - 1) + 1 then _ else _) _ _ _
  rw [if_neg (by walk_at "om")]
  rw [show (i : Int) - 1 + 1 = (i : Int) by walk_at "om"]
  show wpAny _ _ (mkInt (i : Int) >>= fun v => ret v) _ _ _
  refine wpAny_bind (wpAny_mkInt (wpAny_pure ⟨_, rfl, ?_⟩))
  have h0 : ¬ ((i : Int) < 0) := by walk_at "om"
  dsimp only
  generalize (i : Int) = k at *
  refine wpAny_bind (m := asInt? (Value.int k _)) (wpAny_pure ?_)
  refine wpAny_ite_split (fun hab => absurd hab (by rw [hfi]; decide)) (fun _ => ?_)
  refine wpAny_ite_split (fun hab => absurd hab h0) (fun _ => ?_)
  exact wpAny_ite_split (fun hab => absurd hab (by rw [htl]; decide)) (fun _ => wpAny_pure (h _ _))
end
theorem Walks.rev {prog : Program} {w : World} {A : Around} (hh : A.handled = none) (I l : Addr) (hne : l ≠ I) (items : Array Value) (hz : (items.size : Int) < 2 ^ 63) :
    Walks prog w A I [I, l] [I] items.size (fun i v => items[items.size - 1 - i]? = some v) (fun i h => i ≤ items.size ∧ IsRev h I l ((items.size : Int) - 1 - (i : Int)) ∧ IsTup h l items) where
  sub := fun b hb => by simp at hb; simp [hb]
  frame := fun _ _ _ x hk => ⟨x.1, x.2.1.at fun o e => hk I (by simp) o e, let ⟨o, e, r⟩ := x.2.2; ⟨o, hk l (by simp) o e, r⟩⟩
  item := fun i s Q E hi x hQ => by
    have e : (items.size : Int) - 1 - (i : Int) = ((items.size - 1 - i : Nat) : Int) := by walk_at "om"
    have hit := x.2.1
    rw [e] at hit
    have hx : items[items.size - 1 - i]? = some (items[items.size - 1 - i]'(by walk_at "om")) := Array.getElem?_eq_getElem (by walk_at "om")
    refine next_rev_item hit x.2.2 hx hz fun h' tk hit' hs' => ?_
    have e2 : ((items.size - 1 - i : Nat) : Int) - 1 = (items.size : Int) - 1 - ((i + 1 : Nat) : Int) := by walk_at "om"
    rw [e2] at hit'
    exact hQ _ h' tk hx ⟨hi, hit', let ⟨o, e, r⟩ := x.2.2; ⟨o, (hs'.2 l hne).trans e, r⟩⟩ fun b o hb eo => hs'.extBut b o (fun h => hb (by simp [h])) eo
  done := fun s Q E x hQ => by
    have e : (items.size : Int) - 1 - (items.size : Int) = -1 := by walk_at "om"
    have hit := x.2.1
    rw [e] at hit
    exact next_rev_end hh hit fun h' he' => hQ h' s.toks fun b o hb eo => he' b o (fun h => hb (by simp [h])) eo
  self := fun _ _ _ _ x hQ => pyIter_rev x.2.1 hQ
section
variable {prog : Program} {w : World} {A : Around} {s : Shared}
theorem extend_rev {R : Result → Shared → Prop} {it t : Addr} {items : Array Value} (hh : A.handled = none) (hit : IsRev s.heap it t ((items.size : Int) - 1)) (ht : IsTup s.heap t items) (hne : t ≠ it) (hz : items.size ≤ 1000)
    (S : Addr) (res : Value) (c₀ : Nat) (hS : s.heap.get? S = some { cls := .type "list", data := .seq #[] c₀ })
    (hR : ∀ h' tk acc' c', (∀ b o, b ≠ S → b ≠ it → s.heap.get? b = some o → h'.get? b = some o) → h'.get? S = some { cls := .type "list", dict := none, data := .seq acc' c', slots := #[] } →
      ItemsOf (fun i v => items[items.size - 1 - i]? = some v) acc' items.size → R (.ok (.ret res)) { s with heap := h', toks := tk }) :
    wpAny (model prog w) A.in1 (Builtin.List.listExtendWith (.ref S) (.ref it) res)
      (fun fin s' => match fin with | .done f => R (.ok f) s' | .again c' => c'.quiet = true ∧ codeAny (model prog w) A c' R s') (fun e s' => R (.error e) s') s := by
  have hSit : S ≠ it := fun e => by
    obtain ⟨o, ho, hc, _⟩ := hit
    rw [e, ho] at hS
    have := Option.some.inj hS
    rw [this] at hc
    exact absurd hc (show ¬ (Value.type "list" = Value.type _) by decide)
  have hSt : S ≠ t := fun e => by
    obtain ⟨o, ho, hc, _⟩ := ht
    rw [e, ho] at hS
    have := Option.some.inj hS
    rw [this] at hc
    exact absurd hc (show ¬ (Value.type "list" = Value.type _) by decide)
  have hSf : S ∉ [it, t] := fun hm => by
    rcases List.mem_cons.mp hm with h | h
    · exact hSit h
    · exact hSt (List.mem_singleton.mp h)
  have W := (Walks.rev (prog := prog) (w := w) (A := A.in1) hh it t hne items (by walk_at "om")).toS
  have key : ∀ (h : Heap) (c₁ tk : Nat), IsRev h it t ((items.size : Int) - 1) → IsTup h t items → (∀ b o, b ≠ S → s.heap.get? b = some o → h.get? b = some o) →
      h.get? S = some { cls := .type "list", data := .seq #[] c₁ } → codeAny (model prog w) A (.builtin "list.extend.loop" ⟨[.ref S, .ref it, res], []⟩) R { s with heap := h, toks := tk } := by
    intro h c₁ tk hit' ht' hk hS₁
    refine codeAny_extend_loopS W (by rw [sizeLine_eq]; walk_at "om") S hSf res items.size 0 _ #[] c₁ rfl (Nat.zero_le _) ⟨Nat.zero_le _, by simpa using hit', ht'⟩ hS₁ (ItemsOf.nil _) fun s' acc' c' hm hS' hacc => ?_
    rw [Moved.eq_with hm]
    refine hR s'.heap s'.toks acc' c' (fun b o hb hi e => hm.heap b o (fun hmem => ?_) (hk b o hb e)) hS' hacc
    rcases List.mem_cons.mp hmem with e' | hmem
    · exact hb e'
    · exact hi (List.mem_singleton.mp hmem)
  unfold Builtin.List.listExtendWith
  refine wpAny_bind (wpAny_typeOf (T := "reversed") hit.typeIs ?_)
  have h1 : Builtin.List.listSameRef (.ref S) (.ref it) = false := by simp [Builtin.List.listSameRef, hSit]
  have h2 : (Value.type "reversed" == Value.type "list") = false := by decide
  have h3 : (Value.type "reversed" == Value.type "tuple") = false := by decide
  simp only [h1, h2, h3, Bool.or_false, Bool.false_eq_true, if_false]
  refine wpAny_bind (pyIter_rev hit ?_)
  refine wpAny_bind (wpAny_holding (hint_rev (i := items.size) hit ht (Nat.le_refl _) hz fun b tk => ?_))
  refine wpAny_ite_split (fun _ => ?_) (fun _ => wpAny_pure ⟨plainId_quiet PySem.F.plain_extend_loop _, key _ c₀ _ hit ht (fun b o _ e => e) hS⟩)
  refine wpAny_bind (wpAny_rule ?_)
  refine wpAny_bind ?_
  show wpAny _ _ (updateSeq S (·.push .none) >>= fun _ => updateSeq S (·.pop)) _ _ _
  refine wpAny_bind (wpAny_updateSeq hS rfl ?_)
  have hS₂ := Heap.get?_update_self (Obj.mapSeq (·.push Value.none)) hS rfl
  refine wpAny_updateSeq (hz := by seq_fits) hS₂ rfl ?_
  have hS₃ := Heap.get?_update_self (Obj.mapSeq (·.pop)) hS₂ rfl
  have oth : ∀ b o, b ≠ S → s.heap.get? b = some o → ((s.heap.update S (Obj.mapSeq (·.push Value.none))).update S (Obj.mapSeq (·.pop))).get? b = some o := fun b o hb e => (Heap.get?_update_other _ _ (Ne.symm hb)).trans ((Heap.get?_update_other _ _ (Ne.symm hb)).trans e)
  refine wpAny_pure ⟨plainId_quiet PySem.F.plain_extend_loop _, key _ _ _ (hit.at fun o e => oth it o (Ne.symm hSit) e) (let ⟨o, e, r⟩ := ht; ⟨o, oth t o (Ne.symm hSt) e, r⟩) oth hS₃⟩
theorem init_rev {R : Result → Shared → Prop} {it t : Addr} {items : Array Value} (hh : A.handled = none) (hit : IsRev s.heap it t ((items.size : Int) - 1)) (ht : IsTup s.heap t items) (hne : t ≠ it) (hz : items.size ≤ 1000) (S : Addr) (hS : s.heap.get? S = some { cls := .type "list", data := .seq #[] })
    (hSt : S ≠ t) (hSi : S ≠ it) (hR : ∀ h' tk acc' c', (∀ b o, b ≠ S → b ≠ it → s.heap.get? b = some o → h'.get? b = some o) → h'.get? S = some { cls := .type "list", dict := none, data := .seq acc' c', slots := #[] } →
      ItemsOf (fun i v => items[items.size - 1 - i]? = some v) acc' items.size → R (.ok (.ret .none)) { s with heap := h', toks := tk }) :
    wpAny (model prog w) A.in1 (Builtin.«list.__init__» ⟨[.ref S, .ref it], []⟩)
      (fun fin s' => match fin with | .done f => R (.ok f) s' | .again c' => c'.quiet = true ∧ codeAny (model prog w) A c' R s') (fun e s' => R (.error e) s') s := by
  show wpAny _ _ (do let old ← Builtin.List.listItems (.ref S); Builtin.List.listUpdate (.ref S) (fun _ => #[]); letGo old.toList.reverse; Builtin.List.listExtendWith (.ref S) (.ref it) .none) _ _ s
  refine wpAny_bind ?_
  unfold Builtin.List.listItems
  refine wpAny_bind (wpAny_seqItems hS rfl (wpAny_pure ?_))
  show wpAny _ _ (updateSeq S (fun _ => #[]) >>= fun _ => letGo (#[] : Array Value).toList.reverse >>= fun _ => Builtin.List.listExtendWith (.ref S) (.ref it) .none) _ _ s
  refine wpAny_bind (wpAny_updateSeq hS rfl ?_)
  have hS₂ := Heap.get?_update_self (Obj.mapSeq (fun _ => (#[] : Array Value))) hS rfl
  have oth : ∀ b o, b ≠ S → s.heap.get? b = some o → (s.heap.update S (Obj.mapSeq (fun _ => (#[] : Array Value)))).get? b = some o :=
    fun b o hb e => (Heap.get?_update_other _ _ (Ne.symm hb)).trans e
  refine wpAny_bind (wpAny_letGo ?_)
  refine extend_rev hh (hit.at fun o e => oth it o (Ne.symm hSi) e) (let ⟨o, e, r⟩ := ht; ⟨o, oth t o (Ne.symm hSt) e, r⟩) hne hz S .none _ hS₂ fun h' tk acc' c' hk hS' hacc => ?_
  exact hR h' tk acc' c' (fun b o hb hi e => hk b o hb hi (oth b o hb e)) hS' hacc
theorem call_list_rev {E : Value → Shared → Prop} {Q : Value → Shared → Prop} {it t : Addr} {items : Array Value} (hh : A.handled = none) (hit : IsRev s.heap it t ((items.size : Int) - 1)) (ht : IsTup s.heap t items) (hne : t ≠ it) (hz : items.size ≤ 1000)
    (hQ : ∀ h' tk acc' c', (∀ b o, b ≠ it → s.heap.get? b = some o → h'.get? b = some o) →
      h'.get? s.heap.objs.size = some { cls := .type "list", dict := none, data := .seq acc' c', slots := #[] } → ItemsOf (fun i v => items[items.size - 1 - i]? = some v) acc' items.size → Q (.ref s.heap.objs.size) { s with heap := h', toks := tk }) :
    wpAny (model prog w) A (call (.type "list") [.ref it]) Q E s := by
  refine callType_codes (Q₁ := fun obj s₁ => obj = .ref s.heap.objs.size ∧ s₁ = { s with heap := s.heap.push { cls := .type "list", data := .seq #[] } }) PySem.F.called_list (PySem.F.typeCall_list_1 _) PySem.F.entry_list_init
    (code_list_new _ ⟨rfl, rfl⟩) fun obj s₁ h₁ => ?_
  obtain ⟨rfl, rfl⟩ := h₁
  have hS : (s.heap.push { cls := .type "list", data := .seq #[] }).get? s.heap.objs.size = some { cls := .type "list", data := .seq #[] } := Heap.get?_push_size _ rfl
  have lt1 : it < s.heap.objs.size := let ⟨_, e, _⟩ := hit; Heap.lt_size e
  have lt2 : t < s.heap.objs.size := let ⟨_, e, _⟩ := ht; Heap.lt_size e
  refine ⟨⟨_, hS, rfl⟩, PySem.F.args_list_init_2 _ _, init_rev (A := A.in1) hh (hit.at fun o e => Heap.get?_push_of_some _ e) (let ⟨o, e, r⟩ := ht; ⟨o, Heap.get?_push_of_some _ e, r⟩) hne hz _ hS (Nat.ne_of_gt lt2) (Nat.ne_of_gt lt1) fun h' tk acc' c' hk hS' hacc => ?_⟩
  exact ⟨rfl, hQ h' tk acc' c' (fun b o hi e => hk b o (Nat.ne_of_lt (Heap.lt_size e)) hi (Heap.get?_push_of_some _ e)) hS' hacc⟩
end
end L2

set_option Elab.async false
set_option linter.all false
set_option maxRecDepth 100000
namespace L2
open PySem PySem.Spec PyProof.Rows
section
variable {κ : Type} [DecidableEq κ]
noncomputable def valV (kvs : List (κ × V)) (k : κ) : Option V := (kvs.find? fun kv => decide (kv.1 = k)).map (·.2)
noncomputable def putK (kvs : List (κ × V)) (k : κ) (v : V) : List (κ × V) :=
  if (kvs.any fun kv => decide (kv.1 = k)) = true then kvs.map (fun kv => if kv.1 = k then (kv.1, v) else kv) else kvs ++ [(k, v)]
theorem valV_pos {p : κ × V} {r : List (κ × V)} {k : κ} (e : p.1 = k) : valV (p :: r) k = some p.2 := by simp [valV, List.find?_cons, e]
theorem valV_neg {p : κ × V} {r : List (κ × V)} {k : κ} (e : ¬ p.1 = k) : valV (p :: r) k = valV r k := by simp [valV, List.find?_cons, e]
theorem valV_any (k : κ) : ∀ kvs : List (κ × V), (kvs.any fun kv => decide (kv.1 = k)) = (valV kvs k).isSome
  | [] => rfl
  | p :: r => by
    rw [List.any_cons]
    by_cases e : p.1 = k
    · simp only [valV_pos e, decide_eq_true e, Bool.true_or, Option.isSome_some]
    · rw [valV_neg e, decide_eq_false e, Bool.false_or]; exact valV_any k r
theorem valV_map (k j : κ) (y : V) : ∀ kvs : List (κ × V), valV (kvs.map fun kv => if kv.1 = k then (kv.1, y) else kv) j = (valV kvs j).map fun x => if j = k then y else x
  | [] => rfl
  | p :: r => by
    have ih := valV_map k j y r
    rw [List.map_cons]
    by_cases h : p.1 = k
    · rw [if_pos h]
      by_cases e : p.1 = j
      · rw [valV_pos (p := (p.1, y)) e, valV_pos e, Option.map_some, if_pos (e.symm.trans h)]
      · rw [valV_neg (p := (p.1, y)) e, valV_neg e, ih]
    · rw [if_neg h]
      by_cases e : p.1 = j
      · rw [valV_pos (p := p) e, valV_pos e, Option.map_some, if_neg (fun z => h (e.trans z))]
      · rw [valV_neg (p := p) e, valV_neg e, ih]
theorem valV_snoc (k j : κ) (y : V) : ∀ kvs : List (κ × V), valV kvs k = none → valV (kvs ++ [(k, y)]) j = if j = k then some y else valV kvs j
  | [], _ => by
    by_cases e : k = j
    · rw [if_pos e.symm]; exact valV_pos (p := (k, y)) e
    · rw [if_neg (fun z => e z.symm)]; exact valV_neg (p := (k, y)) e
  | p :: r, hn => by
    rw [List.cons_append]
    have hk : ¬ p.1 = k := fun z => by rw [valV_pos z] at hn; cases hn
    rw [valV_neg hk] at hn
    have ih := valV_snoc k j y r hn
    by_cases e : p.1 = j
    · rw [valV_pos e, valV_pos e, if_neg (fun z => hk (e.trans z))]
    · rw [valV_neg e, valV_neg e, ih]
theorem valV_put (kvs : List (κ × V)) (k j : κ) (y : V) : valV (putK kvs k y) j = if j = k then some y else valV kvs j := by
  unfold putK
  by_cases a : (kvs.any fun kv => decide (kv.1 = k)) = true
  · rw [if_pos a, valV_map]
    rw [valV_any] at a
    by_cases e : j = k
    · obtain ⟨x, hx⟩ := Option.isSome_iff_exists.mp a
      rw [if_pos e, e, hx, Option.map_some, if_pos rfl]
    · rw [if_neg e]
      cases valV kvs j with
      | none => rfl
      | some x => rw [Option.map_some, if_neg e]
  · rw [if_neg a]
    refine valV_snoc k j y kvs ?_
    rw [valV_any] at a
    cases q : valV kvs k with
    | none => rfl
    | some x => rw [q] at a; exact (a rfl).elim
theorem length_putK (kvs : List (κ × V)) (k : κ) (v : V) : (putK kvs k v).length ≤ kvs.length + 1 := by
  unfold putK
  split
  · rw [List.length_map]; walk_at "om"
  · rw [List.length_append, List.length_cons, List.length_nil]; walk_at "om"
theorem RelO.isSome_eq {o : Option V} {u : Option Value} (r : RelO o u) : o.isSome = u.isSome := by
  cases o with
  | none => cases u with
    | none => rfl
    | some _ => exact (show False from r).elim
  | some _ => cases u with
    | none => exact (show False from r).elim
    | some _ => rfl
theorem KV.val {kvs : List (κ × V)} {vs : List (κ × Value)} (r : KV kvs vs) (k : κ) : RelO (valV kvs k) (valueAt vs k) := by
  unfold KV at r
  induction r with
  | nil => exact True.intro
  | @cons p q ps qs h t ih =>
    obtain ⟨h1, h2⟩ := h
    by_cases e : p.1 = k
    · have e' : q.1 = k := h1.symm.trans e
      have b : valueAt (q :: qs) k = some q.2 := by simp [valueAt, List.find?_cons, e']
      rw [valV_pos e, b]; exact h2
    · have e' : ¬ q.1 = k := fun z => e (h1.trans z)
      have b : valueAt (q :: qs) k = valueAt qs k := by simp [valueAt, List.find?_cons, e']
      rw [valV_neg e, b]; exact ih
theorem KV.any {kvs : List (κ × V)} {vs : List (κ × Value)} (r : KV kvs vs) (k : κ) : (kvs.any fun kv => decide (kv.1 = k)) = vs.any fun kv => decide (kv.1 = k) := by
  unfold KV at r
  induction r with
  | nil => rfl
  | cons h t ih => rw [List.any_cons, List.any_cons, ih, h.1]
theorem KV.repl {kvs : List (κ × V)} {vs : List (κ × Value)} (r : KV kvs vs) (k : κ) {y : V} {u : Value} (ry : RelV y u) :
    KV (kvs.map fun kv => if kv.1 = k then (kv.1, y) else kv) (vs.map fun kv => if kv.1 = k then (kv.1, u) else kv) := by
  unfold KV at r ⊢
  induction r with
  | nil => exact .nil
  | @cons p q ps qs h t ih =>
    rw [List.map_cons, List.map_cons]
    refine .cons ?_ ih
    obtain ⟨h1, h2⟩ := h
    by_cases e : p.1 = k
    · rw [if_pos e, if_pos (h1.symm.trans e)]; exact ⟨h1, ry⟩
    · rw [if_neg e, if_neg (fun z => e (h1.trans z))]; exact ⟨h1, h2⟩
theorem KV.put {kvs : List (κ × V)} {vs : List (κ × Value)} (r : KV kvs vs) (k : κ) {y : V} {u : Value} (ry : RelV y u) : KV (putK kvs k y) (stored vs k u) := by
  unfold putK stored
  rw [r.any k]
  by_cases e : (vs.any fun kv => decide (kv.1 = k)) = true
  · rw [if_pos e, if_pos e]; exact r.repl k ry
  · rw [if_neg e, if_neg e]; exact Paired.snoc r ⟨rfl, ry⟩
theorem KV.length {kvs : List (κ × V)} {vs : List (κ × Value)} (r : KV kvs vs) : kvs.length = vs.length := Paired.length r
end


theorem kV_is {P : Program} {w : World} {k : Key} {u : Value} (r : RelV (kV k) u) : (mixKind P w).is k u = true := by
  cases k with
  | inl i => obtain ⟨t, e⟩ := (show ∃ t, u = Value.int i t from r); subst e; exact mixKind_int P w i t
  | inr x => obtain ⟨t, e⟩ := (show ∃ t, u = Value.str x t from r); subst e; exact mixKind_str P w x t
theorem items_are {P : Program} {w : World} : ∀ {ks : List Key} {us : List Value}, Vals (ks.map kV) us → ItemsAre (mixKind P w) ks us
  | [], _, r => by rw [List.map_nil] at r; cases r; exact .nil
  | k :: ks, _, r => by
    rw [List.map_cons] at r
    cases r with
    | cons h t => exact .cons (kV_is h) (items_are t)

noncomputable abbrev KT (H : Hp) : List (List Key × V) → List (List Key × Addr × Value) → Prop := Paired fun p q => p.1 = q.1 ∧ H q.2.1 = some (.tup (p.1.map kV)) ∧ RelV p.2 q.2.2
theorem KT.val {H : Hp} {kvs : List (List Key × V)} {xs : List (List Key × Addr × Value)} (r : KT H kvs xs) (k : List Key) : RelO (valV kvs k) ((atKey xs k).map (·.2)) := by
  induction r with
  | nil => exact True.intro
  | @cons p q ps qs h t ih =>
    obtain ⟨h1, _, h2⟩ := h
    by_cases e : p.1 = k
    · have e' : q.1 = k := h1.symm.trans e
      have b : atKey (q :: qs) k = some q.2 := by simp [atKey, List.find?_cons, e']
      rw [valV_pos e, b]; exact h2
    · have e' : ¬ q.1 = k := fun z => e (h1.trans z)
      have b : atKey (q :: qs) k = atKey qs k := by simp [atKey, List.find?_cons, e']
      rw [valV_neg e, b]; exact ih
theorem KT.repl {H : Hp} {kvs : List (List Key × V)} {xs : List (List Key × Addr × Value)} (r : KT H kvs xs) (k : List Key) {y : V} {u : Value} (ry : RelV y u) :
    KT H (kvs.map fun kv => if kv.1 = k then (kv.1, y) else kv) (xs.map (putAt k u)) := by
  induction r with
  | nil => exact .nil
  | @cons p q ps qs h t ih =>
    rw [List.map_cons, List.map_cons]
    refine .cons ?_ ih
    obtain ⟨h1, h2, h3⟩ := h
    unfold putAt
    by_cases e : p.1 = k
    · rw [if_pos e, if_pos (h1.symm.trans e)]; exact ⟨h1, h2, ry⟩
    · rw [if_neg e, if_neg (fun z => e (h1.trans z))]; exact ⟨h1, h2, h3⟩
theorem KT.put {H : Hp} {kvs : List (List Key × V)} {xs : List (List Key × Addr × Value)} (r : KT H kvs xs) (k : List Key) {b : Addr} {y : V} {u : Value} (hb : H b = some (.tup (k.map kV))) (ry : RelV y u) :
    KT H (putK kvs k y) (storedH xs k b u) := by
  have e : (kvs.any fun kv => decide (kv.1 = k)) = (atKey xs k).isSome := by
    rw [valV_any, (r.val k).isSome_eq, Option.isSome_map]
  unfold putK storedH
  rw [e]
  by_cases q : (atKey xs k).isSome = true
  · rw [if_pos q, if_pos q]; exact r.repl k ry
  · rw [if_neg q, if_neg q]; exact Paired.snoc r ⟨rfl, hb, ry⟩
theorem KT.keeps {H H' : Hp} {kvs : List (List Key × V)} {xs : List (List Key × Addr × Value)} (r : KT H kvs xs) (ht : ∀ b ys, H b = some (.tup ys) → H' b = some (.tup ys)) : KT H' kvs xs :=
  Paired.mapP r fun _ _ z => ⟨z.1, ht _ _ z.2.1, z.2.2⟩

section
variable {P : Program} {w : World} {H : Hp} {h : Heap} {a : Addr}
theorem rd_of {u : HO} (ok : HOk P w H h) (e : Rd H a u) : ObjOk P w H h a u := e.ok ok
theorem dk_rd {kvs : List (Key × V)} (ok : HOk P w H h) (e : Rd H a (.dK kvs)) : kvs.length ≤ sizeLine ∧ (a == sysModules) = false ∧ ∃ vs, KV kvs vs ∧ h.DictOf (mixKind P w) a vs :=
  show ObjOk P w H h a (.dK kvs) from rd_of ok e
theorem dk_of {kvs : List (Key × V)} (ok : HOk P w H h) (e : H a = some (.dK kvs)) : kvs.length ≤ sizeLine ∧ (a == sysModules) = false ∧ ∃ vs, KV kvs vs ∧ h.DictOf (mixKind P w) a vs := dk_rd ok (.inl e)
theorem key_of {ks : List Key} (ok : HOk P w H h) (e : H a = some (.tup (ks.map kV))) : (tupleKind (mixKind P w)).is h ks a := by
  obtain ⟨_, its, r, o, h1, h2, ⟨n, h3⟩, _⟩ := (show ObjOk P w H h a (.tup (ks.map kV)) from ok a _ e)
  exact ⟨o, its.toArray, n, h1, h2, h3, by simpa using items_are r⟩
theorem dt_rd {kvs : List (List Key × V)} (ok : HOk P w H h) (e : Rd H a (.dT kvs)) : kvs.length ≤ sizeLine ∧ (a == sysModules) = false ∧
    ∃ xs, KT H kvs xs ∧ h.DictOfH (tupleKind (mixKind P w)) a xs := by
  obtain ⟨z, y, xs, r, o, es, ep, h1, h2, h3, h4, h5⟩ := (show ObjOk P w H h a (.dT kvs) from rd_of ok e)
  refine ⟨z, y, xs, r, o, es, ep, h1, h2, h3, h4, fun x hx => ?_, h5⟩
  have all : ∀ {l : List (List Key × V)} {m : List (List Key × Addr × Value)}, KT H l m → ∀ x ∈ m, (tupleKind (mixKind P w)).is h x.1 x.2.1 := by
    intro l m q
    induction q with
    | nil => intro x hx; exact nomatch hx
    | @cons p q ps qs hq t ih =>
      intro x hx
      rcases List.mem_cons.mp hx with e | hx
      · subst e
        exact key_of ok (by rw [← hq.1]; exact hq.2.1)
      · exact ih x hx
  exact all r x hx
theorem dt_of {kvs : List (List Key × V)} (ok : HOk P w H h) (e : H a = some (.dT kvs)) : kvs.length ≤ sizeLine ∧ (a == sysModules) = false ∧
    ∃ xs, KT H kvs xs ∧ h.DictOfH (tupleKind (mixKind P w)) a xs := dt_rd ok (.inl e)
end

noncomputable def DGet (H : Hp) (a : Addr) (y : V) (r : Option V) : Prop :=
  (∃ kvs k, Rd H a (.dK kvs) ∧ y = kV k ∧ r = valV kvs k) ∨ ∃ kvs k b, Rd H a (.dT kvs) ∧ y = .ref b ∧ H b = some (.tup (k.map kV)) ∧ r = valV kvs k
noncomputable def DPut (H : Hp) (a : Addr) (y v : V) (H' : Hp) : Prop :=
  (∃ kvs k, H a = some (.dK kvs) ∧ y = kV k ∧ kvs.length < sizeLine ∧ H' = upd H a (.dK (putK kvs k v))) ∨
  ∃ kvs k b, H a = some (.dT kvs) ∧ y = .ref b ∧ H b = some (.tup (k.map kV)) ∧ kvs.length < sizeLine ∧ H' = upd H a (.dT (putK kvs k v))
theorem DGet.k {H : Hp} {a : Addr} {kvs : List (Key × V)} {k : Key} (e : H a = some (.dK kvs)) : DGet H a (kV k) (valV kvs k) := .inl ⟨kvs, k, .inl e, rfl, rfl⟩
theorem DGet.t {H : Hp} {a b : Addr} {kvs : List (List Key × V)} {k : List Key} (e : H a = some (.dT kvs)) (eb : H b = some (.tup (k.map kV))) : DGet H a (.ref b) (valV kvs k) := .inr ⟨kvs, k, b, .inl e, rfl, eb, rfl⟩
theorem DPut.k {H : Hp} {a : Addr} {kvs : List (Key × V)} {k : Key} {v : V} (e : H a = some (.dK kvs)) (hl : kvs.length < sizeLine) : DPut H a (kV k) v (upd H a (.dK (putK kvs k v))) := .inl ⟨kvs, k, e, rfl, hl, rfl⟩
section
variable {X : Cx} {pins : List (Addr × Obj)} {σ : St} {H : Hp} {s : Shared} {a : Addr} {y v : V} {u r : Value} {o : Option V} {A : Around} {E : Value → Shared → Prop}

theorem Inv.big (I : Inv X pins σ H s) : sysModules < s.heap.objs.size := by
  have h : mainGlobals < s.heap.objs.size := (I.mod.glob.keeps I.bk).lt
  exact Nat.lt_trans (by decide) h

theorem d_getItem {Q : Value → Shared → Prop} (hu : A.units + 1 < cLine) (I : Inv X pins σ H s) (g : DGet H a y (some v)) (ry : RelV y u) (h : ∀ w' s', Inv X pins σ H s' → RelV v w' → Q w' s') :
    wpAny (model X.prog X.w) A (getItem (.ref a) u) Q E s := by
  rcases g with ⟨kvs, k, e, ey, l⟩ | ⟨kvs, k, b, e, ey, eb, l⟩
  · subst ey
    obtain ⟨z, hd, vs, rel, dd⟩ := dk_rd I.hok e
    obtain ⟨w', hw, rw'⟩ := RelO.some_of (v := v) (o := valueAt vs k) (by rw [l]; exact rel.val k)
    exact wpAny_getItem_of (kV_is ry) dd.mapOf hw (h w' _ (I.tok _) rw')
  · subst ey
    cases (show u = Value.ref b from ry)
    obtain ⟨z, hd, xs, rel, dd⟩ := dt_rd I.hok e
    obtain ⟨w', hw, rw'⟩ := RelO.some_of (v := v) (o := (atKey xs k).map (·.2)) (by rw [l]; exact rel.val k)
    obtain ⟨p, hp, hp2⟩ := Option.map_eq_some_iff.mp hw
    refine wpAny_getItem_heap (tupleKind_room_in1 hu) (key_of I.hok eb) dd hp ?_
    rw [hp2]
    exact h w' _ (I.tok _) rw'
theorem d_notIn {Q : Value → Shared → Prop} (hu : A.units + 1 < cLine) (I : Inv X pins σ H s) (g : DGet H a y o) (ry : RelV y u) (h : ∀ s', Inv X pins σ H s' → Q (.bool (!o.isSome)) s') :
    wpAny (model X.prog X.w) A (compareOp .NotIn u (.ref a)) Q E s := by
  rcases g with ⟨kvs, k, e, ey, l⟩ | ⟨kvs, k, b, e, ey, eb, l⟩
  · subst ey
    obtain ⟨z, hd, vs, rel, dd⟩ := dk_rd I.hok e
    refine wpAny_notIn_of (kV_is ry) hd dd.mapOf ?_
    rw [← (rel.val k).isSome_eq, ← l]
    exact h _ (I.tok _)
  · subst ey
    cases (show u = Value.ref b from ry)
    obtain ⟨z, hd, xs, rel, dd⟩ := dt_rd I.hok e
    refine wpAny_notIn_heap (tupleKind_room_in1 hu) (key_of I.hok eb) hd dd ?_
    have q := (rel.val k).isSome_eq
    rw [Option.isSome_map] at q
    rw [← q, ← l]
    exact h _ (I.tok _)
theorem d_write {h' : Heap} {t' : Nat} {ob : HO} (I : Inv X pins σ H s) (mu : Mut (H a)) (hs : Heap.SameBut a s.heap h') (he : ∃ q, h'.get? a = some q) (new : ObjOk X.prog X.w (upd H a ob) h' a ob) :
    Inv X pins σ (upd H a ob) { s with heap := h', toks := t' } :=
  I.write (x := a) (e := a) mu (.inl rfl) (fun b q hb z => (hs.2 b hb).trans z) he new
theorem dk_new {P : Program} {w : World} {H' : Hp} {h' : Heap} {kvs : List (Key × V)} {vs : List (Key × Value)} (z : kvs.length ≤ sizeLine) (hd : (a == sysModules) = false) (rel : KV kvs vs) (dd : h'.DictOf (mixKind P w) a vs) :
    ObjOk P w H' h' a (.dK kvs) := ⟨z, hd, vs, rel, dd⟩
theorem d_setItem {H' : Hp} {Q : Unit → Shared → Prop} (hu : A.units + 1 < cLine) (I : Inv X pins σ H s) (g : DPut H a y v H') (ry : RelV y u) (rv : RelV v r) (h : ∀ s', Inv X pins σ H' s' → Q () s') :
    wpAny (model X.prog X.w) A (setItem (.ref a) u r) Q E s := by
  rcases g with ⟨kvs, k, e, ey, l, eH⟩ | ⟨kvs, k, b, e, ey, eb, l, eH⟩
  · subst ey eH
    obtain ⟨z, hd, vs, rel, dd⟩ := dk_of I.hok e
    have hz : vs.length ≤ sizeLine := by rw [← rel.length]; exact z
    have hl : (putK kvs k v).length ≤ sizeLine := by have := length_putK kvs k v; walk_at "om"
    refine wpAny_setItem_pairs (hsz := hz) (kV_is ry) dd fun h' dd' hs => h _ ?_
    have he : ∃ q, h'.get? a = some q := let ⟨q, _, _, hq, _⟩ := dd'; ⟨q, hq⟩
    exact d_write I (by rw [e]; exact True.intro) hs he (dk_new hl hd (rel.put k rv) dd')
  · subst ey eH
    cases (show u = Value.ref b from ry)
    obtain ⟨z, hd, xs, rel, dd⟩ := dt_of I.hok e
    have hz : xs.length ≤ sizeLine := by rw [← Paired.length rel]; exact z
    have hl : (putK kvs k v).length ≤ sizeLine := by have := length_putK kvs k v; walk_at "om"
    refine wpAny_setItem_heap (hsz := hz) (tupleKind_room_in1 hu) (key_of I.hok eb) dd fun h' dd' hs => h _ ?_
    obtain ⟨q, es, ep, hq, h2, h3, h4, _, h5⟩ := dd'
    refine d_write I (by rw [e]; exact True.intro) hs ⟨q, hq⟩ ⟨hl, hd, _, (rel.put k eb rv).keeps fun c ys ec => ?_, q, es, ep, hq, h2, h3, h4, h5⟩
    rw [upd_ne (ne_of ec e (fun z => nomatch z))]
    exact ec
end

section
variable {X : Cx} {pins : List (Addr × Obj)} {σ : St} {H : Hp} {s : Shared} {a : Addr} {kvs : List (Key × V)} {k : Key} {u : Value} {A : Around} {E : Value → Shared → Prop}
end


noncomputable def NoSl (i : Expr) : Prop := ∀ ov iv, subscripted i false ov iv = operate [ov, iv] (getItem ov iv)
theorem subD_of {prog : Program} {w : World} {A : Around} {E : Value → Shared → Prop} {s : Shared} {env : Env} {value slice : Expr} {pos : Pos} {T id : String} {Q : Value → Shared → Prop}
    (hl : typeLookup (.type T) "__getitem__" = pure (some (.builtin id))) (hs : NoSl slice)
    (h : wpAny (model prog w) A (eval value env) (fun o s₁ => wpAny (model prog w) A (eval slice env) (fun i s₂ => s₂.TypeIs o T ∧ wpAny (model prog w) A (getItem o i) Q E s₂) E s₁) E s) :
    wpAny (model prog w) A (eval (.Subscript value slice pos) env) Q E s := by
  refine Subscript_ (wpAny_mono h (fun o s₁ h₁ => wpAny_mono h₁ (fun i s₂ h₂ => ?_) fun _ _ x => x) fun _ _ x => x)
  obtain ⟨hT, h₂⟩ := h₂
  unfold subscriptTail
  refine wpAny_bind ?_
  rw [getitemInPython_of_ne hT.not_modules]
  refine wpAny_bind (wpAny_specialOf hT hl ?_)
  have fin : wpAny (model prog w) A (subscripted slice false o i) (fun r s₃ => wpAny (model prog w) A (letTemporaryGo value o r >>= fun _ => pure r) Q E s₃) E s₂ := by
    rw [hs o i]
    exact wpAny_operating (wpAny_mono h₂ (fun r s₃ h₃ => wpAny_bind (wpAny_letTemporaryGo (wpAny_pure h₃))) fun _ _ x => x)
  first
    | exact wpAny_pure (wpAny_bind fin)
    | exact wpAny_bind (wpAny_pure (wpAny_bind fin))
    | exact wpAny_bind fin

theorem dict_typeIs {X : Cx} {pins : List (Addr × Obj)} {σ : St} {H : Hp} {s : Shared} {a : Addr} {y : V} {o : Option V} (I : Inv X pins σ H s) (g : DGet H a y o) : s.TypeIs (.ref a) "dict" := by
  rcases g with ⟨kvs, k, e, _, _⟩ | ⟨kvs, k, b, e, _, _, _⟩
  · obtain ⟨_, _, vs, _, dd⟩ := dk_rd I.hok e
    exact dd.typeIs
  · obtain ⟨_, _, xs, _, dd⟩ := dt_rd I.hok e
    exact dd.typeIs
noncomputable def tDGet (td ty : TE) : TE := fun σ H Q => td σ H fun x H1 => ty σ H1 fun y H2 => ∃ a v, x = .ref a ∧ DGet H2 a y (some v) ∧ Q v H2
section
variable {X : Cx} {o i e value : Expr} {pos pos' tpos : Pos} {td ty tv : TE}
theorem pe_dget (hu : X.A.units + 1 < cLine) (ho : PE X o td) (hi : PE X i ty) (hs : NoSl i) : PE X (.Subscript o i pos) (tDGet td ty) := by
  intro pins s σ H Q I h
  refine subD_of PySem.F.slot_dict_getitem.lookup hs (thn (ho pins s σ H _ I h) fun u s1 ⟨x, H1, I1, rx, q1⟩ => thn (hi pins s1 σ H1 _ I1 q1) fun iv s2 ⟨y, H2, I2, ry, a, v, ex, g, q2⟩ => ?_)
  subst ex
  obtain rfl : u = Value.ref a := rx
  exact ⟨dict_typeIs I2 g, d_getItem hu I2 g ry fun w' s3 I3 rw' => ⟨v, H2, I3, rw', q2⟩⟩
end


theorem dk_empty {P : Program} {w : World} {H : Hp} (h : Heap) (hb : sysModules < h.objs.size) : ObjOk P w H (h.push { cls := .type "dict", data := .dict #[] }) h.objs.size (.dK []) :=
  ⟨Nat.zero_le _, beq_eq_false_iff_ne.mpr (Ne.symm (Nat.ne_of_lt hb)), [], .nil, Heap.DictOf.new h⟩
noncomputable def tDNewK : TE := fun _ H Q => ∀ p, H p = none → Q (.ref p) (upd H p (.dK []))
section
variable {X : Cx} {pos : Pos}
theorem pe_dnewK : PE X (.Dict [] [] pos) tDNewK := fun pins s σ H Q I h =>
  wpAny_Dict_empty ⟨.ref s.heap.objs.size, _, I.laid (a := s.heap.objs.size) (o := .dK []) (t' := s.toks) (fun _ _ q => Heap.get?_push_of_some _ q) (Nat.le_refl _) (dk_empty s.heap I.big), rfl, h _ (I.hok.fresh (Nat.le_refl _))⟩
end

section
variable {X : Cx} {pins : List (Addr × Obj)} {σ : St} {H : Hp} {s : Shared} {a : Addr} {y d : V} {u r : Value} {o : Option V} {A : Around} {E : Value → Shared → Prop}
end

section
end

section
variable {X : Cx} {pins : List (Addr × Obj)} {σ : St} {H : Hp} {s : Shared} {a : Addr} {kvs : List (Key × V)} {A : Around} {E : Value → Shared → Prop}
end


section
variable {X : Cx} {pins : List (Addr × Obj)} {σ : St} {H : Hp} {s : Shared} {a : Addr} {y : V} {u : Value} {A : Around} {E : Value → Shared → Prop}
end
end L2

set_option Elab.async false
set_option linter.all false
set_option maxRecDepth 100000
set_option maxHeartbeats 4000000
namespace L2
open PySem PySem.Spec PyProof.Rows
theorem no_keys : typeLookup (.type "list") "keys" = pure none := am_miss_of_fast (by decide +kernel)
theorem plain_upd_loop : plainId "dict.update.loop" = true := by decide +kernel
theorem entry_upd_loop : entryFor table "dict.update.loop" = some Builtin.«dict.update.loop» := entryFor_of_fast (by kernel_rfl)
theorem sub_attr_err : isSubtype (.type "AttributeError") (.type "AttributeError") = pure true := by rw [isSubtype_type]; kernel_rfl
theorem keys_by {prog : Program} {w : World} {A : Around} {E : Value → Shared → Prop} {s : Shared} {a : Addr} {o : Obj} {xs : Array Value} {k : Nat} {t : Tok} {Q : Value → Shared → Prop}
    (hx : s.heap.get? a = some o) (hc : o.cls = .type "list") (hdat : o.data = .seq xs k) (hd : o.dict = none) (hA : A.handled = none)
    (h : ∀ h' tk e, Heap.NewExcOf s.heap h' e "AttributeError" → E (.ref e) { s with heap := h', toks := tk }) :
    wpAny (model prog w) A (getAttrBy (.ref a) (.str "keys" t) false) Q E s := by
  obtain ⟨c, dct, dat, sl⟩ := o
  simp only at hc hdat hd
  subst hc hdat hd
  obtain ⟨hp, g, d, tk, os⟩ := s
  have hT : ∀ tk', (⟨hp, g, d, tk', os⟩ : Shared).TypeIs (.ref a) "list" := fun _ => ⟨_, hx, rfl⟩
  have f1 := sub_attr_err
  have f3 := PySem.F.slot_list_getattribute.lookup
  have f4 := PySem.F.slot_list_getattribute.bind (.ref a)
  have f5 := am_list_getattr_none
  unfold getAttrBy
  repeat (any_goals (first | assumption | exact hT _ | ((with_reducible show wpAny _ _ (call (Value.builtin "list.__getattribute__") _ _) _ _ _); refine call_meets PySem.F.slot_list_getattribute (hT _) am_entry_list_getattribute (PySem.F.args_list_getattribute_2 _ _) (meets_getattribute_miss_list a xs k sl "keys" _ no_keys (by decide) (by decide)) ⟨hx, hA, fun h' tk' e hx' => ?_⟩) | wp_step))
  obtain ⟨t', u', he⟩ := hx'.there
  show wpAny _ _ (getattributeRaised _ _ _ _ _ _ _) _ _ _
  unfold getattributeRaised
  repeat (any_goals (first | assumption | wp_step))
  exact h _ _ _ hx'.of
theorem keys_miss {prog : Program} {w : World} {A : Around} {E : Value → Shared → Prop} {s : Shared} {a : Addr} {o : Obj} {xs : Array Value} {k : Nat} {Q : Option Value → Shared → Prop}
    (hx : s.heap.get? a = some o) (hc : o.cls = .type "list") (hdat : o.data = .seq xs k) (hd : o.dict = none) (hA : A.handled = none)
    (h : ∀ h' tk, (∀ b ob, s.heap.get? b = some ob → h'.get? b = some ob) → Q none { s with heap := h', toks := tk }) :
    wpAny (model prog w) A (getAttr? (.ref a) "keys") Q E s := by
  unfold getAttr? getAttrBy?
  refine wpAny_bind (wpAny_mkText (wpAny_bind (wpAny_attempt (keys_by (s := { s with toks := s.toks + 1 }) hx hc hdat hd hA fun h' tk e ne => ?_))))
  obtain ⟨kp, nw, ob, vs, he, h1, h2⟩ := ne
  refine wpAny_bind (wpAny_isInstance (T := "AttributeError") (b := true) ⟨ob, he, h1⟩ sub_attr_err ?_)
  exact wpAny_pure (h h' tk kp)
section
variable {prog : Program} {w : World} {A : Around} {R : Result → Shared → Prop}
end
theorem bt_dict : bootBuiltins "dict" = some (.type "dict") := by decide +kernel
section
variable {X : Cx}
noncomputable def tKGet (td ty : TE) : TE := fun σ H Q => td σ H fun x H1 => ty σ H1 fun y H2 => ∃ a kvs k v, x = .ref a ∧ H2 a = some (.dK kvs) ∧ y = kV k ∧ valV kvs k = some v ∧ Q v H2
theorem pe_kget {o i : Expr} {pos : Pos} {td ty : TE} (ho : PE X o td) (hi : PE X i ty) (hs : NoSl i) : PE X (.Subscript o i pos) (tKGet td ty) := by
  intro pins s σ H Q I h
  refine subD_of PySem.F.slot_dict_getitem.lookup hs (thn (ho pins s σ H _ I h) fun u s1 ⟨x, H1, I1, rx, q1⟩ => thn (hi pins s1 σ H1 _ I1 q1) fun iv s2 ⟨y, H2, I2, ry, a, kvs, k, v, ex, ea, ey, l, q2⟩ => ?_)
  subst ex ey
  obtain rfl : u = Value.ref a := rx
  obtain ⟨z, hd, vs, rel, dd⟩ := dk_of I2.hok ea
  obtain ⟨w', hw, rw'⟩ := RelO.some_of (v := v) (o := valueAt vs k) (by rw [← l]; exact rel.val k)
  exact ⟨dd.typeIs, wpAny_getItem_of (kV_is ry) dd.mapOf hw ⟨v, H2, I2.tok _, rw', q2⟩⟩
end
end L2

set_option Elab.async false
set_option linter.all false
set_option maxRecDepth 100000
set_option maxHeartbeats 4000000
namespace PySem
open Sem (wp)
section
variable {prog : Program} {w : World} {A : Around} {E : Value → Shared → Prop} {s : Shared}
theorem wpAny_collect_range {Q : List Value → Shared → Prop} {it : Addr} {a b c : Int} {t u v : Tok} {n : Nat} (hh : A.handled = none) (hr : IsRange s.heap it a b c t u v) (hsmall : Builtin.Range.small a b c = true)
    (hn : Builtin.Range.rangeSize a b c = n) (hlen : n ≤ 2 ^ 24)
    (hQ : ∀ h' tk (acc : Array Value), (∀ b o', s.heap.get? b = some o' → h'.get? b = some o') → ItemsOf (fun i v => ∃ t, v = .int (a + i * c) t) acc n → Q acc.toList { s with heap := h', toks := tk }) :
    wpAny (model prog w) A (collect (.ref it)) Q E s := by
  unfold collect
  refine wpAny_bind (wpAny_runValue (codeAny_builtin F.entry_proto_collect ?_))
  rw [Around.under_plainId F.plain_proto_collect _]
  show wpAny _ A.in1 (newList [] >>= fun l => again (.builtin "list.__iadd__" ⟨[l, .ref it], []⟩)) _ _ s
  refine wpAny_bind (wpAny_newObj_type ?_)
  refine wpAny_pure ⟨plainId_quiet F.plain_list_iadd _, codeAny_builtin F.entry_list_iadd ?_⟩
  rw [Around.under_plainId F.plain_list_iadd _]
  show wpAny _ A.in1 (Builtin.List.listExtendWith (.ref s.heap.objs.size) (.ref it) (.ref s.heap.objs.size)) _ _ _
  have hS : (s.heap.push { cls := .type "list", data := .seq ([] : List Value).toArray }).get? s.heap.objs.size = some { cls := .type "list", data := .seq #[] 0 } := Heap.get?_push_size _ rfl
  have fin' : ∀ (s' : Shared), (∃ h' tk acc c', s' = { s with heap := h', toks := tk } ∧ (∀ b o, b ≠ s.heap.objs.size → (s.heap.push { cls := .type "list", data := .seq ([] : List Value).toArray }).get? b = some o → h'.get? b = some o) ∧ h'.get? s.heap.objs.size = some { cls := .type "list", dict := none, data := .seq acc c', slots := #[] } ∧ ItemsOf (fun i v => ∃ t, v = .int (a + i * c) t) acc n) → wpAny (model prog w) A (match Value.ref s.heap.objs.size with
      | Value.ref a => do
        match (← load a).data with
          | Data.seq xs _ => pure xs.toList
          | _ => unsupported "internal:collect"
      | _ => unsupported "internal:collect") Q E s' := by
    rintro s' ⟨h', tk, acc, c', rfl, kp, e, hacc⟩
    show wpAny _ A (load s.heap.objs.size >>= _) _ _ _
    refine wpAny_bind (wpAny_load e ?_)
    refine wpAny_pure ?_
    exact hQ h' tk acc (fun b o' hb => kp b o' (Nat.ne_of_lt (Heap.lt_size hb)) (Heap.get?_push_of_some _ hb)) hacc
  refine wpAny_mono (wpAny_extend_range (A := A) (R := fun r s' => r = .ok (.ret (.ref s.heap.objs.size)) ∧ ∃ h' tk acc c', s' = { s with heap := h', toks := tk } ∧ (∀ b o, b ≠ s.heap.objs.size → (s.heap.push { cls := .type "list", data := .seq ([] : List Value).toArray }).get? b = some o → h'.get? b = some o) ∧ h'.get? s.heap.objs.size = some { cls := .type "list", dict := none, data := .seq acc c', slots := #[] } ∧ ItemsOf (fun i v => ∃ t, v = .int (a + i * c) t) acc n)
    (s := { s with heap := s.heap.push { cls := .type "list", data := .seq ([] : List Value).toArray } }) hh (Heap.get?_push_of_some _ hr) hsmall hn hlen _ _ 0 hS fun h' tk acc' c' k1 k2 k3 => ⟨rfl, h', tk, acc', c', rfl, k1, k2, k3⟩) (fun fin s' h => ?_) (fun e s' h => ?_)
  · cases fin with
    | done f =>
      obtain ⟨e, h⟩ := h
      cases e
      exact fin' _ h
    | again c' => exact ⟨h.1, codeAny_mono h.2 fun r s'' hr => by obtain ⟨rfl, hr⟩ := hr; exact fin' _ hr⟩
  · exact absurd h.1 (by simp)
end
theorem meets_tuple_new_range (l : Addr) (a b c : Int) (t u v : Tok) (n : Nat) (hsmall : Builtin.Range.small a b c = true) (hn : Builtin.Range.rangeSize a b c = n) (hlen : n ≤ 2 ^ 20) :
    Meets (Builtin.«tuple.__new__» ⟨[.type "tuple", .ref l], []⟩)
      (fun A R s => A.handled = none ∧ IsRange s.heap l a b c t u v ∧ ∀ (h' : Heap) (tk : Nat) (acc : Array Value), (∀ b o', s.heap.get? b = some o' → h'.get? b = some o') → ItemsOf (fun i v => ∃ t, v = .int (a + i * c) t) acc n → R (.ok (.ret (.ref h'.objs.size))) { s with heap := h'.push { cls := .type "tuple", data := .seq acc }, toks := tk }) :=
  .of_wp fun prog w A R s h => by
    obtain ⟨hp, g, d, tk, os⟩ := s; obtain ⟨hh, ht, h⟩ := h
    have hsub := sub_tuple_self
    have hinit := init_tuple_lookup
    have hmh := madeHere_tuple
    have hT : Shared.TypeIs ⟨hp, g, d, tk, os⟩ (.ref l) "range" := ⟨_, ht, rfl⟩
    wp_walk using AutoSeq1.wpAny_loadPart' ht, wpAny_typeOf hT, wpAny_collect_range (A := A.in1) hh ht hsmall hn (by walk_at "om")
    intro h' tk' acc hk hacc
    show wpAny _ _ (Builtin.Tuple.tupleExact acc.toList.toArray >>= fun v => ret v) _ _ _
    unfold Builtin.Tuple.tupleExact
    have hsz : acc.size ≤ sizeLine := by rw [hacc.1]; exact Nat.le_trans hlen (by decide +kernel)
    refine wpAny_bind (wpAny_newObj_type ?_ (by show acc.toList.toArray.size ≤ sizeLine; simpa using hsz))
    refine wpAny_pure ⟨_, rfl, ?_⟩
    have e : acc.toList.toArray = acc := by simp
    rw [e]
    exact h h' tk' acc hk hacc
section
variable {prog : Program} {w : World} {A : Around} {E : Value → Shared → Prop} {s : Shared}
theorem call_tuple_range {l : Addr} {a b c : Int} {t u v : Tok} {n : Nat} {Q : Value → Shared → Prop} (hh : A.handled = none) (hr : IsRange s.heap l a b c t u v) (hsmall : Builtin.Range.small a b c = true) (hn : Builtin.Range.rangeSize a b c = n) (hlen : n ≤ 2 ^ 20)
    (h : ∀ (h' : Heap) (tk : Nat) (acc : Array Value), (∀ b o', s.heap.get? b = some o' → h'.get? b = some o') → ItemsOf (fun i v => ∃ t, v = .int (a + i * c) t) acc n → Q (.ref h'.objs.size) { s with heap := h'.push { cls := .type "tuple", data := .seq acc }, toks := tk }) :
    wpAny (model prog w) A (call (.type "tuple") [.ref l]) Q E s :=
  callType_new F.called_tuple (by decide) (F.typeCall_tuple_1 _) (F.newCall_tuple_1 _) (fun obj => F.args_object_init_2 obj _) F.entry_tuple_new
    (meets_tuple_new_range l a b c t u v n hsmall hn hlen) ⟨hh, hr, fun h' tk acc hk hacc => ⟨⟨_, Heap.get?_push_size _ rfl, rfl⟩, h h' tk acc hk hacc⟩⟩
end
end PySem
namespace PySem.SeqAt
open PySem
theorem wpAny_forRange {M : Model} {A : Around} {E : Value → Shared → Prop} {s : Shared} {β : Type} {a b : Nat} (f : Nat → β → Sem (ForInStep β)) (I : Nat → β → Shared → Prop) (Q : β → Shared → Prop)
    (turn : ∀ i c s, a ≤ i → i < b → I i c s → wpAny M A (f i c) (fun r s' => match r with | .yield c' => I (i + 1) c' s' | .done c' => Q c' s') E s)
    (fin : ∀ c s, I (max a b) c s → Q c s) (c : β) (h : I a c s) : wpAny M A (forIn [a:b] c f) Q E s := by
  rw [Std.Legacy.Range.forIn_eq_forIn_range']
  have hsz : ([a:b] : Std.Legacy.Range).size = b - a := by simp [Std.Legacy.Range.size]
  show wpAny M A (forIn (List.range' a ([a:b] : Std.Legacy.Range).size 1) c f) Q E s
  rw [hsz]
  refine wpAny_forIn_list f (fun l c st => ∃ i, a ≤ i ∧ i ≤ max a b ∧ l = List.range' i (max a b - i) 1 ∧ I i c st) Q ?_ ?_ _ c ⟨a, Nat.le_refl _, by walk_at "om", by congr 1; walk_at "om", h⟩
  · rintro x rest c st ⟨i, hai, hib, hl, hI⟩
    have hlt : i < max a b := by
      rcases Nat.lt_or_ge i (max a b) with h' | h'
      · exact h'
      · rw [show max a b - i = 0 by walk_at "om"] at hl; simp at hl
    obtain ⟨n, hn⟩ : ∃ n, max a b - i = n + 1 := ⟨max a b - i - 1, by walk_at "om"⟩
    rw [hn, List.range'_succ] at hl
    obtain ⟨rfl, rfl⟩ := List.cons.inj hl
    refine wpAny_mono (turn x c st hai (by walk_at "om") hI) (fun r st' h' => ?_) fun _ _ h' => h'
    cases r with
    | done c' => exact h'
    | yield c' => exact ⟨x + 1, by walk_at "om", by walk_at "om", by congr 1; walk_at "om", h'⟩
  · rintro c st ⟨i, hai, hib, hl, hI⟩
    have : i = max a b := by
      rcases Nat.lt_or_ge i (max a b) with h' | h'
      · obtain ⟨n, hn⟩ : ∃ n, max a b - i = n + 1 := ⟨max a b - i - 1, by walk_at "om"⟩
        rw [hn, List.range'_succ] at hl
        cases hl
      · walk_at "om"
    rw [this] at hI
    exact fin c st hI
theorem tuple_indexAt (l : Addr) (items : Array Value) (n : Nat) (dd : Option Addr) (sl : Array (Option Value)) (x : Value) (e : Value → Bool) (j : Nat) (hj : j < items.size)
    (hit : e items[j] = true) (hno : ∀ m (hm : m < items.size), m < j → e items[m] = false) :
    Meets (Builtin.«tuple.index» ⟨[.ref l, x], []⟩)
      (fun A R s => s.heap.get? l = some { cls := .type "tuple", dict := dd, data := .seq items n, slots := sl } ∧ (∀ y, y ∈ items → EqAt A.in1 s y x (e y)) ∧ R (.ok (.ret (.int j s.toks))) { s with toks := s.toks + 1 }) :=
  .of_wp fun prog w A R s h => by
    obtain ⟨hp, g, d, tk, os⟩ := s; obtain ⟨hl, he, h⟩ := h
    wp_walk using AutoSeq1.wpAny_loadPart' hl, wpAny_forRange _ (fun i c s' => c = (none, ()) ∧ s' = ⟨hp, g, d, tk, os⟩ ∧ i ≤ j) _
    case turn =>
      rintro i c s' hi1 hi2 ⟨rfl, rfl, hij⟩
      have hi : i < items.size := by walk_at "om"
      rw [Array.getElem?_eq_getElem hi]
      refine wpAny_bind (he _ (Array.getElem_mem hi) prog w _ _ ?_)
      rcases Nat.lt_or_ge i j with h' | h'
      · rw [hno i hi h']
        wp_walk
        exact ⟨rfl, rfl, h'⟩
      · have e1 : i = j := by walk_at "om"
        subst e1
        rw [hit]
        wp_walk
        exact ⟨_, rfl, h⟩
    case fin =>
      rintro c s' ⟨rfl, rfl, hij⟩
      walk_at "om"
    case h =>
      exact ⟨rfl, rfl, Nat.zero_le _⟩
end PySem.SeqAt
namespace L2
open PySem PySem.Spec PyProof.Rows
theorem vals_get : ∀ {xs : List V} {us : List Value}, xs.length = us.length → (∀ (i : Nat) x u, xs[i]? = some x → us[i]? = some u → RelV x u) → Vals xs us
  | [], [], _, _ => .nil
  | [], _ :: _, h, _ => by cases h
  | _ :: _, [], h, _ => by cases h
  | x :: xs, u :: us, h, k => .cons (k 0 x u rfl rfl) (vals_get (by simpa using h) fun i y v a b => k (i + 1) y v (by simpa using a) (by simpa using b))
section
variable {X : Cx}
noncomputable def rRepL (K : PySem.W.Frag) : R2 := fun x y H Q => ∃ a xs n, x = .ref a ∧ y = .int n ∧ H a = some (.lst xs) ∧ 0 ≤ n ∧ n ≤ 1000 ∧ xs.length * n.toNat ≤ 1000 ∧ ∀ p, H p = none → Q (.ref p) (upd H p (.lst (List.replicate n.toNat xs).flatten))
theorem op_repL (K : PySem.W.Frag) : OpR X (binaryOp .Mult) (rRepL K) := by
  intro pins s σ H x y v u Q I rx ry h
  obtain ⟨a, xs, k, rfl, rfl, ha, k0, k1, hz, q⟩ := h
  cases rx
  obtain ⟨t, rfl⟩ := ry
  obtain ⟨z, its, n, r, hl, e⟩ := I.lstM ha
  have e1 : List.foldl (fun x1 x2 => x1 ++ x2) #[] (List.replicate k.toNat its.toArray) = (List.replicate k.toNat its).flatten.toArray := by
    have := foldl_rep its k.toNat []
    rw [List.nil_append] at this
    exact this
  have hnew : List.foldl (fun x1 x2 => x1 ++ x2) #[] (List.replicate (if its.toArray.isEmpty = true then 0 else k.toNat) its.toArray) = (List.replicate k.toNat its).flatten.toArray := by
    cases hi : its with
    | nil => simp
    | cons b bs =>
      rw [← hi]
      have : its.toArray.isEmpty = false := by rw [hi]; rfl
      rw [this]
      exact e1
  refine wpAny_binaryOp_repeat_ref (T := "list") (U := "int") (by decide) ⟨_, e, rfl⟩ (fun s' => typeIs_int s' k t) noFill_list_mul F.fills_int_mul F.slot_int_rmul repeat_list F.slot_int_index.lookup
    (call_meets F.slot_int_rmul (typeIs_int s k t) F.entry_int_rmul (F.args_int_rmul_2 _ _) (int___rmul___int_list k t a its.toArray n)
      ⟨e, rfl, ⟨_, e, rfl⟩, call_meets F.slot_list_mul ⟨_, e, rfl⟩ F.entry_list_mul (F.args_list_mul_2 _ _)
        (AutoListH.list___mul___list_int_3 a its.toArray n k t (by simp [Builtin.List.listFitsIndex]; walk_at "om") (by
          have h1 : its.length * k.toNat ≤ 1000 := by rw [← hl]; exact hz
          have h2 : ((its.length * k.toNat : Nat) : Int) ≤ 1000 := by exact_mod_cast h1
          rw [Int.natCast_mul, show ((k.toNat : Nat) : Int) = k by walk_at "om"] at h2
          simp only [List.size_toArray]
          walk_at "om") (by
          have h1 : its.length * k.toNat ≤ 1000 := by rw [← hl]; exact hz
          have h2 : ((its.length * k.toNat : Nat) : Int) ≤ 1000 := by exact_mod_cast h1
          rw [Int.natCast_mul, show ((k.toNat : Nat) : Int) = k by walk_at "om"] at h2
          simp [Builtin.List.listTooLong, sizeLine]
          walk_at "om"))
        ⟨e, ?_⟩⟩)
  rw [hnew]
  refine ⟨.ref s.heap.objs.size, _, I.laid (t' := s.toks) (o := .lst (List.replicate k.toNat xs).flatten) (fun b ob q => Heap.get?_push_of_some _ q) (Nat.le_refl _) ?_, rfl, q _ (I.hok.fresh (Nat.le_refl _))⟩
  exact ⟨by rw [len_rep]; exact Nat.le_of_lt (small1000 (by rw [Nat.mul_comm]; exact hz)), _, 0, r.rep k.toNat, Heap.get?_push_size _ rfl⟩
end
end L2

set_option Elab.async false
set_option linter.all false
set_option maxRecDepth 100000
set_option maxHeartbeats 4000000
namespace L2
open PySem PySem.Spec PyProof.Rows
theorem Inv.changed {X : Cx} {pins : List (Addr × Obj)} {σ : St} {H : Hp} {s : Shared} {ch : List Addr} {h' : Heap} {t' : Nat} (I : Inv X pins σ H s) (hf : ∀ b ∈ ch, FpOk X pins H b) (k : ∀ c o, c ∉ ch → s.heap.get? c = some o → h'.get? c = some o) : Inv X pins σ H { s with heap := h', toks := t' } := by
  have nt : ∀ b u, H b = some u → b ∉ ch := fun b u e hb => by
    rw [(hf b hb).1] at e
    cases e
  have nl : X.env.locals ∉ ch := fun hb => (hf _ hb).2.1 rfl
  refine I.step (g' := s.gens) (d' := s.drawn) (ch := ch) (fun b hb => ⟨(hf b hb).2.2.2.1, (hf b hb).2.1, (hf b hb).2.2.2.2.1, (hf b hb).2.2.2.2.2⟩) (fun b o _ _ hc e _ => k b o hc e) (fun b o _ _ hc e _ => ⟨o.slots, k b o hc e⟩) (fun _ _ _ _ n => n)
    (fun b o hc e => ⟨o, k b o hc e⟩) (fun _ _ e => e) (fun _ _ _ e => e) (fun b ps e => ⟨#[], by rw [e]; simp⟩) (fun m hm => ?_) (fun b u e => ?_) I.bare
  · obtain ⟨o, es, ep, ho, r⟩ := hm
    exact ⟨o, es, ep, k _ o nl ho, r⟩
  · refine (I.hok b u e).stay (fun c v hc q => k c v ?_ q) (fun _ q => q) fun _ _ q => q
    rcases hc with z | z
    · rw [z]; exact nt b u e
    · exact nt c _ z
section
variable {X : Cx}
end
end L2

set_option Elab.async false
set_option linter.all false
set_option maxRecDepth 100000
set_option maxHeartbeats 4000000
namespace L2
open PySem PySem.Spec PyProof.Rows
end L2
namespace L4
open PySem L2
noncomputable abbrev nV (i : Nat) : V := .int (i : Int)
end L4

set_option linter.all false
namespace Tn
theorem nodup_len : ∀ (m : Nat) (xs : List Nat), xs.Nodup → (∀ x ∈ xs, x < m) → xs.length ≤ m
  | 0, [], _, _ => Nat.le_refl _
  | 0, x :: xs, _, h => absurd (h x (List.mem_cons_self ..)) (Nat.not_lt_zero _)
  | m + 1, xs, nd, h => by
    have h1 := nodup_len m (xs.erase m) (nd.erase m) fun x hx => by
      obtain ⟨ne, hm⟩ := nd.mem_erase_iff.mp hx
      have := h x hm
      walk_at "om"
    by_cases hm : m ∈ xs
    · rw [List.length_erase_of_mem hm] at h1
      walk_at "om"
    · rw [List.erase_of_not_mem hm] at h1
      walk_at "om"
end Tn

set_option Elab.async false
set_option linter.all false
set_option maxRecDepth 100000
set_option maxHeartbeats 4000000
namespace L2
open PySem PySem.Spec PyProof.Rows
section
variable {prog : Program} {w : World} {A : Around} {E : Value → Shared → Prop} {s : Shared}
variable {z TI TO i1 i2 t1 t2 : Addr} {xs ys : Array Value} {k1 k2 : Nat}
end
end L2
namespace L2
open PySem PySem.Spec PyProof.Rows
section
variable {X : Cx}
end
end L2

set_option Elab.async false
set_option linter.all false
set_option maxRecDepth 100000
set_option maxHeartbeats 4000000
namespace L2
open PySem PySem.Spec PyProof.Rows
theorem eqVs_self {a : List V} (h : a.all flatV = true) : eqVs a a = true := by
  unfold eqVs
  rw [Bool.and_eq_true]
  refine ⟨?_, by simp⟩
  rw [List.all_eq_true]
  intro p hp
  have h1 := List.of_mem_zip hp
  have e : p.1 = p.2 := by
    obtain ⟨i, hi⟩ := List.getElem?_of_mem hp
    rw [List.getElem?_zip_eq_some] at hi
    exact Option.some.inj (hi.1.symm.trans hi.2)
  rw [← e]
  exact eqV_self (List.all_eq_true.mp h _ h1.1)
section
variable {X : Cx}
end
end L2

set_option Elab.async false
set_option linter.all false
set_option maxRecDepth 100000
set_option maxHeartbeats 4000000
namespace L2
open PySem PySem.Spec PyProof.Rows
theorem bt_reversed : bootBuiltins "reversed" = some (.type "reversed") := by decide +kernel
theorem vals_rev {xs : List V} {its : List Value} {acc : Array Value} (r : Vals xs its) (h : ItemsOf (fun i v => its.toArray[its.toArray.size - 1 - i]? = some v) acc its.toArray.size) : Vals xs.reverse acc.toList := by
  have l := r.length
  refine vals_get (by rw [List.length_reverse]; have := h.1; simp at this ⊢; walk_at "om") fun i x u hx hu => ?_
  have hi : i < xs.length := by
    have := (List.getElem?_eq_some_iff.mp hx).1
    rw [List.length_reverse] at this
    exact this
  rw [List.getElem?_reverse hi] at hx
  obtain ⟨u', hu', ru⟩ := r.get hx
  have e := h.2 i u (by simpa using hu)
  have e2 : its[its.length - 1 - i]? = some u := by simpa using e
  rw [← l, hu'] at e2
  rw [← Option.some.inj e2]
  exact ru
section
variable {X : Cx}
noncomputable def tListRev (K : PySem.W.Frag) (ta : TA) : TE := fun σ H Q => ta σ H fun vs H1 => ∃ p xs, vs = [.ref p] ∧ SqT K H1 p xs ∧ xs.length ≤ 1000 ∧ ∀ l, H1 l = none → Q (.ref l) (upd H1 l (.lst xs.reverse))
theorem pe_listRev (K : PySem.W.Frag) {a : Expr} {ta : TA} {p p2 pos pos2 : Pos} (hg : Gl X "list") (hm : X.mg "list" = none) (hg2 : Gl X "reversed") (hm2 : X.mg "reversed" = none) (ha : PA X [a] ta) (hs : starEach [a] X.env = [(false, eval a X.env)] := by rfl) (hs2 : starEach [.Call (.Name "reversed" p2) [a] [] pos2] X.env = [(false, eval (.Call (.Name "reversed" p2) [a] [] pos2) X.env)] := by rfl) (hc : X.calm = true := by rfl) (hK : X.K = K := by rfl) :
    PE X (.Call (.Name "list" p) [.Call (.Name "reversed" p2) [a] [] pos2] [] pos) (tListRev K ta) := by
  subst hK
  intro pins s σ H Q I h
  refine Call_ (ld_blt I hg hm bt_list (PyProof.Rows.callWith_type1 ?_ hs2 rfl))
  rw [hs2]
  show wpAny _ _ (spliced [(false, eval (.Call (.Name "reversed" p2) [a] [] pos2) X.env)]) _ _ s
  refine Calls.spliced_cons ?_
  refine Call_ (ld_blt I hg2 hm2 bt_reversed (PyProof.Rows.callWith_type1 (thn (ha pos2 pins s σ H _ I h) fun us s1 ⟨vs, H1, I1, r1, q1⟩ => ?_) hs rfl))
  obtain ⟨p1, xs, e, hq, hz, q⟩ := q1
  subst e
  obtain ⟨u1, rfl, r2⟩ := vals1 r1
  cases r2
  obtain ⟨its, rv, pl, _⟩ := I1.tuple hq
  have lv := rv.length
  have plt : p1 < s1.heap.objs.size := PyProof.Rows.IsTup.lt pl
  have sz : its.toArray.size ≤ 1000 := by simp; walk_at "om"
  refine call_reversed_tuple pl (by walk_at "om") fun tk => ?_
  refine Calls.spliced_nil ?_
  have I2 : Inv X pins σ H1 { s1 with heap := s1.heap.push (revO p1 ((its.toArray.size : Int) - 1)), toks := tk } := I1.kept (t' := tk) fun _ _ e => Heap.get?_push_of_some _ e
  have hsz : (s1.heap.push (revO p1 ((its.toArray.size : Int) - 1))).objs.size = s1.heap.objs.size + 1 := Heap.size_push ..
  refine call_list_rev (s := { s1 with heap := s1.heap.push (revO p1 ((its.toArray.size : Int) - 1)), toks := tk }) (I1.ok.hd hc) (it := s1.heap.objs.size) (t := p1) (items := its.toArray) ⟨_, Heap.get?_push_size _ rfl, rfl, rfl⟩ (let ⟨o, e, r⟩ := pl; ⟨o, Heap.get?_push_of_some _ e, r⟩) (Nat.ne_of_lt plt) sz fun h' tk2 acc c' kp he hacc => ?_
  have he' : h'.get? (s1.heap.objs.size + 1) = some { cls := .type "list", dict := none, data := .seq acc c', slots := #[] } := by
    have : ({ s1 with heap := s1.heap.push (revO p1 ((its.toArray.size : Int) - 1)), toks := tk } : Shared).heap.objs.size = s1.heap.objs.size + 1 := hsz
    rw [this] at he
    exact he
  have I3 : Inv X pins σ H1 { s1 with heap := h', toks := tk2 } := by
    refine I1.changed (t' := tk2) (ch := []) (fun b hb => by cases hb) fun c o _ e => kp c o (Nat.ne_of_lt (Heap.lt_size e)) (Heap.get?_push_of_some _ e)
  have Hn : H1 (s1.heap.objs.size + 1) = none := I1.hok.fresh (Nat.le_succ _)
  have I4 : Inv X pins σ (upd H1 (s1.heap.objs.size + 1) (.lst xs.reverse)) { s1 with heap := h', toks := tk2 } := by
    refine I3.adopt Hn (Heap.get?_none_of_le (Nat.le_succ_of_le I1.sz)) (Nat.ne_of_gt (Nat.lt_succ_of_lt I1.lt)) (fun xx cc e zz => ?_) (fun p hp zz => ?_) ⟨by rw [List.length_reverse]; exact Nat.le_of_lt (small1000 (by walk_at "om")), acc.toList, c', vals_rev rv hacc, by simpa using he'⟩
    · obtain ⟨_, q⟩ := I1.cell xx cc e
      exact absurd q.lt (by rw [zz]; exact Nat.not_lt.mpr (Nat.le_succ _))
    · exact absurd (Heap.lt_size (I1.pin p hp).1) (by rw [zz]; exact Nat.not_lt.mpr (Nat.le_succ _))
  rw [hsz]
  exact ⟨.ref (s1.heap.objs.size + 1), _, I4, rfl, q _ Hn⟩
noncomputable def TupsK (K : PySem.W.Frag) (H : Hp) (n : Nat) : List (List V) → List V → Prop := Paired fun c v => ∃ t, v = .ref t ∧ SqT K H t c ∧ c.length = n ∧ c.all flatV = true
noncomputable def rInTT (K : PySem.W.Frag) : R2 := fun x y H Q => ∃ a b xs ys cs, x = .ref a ∧ y = .ref b ∧ SqT K H a xs ∧ xs.all flatV = true ∧ SqT K H b ys ∧ TupsK K H xs.length cs ys ∧ Q (.bl (!cs.any fun c => eqVs c xs)) H
open Classical in
noncomputable def isIn (K : PySem.W.Frag) (H : Hp) (xs : List V) (w : Value) : Bool := decide (∃ t c, w = .ref t ∧ SqT K H t c ∧ eqVs c xs = true)
theorem op_notInTT (K : PySem.W.Frag) {k : Nat} (hr : Room k X.A) (hK : X.K = K := by rfl) : OpR X (compareOp .NotIn) (rInTT K) := by
  subst hK
  intro pins s σ H x y v u Q I rx ry h
  obtain ⟨a, b, xs, ys, cs, rfl, rfl, ha, fx, hb, tk, q⟩ := h
  cases rx
  cases ry
  have hu : X.A.units + 64 < cLine := hr.units
  obtain ⟨its, r, pl, hz⟩ := I.tuple hb
  obtain ⟨xu, xr, xp, _⟩ := I.tuple ha
  classical
  have isT : ∀ {t : Addr} {c : List V}, SqT X.K H t c → isIn X.K H xs (.ref t) = eqVs c xs := fun {t c} ht => by
    unfold isIn
    by_cases hc : eqVs c xs = true
    · rw [hc]
      exact decide_eq_true ⟨t, c, rfl, ht, hc⟩
    · rw [decide_eq_false]
      · cases h : eqVs c xs with
        | true => exact absurd h hc
        | false => rfl
      · rintro ⟨t', c', e, ht', hc'⟩
        cases e
        rw [I.tuple_inj ht' ht] at hc'
        exact hc hc'
  have mem : ∀ {cs : List (List V)} {ys : List V} {us : List Value}, TupsK X.K H xs.length cs ys → Vals ys us → ∀ w ∈ us, SeqAt.EqAt X.A.in1 s w (.ref a) (isIn X.K H xs w) := by
    intro cs ys us tk
    unfold TupsK at tk
    induction tk generalizing us with
    | nil =>
      intro rv w hw
      cases rv
      cases hw
    | @cons c v cs ys hc t ih =>
      intro rv w hw
      cases rv with
      | @cons _ u1 _ us1 hu1 rv =>
        rcases List.mem_cons.mp hw with rfl | hw
        · obtain ⟨t1, rfl, ht1, n1, f1⟩ := hc
          cases hu1
          rw [isT ht1]
          by_cases tt : t1 = a
          · subst tt
            rw [I.tuple_inj ht1 ha, eqVs_self fx]
            exact SeqAt.EqAt.same _
          · obtain ⟨us', v1, p1, _⟩ := I.tuple ht1
            have m1 := v1.length
            have m2 := xr.length
            have z := SeqAt.RcAt.tuples (A := X.A.in1) (s := s) p1 xp (by show X.A.units + 1 < cLine; walk_at "om") (eqAt_get v1 xr f1 fx)
            have e : ((List.range (min us'.toArray.size xu.toArray.size)).all (fun j' => eqV (c.getD j' .non) (xs.getD j' .non)) && us'.toArray.size == xu.toArray.size) = eqVs c xs := by
              have z1 : us'.toArray.size = c.length := by rw [List.size_toArray]; exact m1.symm
              have z2 : xu.toArray.size = xs.length := by rw [List.size_toArray]; exact m2.symm
              have e5 : min us'.toArray.size xu.toArray.size = c.length := by rw [z1, z2, n1, Nat.min_self]
              rw [e5, range_all _ _ n1, z1, z2]
              rfl
            rw [e] at z
            exact SeqAt.EqAt.of_refs tt z
        · exact ih rv w hw
  have any : ∀ {cs : List (List V)} {ys : List V} {us : List Value}, TupsK X.K H xs.length cs ys → Vals ys us → us.any (isIn X.K H xs) = cs.any fun c => eqVs c xs := by
    intro cs ys us tk
    unfold TupsK at tk
    induction tk generalizing us with
    | nil =>
      intro rv
      cases rv
      rfl
    | @cons c v cs ys hc t ih =>
      intro rv
      cases rv with
      | @cons _ u1 _ us1 hu1 rv =>
        obtain ⟨t1, rfl, ht1, n1, f1⟩ := hc
        cases hu1
        rw [List.any_cons, List.any_cons, isT ht1, ih rv]
  refine SeqAt.notIn_tupleAt (isIn X.K H xs) pl (fun w hw => mem tk r w (by simpa using hw)) ⟨.bl _, H, I, rfl, ?_⟩
  rw [show its.toArray.any (isIn X.K H xs) = its.any (isIn X.K H xs) by simp, any tk r]
  exact q
noncomputable def sKPut (td ty tv : TE) : TS := fun D σ H => tv σ H fun v H1 => td σ H1 fun x H2 => ty σ H2 fun y H3 => ∃ a kvs k, x = .ref a ∧ y = kV k ∧ H3 a = some (.dK kvs) ∧ kvs.length < sizeLine ∧ D.nx σ (upd H3 a (.dK (putK kvs k v)))
theorem ps_kput {o i value : Expr} {pos pos' : Pos} {td ty tv : TE} {j : Nat} (hr : Room j X.A) (ho : PE X o td) (hi : PE X i ty) (hv : PE X value tv) (hs : swapsWith value (some (.Subscript o i pos')) pos.line X.env = pure false) :
    PS X (.Assign [.Subscript o i pos'] value pos) (sKPut td ty tv) := by
  intro pins s σ H D I h
  have hu : X.A.units + 64 < cLine := hr.units
  refine wpAny_Assign_Subscript (thn (hv pins s σ H _ I h) fun r s1 ⟨v, H1, I1, rv, q1⟩ => thn (ho pins s1 σ H1 _ I1 q1) fun u s2 ⟨x, H2, I2, rx, q2⟩ => thn (hi pins s2 σ H2 _ I2 q2) fun iv s3 ⟨y, H3, I3, ry, a, kvs, k, ex, ey, e, l, q3⟩ => ?_) hs
  subst ex ey
  obtain rfl : u = Value.ref a := rx
  exact d_setItem (by walk_at "om") I3 (DPut.k e l) ry rv fun s4 I4 => ⟨σ, _, I4, q3⟩
noncomputable def rKNotIn : R2 := fun y x H Q => ∃ a kvs k, x = .ref a ∧ y = kV k ∧ H a = some (.dK kvs) ∧ Q (.bl (!(valV kvs k).isSome)) H
theorem op_kNotIn {j : Nat} (hr : Room j X.A) : OpR X (compareOp .NotIn) rKNotIn := by
  intro pins s σ H x y v u Q I rx ry h
  obtain ⟨a, kvs, k, rfl, rfl, ha, q⟩ := h
  have hu : X.A.units + 64 < cLine := hr.units
  obtain rfl : u = Value.ref a := ry
  exact d_notIn (by walk_at "om") I (DGet.k ha) rx fun s' I' => ⟨.bl _, H, I', rfl, q⟩
end
end L2

namespace Tn
end Tn
namespace L2
open PySem PySem.Spec PyProof.Rows
section
variable {X : Cx}
theorem kslT (K : PySem.W.Frag) (hK : X.K = K := by rfl) : SlR X (fun x lo hi H Q => rSlT K x lo hi H Q ∨ rSlTW K x lo hi H Q) := by
  subst hK
  exact sl_tup.or sl_tupW
end
theorem comp_tt3m {K : PySem.W.Frag} {a : Addr} {n : Nat} {xs : List V} {ad : Nat → Addr} {v1 v2 v3 : Nat → V} {tt : TT} {te : TE} {H1 : Hp} {Q : VK} {D : Addr} {more : St} (P : Nat → List V → Hp → Prop) (h0 : P 0 [] (upd H1 D (.lst []))) (hn : xs.length = n) (hx : ∀ i, i < n → xs[i]? = some (.ref (ad i)))
    (hl : ∀ i ys H, P i ys H → H D = some (.lst ys) → SqT K H a xs) (ht : ∀ i ys H, i < n → P i ys H → SqT K H (ad i) [v1 i, v2 i, v3 i])
    (hs : ∀ i ys H, i < n → P i ys H → H D = some (.lst ys) → tt (some (v1 i) :: some (v2 i) :: some (v3 i) :: more) H fun b H4 => if b = true then te (some (v1 i) :: some (v2 i) :: some (v3 i) :: more) H4 (cYes (fun σ => ∃ x y z, σ = x :: y :: z :: more) P n D (some (v1 i) :: some (v2 i) :: some (v3 i) :: more) i) else cNo (fun σ => ∃ x y z, σ = x :: y :: z :: more) P n D (some (v1 i) :: some (v2 i) :: some (v3 i) :: more) i H4)
    (hd : ∀ ys H, P n ys H → H D = some (.lst ys) → Q (.ref D) H) :
    CompGo (Itt K a) (gTup K 3 (gCons (gName 0) (gCons (gName 1) (gCons (gName 2) gNil)))) tt te (none :: none :: none :: more) H1 Q D := by
  refine comp_gen (xv := fun i => .ref (ad i)) (st := fun i => some (v1 i) :: some (v2 i) :: some (v3 i) :: more) (fun σ => ∃ x y z, σ = x :: y :: z :: more) P ⟨_, _, _, rfl⟩ h0 (fun i ys H hi p hD => ⟨⟨xs, _, hl i ys H p hD, hx i hi⟩, fun x H2 y => ⟨y.1, ?_⟩⟩) (fun ys H p hD => ⟨xs, hl _ ys H p hD, Nat.le_of_eq hn⟩)
    (fun i ys σ' H K' hi r p k => ?_) hs hd
  · have e := y.2 xs (hl i ys H p hD)
    rw [hx i hi] at e
    exact (Option.some.inj e).symm
  · obtain ⟨x, y, z, rfl⟩ := r
    exact ⟨ad i, _, rfl, ht i ys H hi p, rfl, _, _, rfl, _, _, rfl, _, _, rfl, rfl, k⟩
end L2

set_option Elab.async false
set_option linter.all false
set_option maxRecDepth 100000
set_option maxHeartbeats 4000000
namespace L4
open PySem L2
theorem div_q {s r : Rat} (hr : 0 < r) : (s / r) * r = s := Rat.div_mul_cancel (by grind)
theorem le_div {a b c : Rat} (h : 0 < b) : a ≤ c / b ↔ a * b ≤ c := by
  have q := div_q (s := c) h
  constructor
  · intro z
    have := Rat.mul_le_mul_of_nonneg_right z (Rat.le_of_lt h)
    grind
  · intro z
    by_cases y : c / b < a
    · have := Rat.mul_lt_mul_of_pos_right y h
      grind
    · exact Rat.not_lt.mp y
noncomputable def U (r : Rat) : Prop := 0 ≤ r ∧ r ≤ 1
theorem div_u {s r : Rat} (hr : 0 < r) (h0 : 0 ≤ s) (h : s < r) : U (s / r) := by
  have q := div_q (s := s) hr
  refine ⟨(le_div hr).mpr (by grind), ?_⟩
  by_cases y : 1 < s / r
  · have := Rat.mul_lt_mul_of_pos_right y hr
    grind
  · exact Rat.not_lt.mp y
theorem mul_u {r s : Rat} (h : U r) (k : U s) : U (r * s) := by
  refine ⟨Rat.mul_nonneg h.1 k.1, ?_⟩
  have := Rat.mul_le_mul_of_nonneg_left k.2 h.1
  have := h.2
  grind
theorem then_u {k : Str} {r s : Rat} (h : U r) (j : U s) : U (thenR k r s) := by
  unfold thenR
  obtain ⟨h1, h2⟩ := h
  obtain ⟨j1, j2⟩ := j
  split
  · split
    · exact ⟨j1, j2⟩
    · split
      · exact ⟨by grind, by grind⟩
      · exact div_u (by grind) j1 (by assumption)
  · exact ⟨by decide, by decide⟩
theorem less_u {r s : Rat} (h : U r) (j : U s) : U (lessR r s) := by
  unfold lessR; split <;> assumption
theorem great_u {r s : Rat} (h : U r) (j : U s) : U (greatR r s) := by
  unfold greatR; split <;> assumption
theorem with_u {k : Str} {r s : Rat} (h : U r) (j : U s) : U (withR k r s) := by
  unfold withR
  split
  · exact less_u h j
  · split
    · unfold greatR
      obtain ⟨h1, h2⟩ := h
      obtain ⟨j1, j2⟩ := j
      split
      · exact ⟨by decide, by decide⟩
      · exact ⟨by grind, by grind⟩
    · exact mul_u h j
-- residuation
theorem conn_u {k nm : Str} {rs : List Rat} (hm : nm ∈ names7) (hl : rs.length = arity nm) (h : ∀ r ∈ rs, U r) : U (connR k nm rs) := by
  have u0 : U 0 := ⟨by decide, by decide⟩
  have u1 : U 1 := ⟨by decide, by decide⟩
  have g : ∀ i, U (rs.getD i 0) := fun i => by
    by_cases hi : i < rs.length
    · rw [List.getD_eq_getElem?_getD, List.getElem?_eq_getElem hi]
      exact h _ (List.getElem_mem hi)
    · rw [List.getD_eq_getElem?_getD, List.getElem?_eq_none (by walk_at "om")]
      exact u0
  unfold connR
  split
  · exact u0
  split
  · exact u1
  split
  · exact then_u (g 0) u0
  split
  · exact then_u (g 0) (g 1)
  split
  · exact with_u (g 0) (g 1)
  split
  · exact great_u (g 0) (g 1)
  · exact less_u (g 0) (g 1)
inductive Sy where
  | ltr (x : Str)
  | n0 (nm : Str)
  | n1 (nm : Str) (a : Sy)
  | n2 (nm : Str) (a b : Sy)
namespace Sy
noncomputable def nm : Sy → Str
  | ltr x => x
  | n0 n => n
  | n1 n _ => n
  | n2 n _ _ => n
noncomputable def ps : Sy → List Sy
  | ltr _ => []
  | n0 _ => []
  | n1 _ a => [a]
  | n2 _ a b => [a, b]
noncomputable def isL : Sy → Bool
  | ltr _ => true
  | _ => false
noncomputable def dp : Sy → Nat
  | ltr _ => 0
  | n0 _ => 1
  | n1 _ a => a.dp + 1
  | n2 _ a b => max a.dp b.dp + 1
noncomputable def sz : Sy → Nat
  | ltr _ => 1
  | n0 _ => 1
  | n1 _ a => a.sz + 1
  | n2 _ a b => a.sz + b.sz + 1
noncomputable def mk (nm : Str) : List Sy → Sy
  | [] => n0 nm
  | [a] => n1 nm a
  | a :: b :: _ => n2 nm a b
end Sy
theorem Sy.dp_lt {s a : Sy} (h : a ∈ s.ps) : a.dp < s.dp := by
  cases s with
  | ltr x => cases h
  | n0 n => cases h
  | n1 n b =>
    rw [List.mem_singleton.mp h]
    exact Nat.lt_succ_self _
  | n2 n b c =>
    show a.dp < max b.dp c.dp + 1
    rcases List.mem_cons.mp h with rfl | h
    · walk_at "om"
    · rw [List.mem_singleton.mp h]
      walk_at "om"
theorem Sy.sz_ps (s : Sy) : (s.ps.map Sy.sz).sum + 1 = s.sz := by
  cases s <;> simp [Sy.ps, Sy.sz]
theorem Sy.sz_dp (s : Sy) : s.sz < 2 ^ (s.dp + 1) := by
  induction s with
  | ltr x => exact (show 1 < 2 ^ 1 by decide)
  | n0 n => exact (show 1 < 2 ^ 2 by decide)
  | n1 n a ih =>
    show a.sz + 1 < 2 ^ (a.dp + 1 + 1)
    rw [Nat.pow_succ]
    walk_at "om"
  | n2 n a b iha ihb =>
    show a.sz + b.sz + 1 < 2 ^ (max a.dp b.dp + 1 + 1)
    have h1 : 2 ^ (a.dp + 1) ≤ 2 ^ (max a.dp b.dp + 1) := Nat.pow_le_pow_right (by decide) (by walk_at "om")
    have h2 : 2 ^ (b.dp + 1) ≤ 2 ^ (max a.dp b.dp + 1) := Nat.pow_le_pow_right (by decide) (by walk_at "om")
    rw [Nat.pow_succ]
    walk_at "om"
noncomputable def IsSy (H : Hp) : Sy → V → Prop
  | .ltr x, v => v = .str x
  | .n0 nm, v => ∃ t, v = .ref t ∧ H t = some (.tup [.str nm])
  | .n1 nm a, v => ∃ t u, v = .ref t ∧ H t = some (.tup [.str nm, u]) ∧ IsSy H a u
  | .n2 nm a b, v => ∃ t u w, v = .ref t ∧ H t = some (.tup [.str nm, u, w]) ∧ IsSy H a u ∧ IsSy H b w
theorem IsSy.tk {H H' : Hp} (k : Tk H H') : ∀ {s : Sy} {v : V}, IsSy H s v → IsSy H' s v
  | .ltr x, v, h => h
  | .n0 nm, v, ⟨t, e, h⟩ => ⟨t, e, k _ _ h⟩
  | .n1 nm a, v, ⟨t, u, e, h, ha⟩ => ⟨t, u, e, k _ _ h, IsSy.tk k ha⟩
  | .n2 nm a b, v, ⟨t, u, w, e, h, ha, hb⟩ => ⟨t, u, w, e, k _ _ h, IsSy.tk k ha, IsSy.tk k hb⟩
theorem IsSy.same {H H' : Hp} (k : Same H H') {s : Sy} {v : V} (h : IsSy H s v) : IsSy H' s v := h.tk (Tk.of k)
theorem IsSy.node {H : Hp} {s : Sy} {v : V} (h : IsSy H s v) (hs : s.isL = false) : ∃ t us, v = .ref t ∧ H t = some (.tup (.str s.nm :: us)) ∧ Paired (IsSy H) s.ps us := by
  cases s with
  | ltr x => cases hs
  | n0 nm =>
    obtain ⟨t, e, h⟩ := h
    exact ⟨t, [], e, h, .nil⟩
  | n1 nm a =>
    obtain ⟨t, u, e, h, ha⟩ := h
    exact ⟨t, [u], e, h, .cons ha .nil⟩
  | n2 nm a b =>
    obtain ⟨t, u, w, e, h, ha, hb⟩ := h
    exact ⟨t, [u, w], e, h, .cons ha (.cons hb .nil)⟩
theorem IsSy.letter {H : Hp} {s : Sy} {v : V} (h : IsSy H s v) (hs : s.isL = true) : v = .str s.nm := by
  cases s with
  | ltr x => exact h
  | _ => cases hs
theorem IsSy.of {H : Hp} {nm : Str} {ss : List Sy} {us : List V} {t : Addr} (h : H t = some (.tup (.str nm :: us))) (hp : Paired (IsSy H) ss us) (hl : ss.length ≤ 2) : IsSy H (Sy.mk nm ss) (.ref t) := by
  cases hp with
  | nil => exact ⟨t, rfl, h⟩
  | @cons a u ss us ha hp =>
    cases hp with
    | nil => exact ⟨t, u, rfl, h, ha⟩
    | @cons b w ss us hb hp =>
      cases hp with
      | nil => exact ⟨t, u, w, rfl, h, ha, hb⟩
      | cons _ _ =>
        exfalso
        simp at hl
noncomputable def GS (L : List Str) : Sy → Prop
  | .ltr x => x ∈ L
  | .n0 nm => nm ∈ names7 ∧ arity nm = 0
  | .n1 nm a => nm ∈ names7 ∧ arity nm = 1 ∧ GS L a
  | .n2 nm a b => nm ∈ names7 ∧ arity nm = 2 ∧ GS L a ∧ GS L b
theorem GS.node {L : List Str} {s : Sy} (h : GS L s) (hs : s.isL = false) : s.nm ∈ names7 ∧ s.ps.length = arity s.nm ∧ ∀ a ∈ s.ps, GS L a := by
  cases s with
  | ltr x => cases hs
  | n0 nm => exact ⟨h.1, h.2.symm, fun a ha => by cases ha⟩
  | n1 nm a => exact ⟨h.1, h.2.1.symm, fun b hb => by rw [List.mem_singleton.mp hb]; exact h.2.2⟩
  | n2 nm a b =>
    refine ⟨h.1, h.2.1.symm, fun c hc => ?_⟩
    rcases List.mem_cons.mp hc with rfl | hc
    · exact h.2.2.1
    · rw [List.mem_singleton.mp hc]
      exact h.2.2.2
theorem GS.letter {L : List Str} {s : Sy} (h : GS L s) (hs : s.isL = true) : s.nm ∈ L := by
  cases s with
  | ltr x => exact h
  | _ => cases hs
theorem GS.of {L : List Str} {nm : Str} {ss : List Sy} (hm : nm ∈ names7) (hl : ss.length = arity nm) (h : ∀ a ∈ ss, GS L a) (h2 : ss.length ≤ 2) : GS L (Sy.mk nm ss) := by
  match ss, hl, h, h2 with
  | [], hl, _, _ => exact ⟨hm, hl.symm⟩
  | [a], hl, h, _ => exact ⟨hm, hl.symm, h a (by simp)⟩
  | [a, b], hl, h, _ => exact ⟨hm, hl.symm, h a (by simp), h b (by simp)⟩
theorem dp_mk {nm : Str} {ss : List Sy} {d : Nat} (h : ∀ a ∈ ss, a.dp ≤ d) : (Sy.mk nm ss).dp ≤ d + 1 := by
  match ss, h with
  | [], _ => exact Nat.succ_le_succ (Nat.zero_le _)
  | [a], h => exact Nat.succ_le_succ (h a (by simp))
  | a :: b :: _, h =>
    have h1 := h a (by simp)
    have h2 := h b (by simp)
    show max a.dp b.dp + 1 ≤ d + 1
    walk_at "om"
noncomputable def gr (k : Str) (ρ : Str → Rat) : Sy → Rat
  | .ltr x => ρ x
  | .n0 nm => connR k nm []
  | .n1 nm a => connR k nm [gr k ρ a]
  | .n2 nm a b => connR k nm [gr k ρ a, gr k ρ b]
theorem gr_node {k : Str} {ρ : Str → Rat} {s : Sy} (hs : s.isL = false) : gr k ρ s = connR k s.nm (s.ps.map (gr k ρ)) := by
  cases s with
  | ltr x => cases hs
  | _ => rfl
theorem gr_letter {k : Str} {ρ : Str → Rat} {s : Sy} (hs : s.isL = true) : gr k ρ s = ρ s.nm := by
  cases s with
  | ltr x => rfl
  | _ => cases hs
theorem gr_u {k : Str} {ρ : Str → Rat} {L : List Str} (hρ : ∀ x ∈ L, U (ρ x)) : ∀ {s : Sy}, GS L s → U (gr k ρ s)
  | .ltr x, h => hρ x h
  | .n0 nm, h => conn_u h.1 h.2.symm (fun r hr => by cases hr)
  | .n1 nm a, h => conn_u h.1 h.2.1.symm (fun r hr => by rw [List.mem_singleton.mp hr]; exact gr_u hρ h.2.2)
  | .n2 nm a b, h => conn_u h.1 h.2.1.symm (fun r hr => by
    rcases List.mem_cons.mp hr with rfl | hr
    · exact gr_u hρ h.2.2.1
    · rw [List.mem_singleton.mp hr]
      exact gr_u hρ h.2.2.2)
noncomputable def bt : Nat → Nat
  | 0 => 100
  | d + 1 => 2 * bt d + 12
theorem bt_mono {a b : Nat} (h : a ≤ b) : bt a ≤ bt b := by
  induction h with
  | refl => exact Nat.le_refl _
  | step _ ih =>
    show bt a ≤ 2 * bt _ + 12
    walk_at "om"
structure IsGr (K : PySem.W.Frag) (H : Hp) (g : Addr) (ρ : Str → Rat) (L : List Str) : Prop where
  dk : ∃ kvs, H g = some (.dK kvs) ∧ ∀ x ∈ L, ∃ v, valV kvs (Sum.inr x) = some v ∧ FR K H v (ρ x) 100
  u : ∀ x ∈ L, U (ρ x)
theorem IsGr.same {K : PySem.W.Frag} {H H' : Hp} {g : Addr} {ρ : Str → Rat} {L : List Str} (h : IsGr K H g ρ L) (s : Same H H') : IsGr K H' g ρ L := by
  obtain ⟨⟨kvs, h1, h2⟩, u⟩ := h
  refine ⟨⟨kvs, s _ _ h1, fun x hx => ?_⟩, u⟩
  obtain ⟨v, e, f⟩ := h2 x hx
  exact ⟨v, e, f.same s⟩
noncomputable def Ltr (x : Str) : Prop := x.length = 1 ∧ Small x
end L4

set_option Elab.async false
set_option linter.all false
set_option maxRecDepth 100000
set_option maxHeartbeats 4000000
namespace L2
open PySem PySem.Spec PyProof.Rows
section
variable {prog : Program} {w : World} {K : Type} [DecidableEq K] {knd : KeyKind prog w K} {A : Around} {E : Value → Shared → Prop} {s : Shared}
end
section
variable {X : Cx}
end
end L2

set_option Elab.async false
set_option linter.all false
set_option maxRecDepth 100000
set_option maxHeartbeats 4000000
namespace L2
open PySem PySem.Spec PyProof.Rows
section
variable {prog : Program} {w : World} {A : Around} {R : Result → Shared → Prop}
noncomputable abbrev TK (prog : Program) (w : World) : HeapKind prog w (List Key) := tupleKind (mixKind prog w)
theorem keyH_keep {h h' : Heap} {ks : List Key} {a b0 : Addr} (x : (TK prog w).is h ks a) (hs : ∀ b o, b ≠ b0 → h.get? b = some o → h'.get? b = some o) (hn : ∀ o, h.get? b0 = some o → o.cls ≠ .type "tuple") : (TK prog w).is h' ks a := by
  obtain ⟨o, items, n, e, c, r⟩ := x
  exact ⟨o, items, n, hs a o (fun z => by subst z; exact hn o e c) e, c, r⟩
theorem dictH_keep {h h' : Heap} {d b0 : Addr} {xs : List (List Key × Addr × Value)} (m : h.DictOfH (TK prog w) d xs) (hd : d ≠ b0) (hs : ∀ b o, b ≠ b0 → h.get? b = some o → h'.get? b = some o) (hn : ∀ o, h.get? b0 = some o → o.cls ≠ .type "tuple") : h'.DictOfH (TK prog w) d xs := by
  obtain ⟨o, es, ep, ho, hc, hd', he, his, hn'⟩ := m
  exact ⟨o, es, ep, hs d o hd ho, hc, hd', he, fun x hx => keyH_keep (his x hx) hs hn, hn'⟩
noncomputable def PairAtH (prog : Program) (w : World) (h : Heap) (v : Value) (p : List Key × Addr × Value) : Prop := ∃ b, v = .ref b ∧ h.IsTuple b #[.ref p.2.1, p.2.2] ∧ (TK prog w).is h p.1 p.2.1
theorem PairAtH.keep {h h' : Heap} {v : Value} {p : List Key × Addr × Value} {b0 : Addr} (x : PairAtH prog w h v p) (hs : ∀ b o, b ≠ b0 → h.get? b = some o → h'.get? b = some o) (hn : ∀ o, h.get? b0 = some o → o.cls ≠ .type "tuple") : PairAtH prog w h' v p := by
  obtain ⟨b, rfl, ⟨o, e, c, r⟩, hk⟩ := x
  exact ⟨b, rfl, ⟨o, hs b o (fun z => by subst z; exact hn o e c) e, c, r⟩, keyH_keep hk hs hn⟩
noncomputable def stAll (acc ps : List (List Key × Addr × Value)) : List (List Key × Addr × Value) := ps.foldl (fun acc p => storedH acc p.1 p.2.1 p.2.2) acc
theorem storedH_len (acc : List (List Key × Addr × Value)) (k : List Key) (a : Addr) (v : Value) : (storedH acc k a v).length ≤ acc.length + 1 := by
  unfold storedH
  split
  · rw [List.length_map]; walk_at "om"
  · rw [List.length_append]; simp
theorem upd_loopH (hh : A.handled = none) (hu : A.units + 1 < cLine) (D L it : Addr) (items : Array Value) (hDL : D ≠ L) (hDi : D ≠ it) (hLi : L ≠ it) (ps : List (List Key × Addr × Value)) (hlen : ps.length = items.size) (hsz : ps.length ≤ sizeLine) :
    ∀ (n i : Nat) (s : Shared) (acc : List (List Key × Addr × Value)), n + i = items.size → acc.length ≤ i → s.heap.IsListIter it L i → s.heap.IsList L items → s.heap.DictOfH (TK prog w) D acc →
    (∀ (j : Nat) (p : List Key × Addr × Value) (v : Value), ps[j]? = some p → items[j]? = some v → PairAtH prog w s.heap v p) →
    (∀ h' tk, h'.DictOfH (TK prog w) D (stAll acc (ps.drop i)) → (∀ b o, b ≠ D → b ≠ it → s.heap.get? b = some o → h'.get? b = some o) → R (.ok (.ret .none)) { s with heap := h', toks := tk }) →
    codeAny (model prog w) A (.builtin "dict.update.loop" ⟨[.ref D, .ref it, rawInt i, .none], []⟩) R s := by
  intro n
  induction n with
  | zero =>
    intro i s acc hn hacc hit hl hd hp hR
    obtain ⟨oi, hoi, hci, _⟩ := id hit
    refine codeAny_builtin entry_upd_loop ?_
    rw [Around.under_plainId plain_upd_loop _]
    show wpAny _ A.in1 (pyNext (.ref it) >>= _) _ _ s
    refine wpAny_bind (wpAny_pyNext_list_end (show A.in1.handled = none from hh) hit hl (by simp; walk_at "om") fun h' eb => ?_)
    show wpAny _ _ (Builtin.Dict.addKeywords D [] >>= _) _ _ _
    refine wpAny_bind (wpAny_pure (wpAny_pure (hR h' s.toks ?_ fun b o _ h2 e => eb b o h2 e)))
    rw [List.drop_eq_nil_of_le (by walk_at "om")]
    exact dictH_keep hd hDi (fun b o hb e => eb b o hb e) fun o e => by rw [hoi] at e; cases e; rw [hci]; decide
  | succ n ih =>
    intro i s acc hn hacc hit hl hd hp hR
    have hi : i < items.size := by walk_at "om"
    obtain ⟨v, hv⟩ : ∃ v, items[i]? = some v := ⟨items[i], by simp [hi]⟩
    obtain ⟨p, hpi⟩ : ∃ p, ps[i]? = some p := ⟨ps[i]'(by walk_at "om"), by rw [List.getElem?_eq_getElem (by walk_at "om")]⟩
    refine codeAny_builtin entry_upd_loop ?_
    rw [Around.under_plainId plain_upd_loop _]
    show wpAny _ A.in1 (pyNext (.ref it) >>= _) _ _ s
    refine wpAny_bind (wpAny_pyNext_list_item hit hl hv fun h1 hit1 hs1 => ?_)
    obtain ⟨oi, hoi, hci, _⟩ := hit
    have nti : ∀ o, s.heap.get? it = some o → o.cls ≠ .type "tuple" := fun o e => by rw [hoi] at e; cases e; rw [hci]; decide
    have hp1 : ∀ (j : Nat) (p : List Key × Addr × Value) (v : Value), ps[j]? = some p → items[j]? = some v → PairAtH prog w h1 v p := fun j p v a b => (hp j p v a b).keep (b0 := it) (fun b o hb e => hs1.extBut b o hb e) nti
    obtain ⟨b, rfl, hb, hk⟩ := hp1 i p v hpi hv
    obtain ⟨ot, e1, e2, nt, e3⟩ := id hb
    have hd1 := dictH_keep hd hDi (fun b o hb e => hs1.extBut b o hb e) nti
    refine wpAny_bind (wpAny_holding (wpAny_bind (wpAny_tryCatch ?_)))
    unfold Builtin.Dict.pairItems
    refine wpAny_bind (wpAny_typeOf (T := "tuple") ⟨ot, e1, e2⟩ ?_)
    rw [if_pos (by decide)]
    refine wpAny_bind (wpAny_seqItems e1 e3 (wpAny_pure ?_))
    show wpAny _ _ (holding [.ref p.2.1, p.2.2] (dictSet D (.ref p.2.1) p.2.2)) _ _ _
    refine wpAny_holding (wpAny_dictSet_heap (s := { s with heap := h1 }) (hsz := by walk_at "om") (tupleKind_room_in1 hu) hk hd1 fun h2 hd2 hs2 => ?_)
    refine wpAny_pure ⟨plainId_quiet plain_upd_loop _, ?_⟩
    have hl1 : h1.IsList L items := hl.extBut hs1.extBut hLi
    have hle : (storedH acc p.1 p.2.1 p.2.2).length ≤ i + 1 := Nat.le_trans (storedH_len ..) (by walk_at "om")
    obtain ⟨oD, _, _, hoD, hcD, _⟩ := id hd1
    have := ih (i + 1) { s with heap := h2, toks := s.toks + (TK prog w).draws p.1 } (storedH acc p.1 p.2.1 p.2.2) (by walk_at "om") hle (hit1.extBut hs2.extBut (Ne.symm hDi)) (hl1.extBut hs2.extBut (Ne.symm hDL)) hd2 (fun j p v a b => (hp1 j p v a b).keep (b0 := D) (fun b o hb e => hs2.extBut b o hb e) fun o e => by
        rw [hoD] at e; cases e; rw [hcD.1]; decide) fun h' tk hd' hk' => ?_
    · simpa using this
    · refine hR h' tk ?_ fun b o h1 h2 e => hk' b o h1 h2 (hs2.extBut b o h1 (hs1.extBut b o h2 e))
      have e4 : ps.drop i = p :: ps.drop (i + 1) := by
        rw [List.getElem?_eq_some_iff] at hpi
        obtain ⟨h5, h6⟩ := hpi
        rw [← h6]
        exact List.drop_eq_getElem_cons h5
      unfold stAll
      rw [e4, List.foldl_cons]
      exact hd'
theorem call_dict_pairsH {E : Value → Shared → Prop} {Q : Value → Shared → Prop} {s : Shared} {L : Addr} {o : Obj} {items : Array Value} {k : Nat} {ps : List (List Key × Addr × Value)} (hh : A.handled = none) (hu : A.units + 2 < cLine) (hx : s.heap.get? L = some o) (hc : o.cls = .type "list") (hdat : o.data = .seq items k) (hdn : o.dict = none)
    (hlen : ps.length = items.size) (hsz : ps.length ≤ sizeLine) (hp : ∀ (j : Nat) (p : List Key × Addr × Value) (v : Value), ps[j]? = some p → items[j]? = some v → PairAtH prog w s.heap v p)
    (h : ∀ h' tk, h'.DictOfH (TK prog w) s.heap.objs.size (stAll [] ps) → (∀ b o, s.heap.get? b = some o → h'.get? b = some o) → Q (.ref s.heap.objs.size) { s with heap := h', toks := tk }) :
    wpAny (model prog w) A (call (.type "dict") [.ref L]) Q E s := by
  refine callType_codes (Q₁ := fun obj s₁ => obj = .ref s.heap.objs.size ∧ s₁ = { s with heap := s.heap.push { cls := .type "dict", data := .dict #[] } }) PySem.F.kt_called_dict (PySem.F.kt_typeCall_dict_1 _) PySem.F.entry_dict_init (kt_code_dict_new _ ⟨rfl, rfl⟩) ?_
  rintro obj s₁ ⟨rfl, rfl⟩
  have hnew : (s.heap.push { cls := .type "dict", data := .dict #[] }).DictOf (mixKind prog w) s.heap.objs.size [] := Heap.DictOf.new s.heap
  have hnewH : (s.heap.push { cls := .type "dict", data := .dict #[] }).DictOfH (TK prog w) s.heap.objs.size [] := ⟨_, #[], 0, Heap.get?_push_size _ rfl, ⟨rfl, rfl, rfl⟩, rfl, rfl, fun x hx => (by cases hx), .nil⟩
  have hx1 := Heap.get?_push_of_some { cls := .type "dict", data := .dict #[] } hx
  have Llt : L < s.heap.objs.size := Heap.lt_size hx
  refine ⟨hnew.typeIs, PySem.F.args_dict_init_2 _ _, ?_⟩
  unfold Builtin.«dict.__init__»
  refine wpAny_bind ?_
  unfold Builtin.Dict.selfAndRest
  refine wpAny_bind (wpAny_notOrdered_dict hnew.typeIs ?_)
  show wpAny _ _ (pure (s.heap.objs.size, [Value.ref L])) _ _ _
  refine wpAny_pure ?_
  show wpAny _ _ (Builtin.Dict.updateFrom "dict.__init__" s.heap.objs.size (.ref L) [] .none) _ _ _
  unfold Builtin.Dict.updateFrom
  refine wpAny_bind (wpAny_typeOf (T := "list") ⟨o, hx1, hc⟩ ?_)
  rw [if_pos (by decide)]
  refine wpAny_bind (keys_miss hx1 hc hdat hdn (show A.in1.in1.handled = none from hh) fun h' tk kp => ?_)
  rw [if_pos (by rfl)]
  have hL' : h'.IsList L items := ⟨o, kp _ _ hx1, hc, k, hdat⟩
  refine wpAny_bind (wpAny_rule (wpAny_bind (wpAny_pyIter_list hL' ?_)))
  have Dget : ∃ od, h'.get? s.heap.objs.size = some od := ⟨_, kp _ _ (Heap.get?_push_size _ rfl)⟩
  have Dlt : s.heap.objs.size < h'.objs.size := let ⟨_, e⟩ := Dget; Heap.lt_size e
  refine wpAny_pure ⟨plainId_quiet plain_upd_loop _, ?_⟩
  have it0 : (h'.push { cls := .type "list_iterator", data := .fields #[.ref L, .int 0 0] }).IsListIter h'.objs.size L 0 := ⟨_, Heap.get?_push_size _ rfl, rfl, rfl⟩
  have hd' : (h'.push { cls := .type "list_iterator", data := .fields #[.ref L, .int 0 0] }).DictOfH (TK prog w) s.heap.objs.size [] := by
    obtain ⟨od, es, ep, e, h1, h2, h3, _, h5⟩ := hnewH
    exact ⟨od, es, ep, Heap.get?_push_of_some _ (kp _ _ e), h1, h2, h3, (fun x hx => by cases hx), h5⟩
  refine upd_loopH (A := A.in1) (show A.in1.handled = none from hh) (show A.units + 1 + 1 < cLine from hu) s.heap.objs.size L h'.objs.size items (Nat.ne_of_gt Llt) (Nat.ne_of_lt Dlt) (Nat.ne_of_lt (Nat.lt_trans Llt Dlt)) ps hlen hsz items.size 0 { s with heap := h'.push { cls := .type "list_iterator", data := .fields #[.ref L, .int 0 0] }, toks := tk } [] rfl (Nat.le_refl _) it0 (hL'.push _) hd' (fun j p v a b => ?_) fun h2 tk2 hd2 hk2 => ?_
  · obtain ⟨bb, e1, ⟨ot, e2, r⟩, ⟨o3, i3, n3, e3, r3⟩⟩ := hp j p v a b
    exact ⟨bb, e1, ⟨ot, Heap.get?_push_of_some _ (kp _ _ (Heap.get?_push_of_some _ e2)), r⟩, ⟨o3, i3, n3, Heap.get?_push_of_some _ (kp _ _ (Heap.get?_push_of_some _ e3)), r3⟩⟩
  · refine ⟨rfl, h h2 tk2 ?_ fun b ob e => hk2 b ob (Nat.ne_of_lt (Heap.lt_size e)) (Nat.ne_of_lt (Nat.lt_trans (Heap.lt_size e) Dlt)) (Heap.get?_push_of_some _ (kp _ _ (Heap.get?_push_of_some _ e)))⟩
    rw [List.drop_zero] at hd2
    exact hd2
end
noncomputable def PrsT (H : Hp) : List V → List (List Key × V) → Prop := Paired fun x p => ∃ b kb, x = .ref b ∧ H b = some (.tup [.ref kb, p.2]) ∧ H kb = some (.tup (p.1.map kV))
noncomputable def putAllT (kvs ps : List (List Key × V)) : List (List Key × V) := ps.foldl (fun acc p => putK acc p.1 p.2) kvs
theorem prsT_at {P : Program} {w : World} {H : Hp} {h : Heap} (ok : HOk P w H h) {xs : List V} {ps : List (List Key × V)} (r : PrsT H xs ps) : ∀ {us : List Value}, Vals xs us → ∃ rs : List (List Key × Addr × Value), KT H ps rs ∧ ∀ (j : Nat) (p : List Key × Addr × Value) (v : Value), rs[j]? = some p → us[j]? = some v → PairAtH P w h v p := by
  unfold PrsT at r
  induction r with
  | nil =>
    intro us rv
    exact ⟨[], .nil, fun j p v e => by simp at e⟩
  | @cons x p xs ps hx t ih =>
    intro us rv
    cases rv with
    | @cons _ u _ us hu rv =>
      obtain ⟨rs, r1, r2⟩ := ih rv
      obtain ⟨b, kb, rfl, hb, hkb⟩ := hx
      obtain ⟨_, its, ri, o, e1, e2, ⟨n, e3⟩, _⟩ := (show ObjOk P w H h b (.tup [.ref kb, p.2]) from ok b _ hb)
      cases ri with
      | @cons _ ku _ _ hk ri =>
        cases ri with
        | @cons _ vu _ _ hv ri =>
          cases ri
          obtain rfl : ku = Value.ref kb := hk
          refine ⟨(p.1, kb, vu) :: rs, .cons ⟨rfl, hkb, hv⟩ r1, fun j q v ej ev => ?_⟩
          cases j with
          | zero =>
            cases (Option.some.inj ej)
            cases (Option.some.inj ev)
            obtain rfl : u = Value.ref b := hu
            exact ⟨b, rfl, ⟨o, e1, e2, n, e3⟩, key_of ok hkb⟩
          | succ j => exact r2 j q v ej ev
theorem put_allT {H : Hp} {ps : List (List Key × V)} {rs : List (List Key × Addr × Value)} (r : KT H ps rs) : ∀ {acc : List (List Key × V)} {bcc : List (List Key × Addr × Value)}, KT H acc bcc → KT H (putAllT acc ps) (stAll bcc rs) := by
  unfold KT at r
  induction r with
  | nil => exact fun q => q
  | @cons p q ps qs h t ih =>
    intro acc bcc ra
    obtain ⟨h1, h2, h3⟩ := h
    show KT H (putAllT (putK acc p.1 p.2) ps) (stAll (storedH bcc q.1 q.2.1 q.2.2) qs)
    rw [← h1]
    exact ih (KT.put ra p.1 h2 h3)
theorem length_putAllT : ∀ (ps acc : List (List Key × V)), (putAllT acc ps).length ≤ acc.length + ps.length
  | [], acc => Nat.le_refl _
  | p :: ps, acc => by
    have h1 := length_putAllT ps (putK acc p.1 p.2)
    have h2 := length_putK acc p.1 p.2
    show (putAllT (putK acc p.1 p.2) ps).length ≤ _
    rw [List.length_cons]; walk_at "om"
section
variable {X : Cx}
noncomputable def tDictPT (ta : TA) : TE := fun σ H Q => ta σ H fun vs H1 => ∃ p xs ps, vs = [.ref p] ∧ H1 p = some (.lst xs) ∧ PrsT H1 xs ps ∧ ∀ D, H1 D = none → Q (.ref D) (upd H1 D (.dT (putAllT [] ps)))
theorem pe_dictPT {k : Nat} (hr : Room k X.A) {a : Expr} {ta : TA} {p pos : Pos} (hg : Gl X "dict") (hm : X.mg "dict" = none) (ha : PA X [a] ta) (hs : starEach [a] X.env = [(false, eval a X.env)] := by rfl) (hc : X.calm = true := by rfl) :
    PE X (.Call (.Name "dict" p) [a] [] pos) (tDictPT ta) := by
  intro pins s σ H Q I h
  have hu : X.A.units + 64 < cLine := hr.units
  refine Call_ (ld_blt I hg hm bt_dict (PyProof.Rows.callWith_type1 (thn (ha pos pins s σ H _ I h) fun us s1 ⟨vs, H1, I1, r1, q1⟩ => ?_) hs rfl))
  obtain ⟨p1, xs, ps, e, hq, hps, q⟩ := q1
  subst e
  obtain ⟨u1, rfl, r2⟩ := vals1 r1
  cases r2
  obtain ⟨hz, its, n, rv, eo⟩ := (show ObjOk X.prog X.w H1 s1.heap p1 (.lst xs) from I1.hok p1 _ hq)
  obtain ⟨rs, rk, hpa⟩ := prsT_at I1.hok hps rv
  have a1 : ps.length = rs.length := Paired.length rk
  have a2 := Paired.length hps
  have l1 : rs.length = its.toArray.size := by
    have a3 := rv.length
    simp; walk_at "om"
  refine call_dict_pairsH (ps := rs) (I1.ok.hd hc) (by walk_at "om") eo rfl rfl rfl l1 (by walk_at "om") (fun j p v a b => hpa j p v a (by simpa using b)) fun h' tk hd' kp => ?_
  have hb : (s1.heap.objs.size == sysModules) = false := beq_eq_false_iff_ne.mpr (Ne.symm (Nat.ne_of_lt I1.big))
  have hl : (putAllT [] ps).length ≤ sizeLine := by
    have := length_putAllT ps []
    simp at this; walk_at "om"
  have Hn : H1 s1.heap.objs.size = none := I1.hok.fresh (Nat.le_refl _)
  obtain ⟨od, es, ep, f1, f2, f3, f4, _, f6⟩ := hd'
  exact ⟨.ref s1.heap.objs.size, _, I1.laid (a := s1.heap.objs.size) (o := .dT (putAllT [] ps)) (t' := tk) kp (Nat.le_refl _) ⟨hl, hb, _, (put_allT rk .nil).keeps fun b ys e => by rw [upd_ne (ne_of_none e Hn)]; exact e, od, es, ep, f1, f2, f3, f4, f6⟩, rfl, q _ Hn⟩
theorem hu1 {k : Nat} {A : Around} (hr : Room k A) : A.units + 1 < cLine := by
  have : A.units + 64 < cLine := hr.units
  walk_at "om"
noncomputable def rTNotIn : R2 := fun y x H Q => ∃ a b kvs k, x = .ref a ∧ y = .ref b ∧ H a = some (.dT kvs) ∧ H b = some (.tup (k.map kV)) ∧ Q (.bl (!(valV kvs k).isSome)) H
theorem op_tNotIn {j : Nat} (hr : Room j X.A) : OpR X (compareOp .NotIn) rTNotIn := by
  intro pins s σ H x y v u Q I rx ry h
  obtain ⟨a, b, kvs, k, rfl, rfl, ha, hb, q⟩ := h
  have hu : X.A.units + 64 < cLine := hr.units
  obtain rfl : u = Value.ref a := ry
  exact d_notIn (by walk_at "om") I (DGet.t ha hb) rx fun s' I' => ⟨.bl _, H, I', rfl, q⟩
theorem op_or2 {f : Value → Value → Sem Value} {r1 r2 : R2} (h1 : OpR X f r1) (h2 : OpR X f r2) : OpR X f (fun x y H Q => r1 x y H Q ∨ r2 x y H Q) := by
  intro pins s σ H x y v u Q I rx ry h
  rcases h with h | h
  · exact h1 pins s σ H x y v u Q I rx ry h
  · exact h2 pins s σ H x y v u Q I rx ry h
end
end L2

set_option Elab.async false
set_option linter.all false
set_option maxRecDepth 100000
set_option maxHeartbeats 4000000
namespace L4
open PySem L2
theorem PrsT.tk {H H' : Hp} (s : Tk H H') {xs : List V} {ps : List (List Key × V)} (h : PrsT H xs ps) : PrsT H' xs ps := by
  unfold PrsT at h ⊢
  induction h with
  | nil => exact .nil
  | cons r _ ih =>
    obtain ⟨b, kb, e, hb, hk⟩ := r
    exact .cons ⟨b, kb, e, s _ _ hb, s _ _ hk⟩ ih
theorem PrsT.snoc {H : Hp} {xs : List V} {ps : List (List Key × V)} {p : List Key × V} {b kb : Addr} (h : PrsT H xs ps) (hb : H b = some (.tup [.ref kb, p.2])) (hk : H kb = some (.tup (p.1.map kV))) : PrsT H (xs ++ [.ref b]) (ps ++ [p]) := by
  unfold PrsT at h ⊢
  induction h with
  | nil => exact .cons ⟨b, kb, rfl, hb, hk⟩ .nil
  | cons r _ ih => exact .cons r ih
theorem putT_other : ∀ (ps acc : List (List Key × V)) (k : List Key), k ∉ ps.map Prod.fst → valV (putAllT acc ps) k = valV acc k
  | [], acc, k, _ => rfl
  | p :: ps, acc, k, h => by
    rw [List.map_cons, List.mem_cons, not_or] at h
    show valV (putAllT (putK acc p.1 p.2) ps) k = _
    rw [putT_other ps _ k h.2, valV_put, if_neg h.1]
theorem putT_at : ∀ (ps acc : List (List Key × V)) (p : List Key × V), (ps.map Prod.fst).Nodup → p ∈ ps → valV (putAllT acc ps) p.1 = some p.2
  | [], acc, p, _, h => by cases h
  | z :: ps, acc, p, hn, h => by
    rw [List.map_cons, List.nodup_cons] at hn
    show valV (putAllT (putK acc z.1 z.2) ps) p.1 = _
    rcases List.mem_cons.mp h with rfl | h
    · rw [putT_other ps _ _ hn.1, valV_put, if_pos rfl]
    · exact putT_at ps _ p hn.2 h
theorem ints_of {H : Hp} {is : List Int} {v : V} (h : IsTh H (.tup (is.map Th.int)) v) : ∃ w, v = .ref w ∧ H w = some (.tup (is.map V.int)) := by
  obtain ⟨a, rfl⟩ := h.ref
  obtain ⟨xs, ha, hl, _, hi⟩ := h.get
  refine ⟨a, rfl, ?_⟩
  rw [ha]
  have e : xs = is.map V.int := by
    refine List.ext_getElem? fun i => ?_
    by_cases hb : i < is.length
    · obtain ⟨v, hv, it⟩ := hi i (.int is[i]) (by rw [List.getElem?_map, List.getElem?_eq_getElem hb]; rfl)
      cases it
      rw [hv, List.getElem?_map, List.getElem?_eq_getElem hb]
      rfl
    · rw [List.length_map] at hl
      rw [List.getElem?_eq_none (by walk_at "om"), List.getElem?_eq_none (by rw [List.length_map]; walk_at "om")]
  rw [e]
end L4

namespace K44
open PySem L2 L4

local macro_rules | `(tactic| walk_at "hp") => `(tactic| first | assumption | exact upd_same | (rw [upd_ne (by first | assumption | exact Ne.symm (by assumption) | exact ne_of_none (by assumption) (by assumption) | exact Ne.symm (ne_of_none (by assumption) (by assumption)))]; walk_at "hp"))
local macro_rules | `(tactic| walk_at "r1") => `(tactic| first | refine ⟨_, rfl, ?_⟩ | refine .inl ⟨_, _, _, _, rfl, rfl, SqL.of (by walk_at "hp"), rfl, ?_⟩ | refine .inr (.inl ⟨_, _, _, _, rfl, rfl, SqT.of (by walk_at "hp"), rfl, ?_⟩) | refine ⟨_, _, rfl, rfl, ?_⟩ | refine ⟨(show CMul _ _ from .inr ⟨by walk_at "om", by walk_at "om"⟩), ?_⟩ | refine ⟨(show CMul _ _ from .inl ⟨by walk_at "om", by walk_at "om"⟩), ?_⟩ | refine ⟨(show CDiv _ _ from ⟨by walk_at "om", by walk_at "om"⟩), ?_⟩ | refine ⟨(show CPow _ _ from ⟨by decide, by decide, by decide⟩), ?_⟩ | refine ⟨(show (0 : Int) < _ by walk_at "om"), ?_⟩ | refine ⟨_, _, _, _, rfl, rfl, (by walk_at "hp"), rfl, ?_⟩)
local macro_rules | `(tactic| walk_at "rd") => `(tactic| repeat walk_at "r1")

local macro_rules | `(tactic| walk_at "dc") => `(tactic| first | refine iteT ?_ | refine iteF ?_ | refine iteDT (by decide +kernel) ?_ | refine iteDF (by decide +kernel) ?_ | refine ⟨_, rfl, rfl, _, rfl, ?_⟩)
local macro_rules | `(tactic| walk_at "ds") => `(tactic| repeat walk_at "dc")

noncomputable def spWholeT : Sp := fun vs H Q _ => ∃ (t : Th) (v : V), vs = [v] ∧ IsTh H t v ∧ Q (.bl (wholeB t)) H

theorem at0 {x : V} {us : List V} : atI (x :: us) 0 = some x := atI_nat (j := 0) rfl
theorem two {zs : List (V × Rat)} {nm : Str} (h : zs.length = arity nm) (e : arity nm = 2 := by decide +kernel) : ∃ z1 z2, zs = [z1, z2] := by
  rw [e] at h
  match zs, h with
  | [a, b], _ => exact ⟨a, b, rfl⟩
theorem one1 {zs : List (V × Rat)} {nm : Str} (h : zs.length = arity nm) (e : arity nm = 1 := by decide +kernel) : ∃ z1, zs = [z1] := by
  rw [e] at h
  match zs, h with
  | [a], _ => exact ⟨a, rfl⟩
theorem cut_drop1 {xs : List V} (h : 1 ≤ xs.length) : cutV xs (some 1) none = xs.drop 1 := by
  unfold cutV
  rw [show HT.sIx xs.length 0 (some 1) = 1 by rw [show (1 : Int) = ((1 : Nat) : Int) from rfl, HT.sIx_nat]; walk_at "om", HT.sIx_none]
  exact List.take_of_length_le (by rw [List.length_drop]; walk_at "om")
theorem slT_of {K : PySem.W.Frag} {H : Hp} {a : Addr} {xs : List V} {lo hi : Option Int} {Q : VK} (ha : H a = some (.tup xs)) (F : ∀ t H', Same H H' → H' t = some (.tup (cutV xs lo hi)) → Q (.ref t) H') : rSlT K (.ref a) lo hi H Q ∨ rSlTW K (.ref a) lo hi H Q := by
  by_cases h : HT.sIx xs.length 0 lo = 0 ∧ HT.sIx xs.length xs.length hi = xs.length
  · refine .inr ⟨a, xs, rfl, SqT.of ha, h, F a H (Same.refl H) ?_⟩
    unfold cutV
    rw [h.1, h.2, List.drop_zero, Nat.sub_zero, List.take_length]
    exact ha
  · exact .inl ⟨a, xs, rfl, SqT.of ha, h, fun p hp => F p _ (same_new hp _) upd_same⟩
theorem catA_of {K : PySem.W.Frag} {H : Hp} {a b : Addr} {xs ys : List V} {Q : VK} (ha : H a = some (.tup xs)) (hb : H b = some (.tup ys)) (hz : xs.length + ys.length ≤ 1000) (F : ∀ t H', Same H H' → H' t = some (.tup (xs ++ ys)) → Q (.ref t) H') : rCatA K (.ref a) (.ref b) H Q :=
  ⟨a, b, xs, ys, rfl, rfl, SqT.of ha, SqT.of hb, small9 hz, fun z => F b H (Same.refl H) (by rw [z]; exact hb), fun _ z => F a H (Same.refl H) (by rw [z, List.append_nil]; exact ha), fun _ _ p hp => F p _ (same_new hp _) upd_same⟩
theorem same_sy {H H' : Hp} (k : Tk H H') {ss : List Sy} {us : List V} (h : Paired (IsSy H) ss us) : Paired (IsSy H') ss us := by
  induction h with
  | nil => exact .nil
  | cons r _ ih => exact .cons (r.tk k) ih
theorem snoc_sy {H : Hp} {ss : List Sy} {us : List V} {s : Sy} {u : V} (h : Paired (IsSy H) ss us) (k : IsSy H s u) : Paired (IsSy H) (ss ++ [s]) (us ++ [u]) := by
  induction h with
  | nil => exact .cons k .nil
  | cons r _ ih => exact .cons r ih
noncomputable def Says (H : Hp) (L : List Str) (ps : List (V × Sy)) : Prop := ∀ z ∈ ps, GS L z.2 ∧ IsSy H z.2 z.1
noncomputable def Ls (L : List Str) : Prop := ∀ x ∈ L, Ltr x
theorem paired_says {H : Hp} {L : List Str} {ss : List Sy} {us : List V} (h : Paired (IsSy H) ss us) (g : ∀ a ∈ ss, GS L a) : Says H L (us.zip ss) ∧ (us.zip ss).map Prod.fst = us ∧ (us.zip ss).map Prod.snd = ss := by
  induction h with
  | nil => exact ⟨(fun z hz => by cases hz), rfl, rfl⟩
  | @cons a u ss us r _ ih =>
    obtain ⟨i1, i2, i3⟩ := ih fun b hb => g b (List.mem_cons_of_mem _ hb)
    refine ⟨fun z hz => ?_, ?_, ?_⟩
    · rcases List.mem_cons.mp hz with rfl | hz
      · exact ⟨g _ (List.mem_cons_self ..), r⟩
      · exact i1 z hz
    · rw [List.zip_cons_cons, List.map_cons, i2]
    · rw [List.zip_cons_cons, List.map_cons, i3]
noncomputable def spSmall : Sp := fun vs H Q _ => ∃ x : Str, vs = [.str x] ∧ Small x ∧ x.length ≤ 8 ∧ ∀ H', Same H H' → Q (.bl true) H'
noncomputable def spIsL : Sp := fun vs H Q _ => ∃ (v : V) (s : Sy), vs = [v] ∧ IsSy H s v ∧ (s.isL = true → Ltr s.nm) ∧ ∀ H', Same H H' → Q (.bl s.isL) H'
noncomputable def spKindQ : Sp := fun vs H Q _ => ∃ k : Str, vs = [.str k] ∧ Kd k ∧ Q .non H
noncomputable def spWritten : Sp := fun vs H Q _ => ∃ (v : V) (s : Sy) (L : List Str), vs = [v] ∧ IsSy H s v ∧ GS L s ∧ Ls L ∧ s.sz ≤ 63 ∧ ∀ l ps H', Same H H' → H' l = some (.lst (ps.map Prod.fst)) → ps.length ≤ 63 → Says H' L ps → Q (.ref l) H'
noncomputable def spGraded (K : PySem.W.Frag) : Nat → Sp
  | 0 => fun _ _ _ _ => False
  | j + 1 => fun vs H Q _ => ∃ (k : Str) (v : V) (s : Sy) (g : Addr) (L : List Str) (ρ : Str → Rat), vs = [.str k, v, .ref g] ∧ Kd k ∧ IsSy H s v ∧ GS L s ∧ Ls L ∧ IsGr K H g ρ L ∧ s.dp ≤ j ∧ s.dp ≤ 5 ∧ ∀ u H', Same H H' → FR K H' u (gr k ρ s) (bt s.dp) → Q u H'
noncomputable def spGB (K : PySem.W.Frag) : Sp := fun vs H Q _ => ∃ (k : Str) (v : V) (s : Sy) (g : Addr) (L : List Str) (ρ : Str → Rat), vs = [.str k, v, .ref g] ∧ Kd k ∧ IsSy H s v ∧ GS L s ∧ Ls L ∧ IsGr K H g ρ L ∧ s.dp ≤ 5 ∧ ∀ p H', Same H H' → H' p = some (tupR (gr k ρ s)) → FR K H' (.ref p) (gr k ρ s) (bt s.dp) → Q (.ref p) H'
theorem bt4 {d : Nat} (h : d ≤ 4) : bt d ≤ 1780 := Nat.le_trans (bt_mono h) (by decide)
noncomputable def shapesL : List (List V) := [[.str "and", .int 2], [.str "or", .int 2], [.str "then", .int 2], [.str "with", .int 2], [.str "not", .int 1], [.str "false", .int 0], [.str "true", .int 0]]
theorem shape_in {nm : Str} (hm : nm ∈ names7) : (shapesL.any fun c => eqVs c [.str nm, .int (arity nm : Nat)]) = true := by
  unfold names7 at hm
  simp only [List.mem_cons, List.not_mem_nil, or_false] at hm
  rcases hm with rfl | rfl | rfl | rfl | rfl | rfl | rfl <;> decide +kernel
theorem arity2 (nm : Str) : arity nm ≤ 2 := by unfold arity; split; walk_at "om"; split <;> walk_at "om"

theorem len_sum {α : Type} {f : α → Nat} (xs : List α) (h : ∀ x, 1 ≤ f x) : xs.length ≤ (xs.map f).sum := by
  induction xs with
  | nil => exact Nat.le_refl _
  | cons x xs ih =>
    rw [List.length_cons, List.map_cons, List.sum_cons]
    have := h x
    walk_at "om"

noncomputable def spPower : Sp := fun vs H Q _ => ∃ (b : Int) (n : Nat), vs = [.int b, .int n] ∧ 1 ≤ b ∧ b ≤ 9 ∧ n ≤ 1000 ∧ Q (.int (b ^ n)) H
noncomputable def gaR (p n : Int) : Nat → List Int
  | 0 => []
  | k + 1 => gaR (p / n) n k ++ [p % n]
theorem ga_len (n : Int) : ∀ (k : Nat) (p : Int), (gaR p n k).length = k
  | 0, _ => rfl
  | k + 1, p => by
    show (gaR (p / n) n k ++ [p % n]).length = k + 1
    rw [List.length_append, ga_len n k]
    rfl
theorem ga_mem {n : Int} (hn : 0 < n) : ∀ (k : Nat) (p : Int), ∀ g ∈ gaR p n k, 0 ≤ g ∧ g < n
  | 0, _, g, h => by cases h
  | k + 1, p, g, h => by
    rcases List.mem_append.mp h with h | h
    · exact ga_mem hn k _ g h
    · rw [List.mem_singleton.mp h]
      exact ⟨Int.emod_nonneg _ (by walk_at "om"), Int.emod_lt_of_pos _ hn⟩
noncomputable def spGA : Nat → Sp
  | 0 => fun _ _ _ _ => False
  | j + 1 => fun vs H Q _ => ∃ (p n : Int) (pl : Nat), vs = [.int p, .int n, .int pl] ∧ pl ≤ j ∧ pl ≤ 2 ∧ 0 < n ∧ n ≤ 9 ∧ ∀ l H', Same H H' → H' l = some (.lst ((gaR p n pl).map V.int)) → Q (.ref l) H'
noncomputable def cellR (k : Str) (n : Int) (nm : Str) (pl : Nat) (p : Int) : Int := ((connR k nm ((gaR p n pl).map fun g => Rat.divInt g (n - 1))).num * (n - 1)) / (connR k nm ((gaR p n pl).map fun g => Rat.divInt g (n - 1))).den
noncomputable def cellsR (k : Str) (n : Int) (nm : Str) (pl : Nat) : List Int := (List.range (n ^ pl).toNat).map fun (p : Nat) => cellR k n nm pl (0 + (p : Int))
noncomputable def Kc (k : Str) : Prop := k = "least" ∨ k = "cut"
noncomputable def spCells : Sp := fun vs H Q _ => ∃ (k nm : Str) (n : Int), vs = [.str k, .int n, .str nm, .int (arity nm : Nat)] ∧ Kc k ∧ 2 ≤ n ∧ n ≤ 9 ∧ nm ∈ names7 ∧ ∀ p H', Same H H' → H' p = some (.tup ((cellsR k n nm (arity nm)).map V.int)) → Q (.ref p) H'
noncomputable def connTh (k : Str) (n : Int) (nm : Str) : Th := .tup [.str nm, .int (arity nm : Nat), .tup ((cellsR k n nm (arity nm)).map Th.int)]
noncomputable def chainTh (k : Str) (n : Int) : Th := .tup [.int n, .tup [.int (n - 1)], .tup (names7.map (connTh k n))]
theorem ths_snoc {H : Hp} {ts : List Th} {vs : List V} {t : Th} {v : V} (h : Ths H ts vs) (k : IsTh H t v) : Ths H (ts ++ [t]) (vs ++ [v]) := by
  unfold Ths at h ⊢
  induction h with
  | nil => exact .cons k .nil
  | cons a _ ih => exact .cons a ih
theorem ths_ints {H : Hp} {p : Addr} {is : List Int} (h : H p = some (.tup (is.map V.int))) (hl : is.length ≤ 1000) : IsTh H (.tup (is.map Th.int)) (.ref p) := Ths.tup (ths_map Th.int V.int is fun i _ => .int i) h (by rw [List.length_map]; exact hl)
theorem uncut {X : Addr → Prop} {H : Hp} : Same (cutH X H) H := fun b o h => (cut_of h).2

theorem names_short (nm : Str) (h : nm ∈ names7) : nm.length ≤ 3000 := by
  have : names7.all (fun x => decide (x.length ≤ 3000)) = true := by decide +kernel
  exact of_decide_eq_true (List.all_eq_true.mp this nm h)
theorem cells_len {n : Int} (n2 : 2 ≤ n) (n9 : n ≤ 9) (nm : Str) : (n ^ arity nm).toNat ≤ 81 := by
  have a2 : arity nm ≤ 2 := by unfold arity; split; walk_at "om"; split <;> walk_at "om"
  have h : arity nm = 0 ∨ arity nm = 1 ∨ arity nm = 2 := by walk_at "om"
  rcases h with h | h | h <;> rw [h]
  · rw [Int.pow_zero]; decide
  · rw [Int.pow_one]; walk_at "om"
  · have : n = 2 ∨ n = 3 ∨ n = 4 ∨ n = 5 ∨ n = 6 ∨ n = 7 ∨ n = 8 ∨ n = 9 := by walk_at "om"
    rcases this with h | h | h | h | h | h | h | h <;> rw [h] <;> decide


noncomputable def spParts : Sp := fun vs H Q _ => ∃ (c : Int) (sz : Addr) (ns : List Nat), vs = [.int c, .ref sz] ∧ H sz = some (.lst (ns.map nV)) ∧ ns.length ≤ 100 ∧ (∀ n ∈ ns, 1 ≤ n ∧ n ≤ 10000000) ∧ ∀ (l : Addr) (fs : List Nat) (H' : Hp), Same H H' → H' l = some (.lst (fs.map nV)) → fs.length = ns.length → (∀ (i n f : Nat), ns[i]? = some n → fs[i]? = some f → f < n) → Q (.ref l) H'
noncomputable def sgn (c : Nat) : Str := ⟨#[c]⟩
noncomputable def Code (c : Nat) : Prop := 97 ≤ c ∧ c ≤ 122
theorem sgn_ltr {c : Nat} (h : Code c) : Ltr (sgn c) := ⟨rfl, fun x hx => by
  have e : x = c := by simpa [sgn] using hx
  rw [e]
  exact h⟩
noncomputable def spLetters : Sp := fun vs H Q _ => ∃ (l : Addr) (fs : List Nat) (m : Nat), vs = [.ref l, nV m] ∧ H l = some (.lst (fs.map nV)) ∧ m ≤ fs.length ∧ m ≤ 6 ∧ ∀ (lt : Addr) (cs : List Nat) (H' : Hp), Same H H' → H' lt = some (.lst (cs.map fun c => V.str (sgn c))) → cs.length = m → (∀ c ∈ cs, Code c) → Q (.ref lt) H'
noncomputable def spSaying : Nat → Sp
  | 0 => fun _ _ _ _ => False
  | j + 1 => fun vs H Q _ => ∃ (l lt : Addr) (fs : List Nat) (a dd : Nat) (L : List Str), vs = [.ref l, nV a, nV dd, .ref lt] ∧ H l = some (.lst (fs.map nV)) ∧ H lt = some (.lst (L.map V.str)) ∧ 1 ≤ L.length ∧ L.length ≤ 6 ∧ dd ≤ j ∧ dd ≤ 4 ∧ fs.length ≤ 1000 ∧ (a + 2) * 2 ^ dd ≤ fs.length + 1 ∧ ∀ v s H', Same H H' → IsSy H' s v → GS L s → s.dp ≤ dd → Q v H'
noncomputable def names8 : List (Str × Nat) := [("and", 2), ("or", 2), ("then", 2), ("with", 2), ("not", 1), ("false", 0), ("true", 0), ("then", 2)]
theorem names8_all : (names8.all fun p => decide (p.1 ∈ names7) && decide (arity p.1 = p.2)) = true := by decide +kernel
theorem names8_at {i : Nat} {p : Str × Nat} (h : names8[i]? = some p) : p.1 ∈ names7 ∧ arity p.1 = p.2 := by
  have := List.all_eq_true.mp names8_all p (List.mem_of_getElem? h)
  rw [Bool.and_eq_true] at this
  exact ⟨of_decide_eq_true this.1, of_decide_eq_true this.2⟩
theorem at_nV {xs : List Nat} {i : Nat} (hi : i < xs.length) : atI (xs.map nV) (i : Int) = some (nV (xs.getD i 0)) := by
  refine atI_nat ?_
  rw [List.getElem?_map, List.getElem?_eq_getElem hi, List.getD_eq_getElem?_getD, List.getElem?_eq_getElem hi]
  rfl
theorem at_map' {α : Type} {f : α → V} {xs : List α} {i : Nat} {x : α} (h : xs[i]? = some x) : atI (xs.map f) (i : Int) = some (f x) := atI_nat (by rw [List.getElem?_map, h]; rfl)

theorem lt_snoc {ns fs : List Nat} {n v : Nat} (h : ∀ (j n f : Nat), ns[j]? = some n → fs[j]? = some f → f < n) (hi : ns[fs.length]? = some n) (hv : v < n) : ∀ (j n f : Nat), ns[j]? = some n → (fs ++ [v])[j]? = some f → f < n := fun j n' f h1 h2 => by
  by_cases hj : j < fs.length
  · rw [List.getElem?_append_left hj] at h2
    exact h j n' f h1 h2
  · rw [List.getElem?_append_right (by walk_at "om")] at h2
    have e : j - fs.length = 0 := by
      cases hz : j - fs.length with
      | zero => rfl
      | succ z => rw [hz] at h2; simp at h2
    have ej : j = fs.length := by walk_at "om"
    rw [ej, hi] at h1
    rw [e] at h2
    have e1 : v = f := by simpa using h2
    have e2 := Option.some.inj h1
    walk_at "om"
noncomputable def alpha : Str := "abcdefghijklmnopqrstuvwxyz"
noncomputable def AL : List Nat := (List.range 26).map (97 + ·)
theorem alpha_codes : alpha.cps.toList = AL := by decide +kernel
theorem free_letter {cs : List Nat} (hl : cs.length < 26) : ∃ c ∈ AL, c ∉ cs := by
  refine Classical.byContradiction fun hn => ?_
  have all : ∀ i, i < 26 → 97 + i ∈ cs := fun i hi => Classical.byContradiction fun z => hn ⟨97 + i, List.mem_map.mpr ⟨i, List.mem_range.mpr hi, rfl⟩, z⟩
  have nd : ((List.range 26).map fun i => cs.idxOf (97 + i)).Nodup := by
    unfold List.Nodup
    rw [List.pairwise_map]
    refine List.Pairwise.imp_of_mem (fun {a b} ha hb hab he => ?_) (List.nodup_range (n := 26))
    have h1 := List.idxOf_lt_length_of_mem (all a (List.mem_range.mp ha))
    have h2 := List.idxOf_lt_length_of_mem (all b (List.mem_range.mp hb))
    have g1 := List.getElem_idxOf h1
    have g2 := List.getElem_idxOf h2
    have : cs[cs.idxOf (97 + a)] = cs[cs.idxOf (97 + b)] := by congr 1
    walk_at "om"
  have := Tn.nodup_len cs.length _ nd fun x hx => by
    obtain ⟨i, hi, rfl⟩ := List.mem_map.mp hx
    exact List.idxOf_lt_length_of_mem (all i (List.mem_range.mp hi))
  rw [List.length_map, List.length_range] at this
  walk_at "om"
theorem sgn_inj {a b : Nat} (h : sgn a = sgn b) : a = b := by
  have : (#[a] : Array Nat) = #[b] := by
    have := congrArg Str.cps h
    exact this
  simpa using this
theorem in_sgn (c : Nat) (cs : List Nat) : inV (.str (sgn c)) (cs.map fun c => V.str (sgn c)) = decide (c ∈ cs) := by
  induction cs with
  | nil => rfl
  | cons w cs ih =>
    unfold inV at ih ⊢
    rw [List.map_cons, List.any_cons, ih]
    have e : eqV (.str (sgn w)) (.str (sgn c)) = decide (c = w) := by
      by_cases h : c = w
      · rw [h]
        simp [eqV]
      · rw [decide_eq_false h]
        simp [eqV]
        exact fun z => h (sgn_inj z).symm
    rw [e, ← Bool.decide_or]
    exact decide_eq_decide.mpr List.mem_cons.symm
theorem flat_sgn (cs : List Nat) : (cs.map fun c => V.str (sgn c)).all flatV = true := by
  rw [List.all_map, List.all_eq_true]
  intro i _
  rfl

theorem div_in {t b : Int} (hb : 1 ≤ b) (h0 : 0 ≤ t) (h1 : t ≤ b) : U (Rat.divInt t b) := by
  refine ⟨(Rat.divInt_nonneg_iff_of_pos_right (by walk_at "om")).mpr h0, ?_⟩
  have hb0 : (0 : Rat) < (b : Rat) := Rat.intCast_pos.mpr (by walk_at "om")
  have e : Rat.divInt t b * (b : Rat) = (t : Rat) := by
    rw [Rat.divInt_eq_div]
    exact Rat.div_mul_cancel (by grind)
  have ht : (t : Rat) ≤ (b : Rat) := Rat.intCast_le_intCast.mpr h1
  by_cases y : 1 < Rat.divInt t b
  · have := Rat.mul_lt_mul_of_pos_right y hb0
    grind
  · exact Rat.not_lt.mp y

theorem cut_ints {f : Int → V} (ns : List Int) (lo hi : Option Int) : ∃ cs : List Int, cutV (ns.map f) lo hi = cs.map f ∧ cs.length ≤ ns.length := by
  unfold cutV
  refine ⟨(ns.drop (HT.sIx (ns.map f).length 0 lo)).take (HT.sIx (ns.map f).length (ns.map f).length hi - HT.sIx (ns.map f).length 0 lo), ?_, ?_⟩
  · rw [← List.map_drop, ← List.map_take]
  · rw [List.length_take, List.length_drop]
    walk_at "om"
theorem cut_from {fs : List Nat} {k : Nat} (h : k ≤ fs.length) : cutV (fs.map nV) (some (k : Int)) none = (fs.drop k).map nV := by
  unfold cutV
  rw [HT.sIx_nat, HT.sIx_none, List.length_map, show min k fs.length = k by walk_at "om", ← List.map_drop, List.take_of_length_le]
  rw [List.length_map, List.length_drop]
  walk_at "om"
theorem rep_nV (n k : Nat) : (List.replicate n [nV k]).flatten = (List.replicate n k).map nV := by
  induction n with
  | zero => rfl
  | succ n ih =>
    rw [List.replicate_succ, List.flatten_cons, ih, List.replicate_succ, List.map_cons]
    rfl
theorem SqT_putD {K : PySem.W.Frag} {H : Hp} {a D : Addr} {xs : List V} {kvs : List (Key × V)} {o : HO} (h : SqT K H a xs) (hD : H D = some (.dK kvs)) : SqT K (upd H D o) a xs := by
  rcases h with (h | ⟨u, h⟩) | h
  · exact .inl (.inl (by rw [upd_ne (ne_of h hD (by intro z; cases z))]; exact h))
  · exact .inl (.inr ⟨u, by rw [upd_ne (ne_of h hD (by intro z; cases z))]; exact h⟩)
  · exact .inr h
theorem FR_putD {K : PySem.W.Frag} {H : Hp} {v : V} {r : Rat} {n : Nat} {D : Addr} {kvs : List (Key × V)} {o : HO} (h : FR K H v r n) (hD : H D = some (.dK kvs)) : FR K (upd H D o) v r n := by
  obtain ⟨p, e, h1, h2, h3⟩ := h
  exact ⟨p, e, SqT_putD h1 hD, h2, h3⟩
theorem putK_len (kvs : List (Key × V)) (k : Key) (v : V) : (putK kvs k v).length ≤ kvs.length + 1 := by
  unfold putK
  split
  · rw [List.length_map]
    walk_at "om"
  · rw [List.length_append]
    exact Nat.le_refl _
open Classical in
theorem c_false (k : Str) : connR k "false" [] = 0 := by unfold connR; rw [if_pos rfl]
theorem c_not (k : Str) (r : Rat) : connR k "not" [r] = thenR k r 0 := by
  unfold connR
  rw [if_neg (by decide +kernel), if_neg (by decide +kernel), if_pos rfl]
  rfl
theorem c_then (k : Str) (r s : Rat) : connR k "then" [r, s] = thenR k r s := by
  unfold connR
  rw [if_neg (by decide +kernel), if_neg (by decide +kernel), if_neg (by decide +kernel), if_pos rfl]
  rfl
theorem c_with (k : Str) (r s : Rat) : connR k "with" [r, s] = withR k r s := by
  unfold connR
  rw [if_neg (by decide +kernel), if_neg (by decide +kernel), if_neg (by decide +kernel), if_neg (by decide +kernel), if_pos rfl]
  rfl
theorem c_and (k : Str) (r s : Rat) : connR k "and" [r, s] = lessR r s := by
  unfold connR
  rw [if_neg (by decide +kernel), if_neg (by decide +kernel), if_neg (by decide +kernel), if_neg (by decide +kernel), if_neg (by decide +kernel), if_neg (by decide +kernel)]
  rfl
theorem eqR (r s : Rat) : eqVs [.int r.num, .int (r.den : Int)] [.int s.num, .int (s.den : Int)] = decide (r = s) := by
  by_cases h : r = s
  · rw [h, decide_eq_true rfl, eqVs_self rfl]
  · rw [decide_eq_false h]
    cases e : eqVs [.int r.num, .int (r.den : Int)] [.int s.num, .int (s.den : Int)] with
    | false => rfl
    | true =>
      exfalso
      simp [eqVs, eqV] at e
      exact h (Rat.ext e.1 (by walk_at "om"))
theorem eqRT {r s : Rat} (h : r = s) : eqVs [.int r.num, .int (r.den : Int)] [.int s.num, .int (s.den : Int)] = true := by rw [eqR, decide_eq_true h]
theorem neT {r s : Rat} {A B : Prop} (h : r = s) (x : B) : if (!eqVs [.int r.num, .int (r.den : Int)] [.int s.num, .int (s.den : Int)]) = true then A else B := by
  rw [eqRT h]
  exact iteF x
theorem c_or (k : Str) (r s : Rat) : connR k "or" [r, s] = greatR r s := by
  unfold connR
  rw [if_neg (by decide +kernel), if_neg (by decide +kernel), if_neg (by decide +kernel), if_neg (by decide +kernel), if_neg (by decide +kernel), if_pos rfl]
  rfl
theorem c_true (k : Str) : connR k "true" [] = 1 := by unfold connR; rw [if_neg (by decide +kernel), if_pos rfl]
theorem iteNT {c A B : Prop} [Decidable c] (hc : ¬ c) (h : A) : if (!decide c) = true then A else B := by
  rw [decide_eq_false hc]
  exact iteT h
theorem iteNF {c A B : Prop} [Decidable c] (hc : c) (h : B) : if (!decide c) = true then A else B := by
  rw [decide_eq_true hc]
  exact iteF h
theorem FR1 {K : PySem.W.Frag} {H : Hp} {p : Addr} : FR K (upd H p (.tup [.int 1, .int 1])) (.ref p) 1 1 := by
  have h : FR K (upd H p (tupR 1)) (.ref p) 1 1 := FR.new (by unfold Sz; decide) (by unfold Sz; decide)
  exact h
theorem FR0 {K : PySem.W.Frag} {H : Hp} {p : Addr} : FR K (upd H p (.tup [.int 0, .int 1])) (.ref p) 0 1 := by
  have h : FR K (upd H p (tupR 0)) (.ref p) 0 1 := FR.new (by unfold Sz; decide) (by unfold Sz; decide)
  exact h
theorem t_no {k : Str} {r s : Rat} (h : ¬ s < r) : thenR k r s = 1 := by unfold thenR; rw [if_neg h]
theorem t_least {r s : Rat} (h : s < r) : thenR "least" r s = s := by unfold thenR; rw [if_pos h, if_pos rfl]
theorem t_cut {r s : Rat} (h : s < r) : thenR "cut" r s = 1 - r + s := by unfold thenR; rw [if_pos h, if_neg (by decide +kernel), if_pos rfl]
theorem t_times {r s : Rat} (h : s < r) : thenR "times" r s = s / r := by unfold thenR; rw [if_pos h, if_neg (by decide +kernel), if_neg (by decide +kernel)]
theorem w_least (r s : Rat) : withR "least" r s = lessR r s := by unfold withR; rw [if_pos rfl]
theorem w_cut (r s : Rat) : withR "cut" r s = greatR (r + s - 1) 0 := by unfold withR; rw [if_neg (by decide +kernel), if_pos rfl]
theorem w_times (r s : Rat) : withR "times" r s = r * s := by unfold withR; rw [if_neg (by decide +kernel), if_neg (by decide +kernel)]
theorem div_mul' {t b : Int} (hb : b ≠ 0) : Rat.divInt t b * (b : Rat) = (t : Rat) := by
  rw [Rat.divInt_eq_div]
  exact Rat.div_mul_cancel (by intro z; exact hb (Rat.intCast_inj.mp z))
theorem can_eq {x y b : Rat} (hb : b ≠ 0) (h : x * b = y * b) : x = y := by
  have h1 : x * b / b = y * b / b := by rw [h]
  rwa [Rat.mul_div_cancel hb, Rat.mul_div_cancel hb] at h1
theorem div_less {X B : Int} (hB : B ≠ 0) : Rat.divInt (X - B) B = Rat.divInt X B - 1 := by
  have hb : (B : Rat) ≠ 0 := fun z => hB (Rat.intCast_inj.mp z)
  refine can_eq hb ?_
  have h1 := div_mul' (t := X - B) hB
  have h2 := div_mul' (t := X) hB
  rw [Rat.intCast_sub] at h1
  grind
theorem div_from {X B : Int} (hB : B ≠ 0) : Rat.divInt (B - X) B = 1 - Rat.divInt X B := by
  have hb : (B : Rat) ≠ 0 := fun z => hB (Rat.intCast_inj.mp z)
  refine can_eq hb ?_
  have h1 := div_mul' (t := B - X) hB
  have h2 := div_mul' (t := X) hB
  rw [Rat.intCast_sub] at h1
  grind
theorem cutW (r s : Rat) : Rat.divInt (if r.num * s.den + s.num * r.den - r.den * s.den > 0 then r.num * s.den + s.num * r.den - r.den * s.den else 0) (r.den * s.den) = greatR (r + s - 1) 0 := by
  have hB : 0 < (r.den : Int) * s.den := Int.mul_pos (Fr.denp r) (Fr.denp s)
  rw [← Fr.ratadd r s, ← div_less (by walk_at "om")]
  generalize r.num * s.den + s.num * r.den - r.den * s.den = t
  generalize (r.den : Int) * s.den = B at hB
  have h := Rat.divInt_nonneg_iff_of_pos_right (a := t) hB
  unfold greatR
  by_cases h1 : t > 0
  · rw [if_pos h1, if_neg (Rat.not_lt.mpr (h.mpr (by walk_at "om")))]
  · rw [if_neg h1, Rat.zero_divInt]
    by_cases h2 : Rat.divInt t B < 0
    · rw [if_pos h2]
    · rw [if_neg h2]
      have h3 := h.mp (Rat.not_lt.mp h2)
      rw [show t = 0 by walk_at "om", Rat.zero_divInt]
theorem cutT (r s : Rat) : Rat.divInt (r.den * s.den - r.num * s.den + s.num * r.den) (r.den * s.den) = 1 - r + s := by
  have hB : 0 < (r.den : Int) * s.den := Int.mul_pos (Fr.denp r) (Fr.denp s)
  rw [show (r.den : Int) * s.den - r.num * s.den + s.num * r.den = r.den * s.den - (r.num * s.den - s.num * r.den) by walk_at "om", div_from (by walk_at "om"), Fr.ratsub]
  grind
theorem num_pos {r : Rat} (h : 0 < r) : 0 < r.num := by
  have := (Rat.lt_iff 0 r).mp h
  simpa using this
theorem pos_of {r s : Rat} (s0 : 0 ≤ s) (h : s < r) : 0 < r.num := num_pos (by grind)
theorem _root_.L4.IsGr.sub {K : PySem.W.Frag} {H : Hp} {g : Addr} {ρ : Str → Rat} {L M : List Str} (h : IsGr K H g ρ L) (s : ∀ x ∈ M, x ∈ L) : IsGr K H g ρ M := by
  obtain ⟨⟨kvs, h1, h2⟩, u⟩ := h
  exact ⟨⟨kvs, h1, fun x hx => h2 x (s x hx)⟩, fun x hx => u x (s x hx)⟩
noncomputable def spLaw (K : PySem.W.Frag) : Sp := fun vs H Q _ => ∃ (a : Addr) (ns : List Int), vs = [.ref a] ∧ SqL K H a (ns.map V.int) ∧ ns.length ≤ 63 ∧ ∀ H', Q (.bl true) H'
theorem cut_upto {L : List Str} {k : Nat} : cutV (L.map V.str) none (some (k : Int)) = (L.take k).map V.str := by
  unfold cutV
  rw [HT.sIx_none, HT.sIx_nat, List.length_map, List.drop_zero, Nat.sub_zero, ← List.map_take]
  congr 1
  by_cases h : k ≤ L.length
  · rw [show min k L.length = k by walk_at "om"]
  · rw [show min k L.length = L.length by walk_at "om", List.take_of_length_le (Nat.le_refl _), List.take_of_length_le (by walk_at "om")]

noncomputable def spChainQ : Sp := fun vs H Q _ => ∃ (k : Str) (n : Int), vs = [.str k, .int n] ∧ Kc k ∧ 2 ≤ n ∧ n ≤ 9 ∧ ∀ v H', Same H H' → IsTh H' (chainTh k n) v → Q v H'
theorem Kc.kd {k : Str} (h : Kc k) : Kd k := by
  rcases h with h | h
  · exact .inl h
  · exact .inr (.inl h)
theorem Kc.nt {k : Str} (h : Kc k) : k ≠ "times" := by
  rcases h with h | h <;> rw [h] <;> decide +kernel
noncomputable def keyOf (nm : Str) : List Key := [Sum.inr nm, Sum.inl (arity nm : Nat)]
noncomputable def IsCells (H : Hp) (d : Addr) (k : Str) (n : Int) : Prop := ∃ kvs : List (List Key × V), H d = some (.dT kvs) ∧ ∀ nm ∈ names7, ∃ w, valV kvs (keyOf nm) = some (.ref w) ∧ H w = some (.tup ((cellsR k n nm (arity nm)).map V.int))
theorem IsCells.same {H H' : Hp} {d : Addr} {k : Str} {n : Int} (h : IsCells H d k n) (s : Same H H') : IsCells H' d k n := by
  obtain ⟨kvs, h1, h2⟩ := h
  refine ⟨kvs, s _ _ h1, fun nm hm => ?_⟩
  obtain ⟨w, e, hw⟩ := h2 nm hm
  exact ⟨w, e, s _ _ hw⟩
noncomputable def HasL (H : Hp) (g : Addr) (L : List Str) : Prop := ∃ kvs, H g = some (.dK kvs) ∧ ∀ x ∈ L, (valV kvs (Sum.inr x)).isSome = true
theorem _root_.L4.IsGr.has {K : PySem.W.Frag} {H : Hp} {g : Addr} {ρ : Str → Rat} {L : List Str} (h : IsGr K H g ρ L) : HasL H g L := by
  obtain ⟨⟨kvs, h1, h2⟩, _⟩ := h
  refine ⟨kvs, h1, fun x hx => ?_⟩
  obtain ⟨v, e, _⟩ := h2 x hx
  rw [e]
  rfl
noncomputable def IsGi (H : Hp) (g : Addr) (γ : Str → Int) (L : List Str) (n : Int) : Prop := ∃ kvs, H g = some (.dK kvs) ∧ ∀ x ∈ L, valV kvs (Sum.inr x) = some (.int (γ x)) ∧ 0 ≤ γ x ∧ γ x < n
theorem IsGi.same {H H' : Hp} {g : Addr} {γ : Str → Int} {L : List Str} {n : Int} (h : IsGi H g γ L n) (s : Same H H') : IsGi H' g γ L n := by
  obtain ⟨kvs, h1, h2⟩ := h
  exact ⟨kvs, s _ _ h1, h2⟩
theorem IsGi.has {H : Hp} {g : Addr} {γ : Str → Int} {L : List Str} {n : Int} (h : IsGi H g γ L n) : HasL H g L := by
  obtain ⟨kvs, h1, h2⟩ := h
  refine ⟨kvs, h1, fun x hx => ?_⟩
  rw [(h2 x hx).1]
  rfl
noncomputable def spChkN2 (C : Addr) : Sp := fun vs H Q _ => ∃ (sh l : Addr) (L : List Str) (ps : List (V × Sy)), vs = [.ref sh, .ref l] ∧ (sh = C ∨ ∃ k n, IsCells H sh k n) ∧ H l = some (.lst (ps.map Prod.fst)) ∧ ps.length ≤ 63 ∧ Says H L ps ∧ Ls L ∧ ∀ H', Same H H' → Q .non H'
noncomputable def spChkL2 : Sp := fun vs H Q _ => ∃ (l g : Addr) (L : List Str) (ps : List (V × Sy)), vs = [.ref l, .ref g] ∧ H l = some (.lst (ps.map Prod.fst)) ∧ ps.length ≤ 63 ∧ Says H L ps ∧ Ls L ∧ HasL H g L ∧ ∀ H', Same H H' → Q .non H'
noncomputable def spCBN : Sp := fun vs H Q _ => ∃ (v : V) (k : Str) (n : Int), vs = [v] ∧ IsTh H (chainTh k n) v ∧ ∀ d H', Same H H' → IsCells H' d k n → Q (.ref d) H'
noncomputable def plc (n : Int) (gs : List Int) : Int := gs.foldl (fun p g => p * n + g) 0
theorem plc_snoc (n : Int) (gs : List Int) (g : Int) : plc n (gs ++ [g]) = plc n gs * n + g := by
  unfold plc
  rw [List.foldl_append]
  rfl
noncomputable def gi (k : Str) (n : Int) (γ : Str → Int) : Sy → Int
  | .ltr x => γ x
  | .n0 nm => cellR k n nm (arity nm) (plc n [])
  | .n1 nm a => cellR k n nm (arity nm) (plc n [gi k n γ a])
  | .n2 nm a b => cellR k n nm (arity nm) (plc n [gi k n γ a, gi k n γ b])
theorem gi_node {k : Str} {n : Int} {γ : Str → Int} {s : Sy} (hs : s.isL = false) : gi k n γ s = cellR k n s.nm (arity s.nm) (plc n (s.ps.map (gi k n γ))) := by
  cases s with
  | ltr x => cases hs
  | _ => rfl
theorem gi_letter {k : Str} {n : Int} {γ : Str → Int} {s : Sy} (hs : s.isL = true) : gi k n γ s = γ s.nm := by
  cases s with
  | ltr x => rfl
  | _ => cases hs
noncomputable def spGW : Nat → Sp
  | 0 => fun _ _ _ _ => False
  | j + 1 => fun vs H Q _ => ∃ (d g : Addr) (v : V) (s : Sy) (L : List Str) (γ : Str → Int) (k : Str) (n : Int), vs = [.ref d, .int n, v, .ref g] ∧ Kc k ∧ 2 ≤ n ∧ n ≤ 9 ∧ IsCells H d k n ∧ IsSy H s v ∧ GS L s ∧ Ls L ∧ IsGi H g γ L n ∧ s.dp ≤ j ∧ ∀ H', Same H H' → Q (.int (gi k n γ s)) H'
noncomputable def spGrade : Sp := fun vs H Q _ => ∃ (tv v : V) (s : Sy) (g : Addr) (L : List Str) (γ : Str → Int) (k : Str) (n : Int), vs = [tv, v, .ref g] ∧ IsTh H (chainTh k n) tv ∧ Kc k ∧ 2 ≤ n ∧ n ≤ 9 ∧ IsSy H s v ∧ GS L s ∧ Ls L ∧ IsGi H g γ L n ∧ s.dp ≤ 5 ∧ ∀ H', Same H H' → Q (.int (gi k n γ s)) H'
theorem icast_eq {a b : Int} (h : (a : Rat) = (b : Rat)) : a = b := Rat.intCast_inj.mp h
theorem num_mul {z t : Int} (ht : 0 < t) : ((Rat.divInt z t).num * t) / ((Rat.divInt z t).den : Int) = z := by
  have h1 := div_mul' (t := z) (b := t) (by walk_at "om")
  have h2 := div_mul' (t := (Rat.divInt z t).num) (b := ((Rat.divInt z t).den : Int)) (Fr.den0 _)
  rw [Fr.ratself] at h2
  have h3 : (Rat.divInt z t).num * t = z * ((Rat.divInt z t).den : Int) := by
    apply icast_eq
    rw [Rat.intCast_mul, Rat.intCast_mul, ← h1, ← h2]
    grind
  rw [h3]
  exact Int.mul_ediv_cancel _ (Fr.den0 _)
theorem one_div' {t : Int} (ht : 0 < t) : (1 : Rat) = Rat.divInt t t := by
  refine can_eq (b := (t : Rat)) (fun z => by have := icast_eq (a := t) (b := 0) z; walk_at "om") ?_
  rw [div_mul' (by walk_at "om"), Rat.one_mul]
theorem zero_div' {t : Int} : (0 : Rat) = Rat.divInt 0 t := (Rat.zero_divInt t).symm
theorem then_div {a b t : Int} (ht : 0 < t) : 1 - Rat.divInt a t + Rat.divInt b t = Rat.divInt (t - a + b) t := by
  have hb : (t : Rat) ≠ 0 := fun z => by have := icast_eq (a := t) (b := 0) z; walk_at "om"
  refine can_eq hb ?_
  have h1 := div_mul' (t := a) (b := t) (by walk_at "om")
  have h2 := div_mul' (t := b) (b := t) (by walk_at "om")
  rw [div_mul' (by walk_at "om"), Rat.intCast_add, Rat.intCast_sub]
  grind
theorem with_div {a b t : Int} (ht : 0 < t) : Rat.divInt a t + Rat.divInt b t - 1 = Rat.divInt (a + b - t) t := by
  have hb : (t : Rat) ≠ 0 := fun z => by have := icast_eq (a := t) (b := 0) z; walk_at "om"
  refine can_eq hb ?_
  have h1 := div_mul' (t := a) (b := t) (by walk_at "om")
  have h2 := div_mul' (t := b) (b := t) (by walk_at "om")
  rw [div_mul' (by walk_at "om"), Rat.intCast_sub, Rat.intCast_add]
  grind
theorem then_mult {k : Str} {a b t : Int} (kc : Kc k) (ht : 0 < t) : ∃ z, thenR k (Rat.divInt a t) (Rat.divInt b t) = Rat.divInt z t := by
  unfold thenR
  split
  · rcases kc with rfl | rfl
    · rw [if_pos rfl]
      exact ⟨b, rfl⟩
    · rw [if_neg (by decide +kernel), if_pos rfl]
      exact ⟨_, then_div ht⟩
  · exact ⟨t, one_div' ht⟩
theorem less_mult {a b t : Int} : ∃ z, lessR (Rat.divInt a t) (Rat.divInt b t) = Rat.divInt z t := by
  unfold lessR
  split
  · exact ⟨b, rfl⟩
  · exact ⟨a, rfl⟩
theorem great_mult {a b t : Int} : ∃ z, greatR (Rat.divInt a t) (Rat.divInt b t) = Rat.divInt z t := by
  unfold greatR
  split
  · exact ⟨b, rfl⟩
  · exact ⟨a, rfl⟩
theorem with_mult {k : Str} {a b t : Int} (kc : Kc k) (ht : 0 < t) : ∃ z, withR k (Rat.divInt a t) (Rat.divInt b t) = Rat.divInt z t := by
  unfold withR
  rcases kc with rfl | rfl
  · rw [if_pos rfl]
    exact less_mult
  · rw [if_neg (by decide +kernel), if_pos rfl, with_div ht, zero_div' (t := t)]
    exact great_mult
theorem conn_mult {k nm : Str} {gs : List Int} {t : Int} (kc : Kc k) (ht : 0 < t) (hm : nm ∈ names7) (hl : gs.length = arity nm) : ∃ z, connR k nm (gs.map fun g => Rat.divInt g t) = Rat.divInt z t := by
  unfold names7 at hm
  simp only [List.mem_cons, List.not_mem_nil, or_false] at hm
  rcases hm with rfl | rfl | rfl | rfl | rfl | rfl | rfl
  · rw [show arity "and" = 2 by decide +kernel] at hl
    match gs, hl with
    | [a, b], _ =>
      show ∃ z, connR k "and" [Rat.divInt a t, Rat.divInt b t] = _
      rw [c_and]
      exact less_mult
  · rw [show arity "or" = 2 by decide +kernel] at hl
    match gs, hl with
    | [a, b], _ =>
      show ∃ z, connR k "or" [Rat.divInt a t, Rat.divInt b t] = _
      rw [c_or]
      exact great_mult
  · rw [show arity "then" = 2 by decide +kernel] at hl
    match gs, hl with
    | [a, b], _ =>
      show ∃ z, connR k "then" [Rat.divInt a t, Rat.divInt b t] = _
      rw [c_then]
      exact then_mult kc ht
  · rw [show arity "with" = 2 by decide +kernel] at hl
    match gs, hl with
    | [a, b], _ =>
      show ∃ z, connR k "with" [Rat.divInt a t, Rat.divInt b t] = _
      rw [c_with]
      exact with_mult kc ht
  · rw [show arity "not" = 1 by decide +kernel] at hl
    match gs, hl with
    | [a], _ =>
      show ∃ z, connR k "not" [Rat.divInt a t] = _
      rw [c_not, zero_div' (t := t)]
      exact then_mult kc ht
  · rw [show arity "false" = 0 by decide +kernel] at hl
    match gs, hl with
    | [], _ => exact ⟨0, (c_false k).trans zero_div'⟩
  · rw [show arity "true" = 0 by decide +kernel] at hl
    match gs, hl with
    | [], _ => exact ⟨t, (c_true k).trans (one_div' ht)⟩
theorem ga_plc {n : Int} (n2 : 2 ≤ n) (n9 : n ≤ 9) {gs : List Int} (hl : gs.length ≤ 2) (hg : ∀ g ∈ gs, 0 ≤ g ∧ g < n) : gaR (plc n gs) n gs.length = gs ∧ 0 ≤ plc n gs ∧ plc n gs < n ^ gs.length := by
  have hn : n = 2 ∨ n = 3 ∨ n = 4 ∨ n = 5 ∨ n = 6 ∨ n = 7 ∨ n = 8 ∨ n = 9 := by walk_at "om"
  match gs, hl, hg with
  | [], _, _ => exact ⟨rfl, Int.le_refl _, by show (0 : Int) < n ^ 0; rw [Int.pow_zero]; decide⟩
  | [a], _, hg =>
    obtain ⟨a0, a1⟩ := hg a (by simp)
    have e : plc n [a] = a := by show 0 * n + a = a; walk_at "om"
    refine ⟨?_, by walk_at "om", by rw [e]; show a < n ^ 1; rw [Int.pow_one]; exact a1⟩
    show [] ++ [plc n [a] % n] = [a]
    rw [e, Int.emod_eq_of_lt a0 a1]
    rfl
  | [a, b], _, hg =>
    obtain ⟨a0, a1⟩ := hg a (by simp)
    obtain ⟨b0, b1⟩ := hg b (by simp)
    have e : plc n [a, b] = a * n + b := by
      show (0 * n + a) * n + b = a * n + b
      rw [Int.zero_mul, Int.zero_add]
    have e1 : (a * n + b) % n = b := by rcases hn with rfl | rfl | rfl | rfl | rfl | rfl | rfl | rfl <;> walk_at "om"
    have e2 : (a * n + b) / n = a := by rcases hn with rfl | rfl | rfl | rfl | rfl | rfl | rfl | rfl <;> walk_at "om"
    refine ⟨?_, ?_, ?_⟩
    · show ([] ++ [plc n [a, b] / n % n]) ++ [plc n [a, b] % n] = [a, b]
      rw [e, e1, e2, Int.emod_eq_of_lt a0 a1]
      rfl
    · rw [e]
      rcases hn with rfl | rfl | rfl | rfl | rfl | rfl | rfl | rfl <;> walk_at "om"
    · rw [e]
      show a * n + b < n ^ 2
      rcases hn with rfl | rfl | rfl | rfl | rfl | rfl | rfl | rfl <;> (simp only [Int.reducePow]; walk_at "om")
theorem cell_gr {k nm : Str} {n : Int} {gs : List Int} (kc : Kc k) (n2 : 2 ≤ n) (n9 : n ≤ 9) (hm : nm ∈ names7) (hl : gs.length = arity nm) (hg : ∀ g ∈ gs, 0 ≤ g ∧ g < n) :
    0 ≤ cellR k n nm (arity nm) (plc n gs) ∧ cellR k n nm (arity nm) (plc n gs) < n ∧ Rat.divInt (cellR k n nm (arity nm) (plc n gs)) (n - 1) = connR k nm (gs.map fun g => Rat.divInt g (n - 1)) := by
  have a2 := arity2 nm
  obtain ⟨e, _, _⟩ := ga_plc n2 n9 (by walk_at "om") hg
  rw [hl] at e
  obtain ⟨z, hz⟩ := conn_mult (t := n - 1) kc (by walk_at "om") hm hl
  have hc : cellR k n nm (arity nm) (plc n gs) = z := by
    unfold cellR
    rw [e, hz]
    exact num_mul (by walk_at "om")
  have hu := conn_u (k := k) (rs := gs.map fun g => Rat.divInt g (n - 1)) hm (by rw [List.length_map]; exact hl) (fun r hr => by
    obtain ⟨g, hg', rfl⟩ := List.mem_map.mp hr
    obtain ⟨g0, g1⟩ := hg g hg'
    exact div_in (by walk_at "om") g0 (by walk_at "om"))
  rw [hz] at hu
  rw [hc]
  refine ⟨(Rat.divInt_nonneg_iff_of_pos_right (by walk_at "om")).mp hu.1, ?_, hz.symm⟩
  have h1 := div_mul' (t := z) (b := n - 1) (by walk_at "om")
  have hb0 : (0 : Rat) < ((n - 1 : Int) : Rat) := Rat.intCast_pos.mpr (by walk_at "om")
  have h2 := Rat.mul_le_mul_of_nonneg_right hu.2 (Rat.le_of_lt hb0)
  rw [h1, Rat.one_mul] at h2
  have h3 : z ≤ n - 1 := Rat.intCast_le_intCast.mp h2
  walk_at "om"
theorem gi_gr {k : Str} {n : Int} {γ : Str → Int} {L : List Str} (kc : Kc k) (n2 : 2 ≤ n) (n9 : n ≤ 9) (hγ : ∀ x ∈ L, 0 ≤ γ x ∧ γ x < n) : ∀ {s : Sy}, GS L s → 0 ≤ gi k n γ s ∧ gi k n γ s < n ∧ Rat.divInt (gi k n γ s) (n - 1) = gr k (fun x => Rat.divInt (γ x) (n - 1)) s
  | .ltr x, h => ⟨(hγ x h).1, (hγ x h).2, rfl⟩
  | .n0 nm, h => cell_gr (gs := []) kc n2 n9 h.1 h.2.symm (fun g hg => by cases hg)
  | .n1 nm a, h => by
    obtain ⟨a0, a1, ae⟩ := gi_gr kc n2 n9 hγ h.2.2
    obtain ⟨h1, h2, h3⟩ := cell_gr (gs := [gi k n γ a]) kc n2 n9 h.1 h.2.1.symm (fun g hg => by rw [List.mem_singleton.mp hg]; exact ⟨a0, a1⟩)
    refine ⟨h1, h2, h3.trans ?_⟩
    show connR k nm [Rat.divInt (gi k n γ a) (n - 1)] = connR k nm [gr k _ a]
    rw [ae]
  | .n2 nm a b, h => by
    obtain ⟨a0, a1, ae⟩ := gi_gr kc n2 n9 hγ h.2.2.1
    obtain ⟨b0, b1, be⟩ := gi_gr kc n2 n9 hγ h.2.2.2
    obtain ⟨h1, h2, h3⟩ := cell_gr (gs := [gi k n γ a, gi k n γ b]) kc n2 n9 h.1 h.2.1.symm (fun g hg => by
      rcases List.mem_cons.mp hg with rfl | hg
      · exact ⟨a0, a1⟩
      · rw [List.mem_singleton.mp hg]
        exact ⟨b0, b1⟩)
    refine ⟨h1, h2, h3.trans ?_⟩
    show connR k nm [Rat.divInt (gi k n γ a) (n - 1), Rat.divInt (gi k n γ b) (n - 1)] = connR k nm [gr k _ a, gr k _ b]
    rw [ae, be]
theorem cells_at {k nm : Str} {n p : Int} {m : Nat} (h0 : 0 ≤ p) (h1 : p < n ^ m) : atI ((cellsR k n nm m).map V.int) p = some (.int (cellR k n nm m p)) := by
  obtain ⟨q, rfl⟩ : ∃ q : Nat, p = (q : Int) := ⟨p.toNat, by walk_at "om"⟩
  refine atI_nat ?_
  unfold cellsR
  rw [List.getElem?_map, List.getElem?_map, List.getElem?_range (by walk_at "om")]
  show some (V.int (cellR k n nm m (0 + (q : Int)))) = _
  rw [Int.zero_add]
theorem chain_at {H : Hp} {k : Str} {n : Int} {v : V} (h : IsTh H (chainTh k n) v) : ∃ (ta tc : Addr) (tw : V) (us : List V), v = .ref ta ∧ H ta = some (.tup [.int n, tw, .ref tc]) ∧ H tc = some (.tup us) ∧ us.length = 7 ∧ ∀ i : Nat, ∃ z : Addr × Addr, ∀ nm, names7[i]? = some nm → us[i]? = some (V.ref z.1) ∧ H z.1 = some (.tup [.str nm, .int (arity nm : Nat), .ref z.2]) ∧ H z.2 = some (.tup ((cellsR k n nm (arity nm)).map V.int)) := by
  unfold chainTh at h
  obtain ⟨ta, rfl⟩ := h.ref
  obtain ⟨xs, hta, hl, _, hi⟩ := h.get
  obtain ⟨x0, e0, t0⟩ := hi 0 _ rfl
  obtain ⟨x1, e1, t1⟩ := hi 1 _ rfl
  obtain ⟨x2, e2, t2⟩ := hi 2 _ rfl
  cases t0
  obtain ⟨tc, rfl⟩ := t2.ref
  obtain ⟨us, htc, hul, _, hu⟩ := t2.get
  have ex : xs = [.int n, x1, .ref tc] := by
    match xs, hl, e0, e1, e2 with
    | [a, b, c], _, e0, e1, e2 =>
      cases (Option.some.inj e0)
      cases (Option.some.inj e1)
      cases (Option.some.inj e2)
      rfl
  rw [ex] at hta
  refine ⟨ta, tc, x1, us, rfl, hta, htc, by rw [← hul, List.length_map]; rfl, fun i => ?_⟩
  by_cases hx : ∃ nm, names7[i]? = some nm
  · obtain ⟨nm, hnm⟩ := hx
    obtain ⟨y, ey, ty⟩ := hu i (connTh k n nm) (by rw [List.getElem?_map, hnm]; rfl)
    unfold connTh at ty
    obtain ⟨cc, rfl⟩ := ty.ref
    obtain ⟨zs, hz, hzl, _, hzi⟩ := ty.get
    obtain ⟨y0, f0, g0⟩ := hzi 0 _ rfl
    obtain ⟨y1, f1, g1⟩ := hzi 1 _ rfl
    obtain ⟨y2, f2, g2⟩ := hzi 2 _ rfl
    cases g0
    cases g1
    obtain ⟨w, rfl, hw⟩ := ints_of g2
    have ez : zs = [.str nm, .int (arity nm : Nat), .ref w] := by
      match zs, hzl, f0, f1, f2 with
      | [a, b, c], _, f0, f1, f2 =>
        cases (Option.some.inj f0)
        cases (Option.some.inj f1)
        cases (Option.some.inj f2)
        rfl
    rw [ez] at hz
    exact ⟨(cc, w), fun nm' h' => by rw [hnm] at h'; cases h'; exact ⟨ey, hz, hw⟩⟩
  · exact ⟨(0, 0), fun nm h => absurd ⟨nm, h⟩ hx⟩
theorem keys7 : (names7.map keyOf).Nodup := by decide +kernel
noncomputable def nmAt (i : Nat) : Str := names7.getD i ""
noncomputable def psOf (zf : Nat → Addr × Addr) (m : Nat) : List (List Key × V) := (List.range m).map fun i => (keyOf (nmAt i), .ref (zf i).2)
theorem psOf_snoc (zf : Nat → Addr × Addr) (m : Nat) : psOf zf (m + 1) = psOf zf m ++ [(keyOf (nmAt m), .ref (zf m).2)] := by
  unfold psOf
  rw [List.range_succ, List.map_append]
  rfl
theorem psOf_keys (zf : Nat → Addr × Addr) : (psOf zf 7).map Prod.fst = names7.map keyOf := rfl
theorem nm_at {i : Nat} (h : i < 7) : names7[i]? = some (nmAt i) := by
  unfold nmAt
  simp [List.getD, show i < names7.length from h]
noncomputable def Both (K : PySem.W.Frag) (H : Hp) (g f : Addr) (L : List Str) (t : Int) (i : Nat) : Prop := ∃ ks kf : List (Key × V), H g = some (.dK ks) ∧ H f = some (.dK kf) ∧ ks.length ≤ i ∧ kf.length ≤ i ∧ ∀ x ∈ L.take i, ∃ v z, valV ks (Sum.inr x) = some (.int z) ∧ 0 ≤ z ∧ z ≤ t ∧ valV kf (Sum.inr x) = some v ∧ FR K H v (Rat.divInt z t) 100
open Classical in
theorem Both.gr {K : PySem.W.Frag} {H : Hp} {g f : Addr} {L : List Str} {t : Int} {i : Nat} (h : Both K H g f L t i) (hi : L.length ≤ i) (ht : 1 ≤ t) : ∃ γ : Str → Int, IsGi H g γ L (t + 1) ∧ IsGr K H f (fun x => Rat.divInt (γ x) t) L := by
  obtain ⟨ks, kf, h1, h2, _, _, h3⟩ := h
  rw [List.take_of_length_le hi] at h3
  let γ : Str → Int := fun x => if h : ∃ z v, valV ks (Sum.inr x) = some (.int z) ∧ 0 ≤ z ∧ z ≤ t ∧ valV kf (Sum.inr x) = some v ∧ FR K H v (Rat.divInt z t) 100 then Classical.choose h else 0
  have hγ : ∀ x ∈ L, ∃ v, valV ks (Sum.inr x) = some (.int (γ x)) ∧ 0 ≤ γ x ∧ γ x ≤ t ∧ valV kf (Sum.inr x) = some v ∧ FR K H v (Rat.divInt (γ x) t) 100 := fun x hx => by
    have h4 : ∃ z v, valV ks (Sum.inr x) = some (.int z) ∧ 0 ≤ z ∧ z ≤ t ∧ valV kf (Sum.inr x) = some v ∧ FR K H v (Rat.divInt z t) 100 := by
      obtain ⟨v, z, h⟩ := h3 x hx
      exact ⟨z, v, h⟩
    have e : γ x = Classical.choose h4 := dif_pos h4
    rw [e]
    exact Classical.choose_spec h4
  refine ⟨γ, ⟨ks, h1, fun x hx => ?_⟩, ⟨kf, h2, fun x hx => ?_⟩, fun x hx => ?_⟩
  · obtain ⟨v, a, b, c, _⟩ := hγ x hx
    exact ⟨a, b, by walk_at "om"⟩
  · obtain ⟨v, _, _, _, d, e⟩ := hγ x hx
    exact ⟨v, d, e⟩
  · obtain ⟨v, _, b, c, _⟩ := hγ x hx
    exact div_in ht b c
theorem IsGi.sub {H : Hp} {g : Addr} {γ : Str → Int} {L M : List Str} {n : Int} (h : IsGi H g γ L n) (s : ∀ x ∈ M, x ∈ L) : IsGi H g γ M n := by
  obtain ⟨kvs, h1, h2⟩ := h
  exact ⟨kvs, h1, fun x hx => h2 x (s x hx)⟩

theorem Both.step {K : PySem.W.Frag} {H2 : Hp} {g f : Addr} {L : List Str} {t z : Int} {i : Nat} {ks kf : List (Key × V)} {x : Str} {v : V} (gf : g ≠ f) (hx : L[i]? = some x) (hk : H2 g = some (.dK (putK ks (Sum.inr x) (.int z)))) (hkf : H2 f = some (.dK kf)) (l1 : ks.length ≤ i) (l2 : kf.length ≤ i) (z0 : 0 ≤ z) (z1 : z ≤ t)
    (hd : ∀ x ∈ L.take i, ∃ v z, valV ks (Sum.inr x) = some (.int z) ∧ 0 ≤ z ∧ z ≤ t ∧ valV kf (Sum.inr x) = some v ∧ FR K H2 v (Rat.divInt z t) 100) (fv : FR K H2 v (Rat.divInt z t) 100) : Both K (upd H2 f (.dK (putK kf (Sum.inr x) v))) g f L t (i + 1) := by
  refine ⟨putK ks (Sum.inr x) (.int z), putK kf (Sum.inr x) v, by rw [upd_ne gf]; exact hk, upd_same, Nat.le_trans (putK_len ..) (by walk_at "om"), Nat.le_trans (putK_len ..) (by walk_at "om"), fun y hy => ?_⟩
  by_cases e : y = x
  · rw [e]
    exact ⟨v, z, by rw [valV_put, if_pos rfl], z0, z1, by rw [valV_put, if_pos rfl], FR_putD fv hkf⟩
  · have ne : ¬ ((Sum.inr y : Key) = Sum.inr x) := fun q => e (Sum.inr.inj q)
    rw [take_snoc hx] at hy
    rcases List.mem_append.mp hy with hy | hy
    · obtain ⟨w, z', a, b, c, d, e'⟩ := hd y hy
      exact ⟨w, z', by rw [valV_put, if_neg ne]; exact a, b, c, by rw [valV_put, if_neg ne]; exact d, FR_putD e' hkf⟩
    · exact absurd (List.mem_singleton.mp hy) e
noncomputable def top (i : Nat) : Stmt := PySem.Challenge.pw_truthgrades_k44_whole_chains_in_steps.main.body.getD i (.Pass ⟨0, 0, 0, 0⟩)
structure Gb (mg : Str → Option Value) : Prop where
  «abs» : mg "abs" = none
  «range» : mg "range" = none
  «tuple» : mg "tuple" = none
  «list» : mg "list" = none
  «isinstance» : mg "isinstance" = none
  «int» : mg "int" = none
  «bool» : mg "bool" = none
  «len» : mg "len" = none
  «str» : mg "str" = none
  «all» : mg "all" = none
  «reversed» : mg "reversed" = none
  «max» : mg "max" = none
  «dict» : mg "dict" = none
  «MOST_GRADES» : ∃ u, mg "MOST_GRADES" = some u ∧ RelV (.int 9) u
  «LEAST_STEPS» : ∃ u, mg "LEAST_STEPS" = some u ∧ RelV (.int 2) u
structure Cl (K : PySem.W.Frag) (mg : Str → Option Value) (c : Nat → Addr) : Prop where
  g_GradeError : mg "GradeError" = some (.ref (c 0))
  g_NoFraction : mg "NoFraction" = some (.ref (c 1))
  g_NoName : mg "NoName" = some (.ref (c 2))
  g_NoKind : mg "NoKind" = some (.ref (c 3))
  g_NoLetter : mg "NoLetter" = some (.ref (c 4))
  g_KINDS : mg "KINDS" = some (.ref (c 5))
  g_SHAPES : mg "SHAPES" = some (.ref (c 6))
  g_NOUGHT : mg "NOUGHT" = some (.ref (c 7))
  g_ONE : mg "ONE" = some (.ref (c 8))
  x_NoFraction : PySem.W.excIn K (c 1) [.type "ValueError", .type "Exception", .type "BaseException", .type "object"] "ValueError.__new__" = true
  t_KINDS : KTup K (c 5) [.str "least", .str "cut", .str "times"]
  t_SHAPES : ∃ a0 a1 a2 a3 a4 a5 a6 : Addr, KTup K (c 6) [.ref a0, .ref a1, .ref a2, .ref a3, .ref a4, .ref a5, .ref a6] ∧ KTup K a0 [.str "and", .int 2] ∧ KTup K a1 [.str "or", .int 2] ∧ KTup K a2 [.str "then", .int 2] ∧ KTup K a3 [.str "with", .int 2] ∧ KTup K a4 [.str "not", .int 1] ∧ KTup K a5 [.str "false", .int 0] ∧ KTup K a6 [.str "true", .int 0]
  t_NOUGHT : KTup K (c 7) [.int 0, .int 1]
  t_ONE : KTup K (c 8) [.int 1, .int 1]
noncomputable abbrev s_is_whole : Stmt := top 8
theorem sc_is_whole : FnScope ["thing"] ["thing"] (defScope s_is_whole) := ⟨rfl, rfl, rfl, by decide +kernel, rfl, by decide +kernel, by decide +kernel⟩
theorem ok_is_whole {P : Program} {w : World} {K : PySem.W.Frag} {mg : Str → Option Value} {base : Heap} {f : Addr} {fd : FuncData} (F : Fun K "is_whole" "is_whole" s_is_whole f fd) (gb : Gb mg) {c : Nat → Addr} (cl : Cl K mg c) : FnOk P w K mg base CX0 1 f fd ["thing"] spWholeT := by
  refine F.ok sc_is_whole (fun vs H Q E h => ?_) (fun cdv A outer s H vs Q E hr h => ?_)
  · obtain ⟨t, v, rfl, _⟩ := h
    rfl
  obtain ⟨t, v, rfl, h, q⟩ := h
  refine ⟨_, (@pss_one _ _ _ (@ps_ret _ _ _ _ (@pe_and _ _ _ _ _ _ _ (@pe_callB _ _ _ _ _ _ _ _ _ (@kcall_isiT _ K (by rfl)) rfl gb.isinstance bt_isinstance (@pa_cons _ _ _ _ _ (@pv _ 0 _ _ (by rfl) (by first | exact Or.inl rfl | exact Or.inr (Or.inl rfl) | exact Or.inr (Or.inr rfl)) (by decide) (by decide)) (@pa_cons _ _ _ _ _ (@pe_bltn _ _ (.ty "int") _ _ rfl gb.int bt_int rfl (by decide) (by decide)) (@pa_nil _) (by rfl)) (by rfl)) (by decide) (by decide) (by rfl) (by rfl)) (@pe_one _ _ _ _ _ (@pe_not _ _ _ _ (@pe_callB _ _ _ _ _ _ _ _ _ (@kcall_isiT _ K (by rfl)) rfl gb.isinstance bt_isinstance (@pa_cons _ _ _ _ _ (@pv _ 0 _ _ (by rfl) (by first | exact Or.inl rfl | exact Or.inr (Or.inl rfl) | exact Or.inr (Or.inr rfl)) (by decide) (by decide)) (@pa_cons _ _ _ _ _ (@pe_bltn _ _ (.ty "bool") _ _ rfl gb.bool bt_bool rfl (by decide) (by decide)) (@pa_nil _) (by rfl)) (by rfl)) (by decide) (by decide) (by rfl) (by rfl))))))), ?_⟩
  refine ⟨_, rfl, _, _, _, isIntB t, rfl, h.ty, kit_int t, _, rfl, ?_⟩
  cases t with
  | int i => exact iteT ⟨_, rfl, _, _, _, false, rfl, h.ty, kit_bool (.int i), _, rfl, q⟩
  | bl b => exact iteT ⟨_, rfl, _, _, _, true, rfl, h.ty, kit_bool (.bl b), _, rfl, q⟩
  | _ => exact iteF q

noncomputable abbrev s_shared_part : Stmt := top 13
theorem sc_shared_part : FnScope ["one", "other", "larger", "smaller", "rest"] ["one", "other"] (defScope s_shared_part) := ⟨rfl, rfl, rfl, by decide +kernel, rfl, by decide +kernel, by decide +kernel⟩
theorem ok_shared_part {P : Program} {w : World} {K : PySem.W.Frag} {mg : Str → Option Value} {base : Heap} {f : Addr} {fd : FuncData} (F : Fun K "shared_part" "shared_part" s_shared_part f fd) (gb : Gb mg) {c : Nat → Addr} (cl : Cl K mg c) : FnOk P w K mg base CX0 1 f fd ["one", "other"] spShared := by
  refine F.ok sc_shared_part (fun vs H Q E h => ?_) (fun cdv A outer s H vs Q E hr h => ?_)
  · obtain ⟨a, b, rfl, _⟩ := h
    rfl
  obtain ⟨a, b, rfl, q⟩ := h
  refine ⟨_, (@pss_cons _ _ _ _ _ (@ps_set _ _ 2 _ _ _ _ sc_shared_part.nd rfl (Or.inl rfl) (@pe_callB _ _ _ _ _ _ _ _ _ (@call_abs _) rfl gb.abs bt_abs (@pa_cons _ _ _ _ _ (@pv _ 0 _ _ (by rfl) (by first | exact Or.inl rfl | exact Or.inr (Or.inl rfl) | exact Or.inr (Or.inr rfl)) (by decide) (by decide)) (@pa_nil _) (by rfl)) (by decide) (by decide) (by rfl) (by rfl)) (by rfl) (by first | exact .inl rfl | exact .inr rfl | assumption)) (@pss_cons _ _ _ _ _ (@ps_set _ _ 3 _ _ _ _ sc_shared_part.nd rfl (Or.inl rfl) (@pe_callB _ _ _ _ _ _ _ _ _ (@call_abs _) rfl gb.abs bt_abs (@pa_cons _ _ _ _ _ (@pv _ 1 _ _ (by rfl) (by first | exact Or.inl rfl | exact Or.inr (Or.inl rfl) | exact Or.inr (Or.inr rfl)) (by decide) (by decide)) (@pa_nil _) (by rfl)) (by decide) (by decide) (by rfl) (by rfl)) (by rfl) (by first | exact .inl rfl | exact .inr rfl | assumption)) (@pss_cons _ _ _ _ _ (@ps_while _ _ _ _ _ _ PassesOwn.never (@pt_cmpR _ _ _ _ _ _ _ _ (@op_gt _) (@pv _ 3 _ _ (by rfl) (by first | exact Or.inl rfl | exact Or.inr (Or.inl rfl) | exact Or.inr (Or.inr rfl)) (by decide) (by decide)) (@pe_int _ _ _ _) (@nomark _ _ (by decide) (by decide))) (@pss_cons _ _ _ _ _ (@ps_set _ _ 4 _ _ _ _ sc_shared_part.nd rfl (Or.inl rfl) (@pe_op _ _ _ _ _ _ _ _ (@op_mod _) (@pv _ 2 _ _ (by rfl) (by first | exact Or.inl rfl | exact Or.inr (Or.inl rfl) | exact Or.inr (Or.inr rfl)) (by decide) (by decide)) (@pv _ 3 _ _ (by rfl) (by first | exact Or.inl rfl | exact Or.inr (Or.inl rfl) | exact Or.inr (Or.inr rfl)) (by decide) (by decide))) (by rfl) (by first | exact .inl rfl | exact .inr rfl | assumption)) (@pss_cons _ _ _ _ _ (@ps_set _ _ 2 _ _ _ _ sc_shared_part.nd rfl (Or.inl rfl) (@pv _ 3 _ _ (by rfl) (by first | exact Or.inl rfl | exact Or.inr (Or.inl rfl) | exact Or.inr (Or.inr rfl)) (by decide) (by decide)) (by rfl) (by first | exact .inl rfl | exact .inr rfl | assumption)) (@pss_one _ _ _ (@ps_set _ _ 3 _ _ _ _ sc_shared_part.nd rfl (Or.inl rfl) (@pv _ 4 _ _ (by rfl) (by first | exact Or.inl rfl | exact Or.inr (Or.inl rfl) | exact Or.inr (Or.inr rfl)) (by decide) (by decide)) (by rfl) (by first | exact .inl rfl | exact .inr rfl | assumption)))))) (@pss_one _ _ _ (@ps_ret _ _ _ _ (@pv _ 2 _ _ (by rfl) (by first | exact Or.inl rfl | exact Or.inr (Or.inl rfl) | exact Or.inr (Or.inr rfl)) (by decide) (by decide))))))), ?_⟩
  refine ⟨_, rfl, a, rfl, _, rfl, b, rfl, ?_⟩
  refine while_by (fun σ H' => H' = H ∧ ∃ (l s : Int) (x4 : Option V), σ = [some (.int a), some (.int b), some (.int l), some (.int s), x4] ∧ 0 ≤ l ∧ 0 ≤ s ∧ Int.gcd l s = Int.gcd a b)
    (fun σ _ => match σ with | [_, _, _, some (.int s), _] => s.toNat | _ => 0) ⟨rfl, _, _, none, rfl, by split <;> walk_at "om", by split <;> walk_at "om", ?_⟩ ?_ (fun _ _ _ _ k ⟨v, e, i, j, a, b, c, d, q⟩ => ⟨v, e, i, j, a, b, c, d, k _ _ q⟩)
  · unfold Int.gcd
    congr 1 <;> (split <;> walk_at "om")
  · rintro σ H' ⟨rfl, l, s, x4, rfl, l0, s0, hg⟩
    refine ⟨_, rfl, _, _, rfl, rfl, _, rfl, ?_⟩
    refine ite2 (fun c => ?_) (fun c => ?_)
    · have sp : 0 < s := of_decide_eq_true c
      refine ⟨_, rfl, _, rfl, _, _, rfl, rfl, sp, _, rfl, _, rfl, ⟨rfl, _, _, _, rfl, s0, Int.emod_nonneg _ (by walk_at "om"), ?_⟩, ?_⟩
      · rw [← hg]
        exact Fr.gcd_step' l s sp
      · show (l % s).toNat < s.toNat
        have h1 := Int.emod_lt_of_pos l sp
        have h2 := Int.emod_nonneg l (show s ≠ 0 by walk_at "om")
        walk_at "om"
    · have sz : s = 0 := by
        have : ¬ (0 < s) := fun z => c (decide_eq_true z)
        walk_at "om"
      refine ⟨_, rfl, ?_⟩
      have el : l = (Int.gcd a b : Int) := by
        rw [← hg, sz]
        simp
        walk_at "om"
      rw [el]
      exact q

noncomputable abbrev s_fraction : Stmt := top 12
theorem sc_fraction : FnScope ["top", "bottom", "shared"] ["top", "bottom"] (defScope s_fraction) := ⟨rfl, rfl, rfl, by decide +kernel, rfl, by decide +kernel, by decide +kernel⟩
theorem ok_fraction {P : Program} {w : World} {K : PySem.W.Frag} {mg : Str → Option Value} {base : Heap} {f : Addr} {fd : FuncData} (F : Fun K "fraction" "fraction" s_fraction f fd) (gb : Gb mg) {c : Nat → Addr} (cl : Cl K mg c) (d_is_whole : Def P w K mg base 1 "is_whole" ["thing"] spWholeT) (d_shared_part : Def P w K mg base 1 "shared_part" ["one", "other"] spShared) : FnOk P w K mg base (CX1 P w) 2 f fd ["top", "bottom"] (spFrac (c 1)) := by
  refine F.ok1 sc_fraction (fun vs H Q E h => ?_) (fun cdv A outer s H vs Q E hr h => ?_)
  · obtain ⟨t, b, rfl, _⟩ := h
    rfl
  obtain ⟨t, b, rfl, mb, q0, q1⟩ := h
  refine ⟨_, (@pss_cons _ _ _ _ _ (@ps_if _ _ _ _ _ _ _ _ (@PW.pt _ _ _ (@pw_or _ _ _ _ _ _ _ (@pt_not _ _ _ _ (@pt_val _ _ _ (@pe_def _ _ _ _ _ _ _ _ _ _ _ d_is_whole hr (by walk_at "om") rfl (@pa_cons _ _ _ _ _ (@pv _ 0 _ _ (by rfl) (by first | exact Or.inl rfl | exact Or.inr (Or.inl rfl) | exact Or.inr (Or.inr rfl)) (by decide) (by decide)) (@pa_nil _) (by rfl)) (by decide) (by rfl) (by rfl)) (by intro _; rfl))) (@pw_or1 _ _ _ _ (@pt_not _ _ _ _ (@pt_val _ _ _ (@pe_def _ _ _ _ _ _ _ _ _ _ _ d_is_whole hr (by walk_at "om") rfl (@pa_cons _ _ _ _ _ (@pv _ 1 _ _ (by rfl) (by first | exact Or.inl rfl | exact Or.inr (Or.inl rfl) | exact Or.inr (Or.inr rfl)) (by decide) (by decide)) (@pa_nil _) (by rfl)) (by decide) (by rfl) (by rfl)) (by intro _; rfl)))))) (@pss_one _ _ _ (@ps_raise _ _ _ _ _ _ _ _ _ _ _ _ _ _ _ _ _ _ rfl cl.g_NoFraction cl.x_NoFraction PySem.F.excBase_ValueError rfl PySem.F.excBase_ValueError rfl (@thrown1 _ _ _ _ _ _ _ _ _ _ _ _ _ _ _) (@pa_cons _ _ _ _ _ (@pe_str _ _ _ _) (@pa_nil _) (by rfl)) (by decide) (by rfl) (by rfl))) (@pss_nil _)) (@pss_cons _ _ _ _ _ (@ps_if _ _ _ _ _ _ _ _ (@pt_cmpR _ _ _ _ _ _ _ _ (@op_eq _) (@pv _ 1 _ _ (by rfl) (by first | exact Or.inl rfl | exact Or.inr (Or.inl rfl) | exact Or.inr (Or.inr rfl)) (by decide) (by decide)) (@pe_int _ _ _ _) (@nomark _ _ (by decide) (by decide))) (@pss_one _ _ _ (@ps_raise _ _ _ _ _ _ _ _ _ _ _ _ _ _ _ _ _ _ rfl cl.g_NoFraction cl.x_NoFraction PySem.F.excBase_ValueError rfl PySem.F.excBase_ValueError rfl (@thrown1 _ _ _ _ _ _ _ _ _ _ _ _ _ _ _) (@pa_cons _ _ _ _ _ (@pe_str _ _ _ _) (@pa_nil _) (by rfl)) (by decide) (by rfl) (by rfl))) (@pss_nil _)) (@pss_cons _ _ _ _ _ (@ps_set _ _ 2 _ _ _ _ sc_fraction.nd rfl (Or.inl rfl) (@pe_ifExp _ _ _ _ _ _ _ _ (@pt_cmpR _ _ _ _ _ _ _ _ (@op_gt _) (@pv _ 1 _ _ (by rfl) (by first | exact Or.inl rfl | exact Or.inr (Or.inl rfl) | exact Or.inr (Or.inr rfl)) (by decide) (by decide)) (@pe_int _ _ _ _) (@nomark _ _ (by decide) (by decide))) (@pe_def _ _ _ _ _ _ _ _ _ _ _ d_shared_part hr (by walk_at "om") rfl (@pa_cons _ _ _ _ _ (@pv _ 0 _ _ (by rfl) (by first | exact Or.inl rfl | exact Or.inr (Or.inl rfl) | exact Or.inr (Or.inr rfl)) (by decide) (by decide)) (@pa_cons _ _ _ _ _ (@pv _ 1 _ _ (by rfl) (by first | exact Or.inl rfl | exact Or.inr (Or.inl rfl) | exact Or.inr (Or.inr rfl)) (by decide) (by decide)) (@pa_nil _) (by rfl)) (by rfl)) (by decide) (by rfl) (by rfl)) (@pe_un _ _ _ _ _ _ (@un_neg _) (@pe_def _ _ _ _ _ _ _ _ _ _ _ d_shared_part hr (by walk_at "om") rfl (@pa_cons _ _ _ _ _ (@pv _ 0 _ _ (by rfl) (by first | exact Or.inl rfl | exact Or.inr (Or.inl rfl) | exact Or.inr (Or.inr rfl)) (by decide) (by decide)) (@pa_cons _ _ _ _ _ (@pv _ 1 _ _ (by rfl) (by first | exact Or.inl rfl | exact Or.inr (Or.inl rfl) | exact Or.inr (Or.inr rfl)) (by decide) (by decide)) (@pa_nil _) (by rfl)) (by rfl)) (by decide) (by rfl) (by rfl)))) (by rfl) (by first | exact .inl rfl | exact .inr rfl | assumption)) (@pss_one _ _ _ (@ps_ret _ _ _ _ (@pe_tup _ _ _ _ _ (@pa_cons _ _ _ _ _ (@pe_op _ _ _ _ _ _ _ _ (@op_fdivM _) (@pv _ 0 _ _ (by rfl) (by first | exact Or.inl rfl | exact Or.inr (Or.inl rfl) | exact Or.inr (Or.inr rfl)) (by decide) (by decide)) (@pv _ 2 _ _ (by rfl) (by first | exact Or.inl rfl | exact Or.inr (Or.inl rfl) | exact Or.inr (Or.inr rfl)) (by decide) (by decide))) (@pa_cons _ _ _ _ _ (@pe_op _ _ _ _ _ _ _ _ (@op_fdivM _) (@pv _ 1 _ _ (by rfl) (by first | exact Or.inl rfl | exact Or.inr (Or.inl rfl) | exact Or.inr (Or.inr rfl)) (by decide) (by decide)) (@pv _ 2 _ _ (by rfl) (by first | exact Or.inl rfl | exact Or.inr (Or.inl rfl) | exact Or.inr (Or.inr rfl)) (by decide) (by decide))) (@pa_nil _) (by rfl)) (by rfl)))))))), ?_⟩
  refine ⟨_, rfl, .int t, _, rfl, .int t, true, rfl, ?_⟩
  refine ⟨_, rfl, .int b, _, rfl, .int b, true, rfl, ?_⟩
  refine ⟨_, rfl, rfl, _, rfl, ?_⟩
  refine ite2 (fun c0 => ?_) (fun c0 => ?_)
  · have e : V.int b = V.int 0 := of_decide_eq_true c0
    cases e
    exact ⟨small9 (by show 1 ≤ 1000; decide), q0 rfl⟩
  · have nb : b ≠ 0 := fun z => c0 (decide_eq_true (by rw [z]))
    obtain ⟨f1, f2, f3, f4, f5, f6, f7⟩ := Fr.frac (t := t) nb
    have mg : Mid (Fr.sg t b) := Nat.lt_of_le_of_lt f5 mb
    have fin : ∀ g : Int, g = Fr.sg t b → tRet (tTup (tCons (tOp (rI (fun _ j => j ≠ 0 ∧ Mid j) fun i j => .int (i.fdiv j)) (tVar 0) (tVar 2)) (tCons (tOp (rI (fun _ j => j ≠ 0 ∧ Mid j) fun i j => .int (i.fdiv j)) (tVar 1) (tVar 2)) tNil))) { nx := fun _ H' => Q .non H', rt := Q } [some (.int t), some (.int b), some (.int g)] H := fun g eg => by
      subst eg
      exact ⟨_, rfl, _, rfl, _, _, rfl, rfl, ⟨f1, mg⟩, _, rfl, _, rfl, _, _, rfl, rfl, ⟨f1, mg⟩, small9 (by show 2 ≤ 1000; decide), fun p hp => q1 nb p hp⟩
    refine ⟨_, rfl, _, _, rfl, rfl, _, rfl, ?_⟩
    refine ite2 (fun c => ?_) (fun c => ?_)
    · have bp : 0 < b := of_decide_eq_true c
      refine ⟨_, rfl, _, rfl, t, b, rfl, fin _ ?_⟩
      unfold Fr.sg
      rw [if_pos bp]
    · have bp : ¬ 0 < b := fun z => c (decide_eq_true z)
      refine ⟨_, rfl, _, rfl, t, b, rfl, _, rfl, fin _ ?_⟩
      unfold Fr.sg
      rw [if_neg bp]

noncomputable abbrev s_plus : Stmt := top 14
theorem sc_plus : FnScope ["a", "b"] ["a", "b"] (defScope s_plus) := ⟨rfl, rfl, rfl, by decide +kernel, rfl, by decide +kernel, by decide +kernel⟩
theorem ok_plus {P : Program} {w : World} {K : PySem.W.Frag} {mg : Str → Option Value} {base : Heap} {f : Addr} {fd : FuncData} (F : Fun K "plus" "plus" s_plus f fd) (gb : Gb mg) {c : Nat → Addr} (cl : Cl K mg c) (d_fraction : Def1 P w K mg base 2 "fraction" ["top", "bottom"] (spFrac (c 1))) : FnOk P w K mg base CX0 3 f fd ["a", "b"] (spR K (fun r s => r + s)) := by
  refine F.ok sc_plus (fun vs H Q E h => ?_) (fun cdv A outer s H vs Q E hr h => ?_)
  · obtain ⟨a, b, r, s, n, m, rfl, _⟩ := h
    rfl
  obtain ⟨_, _, r, s, n, m, rfl, ⟨pa, rfl, ha, sx, sy⟩, ⟨pb, rfl, hb, su, sv⟩, hn, q⟩ := h
  refine ⟨_, (@pss_one _ _ _ (@ps_ret _ _ _ _ (@pe_def1 _ _ _ _ _ _ _ _ _ _ _ d_fraction hr (by walk_at "om") rfl (@pa_cons _ _ _ _ _ (@pe_op _ _ _ _ _ _ _ _ (@op_add _) (@pe_op _ _ _ _ _ _ _ _ (@op_mulM _) (@pe_ix _ _ _ _ _ _ _ (@kix_seq _ K (by rfl)) (@pv _ 0 _ _ (by rfl) (by first | exact Or.inl rfl | exact Or.inr (Or.inl rfl) | exact Or.inr (Or.inr rfl)) (by decide) (by decide)) (@pe_int _ _ _ _) (fun _ _ => rfl)) (@pe_ix _ _ _ _ _ _ _ (@kix_seq _ K (by rfl)) (@pv _ 1 _ _ (by rfl) (by first | exact Or.inl rfl | exact Or.inr (Or.inl rfl) | exact Or.inr (Or.inr rfl)) (by decide) (by decide)) (@pe_int _ _ _ _) (fun _ _ => rfl))) (@pe_op _ _ _ _ _ _ _ _ (@op_mulM _) (@pe_ix _ _ _ _ _ _ _ (@kix_seq _ K (by rfl)) (@pv _ 1 _ _ (by rfl) (by first | exact Or.inl rfl | exact Or.inr (Or.inl rfl) | exact Or.inr (Or.inr rfl)) (by decide) (by decide)) (@pe_int _ _ _ _) (fun _ _ => rfl)) (@pe_ix _ _ _ _ _ _ _ (@kix_seq _ K (by rfl)) (@pv _ 0 _ _ (by rfl) (by first | exact Or.inl rfl | exact Or.inr (Or.inl rfl) | exact Or.inr (Or.inr rfl)) (by decide) (by decide)) (@pe_int _ _ _ _) (fun _ _ => rfl)))) (@pa_cons _ _ _ _ _ (@pe_op _ _ _ _ _ _ _ _ (@op_mulM _) (@pe_ix _ _ _ _ _ _ _ (@kix_seq _ K (by rfl)) (@pv _ 0 _ _ (by rfl) (by first | exact Or.inl rfl | exact Or.inr (Or.inl rfl) | exact Or.inr (Or.inr rfl)) (by decide) (by decide)) (@pe_int _ _ _ _) (fun _ _ => rfl)) (@pe_ix _ _ _ _ _ _ _ (@kix_seq _ K (by rfl)) (@pv _ 1 _ _ (by rfl) (by first | exact Or.inl rfl | exact Or.inr (Or.inl rfl) | exact Or.inr (Or.inr rfl)) (by decide) (by decide)) (@pe_int _ _ _ _) (fun _ _ => rfl))) (@pa_nil _) (by rfl)) (by rfl)) (by decide) (by rfl) (by rfl)))), ?_⟩
  refine ⟨_, rfl, .inr (.inl ⟨pa, _, 0, _, rfl, rfl, ha, rfl, _, rfl, .inr (.inl ⟨pb, _, 1, _, rfl, rfl, hb, rfl, _, _, rfl, rfl, ⟨(sx.mid (by walk_at "om")), (sv.mid (by walk_at "om"))⟩, _, rfl, .inr (.inl ⟨pb, _, 0, _, rfl, rfl, hb, rfl, _, rfl, .inr (.inl ⟨pa, _, 1, _, rfl, rfl, ha, rfl, _, _, rfl, rfl, ⟨(su.mid (by walk_at "om")), (sy.mid (by walk_at "om"))⟩, _, _, rfl, rfl, _, rfl, .inr (.inl ⟨pa, _, 1, _, rfl, rfl, ha, rfl, _, rfl, .inr (.inl ⟨pb, _, 1, _, rfl, rfl, hb, rfl, _, _, rfl, rfl, ⟨(sy.mid (by walk_at "om")), (sv.mid (by walk_at "om"))⟩, _, _, rfl, (sy.mul sv).mid (by walk_at "om"), fun z => absurd z (mul_ne (Fr.denp r) (Fr.denp s)), fun _ => ansR q (Fr.ratadd r s) (mul_ne (Fr.denp r) (Fr.denp s)) (((sx.mul sv).mono (show n + m ≤ n + m by walk_at "om")).add ((su.mul sy).mono (show m + n ≤ n + m by walk_at "om"))) ((sy.mul sv).mono (by walk_at "om"))⟩)⟩)⟩)⟩)⟩)⟩)⟩

noncomputable abbrev s_minus : Stmt := top 15
theorem sc_minus : FnScope ["a", "b"] ["a", "b"] (defScope s_minus) := ⟨rfl, rfl, rfl, by decide +kernel, rfl, by decide +kernel, by decide +kernel⟩
theorem ok_minus {P : Program} {w : World} {K : PySem.W.Frag} {mg : Str → Option Value} {base : Heap} {f : Addr} {fd : FuncData} (F : Fun K "minus" "minus" s_minus f fd) (gb : Gb mg) {c : Nat → Addr} (cl : Cl K mg c) (d_fraction : Def1 P w K mg base 2 "fraction" ["top", "bottom"] (spFrac (c 1))) : FnOk P w K mg base CX0 3 f fd ["a", "b"] (spR K (fun r s => r - s)) := by
  refine F.ok sc_minus (fun vs H Q E h => ?_) (fun cdv A outer s H vs Q E hr h => ?_)
  · obtain ⟨a, b, r, s, n, m, rfl, _⟩ := h
    rfl
  obtain ⟨_, _, r, s, n, m, rfl, ⟨pa, rfl, ha, sx, sy⟩, ⟨pb, rfl, hb, su, sv⟩, hn, q⟩ := h
  refine ⟨_, (@pss_one _ _ _ (@ps_ret _ _ _ _ (@pe_def1 _ _ _ _ _ _ _ _ _ _ _ d_fraction hr (by walk_at "om") rfl (@pa_cons _ _ _ _ _ (@pe_op _ _ _ _ _ _ _ _ (@op_sub _) (@pe_op _ _ _ _ _ _ _ _ (@op_mulM _) (@pe_ix _ _ _ _ _ _ _ (@kix_seq _ K (by rfl)) (@pv _ 0 _ _ (by rfl) (by first | exact Or.inl rfl | exact Or.inr (Or.inl rfl) | exact Or.inr (Or.inr rfl)) (by decide) (by decide)) (@pe_int _ _ _ _) (fun _ _ => rfl)) (@pe_ix _ _ _ _ _ _ _ (@kix_seq _ K (by rfl)) (@pv _ 1 _ _ (by rfl) (by first | exact Or.inl rfl | exact Or.inr (Or.inl rfl) | exact Or.inr (Or.inr rfl)) (by decide) (by decide)) (@pe_int _ _ _ _) (fun _ _ => rfl))) (@pe_op _ _ _ _ _ _ _ _ (@op_mulM _) (@pe_ix _ _ _ _ _ _ _ (@kix_seq _ K (by rfl)) (@pv _ 1 _ _ (by rfl) (by first | exact Or.inl rfl | exact Or.inr (Or.inl rfl) | exact Or.inr (Or.inr rfl)) (by decide) (by decide)) (@pe_int _ _ _ _) (fun _ _ => rfl)) (@pe_ix _ _ _ _ _ _ _ (@kix_seq _ K (by rfl)) (@pv _ 0 _ _ (by rfl) (by first | exact Or.inl rfl | exact Or.inr (Or.inl rfl) | exact Or.inr (Or.inr rfl)) (by decide) (by decide)) (@pe_int _ _ _ _) (fun _ _ => rfl)))) (@pa_cons _ _ _ _ _ (@pe_op _ _ _ _ _ _ _ _ (@op_mulM _) (@pe_ix _ _ _ _ _ _ _ (@kix_seq _ K (by rfl)) (@pv _ 0 _ _ (by rfl) (by first | exact Or.inl rfl | exact Or.inr (Or.inl rfl) | exact Or.inr (Or.inr rfl)) (by decide) (by decide)) (@pe_int _ _ _ _) (fun _ _ => rfl)) (@pe_ix _ _ _ _ _ _ _ (@kix_seq _ K (by rfl)) (@pv _ 1 _ _ (by rfl) (by first | exact Or.inl rfl | exact Or.inr (Or.inl rfl) | exact Or.inr (Or.inr rfl)) (by decide) (by decide)) (@pe_int _ _ _ _) (fun _ _ => rfl))) (@pa_nil _) (by rfl)) (by rfl)) (by decide) (by rfl) (by rfl)))), ?_⟩
  refine ⟨_, rfl, .inr (.inl ⟨pa, _, 0, _, rfl, rfl, ha, rfl, _, rfl, .inr (.inl ⟨pb, _, 1, _, rfl, rfl, hb, rfl, _, _, rfl, rfl, ⟨(sx.mid (by walk_at "om")), (sv.mid (by walk_at "om"))⟩, _, rfl, .inr (.inl ⟨pb, _, 0, _, rfl, rfl, hb, rfl, _, rfl, .inr (.inl ⟨pa, _, 1, _, rfl, rfl, ha, rfl, _, _, rfl, rfl, ⟨(su.mid (by walk_at "om")), (sy.mid (by walk_at "om"))⟩, _, _, rfl, rfl, _, rfl, .inr (.inl ⟨pa, _, 1, _, rfl, rfl, ha, rfl, _, rfl, .inr (.inl ⟨pb, _, 1, _, rfl, rfl, hb, rfl, _, _, rfl, rfl, ⟨(sy.mid (by walk_at "om")), (sv.mid (by walk_at "om"))⟩, _, _, rfl, (sy.mul sv).mid (by walk_at "om"), fun z => absurd z (mul_ne (Fr.denp r) (Fr.denp s)), fun _ => ansR q (Fr.ratsub r s) (mul_ne (Fr.denp r) (Fr.denp s)) (((sx.mul sv).mono (show n + m ≤ n + m by walk_at "om")).sub ((su.mul sy).mono (show m + n ≤ n + m by walk_at "om"))) ((sy.mul sv).mono (by walk_at "om"))⟩)⟩)⟩)⟩)⟩)⟩)⟩

noncomputable abbrev s_times : Stmt := top 16
theorem sc_times : FnScope ["a", "b"] ["a", "b"] (defScope s_times) := ⟨rfl, rfl, rfl, by decide +kernel, rfl, by decide +kernel, by decide +kernel⟩
theorem ok_times {P : Program} {w : World} {K : PySem.W.Frag} {mg : Str → Option Value} {base : Heap} {f : Addr} {fd : FuncData} (F : Fun K "times" "times" s_times f fd) (gb : Gb mg) {c : Nat → Addr} (cl : Cl K mg c) (d_fraction : Def1 P w K mg base 2 "fraction" ["top", "bottom"] (spFrac (c 1))) : FnOk P w K mg base CX0 3 f fd ["a", "b"] (spR K (fun r s => r * s)) := by
  refine F.ok sc_times (fun vs H Q E h => ?_) (fun cdv A outer s H vs Q E hr h => ?_)
  · obtain ⟨a, b, r, s, n, m, rfl, _⟩ := h
    rfl
  obtain ⟨_, _, r, s, n, m, rfl, ⟨pa, rfl, ha, sx, sy⟩, ⟨pb, rfl, hb, su, sv⟩, hn, q⟩ := h
  refine ⟨_, (@pss_one _ _ _ (@ps_ret _ _ _ _ (@pe_def1 _ _ _ _ _ _ _ _ _ _ _ d_fraction hr (by walk_at "om") rfl (@pa_cons _ _ _ _ _ (@pe_op _ _ _ _ _ _ _ _ (@op_mulM _) (@pe_ix _ _ _ _ _ _ _ (@kix_seq _ K (by rfl)) (@pv _ 0 _ _ (by rfl) (by first | exact Or.inl rfl | exact Or.inr (Or.inl rfl) | exact Or.inr (Or.inr rfl)) (by decide) (by decide)) (@pe_int _ _ _ _) (fun _ _ => rfl)) (@pe_ix _ _ _ _ _ _ _ (@kix_seq _ K (by rfl)) (@pv _ 1 _ _ (by rfl) (by first | exact Or.inl rfl | exact Or.inr (Or.inl rfl) | exact Or.inr (Or.inr rfl)) (by decide) (by decide)) (@pe_int _ _ _ _) (fun _ _ => rfl))) (@pa_cons _ _ _ _ _ (@pe_op _ _ _ _ _ _ _ _ (@op_mulM _) (@pe_ix _ _ _ _ _ _ _ (@kix_seq _ K (by rfl)) (@pv _ 0 _ _ (by rfl) (by first | exact Or.inl rfl | exact Or.inr (Or.inl rfl) | exact Or.inr (Or.inr rfl)) (by decide) (by decide)) (@pe_int _ _ _ _) (fun _ _ => rfl)) (@pe_ix _ _ _ _ _ _ _ (@kix_seq _ K (by rfl)) (@pv _ 1 _ _ (by rfl) (by first | exact Or.inl rfl | exact Or.inr (Or.inl rfl) | exact Or.inr (Or.inr rfl)) (by decide) (by decide)) (@pe_int _ _ _ _) (fun _ _ => rfl))) (@pa_nil _) (by rfl)) (by rfl)) (by decide) (by rfl) (by rfl)))), ?_⟩
  refine ⟨_, rfl, .inr (.inl ⟨pa, _, 0, _, rfl, rfl, ha, rfl, _, rfl, .inr (.inl ⟨pb, _, 0, _, rfl, rfl, hb, rfl, _, _, rfl, rfl, ⟨(sx.mid (by walk_at "om")), (su.mid (by walk_at "om"))⟩, _, rfl, .inr (.inl ⟨pa, _, 1, _, rfl, rfl, ha, rfl, _, rfl, .inr (.inl ⟨pb, _, 1, _, rfl, rfl, hb, rfl, _, _, rfl, rfl, ⟨(sy.mid (by walk_at "om")), (sv.mid (by walk_at "om"))⟩, _, _, rfl, (sy.mul sv).mid (by walk_at "om"), fun z => absurd z (mul_ne (Fr.denp r) (Fr.denp s)), fun _ => ansR q (Fr.ratmul r s) (mul_ne (Fr.denp r) (Fr.denp s)) ((sx.mul su).mono (by walk_at "om")) ((sy.mul sv).mono (by walk_at "om"))⟩)⟩)⟩)⟩)⟩

noncomputable abbrev s_over : Stmt := top 17
theorem sc_over : FnScope ["a", "b"] ["a", "b"] (defScope s_over) := ⟨rfl, rfl, rfl, by decide +kernel, rfl, by decide +kernel, by decide +kernel⟩
theorem ok_over {P : Program} {w : World} {K : PySem.W.Frag} {mg : Str → Option Value} {base : Heap} {f : Addr} {fd : FuncData} (F : Fun K "over" "over" s_over f fd) (gb : Gb mg) {c : Nat → Addr} (cl : Cl K mg c) (d_fraction : Def1 P w K mg base 2 "fraction" ["top", "bottom"] (spFrac (c 1))) : FnOk P w K mg base CX0 3 f fd ["a", "b"] (spOverR K) := by
  refine F.ok sc_over (fun vs H Q E h => ?_) (fun cdv A outer s H vs Q E hr h => ?_)
  · obtain ⟨a, b, r, s, n, m, rfl, _⟩ := h
    rfl
  obtain ⟨_, _, r, s, n, m, rfl, ⟨pa, rfl, ha, sx, sy⟩, ⟨pb, rfl, hb, su, sv⟩, hn, s0, q⟩ := h
  refine ⟨_, (@pss_one _ _ _ (@ps_ret _ _ _ _ (@pe_def1 _ _ _ _ _ _ _ _ _ _ _ d_fraction hr (by walk_at "om") rfl (@pa_cons _ _ _ _ _ (@pe_op _ _ _ _ _ _ _ _ (@op_mulM _) (@pe_ix _ _ _ _ _ _ _ (@kix_seq _ K (by rfl)) (@pv _ 0 _ _ (by rfl) (by first | exact Or.inl rfl | exact Or.inr (Or.inl rfl) | exact Or.inr (Or.inr rfl)) (by decide) (by decide)) (@pe_int _ _ _ _) (fun _ _ => rfl)) (@pe_ix _ _ _ _ _ _ _ (@kix_seq _ K (by rfl)) (@pv _ 1 _ _ (by rfl) (by first | exact Or.inl rfl | exact Or.inr (Or.inl rfl) | exact Or.inr (Or.inr rfl)) (by decide) (by decide)) (@pe_int _ _ _ _) (fun _ _ => rfl))) (@pa_cons _ _ _ _ _ (@pe_op _ _ _ _ _ _ _ _ (@op_mulM _) (@pe_ix _ _ _ _ _ _ _ (@kix_seq _ K (by rfl)) (@pv _ 0 _ _ (by rfl) (by first | exact Or.inl rfl | exact Or.inr (Or.inl rfl) | exact Or.inr (Or.inr rfl)) (by decide) (by decide)) (@pe_int _ _ _ _) (fun _ _ => rfl)) (@pe_ix _ _ _ _ _ _ _ (@kix_seq _ K (by rfl)) (@pv _ 1 _ _ (by rfl) (by first | exact Or.inl rfl | exact Or.inr (Or.inl rfl) | exact Or.inr (Or.inr rfl)) (by decide) (by decide)) (@pe_int _ _ _ _) (fun _ _ => rfl))) (@pa_nil _) (by rfl)) (by rfl)) (by decide) (by rfl) (by rfl)))), ?_⟩
  have nb : (r.den : Int) * s.num ≠ 0 := fun z => by
    rcases Int.mul_eq_zero.mp z with z | z
    · exact Fr.den0 r z
    · exact s0 (Rat.num_eq_zero.mp z)
  refine ⟨_, rfl, .inr (.inl ⟨pa, _, 0, _, rfl, rfl, ha, rfl, _, rfl, .inr (.inl ⟨pb, _, 1, _, rfl, rfl, hb, rfl, _, _, rfl, rfl, ⟨(sx.mid (by walk_at "om")), (sv.mid (by walk_at "om"))⟩, _, rfl, .inr (.inl ⟨pa, _, 1, _, rfl, rfl, ha, rfl, _, rfl, .inr (.inl ⟨pb, _, 0, _, rfl, rfl, hb, rfl, _, _, rfl, rfl, ⟨(sy.mid (by walk_at "om")), (su.mid (by walk_at "om"))⟩, _, _, rfl, (sy.mul su).mid (by walk_at "om"), fun z => absurd z nb, fun _ => ansR q (Fr.ratdiv r s) nb ((sx.mul sv).mono (by walk_at "om")) ((sy.mul su).mono (by walk_at "om"))⟩)⟩)⟩)⟩)⟩

noncomputable abbrev s_below : Stmt := top 18
theorem sc_below : FnScope ["a", "b"] ["a", "b"] (defScope s_below) := ⟨rfl, rfl, rfl, by decide +kernel, rfl, by decide +kernel, by decide +kernel⟩
theorem ok_below {P : Program} {w : World} {K : PySem.W.Frag} {mg : Str → Option Value} {base : Heap} {f : Addr} {fd : FuncData} (F : Fun K "below" "below" s_below f fd) (gb : Gb mg) {c : Nat → Addr} (cl : Cl K mg c) : FnOk P w K mg base CX0 1 f fd ["a", "b"] (spBelow K) := by
  refine F.ok sc_below (fun vs H Q E h => ?_) (fun cdv A outer s H vs Q E hr h => ?_)
  · obtain ⟨a, b, r, s, n, m, rfl, _⟩ := h
    rfl
  obtain ⟨_, _, r, s, n, m, rfl, ⟨pa, rfl, ha, sx, sy⟩, ⟨pb, rfl, hb, su, sv⟩, hn, q⟩ := h
  refine ⟨_, (@pss_one _ _ _ (@ps_ret _ _ _ _ (@pe_cmpR _ _ _ _ _ _ _ _ (@op_lt _) (@pe_op _ _ _ _ _ _ _ _ (@op_mulM _) (@pe_ix _ _ _ _ _ _ _ (@kix_seq _ K (by rfl)) (@pv _ 0 _ _ (by rfl) (by first | exact Or.inl rfl | exact Or.inr (Or.inl rfl) | exact Or.inr (Or.inr rfl)) (by decide) (by decide)) (@pe_int _ _ _ _) (fun _ _ => rfl)) (@pe_ix _ _ _ _ _ _ _ (@kix_seq _ K (by rfl)) (@pv _ 1 _ _ (by rfl) (by first | exact Or.inl rfl | exact Or.inr (Or.inl rfl) | exact Or.inr (Or.inr rfl)) (by decide) (by decide)) (@pe_int _ _ _ _) (fun _ _ => rfl))) (@pe_op _ _ _ _ _ _ _ _ (@op_mulM _) (@pe_ix _ _ _ _ _ _ _ (@kix_seq _ K (by rfl)) (@pv _ 1 _ _ (by rfl) (by first | exact Or.inl rfl | exact Or.inr (Or.inl rfl) | exact Or.inr (Or.inr rfl)) (by decide) (by decide)) (@pe_int _ _ _ _) (fun _ _ => rfl)) (@pe_ix _ _ _ _ _ _ _ (@kix_seq _ K (by rfl)) (@pv _ 0 _ _ (by rfl) (by first | exact Or.inl rfl | exact Or.inr (Or.inl rfl) | exact Or.inr (Or.inr rfl)) (by decide) (by decide)) (@pe_int _ _ _ _) (fun _ _ => rfl))) (@nomark _ _ (by decide) (by decide))))), ?_⟩
  refine ⟨_, rfl, .inr (.inl ⟨pa, _, 0, _, rfl, rfl, ha, rfl, _, rfl, .inr (.inl ⟨pb, _, 1, _, rfl, rfl, hb, rfl, _, _, rfl, rfl, ⟨(sx.mid (by walk_at "om")), (sv.mid (by walk_at "om"))⟩, _, rfl, .inr (.inl ⟨pb, _, 0, _, rfl, rfl, hb, rfl, _, rfl, .inr (.inl ⟨pa, _, 1, _, rfl, rfl, ha, rfl, _, _, rfl, rfl, ⟨(su.mid (by walk_at "om")), (sy.mid (by walk_at "om"))⟩, _, _, rfl, rfl, ?_⟩)⟩)⟩)⟩)⟩
  have e : decide (r.num * s.den < s.num * r.den) = decide (r < s) := decide_eq_decide.mpr (Fr.ratlt r s)
  dsimp only
  rw [e]
  exact q

noncomputable abbrev s_lesser : Stmt := top 38
theorem sc_lesser : FnScope ["a", "b"] ["a", "b"] (defScope s_lesser) := ⟨rfl, rfl, rfl, by decide +kernel, rfl, by decide +kernel, by decide +kernel⟩
theorem ok_lesser {P : Program} {w : World} {K : PySem.W.Frag} {mg : Str → Option Value} {base : Heap} {f : Addr} {fd : FuncData} (F : Fun K "lesser" "lesser" s_lesser f fd) (gb : Gb mg) {c : Nat → Addr} (cl : Cl K mg c) (d_below : Def P w K mg base 1 "below" ["a", "b"] (spBelow K)) : FnOk P w K mg base CX0 2 f fd ["a", "b"] (spLG K lessR) := by
  refine F.ok sc_lesser (fun vs H Q E h => ?_) (fun cdv A outer s H vs Q E hr h => ?_)
  · obtain ⟨a, b, r, s, n, m, rfl, _⟩ := h
    rfl
  obtain ⟨va, vb, r, s, n, m, rfl, fa, fb, hn, q⟩ := h
  refine ⟨_, (@pss_one _ _ _ (@ps_ret _ _ _ _ (@pe_ifExp _ _ _ _ _ _ _ _ (@pt_val _ _ _ (@pe_def _ _ _ _ _ _ _ _ _ _ _ d_below hr (by walk_at "om") rfl (@pa_cons _ _ _ _ _ (@pv _ 1 _ _ (by rfl) (by first | exact Or.inl rfl | exact Or.inr (Or.inl rfl) | exact Or.inr (Or.inr rfl)) (by decide) (by decide)) (@pa_cons _ _ _ _ _ (@pv _ 0 _ _ (by rfl) (by first | exact Or.inl rfl | exact Or.inr (Or.inl rfl) | exact Or.inr (Or.inr rfl)) (by decide) (by decide)) (@pa_nil _) (by rfl)) (by rfl)) (by decide) (by rfl) (by rfl)) (by intro _; rfl)) (@pv _ 1 _ _ (by rfl) (by first | exact Or.inl rfl | exact Or.inr (Or.inl rfl) | exact Or.inr (Or.inr rfl)) (by decide) (by decide)) (@pv _ 0 _ _ (by rfl) (by first | exact Or.inl rfl | exact Or.inr (Or.inl rfl) | exact Or.inr (Or.inr rfl)) (by decide) (by decide))))), ?_⟩
  have qa := q va
  have qb := q vb
  unfold lessR at qa qb
  refine ⟨_, rfl, _, rfl, _, _, s, r, m, n, rfl, fb, fa, by walk_at "om", _, rfl, ite2 (fun c => ?_) (fun c => ?_)⟩
  · rw [if_pos (of_decide_eq_true c)] at qb
    exact ⟨_, rfl, qb (fb.mono (by walk_at "om"))⟩
  · rw [if_neg (fun z => c (decide_eq_true z))] at qa
    exact ⟨_, rfl, qa (fa.mono (by walk_at "om"))⟩

noncomputable abbrev s_greater : Stmt := top 39
theorem sc_greater : FnScope ["a", "b"] ["a", "b"] (defScope s_greater) := ⟨rfl, rfl, rfl, by decide +kernel, rfl, by decide +kernel, by decide +kernel⟩
theorem ok_greater {P : Program} {w : World} {K : PySem.W.Frag} {mg : Str → Option Value} {base : Heap} {f : Addr} {fd : FuncData} (F : Fun K "greater" "greater" s_greater f fd) (gb : Gb mg) {c : Nat → Addr} (cl : Cl K mg c) (d_below : Def P w K mg base 1 "below" ["a", "b"] (spBelow K)) : FnOk P w K mg base CX0 2 f fd ["a", "b"] (spLG K greatR) := by
  refine F.ok sc_greater (fun vs H Q E h => ?_) (fun cdv A outer s H vs Q E hr h => ?_)
  · obtain ⟨a, b, r, s, n, m, rfl, _⟩ := h
    rfl
  obtain ⟨va, vb, r, s, n, m, rfl, fa, fb, hn, q⟩ := h
  refine ⟨_, (@pss_one _ _ _ (@ps_ret _ _ _ _ (@pe_ifExp _ _ _ _ _ _ _ _ (@pt_val _ _ _ (@pe_def _ _ _ _ _ _ _ _ _ _ _ d_below hr (by walk_at "om") rfl (@pa_cons _ _ _ _ _ (@pv _ 0 _ _ (by rfl) (by first | exact Or.inl rfl | exact Or.inr (Or.inl rfl) | exact Or.inr (Or.inr rfl)) (by decide) (by decide)) (@pa_cons _ _ _ _ _ (@pv _ 1 _ _ (by rfl) (by first | exact Or.inl rfl | exact Or.inr (Or.inl rfl) | exact Or.inr (Or.inr rfl)) (by decide) (by decide)) (@pa_nil _) (by rfl)) (by rfl)) (by decide) (by rfl) (by rfl)) (by intro _; rfl)) (@pv _ 1 _ _ (by rfl) (by first | exact Or.inl rfl | exact Or.inr (Or.inl rfl) | exact Or.inr (Or.inr rfl)) (by decide) (by decide)) (@pv _ 0 _ _ (by rfl) (by first | exact Or.inl rfl | exact Or.inr (Or.inl rfl) | exact Or.inr (Or.inr rfl)) (by decide) (by decide))))), ?_⟩
  have qa := q va
  have qb := q vb
  unfold greatR at qa qb
  refine ⟨_, rfl, _, rfl, _, _, r, s, n, m, rfl, fa, fb, by walk_at "om", _, rfl, ite2 (fun c => ?_) (fun c => ?_)⟩
  · rw [if_pos (of_decide_eq_true c)] at qb
    exact ⟨_, rfl, qb (fb.mono (by walk_at "om"))⟩
  · rw [if_neg (fun z => c (decide_eq_true z))] at qa
    exact ⟨_, rfl, qa (fa.mono (by walk_at "om"))⟩

noncomputable abbrev s_connected_then : Stmt := top 36
theorem sc_connected_then : FnScope ["kind", "a", "b"] ["kind", "a", "b"] (defScope s_connected_then) := ⟨rfl, rfl, rfl, by decide +kernel, rfl, by decide +kernel, by decide +kernel⟩
theorem ok_connected_then {P : Program} {w : World} {K : PySem.W.Frag} {mg : Str → Option Value} {base : Heap} {f : Addr} {fd : FuncData} (F : Fun K "connected_then" "connected_then" s_connected_then f fd) (gb : Gb mg) {c : Nat → Addr} (cl : Cl K mg c) (d_below : Def P w K mg base 1 "below" ["a", "b"] (spBelow K)) (d_plus : Def P w K mg base 3 "plus" ["a", "b"] (spR K (fun r s => r + s))) (d_minus : Def P w K mg base 3 "minus" ["a", "b"] (spR K (fun r s => r - s))) (d_over : Def P w K mg base 3 "over" ["a", "b"] (spOverR K)) : FnOk P w K mg base CX0 4 f fd ["kind", "a", "b"] (spThen K thenR) := by
  refine F.ok sc_connected_then (fun vs H Q E h => ?_) (fun cdv A outer s H vs Q E hr h => ?_)
  · obtain ⟨k, a, b, r, s, n, m, rfl, _⟩ := h
    rfl
  obtain ⟨k, va, vb, r, s, n, m, rfl, kd, fa, fb, s0, hn, q⟩ := h
  refine ⟨_, (@pss_cons _ _ _ _ _ (@ps_if _ _ _ _ _ _ _ _ (@pt_not _ _ _ _ (@pt_val _ _ _ (@pe_def _ _ _ _ _ _ _ _ _ _ _ d_below hr (by walk_at "om") rfl (@pa_cons _ _ _ _ _ (@pv _ 2 _ _ (by rfl) (by first | exact Or.inl rfl | exact Or.inr (Or.inl rfl) | exact Or.inr (Or.inr rfl)) (by decide) (by decide)) (@pa_cons _ _ _ _ _ (@pv _ 1 _ _ (by rfl) (by first | exact Or.inl rfl | exact Or.inr (Or.inl rfl) | exact Or.inr (Or.inr rfl)) (by decide) (by decide)) (@pa_nil _) (by rfl)) (by rfl)) (by decide) (by rfl) (by rfl)) (by intro _; rfl))) (@pss_one _ _ _ (@ps_ret _ _ _ _ (@pe_glob _ _ (.ref _) _ _ rfl cl.g_ONE rfl (by decide)))) (@pss_nil _)) (@pss_cons _ _ _ _ _ (@ps_if _ _ _ _ _ _ _ _ (@pt_cmpR _ _ _ _ _ _ _ _ (@op_eq _) (@pv _ 0 _ _ (by rfl) (by first | exact Or.inl rfl | exact Or.inr (Or.inl rfl) | exact Or.inr (Or.inr rfl)) (by decide) (by decide)) (@pe_str _ _ _ _) (@nomark _ _ (by decide) (by decide))) (@pss_one _ _ _ (@ps_ret _ _ _ _ (@pv _ 2 _ _ (by rfl) (by first | exact Or.inl rfl | exact Or.inr (Or.inl rfl) | exact Or.inr (Or.inr rfl)) (by decide) (by decide)))) (@pss_nil _)) (@pss_cons _ _ _ _ _ (@ps_if _ _ _ _ _ _ _ _ (@pt_cmpR _ _ _ _ _ _ _ _ (@op_eq _) (@pv _ 0 _ _ (by rfl) (by first | exact Or.inl rfl | exact Or.inr (Or.inl rfl) | exact Or.inr (Or.inr rfl)) (by decide) (by decide)) (@pe_str _ _ _ _) (@nomark _ _ (by decide) (by decide))) (@pss_one _ _ _ (@ps_ret _ _ _ _ (@pe_def _ _ _ _ _ _ _ _ _ _ _ d_plus hr (by walk_at "om") rfl (@pa_cons _ _ _ _ _ (@pe_def _ _ _ _ _ _ _ _ _ _ _ d_minus hr (by walk_at "om") rfl (@pa_cons _ _ _ _ _ (@pe_glob _ _ (.ref _) _ _ rfl cl.g_ONE rfl (by decide)) (@pa_cons _ _ _ _ _ (@pv _ 1 _ _ (by rfl) (by first | exact Or.inl rfl | exact Or.inr (Or.inl rfl) | exact Or.inr (Or.inr rfl)) (by decide) (by decide)) (@pa_nil _) (by rfl)) (by rfl)) (by decide) (by rfl) (by rfl)) (@pa_cons _ _ _ _ _ (@pv _ 2 _ _ (by rfl) (by first | exact Or.inl rfl | exact Or.inr (Or.inl rfl) | exact Or.inr (Or.inr rfl)) (by decide) (by decide)) (@pa_nil _) (by rfl)) (by rfl)) (by decide) (by rfl) (by rfl)))) (@pss_nil _)) (@pss_one _ _ _ (@ps_ret _ _ _ _ (@pe_def _ _ _ _ _ _ _ _ _ _ _ d_over hr (by walk_at "om") rfl (@pa_cons _ _ _ _ _ (@pv _ 2 _ _ (by rfl) (by first | exact Or.inl rfl | exact Or.inr (Or.inl rfl) | exact Or.inr (Or.inr rfl)) (by decide) (by decide)) (@pa_cons _ _ _ _ _ (@pv _ 1 _ _ (by rfl) (by first | exact Or.inl rfl | exact Or.inr (Or.inl rfl) | exact Or.inr (Or.inr rfl)) (by decide) (by decide)) (@pa_nil _) (by rfl)) (by rfl)) (by decide) (by rfl) (by rfl))))))), ?_⟩
  have qq := q
  unfold thenR at qq
  have f1 : FR K H (.ref (c 8)) 1 1 := FR.k (r := 1) cl.t_ONE (by unfold Sz; decide) (by unfold Sz; decide)
  refine ⟨_, rfl, _, rfl, vb, va, s, r, m, n, rfl, fb, fa, by walk_at "om", _, rfl, ?_⟩
  by_cases h : s < r
  · rw [if_pos h] at qq
    rw [decide_eq_true h]
    refine ⟨_, rfl, rfl, _, rfl, ?_⟩
    by_cases e1 : k = "least"
    · rw [if_pos e1] at qq
      refine iteDT (decide_eq_true (by rw [e1])) ?_
      exact ⟨_, rfl, qq _ _ (Same.refl H) (fb.mono (by walk_at "om"))⟩
    rw [if_neg e1] at qq
    refine iteDF (decide_eq_false fun z => e1 (V.str.inj z)) ?_
    refine ⟨_, rfl, rfl, _, rfl, ?_⟩
    by_cases e2 : k = "cut"
    · rw [if_pos e2] at qq
      refine iteDT (decide_eq_true (by rw [e2])) ?_
      refine ⟨_, rfl, _, _, _, _, 1, n, rfl, f1, fa, by walk_at "om", fun v1 H1 s1 g1 => ?_⟩
      exact ⟨_, rfl, _, _, _, _, 1 + n + 1, m, rfl, g1, fb.same s1, by walk_at "om", fun v2 H2 s2 g2 => qq _ _ (s1.trans s2) (g2.mono (by walk_at "om"))⟩
    rw [if_neg e2] at qq
    refine iteDF (decide_eq_false fun z => e2 (V.str.inj z)) ?_
    refine ⟨_, rfl, _, rfl, _, _, _, _, m, n, rfl, fb, fa, by walk_at "om", fun z => ?_, fun v2 H2 s2 g2 => qq _ _ s2 (g2.mono (by walk_at "om"))⟩
    rw [z] at h
    exact absurd h (Rat.not_lt.mpr s0)
  · rw [if_neg h] at qq
    rw [decide_eq_false h]
    exact qq _ _ (Same.refl H) (f1.mono (by walk_at "om"))

noncomputable abbrev s_connected_with : Stmt := top 37
theorem sc_connected_with : FnScope ["kind", "a", "b"] ["kind", "a", "b"] (defScope s_connected_with) := ⟨rfl, rfl, rfl, by decide +kernel, rfl, by decide +kernel, by decide +kernel⟩
theorem ok_connected_with {P : Program} {w : World} {K : PySem.W.Frag} {mg : Str → Option Value} {base : Heap} {f : Addr} {fd : FuncData} (F : Fun K "connected_with" "connected_with" s_connected_with f fd) (gb : Gb mg) {c : Nat → Addr} (cl : Cl K mg c) (d_lesser : Def P w K mg base 2 "lesser" ["a", "b"] (spLG K lessR)) (d_greater : Def P w K mg base 2 "greater" ["a", "b"] (spLG K greatR)) (d_minus : Def P w K mg base 3 "minus" ["a", "b"] (spR K (fun r s => r - s))) (d_plus : Def P w K mg base 3 "plus" ["a", "b"] (spR K (fun r s => r + s))) (d_times : Def P w K mg base 3 "times" ["a", "b"] (spR K (fun r s => r * s))) : FnOk P w K mg base CX0 4 f fd ["kind", "a", "b"] (spThen K withR) := by
  refine F.ok sc_connected_with (fun vs H Q E h => ?_) (fun cdv A outer s H vs Q E hr h => ?_)
  · obtain ⟨k, a, b, r, s, n, m, rfl, _⟩ := h
    rfl
  obtain ⟨k, va, vb, r, s, n, m, rfl, kd, fa, fb, s0, hn, q⟩ := h
  refine ⟨_, (@pss_cons _ _ _ _ _ (@ps_if _ _ _ _ _ _ _ _ (@pt_cmpR _ _ _ _ _ _ _ _ (@op_eq _) (@pv _ 0 _ _ (by rfl) (by first | exact Or.inl rfl | exact Or.inr (Or.inl rfl) | exact Or.inr (Or.inr rfl)) (by decide) (by decide)) (@pe_str _ _ _ _) (@nomark _ _ (by decide) (by decide))) (@pss_one _ _ _ (@ps_ret _ _ _ _ (@pe_def _ _ _ _ _ _ _ _ _ _ _ d_lesser hr (by walk_at "om") rfl (@pa_cons _ _ _ _ _ (@pv _ 1 _ _ (by rfl) (by first | exact Or.inl rfl | exact Or.inr (Or.inl rfl) | exact Or.inr (Or.inr rfl)) (by decide) (by decide)) (@pa_cons _ _ _ _ _ (@pv _ 2 _ _ (by rfl) (by first | exact Or.inl rfl | exact Or.inr (Or.inl rfl) | exact Or.inr (Or.inr rfl)) (by decide) (by decide)) (@pa_nil _) (by rfl)) (by rfl)) (by decide) (by rfl) (by rfl)))) (@pss_nil _)) (@pss_cons _ _ _ _ _ (@ps_if _ _ _ _ _ _ _ _ (@pt_cmpR _ _ _ _ _ _ _ _ (@op_eq _) (@pv _ 0 _ _ (by rfl) (by first | exact Or.inl rfl | exact Or.inr (Or.inl rfl) | exact Or.inr (Or.inr rfl)) (by decide) (by decide)) (@pe_str _ _ _ _) (@nomark _ _ (by decide) (by decide))) (@pss_one _ _ _ (@ps_ret _ _ _ _ (@pe_def _ _ _ _ _ _ _ _ _ _ _ d_greater hr (by walk_at "om") rfl (@pa_cons _ _ _ _ _ (@pe_def _ _ _ _ _ _ _ _ _ _ _ d_minus hr (by walk_at "om") rfl (@pa_cons _ _ _ _ _ (@pe_def _ _ _ _ _ _ _ _ _ _ _ d_plus hr (by walk_at "om") rfl (@pa_cons _ _ _ _ _ (@pv _ 1 _ _ (by rfl) (by first | exact Or.inl rfl | exact Or.inr (Or.inl rfl) | exact Or.inr (Or.inr rfl)) (by decide) (by decide)) (@pa_cons _ _ _ _ _ (@pv _ 2 _ _ (by rfl) (by first | exact Or.inl rfl | exact Or.inr (Or.inl rfl) | exact Or.inr (Or.inr rfl)) (by decide) (by decide)) (@pa_nil _) (by rfl)) (by rfl)) (by decide) (by rfl) (by rfl)) (@pa_cons _ _ _ _ _ (@pe_glob _ _ (.ref _) _ _ rfl cl.g_ONE rfl (by decide)) (@pa_nil _) (by rfl)) (by rfl)) (by decide) (by rfl) (by rfl)) (@pa_cons _ _ _ _ _ (@pe_glob _ _ (.ref _) _ _ rfl cl.g_NOUGHT rfl (by decide)) (@pa_nil _) (by rfl)) (by rfl)) (by decide) (by rfl) (by rfl)))) (@pss_nil _)) (@pss_one _ _ _ (@ps_ret _ _ _ _ (@pe_def _ _ _ _ _ _ _ _ _ _ _ d_times hr (by walk_at "om") rfl (@pa_cons _ _ _ _ _ (@pv _ 1 _ _ (by rfl) (by first | exact Or.inl rfl | exact Or.inr (Or.inl rfl) | exact Or.inr (Or.inr rfl)) (by decide) (by decide)) (@pa_cons _ _ _ _ _ (@pv _ 2 _ _ (by rfl) (by first | exact Or.inl rfl | exact Or.inr (Or.inl rfl) | exact Or.inr (Or.inr rfl)) (by decide) (by decide)) (@pa_nil _) (by rfl)) (by rfl)) (by decide) (by rfl) (by rfl)))))), ?_⟩
  have qq := q
  unfold withR at qq
  have f1 : ∀ H', FR K H' (.ref (c 8)) 1 1 := fun H' => FR.k (r := 1) cl.t_ONE (by unfold Sz; decide) (by unfold Sz; decide)
  have f0 : ∀ H', FR K H' (.ref (c 7)) 0 1 := fun H' => FR.k (r := 0) cl.t_NOUGHT (by unfold Sz; decide) (by unfold Sz; decide)
  refine ⟨_, rfl, rfl, _, rfl, ?_⟩
  by_cases e1 : k = "least"
  · rw [if_pos e1] at qq
    refine iteDT (decide_eq_true (by rw [e1])) ?_
    exact ⟨_, rfl, _, rfl, _, _, _, _, n, m, rfl, fa, fb, by walk_at "om", fun v g => qq _ _ (Same.refl H) (g.mono (by walk_at "om"))⟩
  rw [if_neg e1] at qq
  refine iteDF (decide_eq_false fun z => e1 (V.str.inj z)) ?_
  refine ⟨_, rfl, rfl, _, rfl, ?_⟩
  by_cases e2 : k = "cut"
  · rw [if_pos e2] at qq
    refine iteDT (decide_eq_true (by rw [e2])) ?_
    refine ⟨_, rfl, _, rfl, _, _, _, _, n, m, rfl, fa, fb, by walk_at "om", fun v1 H1 s1 g1 => ?_⟩
    refine ⟨_, _, _, _, n + m + 1, 1, rfl, g1, f1 _, by walk_at "om", fun v2 H2 s2 g2 => ?_⟩
    exact ⟨_, _, _, _, n + m + 1 + 1 + 1, 1, rfl, g2, f0 _, by walk_at "om", fun v3 g3 => qq _ _ (s1.trans s2) (g3.mono (by walk_at "om"))⟩
  rw [if_neg e2] at qq
  refine iteDF (decide_eq_false fun z => e2 (V.str.inj z)) ?_
  exact ⟨_, rfl, _, rfl, _, _, _, _, n, m, rfl, fa, fb, by walk_at "om", fun v1 H1 s1 g1 => qq _ _ s1 (g1.mono (by walk_at "om"))⟩

noncomputable abbrev s_connected : Stmt := top 35
theorem sc_connected : FnScope ["kind", "name", "grades"] ["kind", "name", "grades"] (defScope s_connected) := ⟨rfl, rfl, rfl, by decide +kernel, rfl, by decide +kernel, by decide +kernel⟩
theorem ok_connected {P : Program} {w : World} {K : PySem.W.Frag} {mg : Str → Option Value} {base : Heap} {f : Addr} {fd : FuncData} (F : Fun K "connected" "connected" s_connected f fd) (gb : Gb mg) {c : Nat → Addr} (cl : Cl K mg c) (d_connected_then : Def P w K mg base 4 "connected_then" ["kind", "a", "b"] (spThen K thenR)) (d_connected_with : Def P w K mg base 4 "connected_with" ["kind", "a", "b"] (spThen K withR)) (d_greater : Def P w K mg base 2 "greater" ["a", "b"] (spLG K greatR)) (d_lesser : Def P w K mg base 2 "lesser" ["a", "b"] (spLG K lessR)) : FnOk P w K mg base CX0 5 f fd ["kind", "name", "grades"] (spConn K) := by
  refine F.ok sc_connected (fun vs H Q E h => ?_) (fun cdv A outer s H vs Q E hr h => ?_)
  · obtain ⟨k, nm, g, zs, n, rfl, _⟩ := h
    rfl
  obtain ⟨k, nm, g, zs, n, rfl, kd, hm, hl, hg, fz, z0, hn, q⟩ := h
  refine ⟨_, (@pss_cons _ _ _ _ _ (@ps_if _ _ _ _ _ _ _ _ (@pt_cmpR _ _ _ _ _ _ _ _ (@op_eq _) (@pv _ 1 _ _ (by rfl) (by first | exact Or.inl rfl | exact Or.inr (Or.inl rfl) | exact Or.inr (Or.inr rfl)) (by decide) (by decide)) (@pe_str _ _ _ _) (@nomark _ _ (by decide) (by decide))) (@pss_one _ _ _ (@ps_ret _ _ _ _ (@pe_glob _ _ (.ref _) _ _ rfl cl.g_NOUGHT rfl (by decide)))) (@pss_nil _)) (@pss_cons _ _ _ _ _ (@ps_if _ _ _ _ _ _ _ _ (@pt_cmpR _ _ _ _ _ _ _ _ (@op_eq _) (@pv _ 1 _ _ (by rfl) (by first | exact Or.inl rfl | exact Or.inr (Or.inl rfl) | exact Or.inr (Or.inr rfl)) (by decide) (by decide)) (@pe_str _ _ _ _) (@nomark _ _ (by decide) (by decide))) (@pss_one _ _ _ (@ps_ret _ _ _ _ (@pe_glob _ _ (.ref _) _ _ rfl cl.g_ONE rfl (by decide)))) (@pss_nil _)) (@pss_cons _ _ _ _ _ (@ps_if _ _ _ _ _ _ _ _ (@pt_cmpR _ _ _ _ _ _ _ _ (@op_eq _) (@pv _ 1 _ _ (by rfl) (by first | exact Or.inl rfl | exact Or.inr (Or.inl rfl) | exact Or.inr (Or.inr rfl)) (by decide) (by decide)) (@pe_str _ _ _ _) (@nomark _ _ (by decide) (by decide))) (@pss_one _ _ _ (@ps_ret _ _ _ _ (@pe_def _ _ _ _ _ _ _ _ _ _ _ d_connected_then hr (by walk_at "om") rfl (@pa_cons _ _ _ _ _ (@pv _ 0 _ _ (by rfl) (by first | exact Or.inl rfl | exact Or.inr (Or.inl rfl) | exact Or.inr (Or.inr rfl)) (by decide) (by decide)) (@pa_cons _ _ _ _ _ (@pe_ix _ _ _ _ _ _ _ (@kix_seq _ K (by rfl)) (@pv _ 2 _ _ (by rfl) (by first | exact Or.inl rfl | exact Or.inr (Or.inl rfl) | exact Or.inr (Or.inr rfl)) (by decide) (by decide)) (@pe_int _ _ _ _) (fun _ _ => rfl)) (@pa_cons _ _ _ _ _ (@pe_glob _ _ (.ref _) _ _ rfl cl.g_NOUGHT rfl (by decide)) (@pa_nil _) (by rfl)) (by rfl)) (by rfl)) (by decide) (by rfl) (by rfl)))) (@pss_nil _)) (@pss_cons _ _ _ _ _ (@ps_if _ _ _ _ _ _ _ _ (@pt_cmpR _ _ _ _ _ _ _ _ (@op_eq _) (@pv _ 1 _ _ (by rfl) (by first | exact Or.inl rfl | exact Or.inr (Or.inl rfl) | exact Or.inr (Or.inr rfl)) (by decide) (by decide)) (@pe_str _ _ _ _) (@nomark _ _ (by decide) (by decide))) (@pss_one _ _ _ (@ps_ret _ _ _ _ (@pe_def _ _ _ _ _ _ _ _ _ _ _ d_connected_then hr (by walk_at "om") rfl (@pa_cons _ _ _ _ _ (@pv _ 0 _ _ (by rfl) (by first | exact Or.inl rfl | exact Or.inr (Or.inl rfl) | exact Or.inr (Or.inr rfl)) (by decide) (by decide)) (@pa_cons _ _ _ _ _ (@pe_ix _ _ _ _ _ _ _ (@kix_seq _ K (by rfl)) (@pv _ 2 _ _ (by rfl) (by first | exact Or.inl rfl | exact Or.inr (Or.inl rfl) | exact Or.inr (Or.inr rfl)) (by decide) (by decide)) (@pe_int _ _ _ _) (fun _ _ => rfl)) (@pa_cons _ _ _ _ _ (@pe_ix _ _ _ _ _ _ _ (@kix_seq _ K (by rfl)) (@pv _ 2 _ _ (by rfl) (by first | exact Or.inl rfl | exact Or.inr (Or.inl rfl) | exact Or.inr (Or.inr rfl)) (by decide) (by decide)) (@pe_int _ _ _ _) (fun _ _ => rfl)) (@pa_nil _) (by rfl)) (by rfl)) (by rfl)) (by decide) (by rfl) (by rfl)))) (@pss_nil _)) (@pss_cons _ _ _ _ _ (@ps_if _ _ _ _ _ _ _ _ (@pt_cmpR _ _ _ _ _ _ _ _ (@op_eq _) (@pv _ 1 _ _ (by rfl) (by first | exact Or.inl rfl | exact Or.inr (Or.inl rfl) | exact Or.inr (Or.inr rfl)) (by decide) (by decide)) (@pe_str _ _ _ _) (@nomark _ _ (by decide) (by decide))) (@pss_one _ _ _ (@ps_ret _ _ _ _ (@pe_def _ _ _ _ _ _ _ _ _ _ _ d_connected_with hr (by walk_at "om") rfl (@pa_cons _ _ _ _ _ (@pv _ 0 _ _ (by rfl) (by first | exact Or.inl rfl | exact Or.inr (Or.inl rfl) | exact Or.inr (Or.inr rfl)) (by decide) (by decide)) (@pa_cons _ _ _ _ _ (@pe_ix _ _ _ _ _ _ _ (@kix_seq _ K (by rfl)) (@pv _ 2 _ _ (by rfl) (by first | exact Or.inl rfl | exact Or.inr (Or.inl rfl) | exact Or.inr (Or.inr rfl)) (by decide) (by decide)) (@pe_int _ _ _ _) (fun _ _ => rfl)) (@pa_cons _ _ _ _ _ (@pe_ix _ _ _ _ _ _ _ (@kix_seq _ K (by rfl)) (@pv _ 2 _ _ (by rfl) (by first | exact Or.inl rfl | exact Or.inr (Or.inl rfl) | exact Or.inr (Or.inr rfl)) (by decide) (by decide)) (@pe_int _ _ _ _) (fun _ _ => rfl)) (@pa_nil _) (by rfl)) (by rfl)) (by rfl)) (by decide) (by rfl) (by rfl)))) (@pss_nil _)) (@pss_cons _ _ _ _ _ (@ps_if _ _ _ _ _ _ _ _ (@pt_cmpR _ _ _ _ _ _ _ _ (@op_eq _) (@pv _ 1 _ _ (by rfl) (by first | exact Or.inl rfl | exact Or.inr (Or.inl rfl) | exact Or.inr (Or.inr rfl)) (by decide) (by decide)) (@pe_str _ _ _ _) (@nomark _ _ (by decide) (by decide))) (@pss_one _ _ _ (@ps_ret _ _ _ _ (@pe_def _ _ _ _ _ _ _ _ _ _ _ d_greater hr (by walk_at "om") rfl (@pa_cons _ _ _ _ _ (@pe_ix _ _ _ _ _ _ _ (@kix_seq _ K (by rfl)) (@pv _ 2 _ _ (by rfl) (by first | exact Or.inl rfl | exact Or.inr (Or.inl rfl) | exact Or.inr (Or.inr rfl)) (by decide) (by decide)) (@pe_int _ _ _ _) (fun _ _ => rfl)) (@pa_cons _ _ _ _ _ (@pe_ix _ _ _ _ _ _ _ (@kix_seq _ K (by rfl)) (@pv _ 2 _ _ (by rfl) (by first | exact Or.inl rfl | exact Or.inr (Or.inl rfl) | exact Or.inr (Or.inr rfl)) (by decide) (by decide)) (@pe_int _ _ _ _) (fun _ _ => rfl)) (@pa_nil _) (by rfl)) (by rfl)) (by decide) (by rfl) (by rfl)))) (@pss_nil _)) (@pss_one _ _ _ (@ps_ret _ _ _ _ (@pe_def _ _ _ _ _ _ _ _ _ _ _ d_lesser hr (by walk_at "om") rfl (@pa_cons _ _ _ _ _ (@pe_ix _ _ _ _ _ _ _ (@kix_seq _ K (by rfl)) (@pv _ 2 _ _ (by rfl) (by first | exact Or.inl rfl | exact Or.inr (Or.inl rfl) | exact Or.inr (Or.inr rfl)) (by decide) (by decide)) (@pe_int _ _ _ _) (fun _ _ => rfl)) (@pa_cons _ _ _ _ _ (@pe_ix _ _ _ _ _ _ _ (@kix_seq _ K (by rfl)) (@pv _ 2 _ _ (by rfl) (by first | exact Or.inl rfl | exact Or.inr (Or.inl rfl) | exact Or.inr (Or.inr rfl)) (by decide) (by decide)) (@pe_int _ _ _ _) (fun _ _ => rfl)) (@pa_nil _) (by rfl)) (by rfl)) (by decide) (by rfl) (by rfl)))))))))), ?_⟩
  have f1 : FR K H (.ref (c 8)) 1 1 := FR.k (r := 1) cl.t_ONE (by unfold Sz; decide) (by unfold Sz; decide)
  have f0 : FR K H (.ref (c 7)) 0 1 := FR.k (r := 0) cl.t_NOUGHT (by unfold Sz; decide) (by unfold Sz; decide)
  unfold names7 at hm
  simp only [List.mem_cons, List.not_mem_nil, or_false] at hm
  rcases hm with rfl | rfl | rfl | rfl | rfl | rfl | rfl
  · obtain ⟨z1, z2, rfl⟩ : ∃ z1 z2, zs = [z1, z2] := two hl
    walk_at "ds"
    exact ⟨_, rfl, .inl ⟨g, _, 0, _, rfl, rfl, SqL.of hg, rfl, _, rfl, .inl ⟨g, _, 1, _, rfl, rfl, SqL.of hg, rfl, _, _, _, _, n, n, rfl, fz z1 (by simp), fz z2 (by simp), by walk_at "om", fun v g => q _ _ (Same.refl H) (g.mono (by walk_at "om"))⟩⟩⟩
  · obtain ⟨z1, z2, rfl⟩ : ∃ z1 z2, zs = [z1, z2] := two hl
    walk_at "ds"
    exact ⟨_, rfl, .inl ⟨g, _, 0, _, rfl, rfl, SqL.of hg, rfl, _, rfl, .inl ⟨g, _, 1, _, rfl, rfl, SqL.of hg, rfl, _, _, _, _, n, n, rfl, fz z1 (by simp), fz z2 (by simp), by walk_at "om", fun v g => q _ _ (Same.refl H) (g.mono (by walk_at "om"))⟩⟩⟩
  · obtain ⟨z1, z2, rfl⟩ : ∃ z1 z2, zs = [z1, z2] := two hl
    walk_at "ds"
    exact ⟨_, rfl, _, rfl, .inl ⟨g, _, 0, _, rfl, rfl, SqL.of hg, rfl, _, rfl, .inl ⟨g, _, 1, _, rfl, rfl, SqL.of hg, rfl, k, _, _, _, _, n, n, rfl, kd, fz z1 (by simp), fz z2 (by simp), z0 z2 (by simp), by walk_at "om", fun v H1 s1 g => q _ _ s1 (g.mono (by walk_at "om"))⟩⟩⟩
  · obtain ⟨z1, z2, rfl⟩ : ∃ z1 z2, zs = [z1, z2] := two hl
    walk_at "ds"
    exact ⟨_, rfl, _, rfl, .inl ⟨g, _, 0, _, rfl, rfl, SqL.of hg, rfl, _, rfl, .inl ⟨g, _, 1, _, rfl, rfl, SqL.of hg, rfl, k, _, _, _, _, n, n, rfl, kd, fz z1 (by simp), fz z2 (by simp), z0 z2 (by simp), by walk_at "om", fun v H1 s1 g => q _ _ s1 (g.mono (by walk_at "om"))⟩⟩⟩
  · obtain ⟨z1, rfl⟩ : ∃ z1, zs = [z1] := one1 hl
    walk_at "ds"
    exact ⟨_, rfl, _, rfl, .inl ⟨g, _, 0, _, rfl, rfl, SqL.of hg, rfl, k, _, _, _, _, n, 1, rfl, kd, fz z1 (by simp), f0, by decide, by walk_at "om", fun v H1 s1 g => q _ _ s1 (g.mono (by walk_at "om"))⟩⟩
  · walk_at "ds"
    exact q _ _ (Same.refl H) (f0.mono (by walk_at "om"))
  · walk_at "ds"
    exact q _ _ (Same.refl H) (f1.mono (by walk_at "om"))

noncomputable abbrev s_has_small_letters_alone : Stmt := top 10
theorem sc_has_small_letters_alone : FnScope ["text"] ["text"] (defScope s_has_small_letters_alone) := ⟨rfl, rfl, rfl, by decide +kernel, rfl, by decide +kernel, by decide +kernel⟩
theorem ok_has_small_letters_alone {P : Program} {w : World} {K : PySem.W.Frag} {mg : Str → Option Value} {base : Heap} {f : Addr} {fd : FuncData} (F : Fun K "has_small_letters_alone" "has_small_letters_alone" s_has_small_letters_alone f fd) (gb : Gb mg) {c : Nat → Addr} (cl : Cl K mg c) : FnOk P w K mg base CX0 1 f fd ["text"] spSmall := by
  refine F.ok sc_has_small_letters_alone (fun vs H Q E h => ?_) (fun cdv A outer s H vs Q E hr h => ?_)
  · obtain ⟨x, rfl, _⟩ := h
    rfl
  obtain ⟨x, rfl, hs, hl, q⟩ := h
  have nd0 : (["sign"] : List Str).Nodup := by decide +kernel
  refine ⟨_, (@pss_one _ _ _ (@ps_ret _ _ _ _ (@pe_callB _ _ _ _ _ _ _ _ _ (@kcall_all _ K rfl (by rfl)) rfl gb.all bt_all (@pa_cons _ _ _ _ _ (@pe_comp _ ["sign"] [none] _ _ _ _ _ _ _ _ _ _ (by exact (show CompOk ["text"] (defScope s_has_small_letters_alone) ["sign"] [none] _ from ⟨rfl, by decide +kernel, by decide +kernel, by decide +kernel, by decide +kernel, rfl, by decide +kernel⟩)) rfl (@pi_str _ _ _ _ (@pv _ 0 _ _ (by rfl) (by first | exact Or.inl rfl | exact Or.inr (Or.inl rfl) | exact Or.inr (Or.inr rfl)) (by decide) (by decide))) (fun _ _ _ _ => (@pg_name _ _ 0 _ nd0 rfl (Or.inl rfl) (by first | exact .inl rfl | exact .inr rfl | assumption))) (fun _ _ _ _ => (@pf_nil _)) (fun _ _ _ _ => (@pe_chain _ _ _ _ _ _ _ _ _ _ _ _ (@op_le_str _) (@op_le_str _) (@pe_str _ _ _ _) (@pv _ 0 _ _ (by rfl) (by first | exact Or.inl rfl | exact Or.inr (Or.inl rfl) | exact Or.inr (Or.inr rfl)) (by decide) (by decide)) (@pe_str _ _ _ _) (by with_unfolding_all rfl))) (by intro _; rfl)) (@pa_nil _) (by rfl)) (by decide) (by decide) (by rfl) (by rfl)))), ?_⟩
  refine ⟨_, rfl, x, rfl, fun D hD => ?_⟩
  refine map_str (h := fun _ => .bl true) (by walk_at "om") hD (fun c hc H' Q' s1 q' => ?_) (fun H' s1 hD' => ?_)
  · obtain ⟨c0, c1⟩ := hs c hc
    refine ⟨_, rfl, _, _, rfl, rfl, _, rfl, ?_⟩
    have e1 : (!decide ((Str.mk #[c]).cps.toList < (Str.ofString "a").cps.toList)) = true := by
      have : (Str.ofString "a").cps.toList = [97] := by decide +kernel
      rw [this]
      simp [List.cons_lt_cons_iff]
      walk_at "om"
    have e2 : (!decide ((Str.ofString "z").cps.toList < (Str.mk #[c]).cps.toList)) = true := by
      have : (Str.ofString "z").cps.toList = [122] := by decide +kernel
      rw [this]
      simp [List.cons_lt_cons_iff]
      walk_at "om"
    rw [if_pos e1]
    refine ⟨_, _, rfl, rfl, ?_⟩
    rw [e2]
    exact q' _ Same.rfl'
  · rw [trues] at hD'
    refine ⟨D, _, rfl, SqL.of hD', ?_⟩
    rw [all_trues]
    exact q _ s1

noncomputable abbrev s_is_letter : Stmt := top 9
theorem sc_is_letter : FnScope ["thing"] ["thing"] (defScope s_is_letter) := ⟨rfl, rfl, rfl, by decide +kernel, rfl, by decide +kernel, by decide +kernel⟩
theorem ok_is_letter {P : Program} {w : World} {K : PySem.W.Frag} {mg : Str → Option Value} {base : Heap} {f : Addr} {fd : FuncData} (F : Fun K "is_letter" "is_letter" s_is_letter f fd) (gb : Gb mg) {c : Nat → Addr} (cl : Cl K mg c) (d_has_small_letters_alone : Def P w K mg base 1 "has_small_letters_alone" ["text"] spSmall) : FnOk P w K mg base CX0 2 f fd ["thing"] spIsL := by
  refine F.ok sc_is_letter (fun vs H Q E h => ?_) (fun cdv A outer s H vs Q E hr h => ?_)
  · obtain ⟨v, s, rfl, _⟩ := h
    rfl
  obtain ⟨v, s, rfl, ih, hl, q⟩ := h
  refine ⟨_, (@pss_one _ _ _ (@ps_ret _ _ _ _ (@pe_and _ _ _ _ _ _ _ (@pe_callB _ _ _ _ _ _ _ _ _ (@kcall_isiT _ K (by rfl)) rfl gb.isinstance bt_isinstance (@pa_cons _ _ _ _ _ (@pv _ 0 _ _ (by rfl) (by first | exact Or.inl rfl | exact Or.inr (Or.inl rfl) | exact Or.inr (Or.inr rfl)) (by decide) (by decide)) (@pa_cons _ _ _ _ _ (@pe_bltn _ _ (.ty "str") _ _ rfl gb.str bt_str rfl (by decide) (by decide)) (@pa_nil _) (by rfl)) (by rfl)) (by decide) (by decide) (by rfl) (by rfl)) (@pe_and _ _ _ _ _ _ _ (@pe_cmpR _ _ _ _ _ _ _ _ (@op_eq _) (@pe_callB _ _ _ _ _ _ _ _ _ (@kcall_len _ K (by rfl)) rfl gb.len bt_len (@pa_cons _ _ _ _ _ (@pv _ 0 _ _ (by rfl) (by first | exact Or.inl rfl | exact Or.inr (Or.inl rfl) | exact Or.inr (Or.inr rfl)) (by decide) (by decide)) (@pa_nil _) (by rfl)) (by decide) (by decide) (by rfl) (by rfl)) (@pe_int _ _ _ _) (@nomark _ _ (by decide) (by decide))) (@pe_one _ _ _ _ _ (@pe_def _ _ _ _ _ _ _ _ _ _ _ d_has_small_letters_alone hr (by walk_at "om") rfl (@pa_cons _ _ _ _ _ (@pv _ 0 _ _ (by rfl) (by first | exact Or.inl rfl | exact Or.inr (Or.inl rfl) | exact Or.inr (Or.inr rfl)) (by decide) (by decide)) (@pa_nil _) (by rfl)) (by decide) (by rfl) (by rfl))))))), ?_⟩
  refine ⟨_, rfl, ?_⟩
  cases hs : s.isL with
  | true =>
    obtain rfl := ih.letter hs
    obtain ⟨l1, sm⟩ := hl hs
    refine ⟨_, _, _, true, rfl, .str _, kit_same "str", true, rfl, iteT ?_⟩
    refine ⟨_, rfl, _, s.nm.length, rfl, ⟨small9 (by walk_at "om"), rfl⟩, rfl, true, ?_, iteT ?_⟩
    · rw [l1]
      rfl
    · exact ⟨_, rfl, s.nm, rfl, sm, by walk_at "om", fun H' s1 => by have q2 := q H' s1; rw [hs] at q2; exact q2⟩
  | false =>
    obtain ⟨t, us, rfl, ht, _⟩ := ih.node hs
    exact ⟨_, _, _, false, rfl, .tup ht, kit_str (K := K) (.tup []), false, rfl, iteF (by have q2 := q H (Same.refl H); rw [hs] at q2; exact q2)⟩

noncomputable abbrev s_check_kind : Stmt := top 33
theorem sc_check_kind : FnScope ["kind"] ["kind"] (defScope s_check_kind) := ⟨rfl, rfl, rfl, by decide +kernel, rfl, by decide +kernel, by decide +kernel⟩
theorem ok_check_kind {P : Program} {w : World} {K : PySem.W.Frag} {mg : Str → Option Value} {base : Heap} {f : Addr} {fd : FuncData} (F : Fun K "check_kind" "check_kind" s_check_kind f fd) (gb : Gb mg) {c : Nat → Addr} (cl : Cl K mg c) : FnOk P w K mg base CX0 1 f fd ["kind"] spKindQ := by
  refine F.ok sc_check_kind (fun vs H Q E h => ?_) (fun cdv A outer s H vs Q E hr h => ?_)
  · obtain ⟨k, rfl, _⟩ := h
    rfl
  obtain ⟨k, rfl, kd, q⟩ := h
  refine ⟨_, (@pss_one _ _ _ (@ps_if _ _ _ _ _ _ _ _ (@PW.pt _ _ _ (@pw_or _ _ _ _ _ _ _ (@pt_not _ _ _ _ (@pt_val _ _ _ (@pe_callB _ _ _ _ _ _ _ _ _ (@kcall_isiT _ K (by rfl)) rfl gb.isinstance bt_isinstance (@pa_cons _ _ _ _ _ (@pv _ 0 _ _ (by rfl) (by first | exact Or.inl rfl | exact Or.inr (Or.inl rfl) | exact Or.inr (Or.inr rfl)) (by decide) (by decide)) (@pa_cons _ _ _ _ _ (@pe_bltn _ _ (.ty "str") _ _ rfl gb.str bt_str rfl (by decide) (by decide)) (@pa_nil _) (by rfl)) (by rfl)) (by decide) (by decide) (by rfl) (by rfl)) (by intro _; rfl))) (@pw_or1 _ _ _ _ (@pt_cmpR _ _ _ _ _ _ _ _ (@kop_notIn_seq _ K (by rfl)) (@pv _ 0 _ _ (by rfl) (by first | exact Or.inl rfl | exact Or.inr (Or.inl rfl) | exact Or.inr (Or.inr rfl)) (by decide) (by decide)) (@pe_glob _ _ (.ref _) _ _ rfl cl.g_KINDS rfl (by decide)) (by with_unfolding_all rfl))))) (@pss_one _ _ _ (@ps_never _ _)) (@pss_nil _))), ?_⟩
  refine ⟨_, rfl, _, _, _, true, rfl, .str _, kit_same "str", true, rfl, ?_⟩
  refine ⟨_, rfl, _, _, rfl, .inr cl.t_KINDS.sq, rfl, rfl, _, rfl, ?_⟩
  have eb : inV (.str k) [.str "least", .str "cut", .str "times"] = true := by
    rcases kd with rfl | rfl | rfl <;> decide +kernel
  dsimp only
  rw [eb]
  exact q

noncomputable abbrev s_written_parts : Stmt := top 20
theorem sc_written_parts : FnScope ["S", "parts", "waiting", "part"] ["S"] (defScope s_written_parts) := ⟨rfl, rfl, rfl, by decide +kernel, rfl, by decide +kernel, by decide +kernel⟩
theorem ok_written_parts {P : Program} {w : World} {K : PySem.W.Frag} {mg : Str → Option Value} {base : Heap} {f : Addr} {fd : FuncData} (F : Fun K "written_parts" "written_parts" s_written_parts f fd) (gb : Gb mg) {c : Nat → Addr} (cl : Cl K mg c) (d_is_letter : Def P w K mg base 2 "is_letter" ["thing"] spIsL) : FnOk P w K mg base CX0 3 f fd ["S"] spWritten := by
  refine F.ok sc_written_parts (fun vs H Q E h => ?_) (fun cdv A outer s H vs Q E hr h => ?_)
  · obtain ⟨v, s, L, rfl, _⟩ := h
    rfl
  obtain ⟨v, s, L, rfl, ih, gs, hL, h63, q⟩ := h
  refine ⟨_, (@pss_cons _ _ _ _ _ (@ps_set _ _ 1 _ _ _ _ sc_written_parts.nd rfl (Or.inl rfl) (@pe_lst _ _ _ _ (@pa_nil _)) (by rfl) (by first | exact .inl rfl | exact .inr rfl | assumption)) (@pss_cons _ _ _ _ _ (@ps_set _ _ 2 _ _ _ _ sc_written_parts.nd rfl (Or.inl rfl) (@pe_lst _ _ _ _ (@pa_cons _ _ _ _ _ (@pv _ 0 _ _ (by rfl) (by first | exact Or.inl rfl | exact Or.inr (Or.inl rfl) | exact Or.inr (Or.inr rfl)) (by decide) (by decide)) (@pa_nil _) (by rfl))) (by rfl) (by first | exact .inl rfl | exact .inr rfl | assumption)) (@pss_cons _ _ _ _ _ (@ps_while _ _ _ _ _ _ PassesOwn.never (@pt_cmpR _ _ _ _ _ _ _ _ (@op_gt _) (@pe_callB _ _ _ _ _ _ _ _ _ (@kcall_len _ K (by rfl)) rfl gb.len bt_len (@pa_cons _ _ _ _ _ (@pv _ 2 _ _ (by rfl) (by first | exact Or.inl rfl | exact Or.inr (Or.inl rfl) | exact Or.inr (Or.inr rfl)) (by decide) (by decide)) (@pa_nil _) (by rfl)) (by decide) (by decide) (by rfl) (by rfl)) (@pe_int _ _ _ _) (@nomark _ _ (by decide) (by decide))) (@pss_cons _ _ _ _ _ (@ps_set _ _ 3 _ _ _ _ sc_written_parts.nd rfl (Or.inl rfl) (@kpe_bm0 _ K _ _ _ _ _ _ _ _ PySem.F.plainAttrs_list PySem.F.slot_list_pop PySem.F.type_list_pop (@mt_pop _) (@pv _ 2 _ _ (by rfl) (by first | exact Or.inl rfl | exact Or.inr (Or.inl rfl) | exact Or.inr (Or.inr rfl)) (by decide) (by decide)) (by rfl) (by rfl) (by rfl)) (by rfl) (by first | exact .inl rfl | exact .inr rfl | assumption)) (@pss_cons _ _ _ _ _ (@ps_expr _ _ _ _ (@kpe_bm _ K _ _ _ _ _ _ _ _ _ _ _ PySem.F.plainAttrs_list PySem.F.slot_list_append PySem.F.type_list_append (@mt_append _) (@pv _ 1 _ _ (by rfl) (by first | exact Or.inl rfl | exact Or.inr (Or.inl rfl) | exact Or.inr (Or.inr rfl)) (by decide) (by decide)) (@pa_cons _ _ _ _ _ (@pv _ 3 _ _ (by rfl) (by first | exact Or.inl rfl | exact Or.inr (Or.inl rfl) | exact Or.inr (Or.inr rfl)) (by decide) (by decide)) (@pa_nil _) (by rfl)) (by rfl) (by rfl) (by rfl) (by rfl) (by rfl) (by rfl)) (by rfl)) (@pss_one _ _ _ (@ps_if _ _ _ _ _ _ _ _ (@pt_not _ _ _ _ (@pt_val _ _ _ (@pe_def _ _ _ _ _ _ _ _ _ _ _ d_is_letter hr (by walk_at "om") rfl (@pa_cons _ _ _ _ _ (@pv _ 3 _ _ (by rfl) (by first | exact Or.inl rfl | exact Or.inr (Or.inl rfl) | exact Or.inr (Or.inr rfl)) (by decide) (by decide)) (@pa_nil _) (by rfl)) (by decide) (by rfl) (by rfl)) (by intro _; rfl))) (@pss_one _ _ _ (@ps_expr _ _ _ _ (@kpe_bm _ K _ _ _ _ _ _ _ _ _ _ _ PySem.F.plainAttrs_list PySem.F.slot_list_extend PySem.F.type_list_extend (@mt_extend _) (@pv _ 2 _ _ (by rfl) (by first | exact Or.inl rfl | exact Or.inr (Or.inl rfl) | exact Or.inr (Or.inr rfl)) (by decide) (by decide)) (@pa_cons _ _ _ _ _ (@pe_listRev _ K _ _ _ _ _ _ rfl gb.list rfl gb.reversed (@pa_cons _ _ _ _ _ (@pe_slice _ _ _ _ _ _ _ _ _ _ (@kslT _ K (by rfl)) (@pv _ 3 _ _ (by rfl) (by first | exact Or.inl rfl | exact Or.inr (Or.inl rfl) | exact Or.inr (Or.inr rfl)) (by decide) (by decide)) (@po_some _ _ _ (@pe_int _ _ _ _)) (@po_none _)) (@pa_nil _) (by rfl)) (by rfl) (by rfl) (by rfl) (by rfl)) (@pa_nil _) (by rfl)) (by rfl) (by rfl) (by rfl) (by rfl) (by rfl) (by rfl)) (by rfl))) (@pss_nil _)))))) (@pss_one _ _ _ (@ps_ret _ _ _ _ (@pv _ 1 _ _ (by rfl) (by first | exact Or.inl rfl | exact Or.inr (Or.inl rfl) | exact Or.inr (Or.inr rfl)) (by decide) (by decide))))))), ?_⟩
  refine ⟨small9 (by show 0 ≤ 1000; decide), fun pa hpa => ?_⟩
  have n1 := same_new hpa (.lst [])
  refine ⟨_, rfl, small9 (by show 1 ≤ 1000; decide), fun wa hwa => ?_⟩
  have n2 := same_new hwa (.lst [v])
  have pw : pa ≠ wa := ne_of_none upd_same hwa
  refine ⟨fun m σ H' => (∃ x3, σ = [some v, some (.ref pa), some (.ref wa), x3]) ∧ Same H H' ∧ ∃ ps ws : List (V × Sy), H' pa = some (.lst (ps.map Prod.fst)) ∧ H' wa = some (.lst (ws.map Prod.fst)) ∧ Says H L ps ∧ Says H L ws ∧ (ws.map fun z => z.2.sz).sum = m ∧ ps.length + m ≤ 63 ∧ ws.length ≤ m, ⟨s.sz, ⟨_, rfl⟩, n1.trans n2, [], [(v, s)], n2 _ _ upd_same, upd_same, (fun z hz => by cases hz), (fun z hz => by rw [List.mem_singleton.mp hz]; exact ⟨gs, ih⟩), by simp, by simpa using h63, by have := Sy.sz_ps s; simp; walk_at "om"⟩, ?_⟩
  rintro m σ H1 ⟨⟨x3, rfl⟩, s1, ps, ws, hp, hw, gp, gw, hm, h6, hwl⟩
  refine ⟨_, rfl, _, _, rfl, .inl ⟨_, SqL.of hw, rfl⟩, _, _, rfl, rfl, _, rfl, ?_⟩
  rw [List.length_map]
  rcases List.eq_nil_or_concat ws with rfl | ⟨ws, z, rfl⟩
  · refine iteDF rfl ?_
    refine ⟨_, rfl, q pa ps H1 s1 hp (by walk_at "om") fun z hz => ⟨(gp z hz).1, (gp z hz).2.same s1⟩⟩
  rw [List.concat_eq_append] at *
  have zl : 0 < z.2.sz := by have := Sy.sz_ps z.2; walk_at "om"
  refine iteDT (decide_eq_true (by rw [List.length_append]; show (0 : Int) < ((ws.length + 1 : Nat) : Int); walk_at "om")) ?_
  rw [List.map_append, List.sum_append] at hm
  simp only [List.map_cons, List.map_nil, List.sum_cons, List.sum_nil, Nat.add_zero] at hm
  have hwl : ws.length + 1 ≤ m := by simpa using hwl
  refine ⟨fun σ' H' => (∃ x3, σ' = [some v, some (.ref pa), some (.ref wa), x3]) ∧ Same H H' ∧ ∃ ps ws : List (V × Sy), H' pa = some (.lst (ps.map Prod.fst)) ∧ H' wa = some (.lst (ws.map Prod.fst)) ∧ Says H L ps ∧ Says H L ws ∧ (ws.map fun z => z.2.sz).sum = m - 1 ∧ ps.length + (m - 1) ≤ 63 ∧ ws.length ≤ m - 1, fun σ' H' h => ⟨m - 1, by walk_at "om", h⟩, ?_⟩
  obtain ⟨gz, iz⟩ := gw z (by simp)
  have gw' : Says H L ws := fun y hy => gw y (List.mem_append_left _ hy)
  refine ⟨_, rfl, .inl ⟨rfl, _, SqL.of hw⟩, wa, _, z.1, rfl, rfl, hw, by simp, ?_⟩
  rw [show (List.map Prod.fst (ws ++ [z])).dropLast = ws.map Prod.fst by rw [List.map_append]; simp]
  have hp2 : (upd H1 wa (.lst (ws.map Prod.fst))) pa = some (.lst (ps.map Prod.fst)) := by rw [upd_ne pw]; exact hp
  have s2 : Same H (upd H1 wa (.lst (ws.map Prod.fst))) := s1.put (n1.free hwa)
  refine ⟨_, rfl, .inl ⟨rfl, _, SqL.of hp2⟩, _, rfl, pa, _, _, rfl, rfl, hp2, by rw [List.length_map]; exact small1000 (by walk_at "om"), ?_⟩
  have s3 : Same H (upd (upd H1 wa (.lst (ws.map Prod.fst))) pa (.lst (ps.map Prod.fst ++ [z.1]))) := s2.put hpa
  have hp3 : (upd (upd H1 wa (.lst (ws.map Prod.fst))) pa (.lst (ps.map Prod.fst ++ [z.1]))) pa = some (.lst ((ps ++ [z]).map Prod.fst)) := by rw [upd_same, List.map_append]; rfl
  have hw3 : (upd (upd H1 wa (.lst (ws.map Prod.fst))) pa (.lst (ps.map Prod.fst ++ [z.1]))) wa = some (.lst (ws.map Prod.fst)) := by rw [upd_ne (Ne.symm pw)]; exact upd_same
  generalize upd (upd H1 wa (.lst (ws.map Prod.fst))) pa (.lst (ps.map Prod.fst ++ [z.1])) = H3 at *
  have gp' : Says H L (ps ++ [z]) := fun y hy => by
    rcases List.mem_append.mp hy with h | h
    · exact gp y h
    · rw [List.mem_singleton.mp h]
      exact ⟨gz, iz⟩
  refine ⟨_, rfl, z.1, z.2, rfl, iz.same s3, fun hl => hL _ (gz.letter hl), fun H4 s4 => ⟨_, rfl, ?_⟩⟩
  cases hz : z.2.isL with
  | true =>
    refine iteF ⟨⟨_, rfl⟩, s3.trans s4, ps ++ [z], ws, s4 _ _ hp3, s4 _ _ hw3, gp', gw', ?_, ?_, ?_⟩
    · have : z.2.sz = 1 := by
        cases hz' : z.2 with
        | ltr x => rfl
        | _ => rw [hz'] at hz; cases hz
      walk_at "om"
    · rw [List.length_append]
      show ps.length + 1 + (m - 1) ≤ 63
      walk_at "om"
    · have : 0 < z.2.sz := zl
      walk_at "om"
  | false =>
    refine iteT ?_
    obtain ⟨t, us, ev, ht, hP⟩ := iz.node hz
    obtain ⟨nm7, pl, gps⟩ := gz.node hz
    have hul := Paired.length hP
    have a2 := arity2 z.2.nm
    have ht4 := (s3.trans s4) _ _ ht
    refine ⟨_, rfl, .inl ⟨rfl, _, SqL.of (s4 _ _ hw3)⟩, _, by rw [ev]; rfl, _, rfl, ?_⟩
    refine slT_of ht4 fun t5 H5 s5 ht5 => ?_
    rw [cut_drop1 (by simp)] at ht5
    refine ⟨t5, us, rfl, SqT.of ht5, by walk_at "om", fun l6 hl6 => ?_⟩
    have n6 := same_new hl6 (.lst us.reverse)
    have s6 := s4.trans (s5.trans n6)
    obtain ⟨y1, y2, y3⟩ := paired_says hP gps
    have hw6 := s6 _ _ hw3
    refine ⟨wa, l6, _, _, rfl, rfl, hw6, upd_same, by rw [List.length_map, List.length_reverse]; exact small9 (by walk_at "om"), ⟨⟨_, rfl⟩, (s3.trans s6).put (n1.free hwa), ps ++ [z], ws ++ (us.zip z.2.ps).reverse, ?_, ?_, gp', fun y hy => ?_, ?_, ?_, ?_⟩⟩
    · rw [upd_ne pw]
      exact s6 _ _ hp3
    · rw [upd_same, List.map_append, List.map_reverse, y2]
    · rcases List.mem_append.mp hy with h | h
      · exact gw' y h
      · exact y1 y (List.mem_reverse.mp h)
    · have e1 : ((us.zip z.2.ps).map fun z => z.2.sz) = z.2.ps.map Sy.sz := by
        rw [← y3, List.map_map]
        rw [y3]
        rfl
      rw [List.map_append, List.sum_append, List.map_reverse, List.sum_reverse, e1]
      have := Sy.sz_ps z.2
      walk_at "om"
    · rw [List.length_append]
      show ps.length + 1 + (m - 1) ≤ 63
      walk_at "om"
    · have e1 : (us.zip z.2.ps).length = z.2.ps.length := by rw [← List.length_map (f := Prod.snd), y3]
      have e2 : z.2.ps.length ≤ (z.2.ps.map Sy.sz).sum := len_sum _ fun y => by have := Sy.sz_ps y; walk_at "om"
      have e3 : ws.length ≤ (ws.map fun (z : V × Sy) => z.2.sz).sum := len_sum _ fun y => by have := Sy.sz_ps y.2; walk_at "om"
      have := Sy.sz_ps z.2
      rw [List.length_append, List.length_reverse, e1]
      walk_at "om"

noncomputable abbrev s_check_names : Stmt := top 25
theorem sc_check_names : FnScope ["shapes", "parts", "part"] ["shapes", "parts"] (defScope s_check_names) := ⟨rfl, rfl, rfl, by decide +kernel, rfl, by decide +kernel, by decide +kernel⟩
theorem ok_check_names {P : Program} {w : World} {K : PySem.W.Frag} {mg : Str → Option Value} {base : Heap} {f : Addr} {fd : FuncData} (F : Fun K "check_names" "check_names" s_check_names f fd) (gb : Gb mg) {c : Nat → Addr} (cl : Cl K mg c) (d_is_letter : Def P w K mg base 2 "is_letter" ["thing"] spIsL) : FnOk P w K mg base CX0 3 f fd ["shapes", "parts"] (spChkN2 (c 6)) := by
  refine F.ok sc_check_names (fun vs H Q E h => ?_) (fun cdv A outer s H vs Q E hr h => ?_)
  · obtain ⟨sh, l, L, ps, rfl, _⟩ := h
    rfl
  obtain ⟨sh, l, L, ps, rfl, hsh, hl, h63, sy, hL, q⟩ := h
  refine ⟨_, (@pss_one _ _ _ (@ps_for _ _ _ _ _ _ _ _ PassesOwn.never rfl (@kpi_list _ K _ _ _ (@pv _ 1 _ _ (by rfl) (by first | exact Or.inl rfl | exact Or.inr (Or.inl rfl) | exact Or.inr (Or.inr rfl)) (by decide) (by decide)) (by rfl)) (@pg_name _ _ 2 _ sc_check_names.nd rfl (Or.inl rfl) (by first | exact .inl rfl | exact .inr rfl | assumption)) (@pss_one _ _ _ (@ps_if _ _ _ _ _ _ _ _ (@PW.pt _ _ _ (@pw_and _ _ _ _ _ _ _ (@pt_not _ _ _ _ (@pt_val _ _ _ (@pe_def _ _ _ _ _ _ _ _ _ _ _ d_is_letter hr (by walk_at "om") rfl (@pa_cons _ _ _ _ _ (@pv _ 2 _ _ (by rfl) (by first | exact Or.inl rfl | exact Or.inr (Or.inl rfl) | exact Or.inr (Or.inr rfl)) (by decide) (by decide)) (@pa_nil _) (by rfl)) (by decide) (by rfl) (by rfl)) (by intro _; rfl))) (@pw_and1 _ _ _ _ (@pt_cmpR _ _ _ _ _ _ _ _ (@op_or2 _ _ _ _ (@op_notInTT _ K _ hr (by rfl)) (@op_tNotIn _ _ hr)) (@pe_tup _ _ _ _ _ (@pa_cons _ _ _ _ _ (@pe_ix _ _ _ _ _ _ _ (@kix_seq _ K (by rfl)) (@pv _ 2 _ _ (by rfl) (by first | exact Or.inl rfl | exact Or.inr (Or.inl rfl) | exact Or.inr (Or.inr rfl)) (by decide) (by decide)) (@pe_int _ _ _ _) (fun _ _ => rfl)) (@pa_cons _ _ _ _ _ (@pe_op _ _ _ _ _ _ _ _ (@op_sub _) (@pe_callB _ _ _ _ _ _ _ _ _ (@kcall_len _ K (by rfl)) rfl gb.len bt_len (@pa_cons _ _ _ _ _ (@pv _ 2 _ _ (by rfl) (by first | exact Or.inl rfl | exact Or.inr (Or.inl rfl) | exact Or.inr (Or.inr rfl)) (by decide) (by decide)) (@pa_nil _) (by rfl)) (by decide) (by decide) (by rfl) (by rfl)) (@pe_int _ _ _ _)) (@pa_nil _) (by rfl)) (by rfl))) (@pv _ 0 _ _ (by rfl) (by first | exact Or.inl rfl | exact Or.inr (Or.inl rfl) | exact Or.inr (Or.inr rfl)) (by decide) (by decide)) (by with_unfolding_all rfl))))) (@pss_one _ _ _ (@ps_never _ _)) (@pss_nil _))) (by intro _; rfl))), ?_⟩
  obtain ⟨a0, a1, a2, a3, a4, a5, a6, kt, k0, k1, k2, k3, k4, k5, k6⟩ := cl.t_SHAPES
  refine ⟨_, rfl, l, rfl, ⟨_, SqL.of hl⟩, ?_⟩
  refine for_list (xs := ps.map Prod.fst) (fun i σ H' => (∃ x2, σ = [some (.ref sh), some (.ref l), x2]) ∧ Same H H') ⟨⟨_, rfl⟩, Same.refl _⟩ (fun i σ H' _ h => SqL.of (h.2 _ _ hl)) ?_ (fun σ H' h => q H' h.2)
  rintro i x σ H1 hx ⟨⟨x2, rfl⟩, s1⟩
  rw [List.getElem?_map] at hx
  obtain ⟨z, hz, rfl⟩ := Option.map_eq_some_iff.mp hx
  obtain ⟨gz, iz⟩ := sy z (List.mem_of_getElem? hz)
  refine ⟨_, rfl, z.1, z.2, rfl, iz.same s1, fun h => hL _ (gz.letter h), fun H2 s2 => ⟨_, rfl, ?_⟩⟩
  cases hs : z.2.isL with
  | true => exact ⟨⟨_, rfl⟩, s1.trans s2⟩
  | false =>
    obtain ⟨t, us, ev, ht, hP⟩ := iz.node hs
    obtain ⟨nm7, pl, gps⟩ := gz.node hs
    have hul := Paired.length hP
    have ht2 := s2 _ _ (s1 _ _ ht)
    rw [ev]
    refine ⟨_, rfl, .inr (.inl ⟨t, _, _, _, rfl, rfl, SqT.of ht2, at0, _, rfl, _, _, rfl, .inr ⟨_, SqT.of ht2, rfl⟩, _, _, rfl, rfl, small9 (by show 2 ≤ 1000; decide), fun t3 ht3 => ?_⟩)⟩
    have el : V.int (((.str z.2.nm :: us : List V).length : Int) - 1) = .int (arity z.2.nm : Nat) := by
      rw [List.length_cons, ← hul, pl]
      show V.int _ = V.int _
      congr 1
      walk_at "om"
    dsimp only
    rw [el]
    have n3 := same_new ht3 (.tup [.str z.2.nm, .int (arity z.2.nm : Nat)])
    rcases hsh with rfl | ⟨kk, nn, hc⟩
    · refine ⟨_, rfl, .inl ⟨t3, c 6, _, _, shapesL, rfl, rfl, SqT.of upd_same, rfl, kt.sq, .cons ⟨a0, rfl, k0.sq, rfl, rfl⟩ (.cons ⟨a1, rfl, k1.sq, rfl, rfl⟩ (.cons ⟨a2, rfl, k2.sq, rfl, rfl⟩ (.cons ⟨a3, rfl, k3.sq, rfl, rfl⟩ (.cons ⟨a4, rfl, k4.sq, rfl, rfl⟩ (.cons ⟨a5, rfl, k5.sq, rfl, rfl⟩ (.cons ⟨a6, rfl, k6.sq, rfl, rfl⟩ .nil)))))), ?_⟩⟩
      rw [shape_in nm7]
      exact ⟨_, rfl, ⟨⟨_, rfl⟩, s1.trans (s2.trans n3)⟩⟩
    · obtain ⟨kvs, hk, hv⟩ := hc.same (s1.trans (s2.trans n3))
      obtain ⟨w, ew, _⟩ := hv _ nm7
      refine ⟨_, rfl, .inr ⟨sh, t3, kvs, keyOf z.2.nm, rfl, rfl, hk, upd_same, ?_⟩⟩
      rw [ew]
      exact ⟨_, rfl, ⟨⟨_, rfl⟩, s1.trans (s2.trans n3)⟩⟩

noncomputable abbrev s_check_letters : Stmt := top 26
theorem sc_check_letters : FnScope ["parts", "known", "part"] ["parts", "known"] (defScope s_check_letters) := ⟨rfl, rfl, rfl, by decide +kernel, rfl, by decide +kernel, by decide +kernel⟩
theorem ok_check_letters {P : Program} {w : World} {K : PySem.W.Frag} {mg : Str → Option Value} {base : Heap} {f : Addr} {fd : FuncData} (F : Fun K "check_letters" "check_letters" s_check_letters f fd) (gb : Gb mg) {c : Nat → Addr} (cl : Cl K mg c) (d_is_letter : Def P w K mg base 2 "is_letter" ["thing"] spIsL) : FnOk P w K mg base CX0 3 f fd ["parts", "known"] spChkL2 := by
  refine F.ok sc_check_letters (fun vs H Q E h => ?_) (fun cdv A outer s H vs Q E hr h => ?_)
  · obtain ⟨l, g, L, ps, rfl, _⟩ := h
    rfl
  obtain ⟨l, g, L, ps, rfl, hl, h63, sy, hL, hh, q⟩ := h
  refine ⟨_, (@pss_one _ _ _ (@ps_for _ _ _ _ _ _ _ _ PassesOwn.never rfl (@kpi_list _ K _ _ _ (@pv _ 0 _ _ (by rfl) (by first | exact Or.inl rfl | exact Or.inr (Or.inl rfl) | exact Or.inr (Or.inr rfl)) (by decide) (by decide)) (by rfl)) (@pg_name _ _ 2 _ sc_check_letters.nd rfl (Or.inl rfl) (by first | exact .inl rfl | exact .inr rfl | assumption)) (@pss_one _ _ _ (@ps_if _ _ _ _ _ _ _ _ (@PW.pt _ _ _ (@pw_and _ _ _ _ _ _ _ (@pt_val _ _ _ (@pe_def _ _ _ _ _ _ _ _ _ _ _ d_is_letter hr (by walk_at "om") rfl (@pa_cons _ _ _ _ _ (@pv _ 2 _ _ (by rfl) (by first | exact Or.inl rfl | exact Or.inr (Or.inl rfl) | exact Or.inr (Or.inr rfl)) (by decide) (by decide)) (@pa_nil _) (by rfl)) (by decide) (by rfl) (by rfl)) (by intro _; rfl)) (@pw_and1 _ _ _ _ (@pt_cmpR _ _ _ _ _ _ _ _ (@op_kNotIn _ _ hr) (@pv _ 2 _ _ (by rfl) (by first | exact Or.inl rfl | exact Or.inr (Or.inl rfl) | exact Or.inr (Or.inr rfl)) (by decide) (by decide)) (@pv _ 1 _ _ (by rfl) (by first | exact Or.inl rfl | exact Or.inr (Or.inl rfl) | exact Or.inr (Or.inr rfl)) (by decide) (by decide)) (by with_unfolding_all rfl))))) (@pss_one _ _ _ (@ps_never _ _)) (@pss_nil _))) (by intro _; rfl))), ?_⟩
  refine ⟨_, rfl, l, rfl, ⟨_, SqL.of hl⟩, ?_⟩
  refine for_list (xs := ps.map Prod.fst) (fun i σ H' => (∃ x2, σ = [some (.ref l), some (.ref g), x2]) ∧ Same H H') ⟨⟨_, rfl⟩, Same.refl _⟩ (fun i σ H' _ h => SqL.of (h.2 _ _ hl)) ?_ (fun σ H' h => q H' h.2)
  rintro i x σ H1 hx ⟨⟨x2, rfl⟩, s1⟩
  rw [List.getElem?_map] at hx
  obtain ⟨z, hz, rfl⟩ := Option.map_eq_some_iff.mp hx
  obtain ⟨gz, iz⟩ := sy z (List.mem_of_getElem? hz)
  refine ⟨_, rfl, z.1, z.2, rfl, iz.same s1, fun h => hL _ (gz.letter h), fun H2 s2 => ⟨_, rfl, ?_⟩⟩
  cases hs : z.2.isL with
  | false => exact ⟨⟨_, rfl⟩, s1.trans s2⟩
  | true =>
    have ev := iz.letter hs
    rw [ev]
    obtain ⟨kvs, hk, hv⟩ := hh
    obtain ⟨v, e⟩ := Option.isSome_iff_exists.mp (hv _ (gz.letter hs))
    refine ⟨_, rfl, _, rfl, g, kvs, Sum.inr z.2.nm, rfl, rfl, s2 _ _ (s1 _ _ hk), ?_⟩
    rw [e]
    exact ⟨_, rfl, ⟨⟨_, rfl⟩, s1.trans s2⟩⟩

noncomputable abbrev s_graded : Stmt := top 34
theorem sc_graded : FnScope ["kind", "S", "grading"] ["kind", "S", "grading"] (defScope s_graded) := ⟨rfl, rfl, rfl, by decide +kernel, rfl, by decide +kernel, by decide +kernel⟩
theorem ok_graded {P : Program} {w : World} {K : PySem.W.Frag} {mg : Str → Option Value} {base : Heap} {f : Addr} {fd : FuncData} (F : Fun K "graded" "graded" s_graded f fd) (gb : Gb mg) {c : Nat → Addr} (cl : Cl K mg c) (d_is_letter : Def P w K mg base 2 "is_letter" ["thing"] spIsL) (d_connected : Def P w K mg base 5 "connected" ["kind", "name", "grades"] (spConn K)) (j : Nat) (d_graded : Def P w K mg base (6 + j) "graded" ["kind", "S", "grading"] ((spGraded K) j)) : FnOk P w K mg base CX0 (6 + j + 1) f fd ["kind", "S", "grading"] ((spGraded K) (j + 1)) := by
  refine F.ok sc_graded (fun vs H Q E h => ?_) (fun cdv A outer s H vs Q E hr h => ?_)
  · obtain ⟨k, v, s, g, L, ρ, rfl, _⟩ := h
    rfl
  obtain ⟨k, v, s, g, L, ρ, rfl, kd, ih, gs, hL, ig, hj, d5, q⟩ := h
  have nd0 : (["part", "kind", "grading"] : List Str).Nodup := by decide +kernel
  refine ⟨_, (@pss_cons _ _ _ _ _ (@ps_if _ _ _ _ _ _ _ _ (@pt_val _ _ _ (@pe_def _ _ _ _ _ _ _ _ _ _ _ d_is_letter hr (by walk_at "om") rfl (@pa_cons _ _ _ _ _ (@pv _ 1 _ _ (by rfl) (by first | exact Or.inl rfl | exact Or.inr (Or.inl rfl) | exact Or.inr (Or.inr rfl)) (by decide) (by decide)) (@pa_nil _) (by rfl)) (by decide) (by rfl) (by rfl)) (by intro _; rfl)) (@pss_one _ _ _ (@ps_ret _ _ _ _ (@pe_kget _ _ _ _ _ _ (@pv _ 2 _ _ (by rfl) (by first | exact Or.inl rfl | exact Or.inr (Or.inl rfl) | exact Or.inr (Or.inr rfl)) (by decide) (by decide)) (@pv _ 1 _ _ (by rfl) (by first | exact Or.inl rfl | exact Or.inr (Or.inl rfl) | exact Or.inr (Or.inr rfl)) (by decide) (by decide)) (fun _ _ => rfl)))) (@pss_nil _)) (@pss_one _ _ _ (@ps_ret _ _ _ _ (@pe_def _ _ _ _ _ _ _ _ _ _ _ d_connected hr (by walk_at "om") rfl (@pa_cons _ _ _ _ _ (@pv _ 0 _ _ (by rfl) (by first | exact Or.inl rfl | exact Or.inr (Or.inl rfl) | exact Or.inr (Or.inr rfl)) (by decide) (by decide)) (@pa_cons _ _ _ _ _ (@pe_ix _ _ _ _ _ _ _ (@kix_seq _ K (by rfl)) (@pv _ 1 _ _ (by rfl) (by first | exact Or.inl rfl | exact Or.inr (Or.inl rfl) | exact Or.inr (Or.inr rfl)) (by decide) (by decide)) (@pe_int _ _ _ _) (fun _ _ => rfl)) (@pa_cons _ _ _ _ _ (@pe_comp _ ["part", "kind", "grading"] [none, some 0, some 2] _ _ _ _ _ _ _ _ _ _ (by exact (show CompOk ["kind", "S", "grading"] (defScope s_graded) ["part", "kind", "grading"] [none, some 0, some 2] _ from ⟨rfl, by decide +kernel, by decide +kernel, by decide +kernel, by decide +kernel, rfl, by decide +kernel⟩)) rfl (@kpi_tup _ K _ _ _ (@pe_slice _ _ _ _ _ _ _ _ _ _ (@kslT _ K (by rfl)) (@pv _ 1 _ _ (by rfl) (by first | exact Or.inl rfl | exact Or.inr (Or.inl rfl) | exact Or.inr (Or.inr rfl)) (by decide) (by decide)) (@po_some _ _ _ (@pe_int _ _ _ _)) (@po_none _)) (by rfl)) (fun _ _ _ _ => (@pg_name _ _ 0 _ nd0 rfl (Or.inl rfl) (by first | exact .inl rfl | exact .inr rfl | assumption))) (fun _ _ _ _ => (@pf_nil _)) (fun _ _ _ _ => (@pe_def _ _ _ _ _ _ _ _ _ _ _ d_graded hr (by walk_at "om") rfl (@pa_cons _ _ _ _ _ (@pv _ 1 _ _ (by rfl) (by first | exact Or.inl rfl | exact Or.inr (Or.inl rfl) | exact Or.inr (Or.inr rfl)) (by decide) (by decide)) (@pa_cons _ _ _ _ _ (@pv _ 0 _ _ (by rfl) (by first | exact Or.inl rfl | exact Or.inr (Or.inl rfl) | exact Or.inr (Or.inr rfl)) (by decide) (by decide)) (@pa_cons _ _ _ _ _ (@pv _ 2 _ _ (by rfl) (by first | exact Or.inl rfl | exact Or.inr (Or.inl rfl) | exact Or.inr (Or.inr rfl)) (by decide) (by decide)) (@pa_nil _) (by rfl)) (by rfl)) (by rfl)) (by decide) (by rfl) (by rfl))) (by intro _; rfl)) (@pa_nil _) (by rfl)) (by rfl)) (by rfl)) (by decide) (by rfl) (by rfl))))), ?_⟩
  refine ⟨_, rfl, v, s, rfl, ih, fun h => hL _ (gs.letter h), fun H1 s1 => ⟨_, rfl, ?_⟩⟩
  cases hs : s.isL with
  | true =>
    have ev := ih.letter hs
    obtain ⟨kvs, hk, hv⟩ := ig.dk
    obtain ⟨u, e, fu⟩ := hv _ (gs.letter hs)
    refine iteT ⟨_, rfl, _, rfl, g, kvs, Sum.inr s.nm, u, rfl, s1 _ _ hk, by rw [ev]; rfl, e, q u H1 s1 ?_⟩
    rw [gr_letter hs]
    exact (fu.same s1).mono (show bt 0 ≤ bt s.dp from bt_mono (Nat.zero_le _))
  | false =>
    refine iteF ?_
    obtain ⟨t, us, ev, ht, hP⟩ := ih.node hs
    obtain ⟨nm7, pl, gps⟩ := gs.node hs
    have hul := Paired.length hP
    have a2 := arity2 s.nm
    have ht1 := s1 _ _ ht
    rw [ev]
    refine ⟨_, rfl, _, rfl, .inr (.inl ⟨t, _, _, _, rfl, rfl, SqT.of ht1, at0, _, rfl, _, rfl, ?_⟩)⟩
    refine slT_of ht1 fun t2 H2 s2 ht2 => ?_
    rw [cut_drop1 (by simp)] at ht2
    refine ⟨t2, rfl, ⟨_, SqT.of ht2⟩, fun D hD => ?_⟩
    have dpos : 0 < s.dp := by
      cases hs' : s with
      | ltr x => rw [hs'] at hs; cases hs
      | n0 n => exact Nat.zero_lt_one
      | n1 n a => exact Nat.succ_pos _
      | n2 n a b => exact Nat.succ_pos _
    obtain ⟨dd, hdd⟩ : ∃ dd, s.dp = dd + 1 := ⟨s.dp - 1, by walk_at "om"⟩
    refine comp_tup (xs := us) (fun i ys H' => Same H2 H' ∧ ∃ zs : List (V × Rat), ys = zs.map Prod.fst ∧ zs.map Prod.snd = (s.ps.take i).map (gr k ρ) ∧ FRs K H' zs (bt dd)) ⟨same_new hD _, [], rfl, rfl, fun z hz => by cases hz⟩ (fun i ys H' h _ => SqT.of (h.1 _ _ ht2)) ?_ ?_
    · rintro i ys H3 x hx ⟨s3, zs, rfl, hz, fz⟩ hD3
      have hi : i < us.length := (List.getElem?_eq_some_iff.mp hx).1
      have ha : s.ps[i]? = some s.ps[i] := List.getElem?_eq_getElem (by walk_at "om")
      generalize s.ps[i] = a at ha
      have hia := Paired.at hP i _ _ ha hx
      have ham := List.mem_of_getElem? ha
      have hda := Sy.dp_lt ham
      match j, hj, d_graded with
      | 0, hj, _ => exact absurd hj (by walk_at "om")
      | j + 1, hj, _ =>
      refine yes ⟨_, rfl, _, rfl, _, rfl, k, x, a, g, L, ρ, rfl, kd, hia.same (s1.trans (s2.trans s3)), gps a ham, hL, ig.same (s1.trans (s2.trans s3)), by walk_at "om", by walk_at "om", fun w H4 s4 f4 => ?_⟩
      have hzl := congrArg List.length hz
      rw [List.length_map, List.length_map, List.length_take] at hzl
      refine cyes hi rset1 (s4 _ _ hD3) (by rw [List.length_map]; exact small1000 (by walk_at "om")) ⟨(s3.trans s4).put hD, zs ++ [(w, gr k ρ a)], by rw [List.map_append]; rfl, by rw [List.map_append, hz, take_snoc ha, List.map_append]; rfl, ?_⟩
      intro z hz'
      rcases List.mem_append.mp hz' with h | h
      · exact ((fz z h).same s4).put (s4 _ _ hD3)
      · rw [List.mem_singleton.mp h]
        exact (f4.mono (bt_mono (by walk_at "om"))).put (s4 _ _ hD3)
    · rintro ys H3 ⟨s3, zs, rfl, hz, fz⟩ hD3
      rw [← hul, List.take_length] at hz
      have hzl := congrArg List.length hz
      rw [List.length_map, List.length_map] at hzl
      have nn : ∀ z ∈ zs, 0 ≤ z.2 := fun z hz' => by
        have : z.2 ∈ zs.map Prod.snd := List.mem_map.mpr ⟨z, hz', rfl⟩
        rw [hz] at this
        obtain ⟨a, ha, e⟩ := List.mem_map.mp this
        rw [← e]
        exact (gr_u ig.u (gps a ha)).1
      refine ⟨k, s.nm, D, zs, bt dd, rfl, kd, nm7, by walk_at "om", hD3, fz, nn, ?_, fun u H4 s4 f4 => q u H4 (s1.trans (s2.trans (s3.trans s4))) ?_⟩
      · have := bt4 (d := dd) (by walk_at "om")
        walk_at "om"
      · rw [gr_node hs, ← hz, hdd]
        exact f4

noncomputable abbrev s_grade_by : Stmt := top 32
theorem sc_grade_by : FnScope ["kind", "S", "grading", "parts", "told"] ["kind", "S", "grading"] (defScope s_grade_by) := ⟨rfl, rfl, rfl, by decide +kernel, rfl, by decide +kernel, by decide +kernel⟩
theorem ok_grade_by {P : Program} {w : World} {K : PySem.W.Frag} {mg : Str → Option Value} {base : Heap} {f : Addr} {fd : FuncData} (F : Fun K "grade_by" "grade_by" s_grade_by f fd) (gb : Gb mg) {c : Nat → Addr} (cl : Cl K mg c) (d_check_kind : Def P w K mg base 1 "check_kind" ["kind"] spKindQ) (d_written_parts : Def P w K mg base 3 "written_parts" ["S"] spWritten) (d_check_names : Def P w K mg base 3 "check_names" ["shapes", "parts"] (spChkN2 (c 6))) (d_check_letters : Def P w K mg base 3 "check_letters" ["parts", "known"] spChkL2) (d_graded : Def P w K mg base 12 "graded" ["kind", "S", "grading"] ((spGraded K) 6)) : FnOk P w K mg base CX0 13 f fd ["kind", "S", "grading"] (spGB K) := by
  refine F.ok sc_grade_by (fun vs H Q E h => ?_) (fun cdv A outer s H vs Q E hr h => ?_)
  · obtain ⟨k, v, s, g, L, ρ, rfl, _⟩ := h
    rfl
  obtain ⟨k, v, s, g, L, ρ, rfl, kd, ih, gs, hL, ig, d5, q⟩ := h
  refine ⟨_, (@pss_cons _ _ _ _ _ (@ps_expr _ _ _ _ (@pe_def _ _ _ _ _ _ _ _ _ _ _ d_check_kind hr (by walk_at "om") rfl (@pa_cons _ _ _ _ _ (@pv _ 0 _ _ (by rfl) (by first | exact Or.inl rfl | exact Or.inr (Or.inl rfl) | exact Or.inr (Or.inr rfl)) (by decide) (by decide)) (@pa_nil _) (by rfl)) (by decide) (by rfl) (by rfl)) (by rfl)) (@pss_cons _ _ _ _ _ (@ps_set _ _ 3 _ _ _ _ sc_grade_by.nd rfl (Or.inl rfl) (@pe_def _ _ _ _ _ _ _ _ _ _ _ d_written_parts hr (by walk_at "om") rfl (@pa_cons _ _ _ _ _ (@pv _ 1 _ _ (by rfl) (by first | exact Or.inl rfl | exact Or.inr (Or.inl rfl) | exact Or.inr (Or.inr rfl)) (by decide) (by decide)) (@pa_nil _) (by rfl)) (by decide) (by rfl) (by rfl)) (by rfl) (by first | exact .inl rfl | exact .inr rfl | assumption)) (@pss_cons _ _ _ _ _ (@ps_expr _ _ _ _ (@pe_def _ _ _ _ _ _ _ _ _ _ _ d_check_names hr (by walk_at "om") rfl (@pa_cons _ _ _ _ _ (@pe_glob _ _ (.ref _) _ _ rfl cl.g_SHAPES rfl (by decide)) (@pa_cons _ _ _ _ _ (@pv _ 3 _ _ (by rfl) (by first | exact Or.inl rfl | exact Or.inr (Or.inl rfl) | exact Or.inr (Or.inr rfl)) (by decide) (by decide)) (@pa_nil _) (by rfl)) (by rfl)) (by decide) (by rfl) (by rfl)) (by rfl)) (@pss_cons _ _ _ _ _ (@ps_expr _ _ _ _ (@pe_def _ _ _ _ _ _ _ _ _ _ _ d_check_letters hr (by walk_at "om") rfl (@pa_cons _ _ _ _ _ (@pv _ 3 _ _ (by rfl) (by first | exact Or.inl rfl | exact Or.inr (Or.inl rfl) | exact Or.inr (Or.inr rfl)) (by decide) (by decide)) (@pa_cons _ _ _ _ _ (@pv _ 2 _ _ (by rfl) (by first | exact Or.inl rfl | exact Or.inr (Or.inl rfl) | exact Or.inr (Or.inr rfl)) (by decide) (by decide)) (@pa_nil _) (by rfl)) (by rfl)) (by decide) (by rfl) (by rfl)) (by rfl)) (@pss_cons _ _ _ _ _ (@ps_set _ _ 4 _ _ _ _ sc_grade_by.nd rfl (Or.inl rfl) (@pe_def _ _ _ _ _ _ _ _ _ _ _ d_graded hr (by walk_at "om") rfl (@pa_cons _ _ _ _ _ (@pv _ 0 _ _ (by rfl) (by first | exact Or.inl rfl | exact Or.inr (Or.inl rfl) | exact Or.inr (Or.inr rfl)) (by decide) (by decide)) (@pa_cons _ _ _ _ _ (@pv _ 1 _ _ (by rfl) (by first | exact Or.inl rfl | exact Or.inr (Or.inl rfl) | exact Or.inr (Or.inr rfl)) (by decide) (by decide)) (@pa_cons _ _ _ _ _ (@pv _ 2 _ _ (by rfl) (by first | exact Or.inl rfl | exact Or.inr (Or.inl rfl) | exact Or.inr (Or.inr rfl)) (by decide) (by decide)) (@pa_nil _) (by rfl)) (by rfl)) (by rfl)) (by decide) (by rfl) (by rfl)) (by rfl) (by first | exact .inl rfl | exact .inr rfl | assumption)) (@pss_one _ _ _ (@ps_ret _ _ _ _ (@pe_tup _ _ _ _ _ (@pa_cons _ _ _ _ _ (@pe_ix _ _ _ _ _ _ _ (@kix_seq _ K (by rfl)) (@pv _ 4 _ _ (by rfl) (by first | exact Or.inl rfl | exact Or.inr (Or.inl rfl) | exact Or.inr (Or.inr rfl)) (by decide) (by decide)) (@pe_int _ _ _ _) (fun _ _ => rfl)) (@pa_cons _ _ _ _ _ (@pe_ix _ _ _ _ _ _ _ (@kix_seq _ K (by rfl)) (@pv _ 4 _ _ (by rfl) (by first | exact Or.inl rfl | exact Or.inr (Or.inl rfl) | exact Or.inr (Or.inr rfl)) (by decide) (by decide)) (@pe_int _ _ _ _) (fun _ _ => rfl)) (@pa_nil _) (by rfl)) (by rfl)))))))))), ?_⟩
  refine ⟨_, rfl, k, rfl, kd, ?_⟩
  have hsz : s.sz ≤ 63 := by
    have h1 := Sy.sz_dp s
    have h2 : 2 ^ (s.dp + 1) ≤ 2 ^ 6 := Nat.pow_le_pow_right (by decide) (by walk_at "om")
    walk_at "om"
  refine ⟨_, rfl, v, s, L, rfl, ih, gs, hL, hsz, fun l ps H1 s1 hl pl sy => ?_⟩
  refine ⟨_, rfl, c 6, l, L, ps, rfl, .inl rfl, hl, pl, sy, hL, fun H2 s2 => ?_⟩
  refine ⟨_, rfl, _, rfl, l, g, L, ps, rfl, s2 _ _ hl, pl, (fun z hz => ⟨(sy z hz).1, (sy z hz).2.same s2⟩), hL, (ig.same (s1.trans s2)).has, fun H3 s3 => ?_⟩
  have S3 := s1.trans (s2.trans s3)
  refine ⟨_, rfl, _, rfl, _, rfl, k, v, s, g, L, ρ, rfl, kd, ih.same S3, gs, hL, ig.same S3, d5, d5, fun u H4 s4 f4 => ?_⟩
  obtain ⟨p, rfl, hp, sx, sy'⟩ := f4
  refine ⟨_, rfl, .inr (.inl ⟨p, _, 0, _, rfl, rfl, hp, rfl, _, rfl, .inr (.inl ⟨p, _, 1, _, rfl, rfl, hp, rfl, small9 (by show 2 ≤ 1000; decide), fun t ht => ?_⟩)⟩)⟩
  exact q t _ (S3.trans (s4.trans (same_new ht _))) upd_same (FR.new sx sy')

noncomputable abbrev s_power : Stmt := top 42
theorem sc_power : FnScope ["base", "exponent", "product", "step"] ["base", "exponent"] (defScope s_power) := ⟨rfl, rfl, rfl, by decide +kernel, rfl, by decide +kernel, by decide +kernel⟩
theorem ok_power {P : Program} {w : World} {K : PySem.W.Frag} {mg : Str → Option Value} {base : Heap} {f : Addr} {fd : FuncData} (F : Fun K "power" "power" s_power f fd) (gb : Gb mg) {c : Nat → Addr} (cl : Cl K mg c) : FnOk P w K mg base CX0 1 f fd ["base", "exponent"] spPower := by
  refine F.ok sc_power (fun vs H Q E h => ?_) (fun cdv A outer s H vs Q E hr h => ?_)
  · obtain ⟨b, n, rfl, _⟩ := h
    rfl
  obtain ⟨b, n, rfl, b1, b9, n9, q⟩ := h
  refine ⟨_, (@pss_cons _ _ _ _ _ (@ps_set _ _ 2 _ _ _ _ sc_power.nd rfl (Or.inl rfl) (@pe_int _ _ _ _) (by rfl) (by first | exact .inl rfl | exact .inr rfl | assumption)) (@pss_cons _ _ _ _ _ (@ps_for _ _ _ _ _ _ _ _ PassesOwn.never rfl (@pi_range1 _ _ _ _ _ _ rfl gb.range (@pa_cons _ _ _ _ _ (@pv _ 1 _ _ (by rfl) (by first | exact Or.inl rfl | exact Or.inr (Or.inl rfl) | exact Or.inr (Or.inr rfl)) (by decide) (by decide)) (@pa_nil _) (by rfl)) (by rfl)) (@pg_name _ _ 3 _ sc_power.nd rfl (Or.inl rfl) (by first | exact .inl rfl | exact .inr rfl | assumption)) (@pss_one _ _ _ (@ps_set _ _ 2 _ _ _ _ sc_power.nd rfl (Or.inl rfl) (@pe_op _ _ _ _ _ _ _ _ (@op_mul _) (@pv _ 2 _ _ (by rfl) (by first | exact Or.inl rfl | exact Or.inr (Or.inl rfl) | exact Or.inr (Or.inr rfl)) (by decide) (by decide)) (@pv _ 0 _ _ (by rfl) (by first | exact Or.inl rfl | exact Or.inr (Or.inl rfl) | exact Or.inr (Or.inr rfl)) (by decide) (by decide))) (by rfl) (by first | exact .inl rfl | exact .inr rfl | assumption))) (by intro _; rfl)) (@pss_one _ _ _ (@ps_ret _ _ _ _ (@pv _ 2 _ _ (by rfl) (by first | exact Or.inl rfl | exact Or.inr (Or.inl rfl) | exact Or.inr (Or.inr rfl)) (by decide) (by decide)))))), ?_⟩
  refine ⟨_, rfl, _, rfl, by walk_at "om", by walk_at "om", ?_⟩
  refine for_range (fun i σ H' => H' = H ∧ ∃ st, σ = [some (.int b), some (.int n), some (.int (b ^ i)), st]) ⟨rfl, none, by rw [Int.pow_zero]; rfl⟩ ?_ ?_
  · rintro i σ H' hi ⟨rfl, st, rfl⟩
    refine ⟨_, rfl, _, rfl, _, _, rfl, rfl, .inr ⟨by walk_at "om", by walk_at "om"⟩, rfl, some (.int (0 + i)), ?_⟩
    rw [Int.pow_succ]
    rfl
  · rintro σ H' ⟨rfl, st, rfl⟩
    exact ⟨_, rfl, by rw [Int.toNat_natCast]; exact q⟩

noncomputable abbrev s_grades_at : Stmt := top 47
theorem sc_grades_at : FnScope ["place", "many", "places"] ["place", "many", "places"] (defScope s_grades_at) := ⟨rfl, rfl, rfl, by decide +kernel, rfl, by decide +kernel, by decide +kernel⟩
theorem ok_grades_at {P : Program} {w : World} {K : PySem.W.Frag} {mg : Str → Option Value} {base : Heap} {f : Addr} {fd : FuncData} (F : Fun K "grades_at" "grades_at" s_grades_at f fd) (gb : Gb mg) {c : Nat → Addr} (cl : Cl K mg c) (j : Nat) (d_grades_at : Def P w K mg base (1 + j) "grades_at" ["place", "many", "places"] (spGA j)) : FnOk P w K mg base CX0 (1 + j + 1) f fd ["place", "many", "places"] (spGA (j + 1)) := by
  refine F.ok sc_grades_at (fun vs H Q E h => ?_) (fun cdv A outer s H vs Q E hr h => ?_)
  · obtain ⟨p, n, pl, rfl, _⟩ := h
    rfl
  obtain ⟨p, n, pl, rfl, hj, h2, n0, n9, q⟩ := h
  refine ⟨_, (@pss_cons _ _ _ _ _ (@ps_if _ _ _ _ _ _ _ _ (@pt_cmpR _ _ _ _ _ _ _ _ (@op_eq _) (@pv _ 2 _ _ (by rfl) (by first | exact Or.inl rfl | exact Or.inr (Or.inl rfl) | exact Or.inr (Or.inr rfl)) (by decide) (by decide)) (@pe_int _ _ _ _) (@nomark _ _ (by decide) (by decide))) (@pss_one _ _ _ (@ps_ret _ _ _ _ (@pe_lst _ _ _ _ (@pa_nil _)))) (@pss_nil _)) (@pss_one _ _ _ (@ps_ret _ _ _ _ (@pe_op _ _ _ _ _ _ _ _ (@op_cat _) (@pe_def _ _ _ _ _ _ _ _ _ _ _ d_grades_at hr (by walk_at "om") rfl (@pa_cons _ _ _ _ _ (@pe_op _ _ _ _ _ _ _ _ (@op_fdiv _) (@pv _ 0 _ _ (by rfl) (by first | exact Or.inl rfl | exact Or.inr (Or.inl rfl) | exact Or.inr (Or.inr rfl)) (by decide) (by decide)) (@pv _ 1 _ _ (by rfl) (by first | exact Or.inl rfl | exact Or.inr (Or.inl rfl) | exact Or.inr (Or.inr rfl)) (by decide) (by decide))) (@pa_cons _ _ _ _ _ (@pv _ 1 _ _ (by rfl) (by first | exact Or.inl rfl | exact Or.inr (Or.inl rfl) | exact Or.inr (Or.inr rfl)) (by decide) (by decide)) (@pa_cons _ _ _ _ _ (@pe_op _ _ _ _ _ _ _ _ (@op_sub _) (@pv _ 2 _ _ (by rfl) (by first | exact Or.inl rfl | exact Or.inr (Or.inl rfl) | exact Or.inr (Or.inr rfl)) (by decide) (by decide)) (@pe_int _ _ _ _)) (@pa_nil _) (by rfl)) (by rfl)) (by rfl)) (by decide) (by rfl) (by rfl)) (@pe_lst _ _ _ _ (@pa_cons _ _ _ _ _ (@pe_op _ _ _ _ _ _ _ _ (@op_mod _) (@pv _ 0 _ _ (by rfl) (by first | exact Or.inl rfl | exact Or.inr (Or.inl rfl) | exact Or.inr (Or.inr rfl)) (by decide) (by decide)) (@pv _ 1 _ _ (by rfl) (by first | exact Or.inl rfl | exact Or.inr (Or.inl rfl) | exact Or.inr (Or.inr rfl)) (by decide) (by decide))) (@pa_nil _) (by rfl))))))), ?_⟩
  refine ⟨_, rfl, rfl, _, rfl, ?_⟩
  cases pl with
  | zero =>
    refine iteDT rfl ?_
    exact ⟨small9 (by show 0 ≤ 1000; decide), fun l hl => q l _ (same_new hl _) upd_same⟩
  | succ pl =>
    refine iteDF (decide_eq_false fun z => by have := V.int.inj z; walk_at "om") ?_
    refine ⟨_, rfl, _, rfl, _, _, rfl, rfl, ⟨n0, by walk_at "om"⟩, _, rfl, _, rfl, _, _, rfl, rfl, ?_⟩
    match j, hj, d_grades_at with
    | j + 1, hj, _ =>
    refine ⟨p / n, n, pl, by (show [V.int (p / n), V.int n, V.int (((pl + 1 : Nat) : Int) - 1)] = _; rw [show ((pl + 1 : Nat) : Int) - 1 = (pl : Int) by walk_at "om"]), by walk_at "om", by walk_at "om", n0, n9, fun l1 H1 s1 h1 => ?_⟩
    refine ⟨_, rfl, _, rfl, _, _, rfl, rfl, n0, small9 (by show 1 ≤ 1000; decide), fun l2 hl2 => ?_⟩
    have s2 := same_new hl2 (.lst [.int (p % n)])
    refine ⟨l1, l2, _, _, rfl, rfl, s2 _ _ h1, upd_same, ?_, fun l3 hl3 => ?_⟩
    · rw [List.length_map, ga_len]
      exact small9 (by show pl + 1 ≤ 1000; walk_at "om")
    · refine q l3 _ (s1.trans (s2.trans (same_new hl3 _))) ?_
      rw [upd_same]
      show some (HO.lst _) = some (.lst ((gaR (p / n) n pl ++ [p % n]).map V.int))
      rw [List.map_append]
      rfl

noncomputable abbrev s_chain_cells : Stmt := top 46
theorem sc_chain_cells : FnScope ["kind", "many", "name", "places", "cells", "place", "grades", "reached"] ["kind", "many", "name", "places"] (defScope s_chain_cells) := ⟨rfl, rfl, rfl, by decide +kernel, rfl, by decide +kernel, by decide +kernel⟩
theorem ok_chain_cells {P : Program} {w : World} {K : PySem.W.Frag} {mg : Str → Option Value} {base : Heap} {f : Addr} {fd : FuncData} (F : Fun K "chain_cells" "chain_cells" s_chain_cells f fd) (gb : Gb mg) {c : Nat → Addr} (cl : Cl K mg c) (d_power : Def P w K mg base 1 "power" ["base", "exponent"] spPower) (d_fraction : Def1 P w K mg base 2 "fraction" ["top", "bottom"] (spFrac (c 1))) (d_connected : Def P w K mg base 5 "connected" ["kind", "name", "grades"] (spConn K)) (d_grades_at : Def P w K mg base 4 "grades_at" ["place", "many", "places"] (spGA 3)) : FnOk P w K mg base CX0 6 f fd ["kind", "many", "name", "places"] spCells := by
  refine F.ok sc_chain_cells (fun vs H Q E h => ?_) (fun cdv A outer s H vs Q E hr h => ?_)
  · obtain ⟨k, nm, n, rfl, _⟩ := h
    rfl
  obtain ⟨k, nm, n, rfl, kc, n2, n9, hm, q⟩ := h
  have nd0 : (["one", "many"] : List Str).Nodup := by decide +kernel
  refine ⟨_, (@pss_cons _ _ _ _ _ (@ps_set _ _ 4 _ _ _ _ sc_chain_cells.nd rfl (Or.inl rfl) (@pe_lst _ _ _ _ (@pa_nil _)) (by rfl) (by first | exact .inl rfl | exact .inr rfl | assumption)) (@pss_cons _ _ _ _ _ (@ps_for _ _ _ _ _ _ _ _ PassesOwn.never rfl (@pi_range1 _ _ _ _ _ _ rfl gb.range (@pa_cons _ _ _ _ _ (@pe_def _ _ _ _ _ _ _ _ _ _ _ d_power hr (by walk_at "om") rfl (@pa_cons _ _ _ _ _ (@pv _ 1 _ _ (by rfl) (by first | exact Or.inl rfl | exact Or.inr (Or.inl rfl) | exact Or.inr (Or.inr rfl)) (by decide) (by decide)) (@pa_cons _ _ _ _ _ (@pv _ 3 _ _ (by rfl) (by first | exact Or.inl rfl | exact Or.inr (Or.inl rfl) | exact Or.inr (Or.inr rfl)) (by decide) (by decide)) (@pa_nil _) (by rfl)) (by rfl)) (by decide) (by rfl) (by rfl)) (@pa_nil _) (by rfl)) (by rfl)) (@pg_name _ _ 5 _ sc_chain_cells.nd rfl (Or.inl rfl) (by first | exact .inl rfl | exact .inr rfl | assumption)) (@pss_cons _ _ _ _ _ (@ps_setComp _ ["one", "many"] [none, some 1] _ 6 _ _ _ _ _ _ _ _ _ _ _ _ (by exact (show CompOk ["kind", "many", "name", "places", "cells", "place", "grades", "reached"] (defScope s_chain_cells) ["one", "many"] [none, some 1] _ from ⟨rfl, by decide +kernel, by decide +kernel, by decide +kernel, by decide +kernel, rfl, by decide +kernel⟩)) rfl (@kpi_list _ K _ _ _ (@pe_def _ _ _ _ _ _ _ _ _ _ _ d_grades_at hr (by walk_at "om") rfl (@pa_cons _ _ _ _ _ (@pv _ 5 _ _ (by rfl) (by first | exact Or.inl rfl | exact Or.inr (Or.inl rfl) | exact Or.inr (Or.inr rfl)) (by decide) (by decide)) (@pa_cons _ _ _ _ _ (@pv _ 1 _ _ (by rfl) (by first | exact Or.inl rfl | exact Or.inr (Or.inl rfl) | exact Or.inr (Or.inr rfl)) (by decide) (by decide)) (@pa_cons _ _ _ _ _ (@pv _ 3 _ _ (by rfl) (by first | exact Or.inl rfl | exact Or.inr (Or.inl rfl) | exact Or.inr (Or.inr rfl)) (by decide) (by decide)) (@pa_nil _) (by rfl)) (by rfl)) (by rfl)) (by decide) (by rfl) (by rfl)) (by rfl)) (fun _ _ _ _ => (@pg_name _ _ 0 _ nd0 rfl (Or.inl rfl) (by first | exact .inl rfl | exact .inr rfl | assumption))) (fun _ _ _ _ => (@pf_nil _)) (fun _ _ _ _ => (@pe_def1 _ _ _ _ _ _ _ _ _ _ _ d_fraction hr (by walk_at "om") rfl (@pa_cons _ _ _ _ _ (@pv _ 0 _ _ (by rfl) (by first | exact Or.inl rfl | exact Or.inr (Or.inl rfl) | exact Or.inr (Or.inr rfl)) (by decide) (by decide)) (@pa_cons _ _ _ _ _ (@pe_op _ _ _ _ _ _ _ _ (@op_sub _) (@pv _ 1 _ _ (by rfl) (by first | exact Or.inl rfl | exact Or.inr (Or.inl rfl) | exact Or.inr (Or.inr rfl)) (by decide) (by decide)) (@pe_int _ _ _ _)) (@pa_nil _) (by rfl)) (by rfl)) (by decide) (by rfl) (by rfl))) sc_chain_cells.nd rfl rfl rfl (by intro _; rfl)) (@pss_cons _ _ _ _ _ (@ps_set _ _ 7 _ _ _ _ sc_chain_cells.nd rfl (Or.inl rfl) (@pe_def _ _ _ _ _ _ _ _ _ _ _ d_connected hr (by walk_at "om") rfl (@pa_cons _ _ _ _ _ (@pv _ 0 _ _ (by rfl) (by first | exact Or.inl rfl | exact Or.inr (Or.inl rfl) | exact Or.inr (Or.inr rfl)) (by decide) (by decide)) (@pa_cons _ _ _ _ _ (@pv _ 2 _ _ (by rfl) (by first | exact Or.inl rfl | exact Or.inr (Or.inl rfl) | exact Or.inr (Or.inr rfl)) (by decide) (by decide)) (@pa_cons _ _ _ _ _ (@pv _ 6 _ _ (by rfl) (by first | exact Or.inl rfl | exact Or.inr (Or.inl rfl) | exact Or.inr (Or.inr rfl)) (by decide) (by decide)) (@pa_nil _) (by rfl)) (by rfl)) (by rfl)) (by decide) (by rfl) (by rfl)) (by rfl) (by first | exact .inl rfl | exact .inr rfl | assumption)) (@pss_one _ _ _ (@ps_expr _ _ _ _ (@kpe_bm _ K _ _ _ _ _ _ _ _ _ _ _ PySem.F.plainAttrs_list PySem.F.slot_list_append PySem.F.type_list_append (@mt_append _) (@pv _ 4 _ _ (by rfl) (by first | exact Or.inl rfl | exact Or.inr (Or.inl rfl) | exact Or.inr (Or.inr rfl)) (by decide) (by decide)) (@pa_cons _ _ _ _ _ (@pe_op _ _ _ _ _ _ _ _ (@op_fdiv _) (@pe_op _ _ _ _ _ _ _ _ (@op_mulM _) (@pe_ix _ _ _ _ _ _ _ (@kix_seq _ K (by rfl)) (@pv _ 7 _ _ (by rfl) (by first | exact Or.inl rfl | exact Or.inr (Or.inl rfl) | exact Or.inr (Or.inr rfl)) (by decide) (by decide)) (@pe_int _ _ _ _) (fun _ _ => rfl)) (@pe_op _ _ _ _ _ _ _ _ (@op_sub _) (@pv _ 1 _ _ (by rfl) (by first | exact Or.inl rfl | exact Or.inr (Or.inl rfl) | exact Or.inr (Or.inr rfl)) (by decide) (by decide)) (@pe_int _ _ _ _))) (@pe_ix _ _ _ _ _ _ _ (@kix_seq _ K (by rfl)) (@pv _ 7 _ _ (by rfl) (by first | exact Or.inl rfl | exact Or.inr (Or.inl rfl) | exact Or.inr (Or.inr rfl)) (by decide) (by decide)) (@pe_int _ _ _ _) (fun _ _ => rfl))) (@pa_nil _) (by rfl)) (by rfl) (by rfl) (by rfl) (by rfl) (by rfl) (by rfl)) (by rfl))))) (by intro _; rfl)) (@pss_one _ _ _ (@ps_ret _ _ _ _ (@pe_callTy _ _ _ _ _ _ _ _ _ (@kcall_tuple_of _ K (by rfl)) rfl gb.tuple bt_tuple (@pa_cons _ _ _ _ _ (@pv _ 4 _ _ (by rfl) (by first | exact Or.inl rfl | exact Or.inr (Or.inl rfl) | exact Or.inr (Or.inr rfl)) (by decide) (by decide)) (@pa_nil _) (by rfl)) (by decide) (by decide) (by rfl) (by rfl)))))), ?_⟩
  have a2 : arity nm ≤ 2 := by unfold arity; split; walk_at "om"; split <;> walk_at "om"
  have pw : 0 ≤ n ^ arity nm ∧ n ^ arity nm ≤ 81 := by
    have h : arity nm = 0 ∨ arity nm = 1 ∨ arity nm = 2 := by walk_at "om"
    rcases h with h | h | h <;> rw [h]
    · rw [Int.pow_zero]; exact ⟨by decide, by decide⟩
    · rw [Int.pow_one]; exact ⟨by walk_at "om", by walk_at "om"⟩
    · have : n = 2 ∨ n = 3 ∨ n = 4 ∨ n = 5 ∨ n = 6 ∨ n = 7 ∨ n = 8 ∨ n = 9 := by walk_at "om"
      rcases this with h | h | h | h | h | h | h | h <;> rw [h] <;> decide
  refine ⟨small9 (by show 0 ≤ 1000; decide), fun cd hcd => ?_⟩
  refine ⟨_, rfl, _, rfl, n, arity nm, rfl, by walk_at "om", n9, by walk_at "om", _, rfl, by walk_at "om", by walk_at "om", ?_⟩
  refine for_range (fun i σ H' => (∃ x1 x2 x3, σ = [some (.str k), some (.int n), some (.str nm), some (.int (arity nm : Nat)), some (.ref cd), x1, x2, x3]) ∧ Same H H' ∧ H' cd = some (.lst (((List.range i).map fun (p : Nat) => cellR k n nm (arity nm) (0 + (p : Int))).map V.int))) ⟨⟨_, _, _, rfl⟩, same_new hcd _, upd_same⟩ ?_ ?_
  · rintro i σ H1 hi ⟨⟨x1, x2, x3, rfl⟩, s1, h1⟩
    refine ⟨_, rfl, _, rfl, _, rfl, _, n, arity nm, rfl, a2, a2, by walk_at "om", n9, fun l H2 s2 h2 => ?_⟩
    refine ⟨l, rfl, ⟨_, SqL.of h2⟩, fun D hD => ?_⟩
    refine comp_frl (K := K) (f := fun g => Rat.divInt g (n - 1)) (b := 4) h2 hD (by rw [ga_len]; walk_at "om") (fun g H3 Q3 hg s3 k3 => ?_) (fun zs H3 s3 hz fz h3 => ?_)
    · obtain ⟨g0, g1⟩ := ga_mem (by walk_at "om") _ _ g hg
      refine ⟨_, rfl, _, rfl, _, _, rfl, rfl, _, _, rfl, ?_, fun z => ?_, fun _ => ?_⟩
      · exact (show Sz 4 (n - 1) by unfold Sz; walk_at "om").mid (by decide)
      · walk_at "om"
      · exact ansR k3 rfl (by walk_at "om") (by unfold Sz; walk_at "om") (by unfold Sz; walk_at "om")
    have hzl : zs.length = arity nm := by
      have := congrArg List.length hz
      rw [List.length_map, List.length_map, ga_len] at this
      exact this
    have z0 : ∀ z ∈ zs, 0 ≤ z.2 := fun z hz' => by
      have : z.2 ∈ zs.map Prod.snd := List.mem_map.mpr ⟨z, hz', rfl⟩
      rw [hz] at this
      obtain ⟨g, hg, e⟩ := List.mem_map.mp this
      rw [← e]
      exact (Rat.divInt_nonneg_iff_of_pos_right (by walk_at "om")).mpr (ga_mem (by walk_at "om") _ _ g hg).1
    refine ⟨_, rfl, _, rfl, _, rfl, k, nm, D, zs, 4, rfl, kc.elim .inl (fun h => .inr (.inl h)), hm, hzl, h3, fz, z0, by decide, fun v H4 s4 f4 => ?_⟩
    rw [hz] at f4
    obtain ⟨pv, rfl, hpv, sx, sy⟩ := f4
    have h4 := s4 _ _ (s3 _ _ (s2 _ _ h1))
    have nsz : Sz 4 (n - 1) := by unfold Sz; walk_at "om"
    refine ⟨_, rfl, .inl ⟨rfl, _, SqL.of h4⟩, _, rfl, .inr (.inl ⟨pv, _, 0, _, rfl, rfl, hpv, rfl, ?_⟩)⟩
    refine ⟨_, rfl, _, _, rfl, rfl, _, _, rfl, rfl, ⟨sx.mid (by decide), nsz.mid (by decide)⟩, ?_⟩
    refine ⟨_, rfl, .inr (.inl ⟨pv, _, 1, _, rfl, rfl, hpv, rfl, _, _, rfl, rfl, ⟨Fr.denp _, by have h := sy; unfold Sz at h; walk_at "om"⟩, ?_⟩)⟩
    refine ⟨cd, _, _, rfl, rfl, h4, ?_, ⟨⟨_, _, _, rfl⟩, (s1.trans (s2.trans (s3.trans s4))).put hcd, ?_⟩⟩
    · rw [List.length_map, List.length_map, List.length_range]
      exact small1000 (by walk_at "om")
    · rw [upd_same, List.range_succ, List.map_append, List.map_append]
      rfl
  · rintro σ H1 ⟨⟨x1, x2, x3, rfl⟩, s1, h1⟩
    refine ⟨_, rfl, cd, _, rfl, .inl ⟨SqL.of h1, fun p hp => q p _ (s1.trans (same_new hp _)) upd_same⟩⟩

noncomputable abbrev s_chain : Stmt := top 45
theorem sc_chain : FnScope ["kind", "many", "connectives"] ["kind", "many"] (defScope s_chain) := ⟨rfl, rfl, rfl, by decide +kernel, rfl, by decide +kernel, by decide +kernel⟩
theorem ok_chain {P : Program} {w : World} {K : PySem.W.Frag} {mg : Str → Option Value} {base : Heap} {f : Addr} {fd : FuncData} (F : Fun K "chain" "chain" s_chain f fd) (gb : Gb mg) {c : Nat → Addr} (cl : Cl K mg c) (d_check_kind : Def P w K mg base 1 "check_kind" ["kind"] spKindQ) (d_is_whole : Def P w K mg base 1 "is_whole" ["thing"] spWholeT) (d_chain_cells : Def P w K mg base 6 "chain_cells" ["kind", "many", "name", "places"] spCells) : FnOk P w K mg base CX0 7 f fd ["kind", "many"] spChainQ := by
  refine F.ok sc_chain (fun vs H Q E h => ?_) (fun cdv A outer s H vs Q E hr h => ?_)
  · obtain ⟨k, n, rfl, _⟩ := h
    rfl
  obtain ⟨k, n, rfl, kc, n2, n9, q⟩ := h
  have nd0 : (["name", "places", "kind", "many"] : List Str).Nodup := by decide +kernel
  refine ⟨_, (@pss_cons _ _ _ _ _ (@ps_expr _ _ _ _ (@pe_def _ _ _ _ _ _ _ _ _ _ _ d_check_kind hr (by walk_at "om") rfl (@pa_cons _ _ _ _ _ (@pv _ 0 _ _ (by rfl) (by first | exact Or.inl rfl | exact Or.inr (Or.inl rfl) | exact Or.inr (Or.inr rfl)) (by decide) (by decide)) (@pa_nil _) (by rfl)) (by decide) (by rfl) (by rfl)) (by rfl)) (@pss_cons _ _ _ _ _ (@ps_if _ _ _ _ _ _ _ _ (@pt_cmpR _ _ _ _ _ _ _ _ (@op_eq _) (@pv _ 0 _ _ (by rfl) (by first | exact Or.inl rfl | exact Or.inr (Or.inl rfl) | exact Or.inr (Or.inr rfl)) (by decide) (by decide)) (@pe_str _ _ _ _) (@nomark _ _ (by decide) (by decide))) (@pss_one _ _ _ (@ps_never _ _)) (@pss_nil _)) (@pss_cons _ _ _ _ _ (@ps_if _ _ _ _ _ _ _ _ (@PW.pt _ _ _ (@pw_or _ _ _ _ _ _ _ (@pt_not _ _ _ _ (@pt_val _ _ _ (@pe_def _ _ _ _ _ _ _ _ _ _ _ d_is_whole hr (by walk_at "om") rfl (@pa_cons _ _ _ _ _ (@pv _ 1 _ _ (by rfl) (by first | exact Or.inl rfl | exact Or.inr (Or.inl rfl) | exact Or.inr (Or.inr rfl)) (by decide) (by decide)) (@pa_nil _) (by rfl)) (by decide) (by rfl) (by rfl)) (by intro _; rfl))) (@pw_or1 _ _ _ _ (@pt_not _ _ _ _ (@pt_chain _ _ _ _ _ _ _ _ _ _ _ _ (@op_le _) (@op_le _) (@pe_globR _ _ _ _ rfl gb.LEAST_STEPS (by decide)) (@pv _ 1 _ _ (by rfl) (by first | exact Or.inl rfl | exact Or.inr (Or.inl rfl) | exact Or.inr (Or.inr rfl)) (by decide) (by decide)) (@pe_globR _ _ _ _ rfl gb.MOST_GRADES (by decide)) (by with_unfolding_all rfl)))))) (@pss_one _ _ _ (@ps_never _ _)) (@pss_nil _)) (@pss_cons _ _ _ _ _ (@ps_setComp _ ["name", "places", "kind", "many"] [none, none, some 0, some 1] _ 2 _ _ _ _ _ _ _ _ _ _ _ _ (by exact (show CompOk ["kind", "many", "connectives"] (defScope s_chain) ["name", "places", "kind", "many"] [none, none, some 0, some 1] _ from ⟨rfl, by decide +kernel, by decide +kernel, by decide +kernel, by decide +kernel, rfl, by decide +kernel⟩)) rfl (@kpi_tup _ K _ _ _ (@pe_glob _ _ (.ref _) _ _ rfl cl.g_SHAPES rfl (by decide)) (by rfl)) (fun _ _ _ _ => (@kpg_tup _ K _ _ _ _ 2 rfl (@pgs_cons _ _ _ _ _ (@pg_name _ _ 0 _ nd0 rfl (Or.inl rfl) (by first | exact .inl rfl | exact .inr rfl | assumption)) (@pgs_cons _ _ _ _ _ (@pg_name _ _ 1 _ nd0 rfl (Or.inl rfl) (by first | exact .inl rfl | exact .inr rfl | assumption)) (@pgs_nil _) (by rfl)) (by rfl)) (by rfl) (by rfl) (by rfl))) (fun _ _ _ _ => (@pf_nil _)) (fun _ _ _ _ => (@pe_tup _ _ _ _ _ (@pa_cons _ _ _ _ _ (@pv _ 0 _ _ (by rfl) (by first | exact Or.inl rfl | exact Or.inr (Or.inl rfl) | exact Or.inr (Or.inr rfl)) (by decide) (by decide)) (@pa_cons _ _ _ _ _ (@pv _ 1 _ _ (by rfl) (by first | exact Or.inl rfl | exact Or.inr (Or.inl rfl) | exact Or.inr (Or.inr rfl)) (by decide) (by decide)) (@pa_cons _ _ _ _ _ (@pe_def _ _ _ _ _ _ _ _ _ _ _ d_chain_cells hr (by walk_at "om") rfl (@pa_cons _ _ _ _ _ (@pv _ 2 _ _ (by rfl) (by first | exact Or.inl rfl | exact Or.inr (Or.inl rfl) | exact Or.inr (Or.inr rfl)) (by decide) (by decide)) (@pa_cons _ _ _ _ _ (@pv _ 3 _ _ (by rfl) (by first | exact Or.inl rfl | exact Or.inr (Or.inl rfl) | exact Or.inr (Or.inr rfl)) (by decide) (by decide)) (@pa_cons _ _ _ _ _ (@pv _ 0 _ _ (by rfl) (by first | exact Or.inl rfl | exact Or.inr (Or.inl rfl) | exact Or.inr (Or.inr rfl)) (by decide) (by decide)) (@pa_cons _ _ _ _ _ (@pv _ 1 _ _ (by rfl) (by first | exact Or.inl rfl | exact Or.inr (Or.inl rfl) | exact Or.inr (Or.inr rfl)) (by decide) (by decide)) (@pa_nil _) (by rfl)) (by rfl)) (by rfl)) (by rfl)) (by decide) (by rfl) (by rfl)) (@pa_nil _) (by rfl)) (by rfl)) (by rfl)))) sc_chain.nd rfl rfl rfl (by intro _; rfl)) (@pss_one _ _ _ (@ps_ret _ _ _ _ (@pe_tup _ _ _ _ _ (@pa_cons _ _ _ _ _ (@pv _ 1 _ _ (by rfl) (by first | exact Or.inl rfl | exact Or.inr (Or.inl rfl) | exact Or.inr (Or.inr rfl)) (by decide) (by decide)) (@pa_cons _ _ _ _ _ (@pe_tup _ _ _ _ _ (@pa_cons _ _ _ _ _ (@pe_op _ _ _ _ _ _ _ _ (@op_sub _) (@pv _ 1 _ _ (by rfl) (by first | exact Or.inl rfl | exact Or.inr (Or.inl rfl) | exact Or.inr (Or.inr rfl)) (by decide) (by decide)) (@pe_int _ _ _ _)) (@pa_nil _) (by rfl))) (@pa_cons _ _ _ _ _ (@pe_callTy _ _ _ _ _ _ _ _ _ (@kcall_tuple_of _ K (by rfl)) rfl gb.tuple bt_tuple (@pa_cons _ _ _ _ _ (@pv _ 2 _ _ (by rfl) (by first | exact Or.inl rfl | exact Or.inr (Or.inl rfl) | exact Or.inr (Or.inr rfl)) (by decide) (by decide)) (@pa_nil _) (by rfl)) (by decide) (by decide) (by rfl) (by rfl)) (@pa_nil _) (by rfl)) (by rfl)) (by rfl))))))))), ?_⟩
  have kt := kc.nt
  refine ⟨_, rfl, k, rfl, kc.kd, ?_⟩
  refine ⟨_, rfl, rfl, _, rfl, iteDF (decide_eq_false fun z => kt (V.str.inj z)) ?_⟩
  refine ⟨_, rfl, .int n, .int n, rfl, .int n, _, rfl, ?_⟩
  refine ⟨_, rfl, _, _, rfl, rfl, _, rfl, ?_⟩
  have h2 := decide_eq_true n2
  have h9 := decide_eq_true n9
  rw [h2]
  refine iteT ⟨_, _, rfl, rfl, _, rfl, ?_⟩
  rw [h9]
  obtain ⟨a0, a1, a2, a3, a4, a5, a6, tS, t0, t1, t2, t3, t4, t5, t6⟩ := cl.t_SHAPES
  refine ⟨_, rfl, ⟨_, tS.sq⟩, fun D hD => ?_⟩
  refine comp_tt2 (n := 7) (ad := fun i => [a0, a1, a2, a3, a4, a5, a6].getD i 0) (v1 := fun i => .str (names7.getD i "")) (v2 := fun i => .int (arity (names7.getD i "") : Nat)) (fun i ys H' => Same H H' ∧ Ths (cutH (fun b => b = D) H') ((names7.take i).map (connTh k n)) ys) ⟨same_new hD _, .nil⟩ rfl (fun i hi => ?_) (fun i ys H' _ _ => tS.sq) (fun i ys H' hi _ => ?_) ?_ ?_
  · match i, hi with
    | 0, _ => rfl
    | 1, _ => rfl
    | 2, _ => rfl
    | 3, _ => rfl
    | 4, _ => rfl
    | 5, _ => rfl
    | 6, _ => rfl
  · match i, hi with
    | 0, _ => exact t0.sq
    | 1, _ => exact t1.sq
    | 2, _ => exact t2.sq
    | 3, _ => exact t3.sq
    | 4, _ => exact t4.sq
    | 5, _ => exact t5.sq
    | 6, _ => exact t6.sq
  · rintro i ys H1 hi ⟨s1, hT⟩ hD1
    have hnm : names7[i]? = some (names7.getD i "") := by
      simp [List.getD, show i < names7.length from hi]
    generalize names7.getD i "" = nm at *
    refine yes ⟨_, rfl, _, rfl, _, rfl, _, rfl, _, rfl, _, rfl, k, nm, n, rfl, kc, n2, n9, List.mem_of_getElem? hnm, fun p H2 s2 h2 => ?_⟩
    refine ⟨small9 (by show 3 ≤ 1000; decide), fun t ht => ?_⟩
    have n3 := same_new ht (.tup [.str nm, .int (arity nm : Nat), .ref p])
    have hD2 := s2 _ _ hD1
    have tD : ¬ t = D := fun z => by rw [z, hD2] at ht; cases ht
    have pD : ¬ p = D := fun z => by rw [z, hD2] at h2; cases h2
    have hyl := hT.len
    rw [List.length_map, List.length_take] at hyl
    refine cyes hi ⟨_, _, rfl⟩ (n3 _ _ hD2) (small1000 (by walk_at "om")) ⟨(s1.trans (s2.trans n3)).put hD, ?_⟩
    rw [cut_upd (X := fun b => b = D) (p := D) rfl, take_snoc hnm, List.map_append]
    refine ths_snoc (hT.same (cut_same (s2.trans n3))) ?_
    refine Ths.tup (vs := [.str nm, .int (arity nm : Nat), .ref p]) (.cons (.str _ ?_) (.cons (.int _) (.cons (ths_ints (by rw [cut_yes (X := fun b => b = D) pD]; exact n3 _ _ h2) ?_) .nil))) (by rw [cut_yes (X := fun b => b = D) tD]; exact upd_same) (by show 3 ≤ 1000; decide)
    · have hmem := List.mem_of_getElem? hnm
      exact names_short nm hmem
    · unfold cellsR
      rw [List.length_map, List.length_range]
      have := cells_len n2 n9 nm
      walk_at "om"
  · rintro ys H1 ⟨s1, hT⟩ hD1
    rw [show names7.take 7 = names7 from rfl] at hT
    have hT := hT.same uncut
    refine ⟨_, rfl, _, rfl, _, _, rfl, rfl, small9 (by show 1 ≤ 1000; decide), fun t1 ht1 => ?_⟩
    have m1 := same_new ht1 (.tup [.int (n - 1)])
    refine ⟨_, rfl, D, _, rfl, .inl ⟨SqL.of (m1 _ _ hD1), fun t2 ht2 => ?_⟩⟩
    have m2 := same_new ht2 (.tup ys)
    refine ⟨small9 (by show 3 ≤ 1000; decide), fun t3 ht3 => ?_⟩
    have m3 := same_new ht3 (.tup [.int n, .ref t1, .ref t2])
    refine q _ _ (s1.trans (m1.trans (m2.trans m3))) ?_
    refine Ths.tup (vs := [.int n, .ref t1, .ref t2]) (.cons (.int _) (.cons ?_ (.cons ?_ .nil))) upd_same (by show 3 ≤ 1000; decide)
    · exact Ths.tup (vs := [.int (n - 1)]) (.cons (.int _) .nil) (m3 _ _ (m2 _ _ upd_same)) (by show 1 ≤ 1000; decide)
    · exact Ths.tup (hT.same (m1.trans (m2.trans m3))) (m3 _ _ upd_same) (by rw [List.length_map]; decide)

noncomputable abbrev s_cells_by_name : Stmt := top 24
theorem sc_cells_by_name : FnScope ["H"] ["H"] (defScope s_cells_by_name) := ⟨rfl, rfl, rfl, by decide +kernel, rfl, by decide +kernel, by decide +kernel⟩
theorem ok_cells_by_name {P : Program} {w : World} {K : PySem.W.Frag} {mg : Str → Option Value} {base : Heap} {f : Addr} {fd : FuncData} (F : Fun K "cells_by_name" "cells_by_name" s_cells_by_name f fd) (gb : Gb mg) {c : Nat → Addr} (cl : Cl K mg c) : FnOk P w K mg base CX0 1 f fd ["H"] spCBN := by
  refine F.ok sc_cells_by_name (fun vs H Q E h => ?_) (fun cdv A outer s H vs Q E hr h => ?_)
  · obtain ⟨v, k, n, rfl, _⟩ := h
    rfl
  obtain ⟨v, k, n, rfl, ht, q⟩ := h
  have nd0 : (["name", "places", "cells"] : List Str).Nodup := by decide +kernel
  refine ⟨_, (@pss_one _ _ _ (@ps_ret _ _ _ _ (@pe_dictPT _ _ hr _ _ _ _ rfl gb.dict (@pa_cons _ _ _ _ _ (@pe_comp _ ["name", "places", "cells"] [none, none, none] _ _ _ _ _ _ _ _ _ _ (by exact (show CompOk ["H"] (defScope s_cells_by_name) ["name", "places", "cells"] [none, none, none] _ from ⟨rfl, by decide +kernel, by decide +kernel, by decide +kernel, by decide +kernel, rfl, by decide +kernel⟩)) rfl (@kpi_tup _ K _ _ _ (@pe_ix _ _ _ _ _ _ _ (@kix_seq _ K (by rfl)) (@pv _ 0 _ _ (by rfl) (by first | exact Or.inl rfl | exact Or.inr (Or.inl rfl) | exact Or.inr (Or.inr rfl)) (by decide) (by decide)) (@pe_int _ _ _ _) (fun _ _ => rfl)) (by rfl)) (fun _ _ _ _ => (@kpg_tup _ K _ _ _ _ 3 rfl (@pgs_cons _ _ _ _ _ (@pg_name _ _ 0 _ nd0 rfl (Or.inl rfl) (by first | exact .inl rfl | exact .inr rfl | assumption)) (@pgs_cons _ _ _ _ _ (@pg_name _ _ 1 _ nd0 rfl (Or.inl rfl) (by first | exact .inl rfl | exact .inr rfl | assumption)) (@pgs_cons _ _ _ _ _ (@pg_name _ _ 2 _ nd0 rfl (Or.inl rfl) (by first | exact .inl rfl | exact .inr rfl | assumption)) (@pgs_nil _) (by rfl)) (by rfl)) (by rfl)) (by rfl) (by rfl) (by rfl))) (fun _ _ _ _ => (@pf_nil _)) (fun _ _ _ _ => (@pe_tup _ _ _ _ _ (@pa_cons _ _ _ _ _ (@pe_tup _ _ _ _ _ (@pa_cons _ _ _ _ _ (@pv _ 0 _ _ (by rfl) (by first | exact Or.inl rfl | exact Or.inr (Or.inl rfl) | exact Or.inr (Or.inr rfl)) (by decide) (by decide)) (@pa_cons _ _ _ _ _ (@pv _ 1 _ _ (by rfl) (by first | exact Or.inl rfl | exact Or.inr (Or.inl rfl) | exact Or.inr (Or.inr rfl)) (by decide) (by decide)) (@pa_nil _) (by rfl)) (by rfl))) (@pa_cons _ _ _ _ _ (@pv _ 2 _ _ (by rfl) (by first | exact Or.inl rfl | exact Or.inr (Or.inl rfl) | exact Or.inr (Or.inr rfl)) (by decide) (by decide)) (@pa_nil _) (by rfl)) (by rfl)))) (by intro _; rfl)) (@pa_nil _) (by rfl)) (by rfl) (by rfl)))), ?_⟩
  obtain ⟨ta, tc, tw, us, rfl, hta, htc, hul, hz⟩ := chain_at ht
  obtain ⟨zf, hzf⟩ := Classical.axiomOfChoice hz
  refine ⟨_, rfl, .inr (.inl ⟨ta, _, 2, _, rfl, rfl, SqT.of hta, rfl, tc, rfl, ⟨_, SqT.of htc⟩, fun D hD => ?_⟩)⟩
  refine comp_tt3m (n := 7) (ad := fun i => (zf i).1) (v1 := fun i => .str (nmAt i)) (v2 := fun i => .int (arity (nmAt i) : Nat)) (v3 := fun i => .ref (zf i).2) (fun i ys H' => Same H H' ∧ ys.length = i ∧ PrsT H' ys (psOf zf i)) ⟨same_new hD _, rfl, .nil⟩ hul (fun i hi => (hzf i _ (nm_at hi)).1) (fun i ys H' h _ => SqT.of (h.1 _ _ htc)) (fun i ys H' hi h => SqT.of (h.1 _ _ (hzf i _ (nm_at hi)).2.1)) ?_ ?_
  · rintro i ys H1 hi ⟨s1, yl, hP⟩ hD1
    refine yes ⟨_, rfl, _, rfl, small9 (by show 2 ≤ 1000; decide), fun t1 ht1 => ?_⟩
    have n1 := same_new ht1 (.tup [.str (nmAt i), .int (arity (nmAt i) : Nat)])
    refine ⟨_, rfl, small9 (by show 2 ≤ 1000; decide), fun t2 ht2 => ?_⟩
    have n2 := same_new ht2 (.tup [.ref t1, .ref (zf i).2])
    have hD2 := n2 _ _ (n1 _ _ hD1)
    refine cyes hi ⟨_, _, _, rfl⟩ hD2 (small1000 (by walk_at "om")) ⟨(s1.trans (n1.trans n2)).put hD, by rw [List.length_append, yl]; rfl, ?_⟩
    rw [psOf_snoc]
    exact PrsT.snoc (p := (keyOf (nmAt i), .ref (zf i).2)) (PrsT.tk (Tk.put hD2) (PrsT.tk (Tk.of (n1.trans n2)) hP)) (Tk.put hD2 _ _ upd_same) (Tk.put hD2 _ _ (n2 _ _ upd_same))
  · rintro ys H1 ⟨s1, yl, hP⟩ hD1
    refine ⟨D, ys, _, rfl, hD1, hP, fun e he => q e _ (s1.trans (same_new he _)) ⟨_, upd_same, fun nm hm => ?_⟩⟩
    obtain ⟨i, hi⟩ := List.mem_iff_getElem?.mp hm
    have hi7 : i < 7 := (List.getElem?_eq_some_iff.mp hi).1
    have en : nmAt i = nm := by
      have := nm_at hi7
      rw [hi] at this
      exact (Option.some.inj this).symm
    refine ⟨(zf i).2, ?_, ?_⟩
    · rw [← en]
      exact putT_at (psOf zf 7) [] (keyOf (nmAt i), .ref (zf i).2) (by rw [psOf_keys]; exact keys7) (List.mem_map.mpr ⟨i, List.mem_range.mpr hi7, rfl⟩)
    · exact (s1.trans (same_new he _)) _ _ (hzf i _ hi).2.2

noncomputable abbrev s_grade_within : Stmt := top 23
theorem sc_grade_within : FnScope ["cells", "many", "S", "grading", "place", "part"] ["cells", "many", "S", "grading"] (defScope s_grade_within) := ⟨rfl, rfl, rfl, by decide +kernel, rfl, by decide +kernel, by decide +kernel⟩
theorem ok_grade_within {P : Program} {w : World} {K : PySem.W.Frag} {mg : Str → Option Value} {base : Heap} {f : Addr} {fd : FuncData} (F : Fun K "grade_within" "grade_within" s_grade_within f fd) (gb : Gb mg) {c : Nat → Addr} (cl : Cl K mg c) (d_is_letter : Def P w K mg base 2 "is_letter" ["thing"] spIsL) (j : Nat) (d_grade_within : Def P w K mg base (3 + j) "grade_within" ["cells", "many", "S", "grading"] (spGW j)) : FnOk P w K mg base CX0 (3 + j + 1) f fd ["cells", "many", "S", "grading"] (spGW (j + 1)) := by
  refine F.ok sc_grade_within (fun vs H Q E h => ?_) (fun cdv A outer s H vs Q E hr h => ?_)
  · obtain ⟨d, g, v, s, L, γ, k, n, rfl, _⟩ := h
    rfl
  obtain ⟨d, g, v, s, L, γ, k, n, rfl, kc, n2, n9, hc, ih, gs, hL, ig, hj, q⟩ := h
  refine ⟨_, (@pss_cons _ _ _ _ _ (@ps_if _ _ _ _ _ _ _ _ (@pt_val _ _ _ (@pe_def _ _ _ _ _ _ _ _ _ _ _ d_is_letter hr (by walk_at "om") rfl (@pa_cons _ _ _ _ _ (@pv _ 2 _ _ (by rfl) (by first | exact Or.inl rfl | exact Or.inr (Or.inl rfl) | exact Or.inr (Or.inr rfl)) (by decide) (by decide)) (@pa_nil _) (by rfl)) (by decide) (by rfl) (by rfl)) (by intro _; rfl)) (@pss_one _ _ _ (@ps_ret _ _ _ _ (@pe_kget _ _ _ _ _ _ (@pv _ 3 _ _ (by rfl) (by first | exact Or.inl rfl | exact Or.inr (Or.inl rfl) | exact Or.inr (Or.inr rfl)) (by decide) (by decide)) (@pv _ 2 _ _ (by rfl) (by first | exact Or.inl rfl | exact Or.inr (Or.inl rfl) | exact Or.inr (Or.inr rfl)) (by decide) (by decide)) (fun _ _ => rfl)))) (@pss_nil _)) (@pss_cons _ _ _ _ _ (@ps_set _ _ 4 _ _ _ _ sc_grade_within.nd rfl (Or.inl rfl) (@pe_int _ _ _ _) (by rfl) (by first | exact .inl rfl | exact .inr rfl | assumption)) (@pss_cons _ _ _ _ _ (@ps_for _ _ _ _ _ _ _ _ PassesOwn.never rfl (@kpi_tup _ K _ _ _ (@pe_slice _ _ _ _ _ _ _ _ _ _ (@kslT _ K (by rfl)) (@pv _ 2 _ _ (by rfl) (by first | exact Or.inl rfl | exact Or.inr (Or.inl rfl) | exact Or.inr (Or.inr rfl)) (by decide) (by decide)) (@po_some _ _ _ (@pe_int _ _ _ _)) (@po_none _)) (by rfl)) (@pg_name _ _ 5 _ sc_grade_within.nd rfl (Or.inl rfl) (by first | exact .inl rfl | exact .inr rfl | assumption)) (@pss_one _ _ _ (@ps_set _ _ 4 _ _ _ _ sc_grade_within.nd rfl (Or.inl rfl) (@pe_op _ _ _ _ _ _ _ _ (@op_add _) (@pe_op _ _ _ _ _ _ _ _ (@op_mul _) (@pv _ 4 _ _ (by rfl) (by first | exact Or.inl rfl | exact Or.inr (Or.inl rfl) | exact Or.inr (Or.inr rfl)) (by decide) (by decide)) (@pv _ 1 _ _ (by rfl) (by first | exact Or.inl rfl | exact Or.inr (Or.inl rfl) | exact Or.inr (Or.inr rfl)) (by decide) (by decide))) (@pe_def _ _ _ _ _ _ _ _ _ _ _ d_grade_within hr (by walk_at "om") rfl (@pa_cons _ _ _ _ _ (@pv _ 0 _ _ (by rfl) (by first | exact Or.inl rfl | exact Or.inr (Or.inl rfl) | exact Or.inr (Or.inr rfl)) (by decide) (by decide)) (@pa_cons _ _ _ _ _ (@pv _ 1 _ _ (by rfl) (by first | exact Or.inl rfl | exact Or.inr (Or.inl rfl) | exact Or.inr (Or.inr rfl)) (by decide) (by decide)) (@pa_cons _ _ _ _ _ (@pv _ 5 _ _ (by rfl) (by first | exact Or.inl rfl | exact Or.inr (Or.inl rfl) | exact Or.inr (Or.inr rfl)) (by decide) (by decide)) (@pa_cons _ _ _ _ _ (@pv _ 3 _ _ (by rfl) (by first | exact Or.inl rfl | exact Or.inr (Or.inl rfl) | exact Or.inr (Or.inr rfl)) (by decide) (by decide)) (@pa_nil _) (by rfl)) (by rfl)) (by rfl)) (by rfl)) (by decide) (by rfl) (by rfl))) (by rfl) (by first | exact .inl rfl | exact .inr rfl | assumption))) (by intro _; rfl)) (@pss_one _ _ _ (@ps_ret _ _ _ _ (@pe_ix _ _ _ _ _ _ _ (@kix_seq _ K (by rfl)) (@pe_dget _ _ _ _ _ _ (@hu1 _ _ hr) (@pv _ 0 _ _ (by rfl) (by first | exact Or.inl rfl | exact Or.inr (Or.inl rfl) | exact Or.inr (Or.inr rfl)) (by decide) (by decide)) (@pe_tup _ _ _ _ _ (@pa_cons _ _ _ _ _ (@pe_ix _ _ _ _ _ _ _ (@kix_seq _ K (by rfl)) (@pv _ 2 _ _ (by rfl) (by first | exact Or.inl rfl | exact Or.inr (Or.inl rfl) | exact Or.inr (Or.inr rfl)) (by decide) (by decide)) (@pe_int _ _ _ _) (fun _ _ => rfl)) (@pa_cons _ _ _ _ _ (@pe_op _ _ _ _ _ _ _ _ (@op_sub _) (@pe_callB _ _ _ _ _ _ _ _ _ (@kcall_len _ K (by rfl)) rfl gb.len bt_len (@pa_cons _ _ _ _ _ (@pv _ 2 _ _ (by rfl) (by first | exact Or.inl rfl | exact Or.inr (Or.inl rfl) | exact Or.inr (Or.inr rfl)) (by decide) (by decide)) (@pa_nil _) (by rfl)) (by decide) (by decide) (by rfl) (by rfl)) (@pe_int _ _ _ _)) (@pa_nil _) (by rfl)) (by rfl))) (fun _ _ => rfl)) (@pv _ 4 _ _ (by rfl) (by first | exact Or.inl rfl | exact Or.inr (Or.inl rfl) | exact Or.inr (Or.inr rfl)) (by decide) (by decide)) (fun _ _ => rfl))))))), ?_⟩
  refine ⟨_, rfl, v, s, rfl, ih, fun h => hL _ (gs.letter h), fun H1 s1 => ⟨_, rfl, ?_⟩⟩
  cases hs : s.isL with
  | true =>
    have ev := ih.letter hs
    obtain ⟨kvs, hk, hv⟩ := ig
    obtain ⟨e, _⟩ := hv _ (gs.letter hs)
    have q2 := q H1 s1
    rw [gi_letter hs] at q2
    exact iteT ⟨_, rfl, _, rfl, g, kvs, Sum.inr s.nm, .int (γ s.nm), rfl, s1 _ _ hk, by rw [ev]; rfl, e, q2⟩
  | false =>
    refine iteF ?_
    obtain ⟨t, us, ev, ht, hP⟩ := ih.node hs
    obtain ⟨nm7, pl, gps⟩ := gs.node hs
    have hul := Paired.length hP
    have a2 := arity2 s.nm
    have ht1 := s1 _ _ ht
    subst ev
    refine ⟨_, rfl, _, rfl, ?_⟩
    refine slT_of ht1 fun t2 H2 s2 ht2 => ?_
    rw [cut_drop1 (by simp)] at ht2
    refine ⟨t2, rfl, ⟨_, SqT.of ht2⟩, ?_⟩
    refine for_tup (xs := us) (fun i σ H' => (∃ x5, σ = [some (.ref d), some (.int n), some (.ref t), some (.ref g), some (.int (plc n ((s.ps.take i).map (gi k n γ)))), x5]) ∧ Same H2 H') ⟨⟨_, rfl⟩, Same.refl _⟩ (fun i σ H' _ h => SqT.of (h.2 _ _ ht2)) ?_ ?_
    · rintro i x σ H3 hx ⟨⟨x5, rfl⟩, s3⟩
      have hi : i < us.length := (List.getElem?_eq_some_iff.mp hx).1
      have ha : s.ps[i]? = some s.ps[i] := List.getElem?_eq_getElem (by walk_at "om")
      generalize s.ps[i] = a at ha
      have hia := Paired.at hP i _ _ ha hx
      have ham := List.mem_of_getElem? ha
      have hda := Sy.dp_lt ham
      have S3 := s1.trans (s2.trans s3)
      match j, hj, d_grade_within with
      | 0, hj, _ => exact absurd hj (by walk_at "om")
      | j + 1, hj, _ =>
      refine ⟨_, rfl, _, rfl, _, _, rfl, rfl, .inr ⟨by walk_at "om", by walk_at "om"⟩, _, rfl, _, rfl, _, rfl, _, rfl, d, g, x, a, L, γ, k, n, rfl, kc, n2, n9, hc.same S3, hia.same S3, gps a ham, hL, ig.same S3, by walk_at "om", fun H4 s4 => ?_⟩
      refine ⟨_, _, rfl, rfl, ⟨some x, ?_⟩, s3.trans s4⟩
      rw [take_snoc ha, List.map_append, List.map_cons, List.map_nil, plc_snoc]
      rfl
    · rintro σ H3 ⟨⟨x5, rfl⟩, s3⟩
      rw [← hul, List.take_length]
      have S3 := s1.trans (s2.trans s3)
      have ht3 := S3 _ _ ht
      have hgs : ∀ z ∈ s.ps.map (gi k n γ), 0 ≤ z ∧ z < n := fun z hz => by
        obtain ⟨a, ha, rfl⟩ := List.mem_map.mp hz
        obtain ⟨kvs, _, hv⟩ := ig
        have := gi_gr kc n2 n9 (fun x hx => (hv x hx).2) (gps a ha)
        exact ⟨this.1, this.2.1⟩
      obtain ⟨_, p0, p1⟩ := ga_plc n2 n9 (gs := s.ps.map (gi k n γ)) (by rw [List.length_map]; walk_at "om") hgs
      rw [List.length_map, pl] at p1
      have el : V.int (((.str s.nm :: us : List V).length : Int) - 1) = .int (arity s.nm : Nat) := by
        rw [List.length_cons, ← hul, pl]
        show V.int _ = V.int _
        congr 1
        walk_at "om"
      refine ⟨_, rfl, _, rfl, .inr (.inl ⟨t, _, _, _, rfl, rfl, SqT.of ht3, at0, _, rfl, _, _, rfl, .inr ⟨_, SqT.of ht3, rfl⟩, _, _, rfl, rfl, small9 (by show 2 ≤ 1000; decide), fun t5 ht5 => ?_⟩)⟩
      dsimp only
      rw [el]
      have n5 := same_new ht5 (.tup [.str s.nm, .int (arity s.nm : Nat)])
      obtain ⟨kvs, hk, hv⟩ := hc.same (S3.trans n5)
      obtain ⟨w, ew, hw⟩ := hv _ nm7
      have dg : DGet _ d (.ref t5) (valV kvs (keyOf s.nm)) := DGet.t (k := keyOf s.nm) hk upd_same
      rw [ew] at dg
      have q2 := q _ (S3.trans n5)
      rw [gi_node hs] at q2
      exact ⟨d, _, rfl, dg, _, rfl, .inr (.inl ⟨w, _, _, _, rfl, rfl, SqT.of hw, cells_at p0 p1, q2⟩)⟩

noncomputable abbrev s_grade : Stmt := top 22
theorem sc_grade : FnScope ["T", "S", "grading", "parts", "cells"] ["T", "S", "grading"] (defScope s_grade) := ⟨rfl, rfl, rfl, by decide +kernel, rfl, by decide +kernel, by decide +kernel⟩
theorem ok_grade {P : Program} {w : World} {K : PySem.W.Frag} {mg : Str → Option Value} {base : Heap} {f : Addr} {fd : FuncData} (F : Fun K "grade" "grade" s_grade f fd) (gb : Gb mg) {c : Nat → Addr} (cl : Cl K mg c) (d_written_parts : Def P w K mg base 3 "written_parts" ["S"] spWritten) (d_cells_by_name : Def P w K mg base 1 "cells_by_name" ["H"] spCBN) (d_check_names : Def P w K mg base 3 "check_names" ["shapes", "parts"] (spChkN2 (c 6))) (d_check_letters : Def P w K mg base 3 "check_letters" ["parts", "known"] spChkL2) (d_grade_within : Def P w K mg base 9 "grade_within" ["cells", "many", "S", "grading"] (spGW 6)) : FnOk P w K mg base CX0 10 f fd ["T", "S", "grading"] spGrade := by
  refine F.ok sc_grade (fun vs H Q E h => ?_) (fun cdv A outer s H vs Q E hr h => ?_)
  · obtain ⟨tv, v, s, g, L, γ, k, n, rfl, _⟩ := h
    rfl
  obtain ⟨tv, v, s, g, L, γ, k, n, rfl, ht, kc, n2, n9, ih, gs, hL, ig, d5, q⟩ := h
  refine ⟨_, (@pss_cons _ _ _ _ _ (@ps_set _ _ 3 _ _ _ _ sc_grade.nd rfl (Or.inl rfl) (@pe_def _ _ _ _ _ _ _ _ _ _ _ d_written_parts hr (by walk_at "om") rfl (@pa_cons _ _ _ _ _ (@pv _ 1 _ _ (by rfl) (by first | exact Or.inl rfl | exact Or.inr (Or.inl rfl) | exact Or.inr (Or.inr rfl)) (by decide) (by decide)) (@pa_nil _) (by rfl)) (by decide) (by rfl) (by rfl)) (by rfl) (by first | exact .inl rfl | exact .inr rfl | assumption)) (@pss_cons _ _ _ _ _ (@ps_set _ _ 4 _ _ _ _ sc_grade.nd rfl (Or.inl rfl) (@pe_def _ _ _ _ _ _ _ _ _ _ _ d_cells_by_name hr (by walk_at "om") rfl (@pa_cons _ _ _ _ _ (@pv _ 0 _ _ (by rfl) (by first | exact Or.inl rfl | exact Or.inr (Or.inl rfl) | exact Or.inr (Or.inr rfl)) (by decide) (by decide)) (@pa_nil _) (by rfl)) (by decide) (by rfl) (by rfl)) (by rfl) (by first | exact .inl rfl | exact .inr rfl | assumption)) (@pss_cons _ _ _ _ _ (@ps_expr _ _ _ _ (@pe_def _ _ _ _ _ _ _ _ _ _ _ d_check_names hr (by walk_at "om") rfl (@pa_cons _ _ _ _ _ (@pv _ 4 _ _ (by rfl) (by first | exact Or.inl rfl | exact Or.inr (Or.inl rfl) | exact Or.inr (Or.inr rfl)) (by decide) (by decide)) (@pa_cons _ _ _ _ _ (@pv _ 3 _ _ (by rfl) (by first | exact Or.inl rfl | exact Or.inr (Or.inl rfl) | exact Or.inr (Or.inr rfl)) (by decide) (by decide)) (@pa_nil _) (by rfl)) (by rfl)) (by decide) (by rfl) (by rfl)) (by rfl)) (@pss_cons _ _ _ _ _ (@ps_expr _ _ _ _ (@pe_def _ _ _ _ _ _ _ _ _ _ _ d_check_letters hr (by walk_at "om") rfl (@pa_cons _ _ _ _ _ (@pv _ 3 _ _ (by rfl) (by first | exact Or.inl rfl | exact Or.inr (Or.inl rfl) | exact Or.inr (Or.inr rfl)) (by decide) (by decide)) (@pa_cons _ _ _ _ _ (@pv _ 2 _ _ (by rfl) (by first | exact Or.inl rfl | exact Or.inr (Or.inl rfl) | exact Or.inr (Or.inr rfl)) (by decide) (by decide)) (@pa_nil _) (by rfl)) (by rfl)) (by decide) (by rfl) (by rfl)) (by rfl)) (@pss_one _ _ _ (@ps_ret _ _ _ _ (@pe_def _ _ _ _ _ _ _ _ _ _ _ d_grade_within hr (by walk_at "om") rfl (@pa_cons _ _ _ _ _ (@pv _ 4 _ _ (by rfl) (by first | exact Or.inl rfl | exact Or.inr (Or.inl rfl) | exact Or.inr (Or.inr rfl)) (by decide) (by decide)) (@pa_cons _ _ _ _ _ (@pe_ix _ _ _ _ _ _ _ (@kix_seq _ K (by rfl)) (@pv _ 0 _ _ (by rfl) (by first | exact Or.inl rfl | exact Or.inr (Or.inl rfl) | exact Or.inr (Or.inr rfl)) (by decide) (by decide)) (@pe_int _ _ _ _) (fun _ _ => rfl)) (@pa_cons _ _ _ _ _ (@pv _ 1 _ _ (by rfl) (by first | exact Or.inl rfl | exact Or.inr (Or.inl rfl) | exact Or.inr (Or.inr rfl)) (by decide) (by decide)) (@pa_cons _ _ _ _ _ (@pv _ 2 _ _ (by rfl) (by first | exact Or.inl rfl | exact Or.inr (Or.inl rfl) | exact Or.inr (Or.inr rfl)) (by decide) (by decide)) (@pa_nil _) (by rfl)) (by rfl)) (by rfl)) (by rfl)) (by decide) (by rfl) (by rfl)))))))), ?_⟩
  have hsz : s.sz ≤ 63 := by
    have h1 := Sy.sz_dp s
    have h2 : 2 ^ (s.dp + 1) ≤ 2 ^ 6 := Nat.pow_le_pow_right (by decide) (by walk_at "om")
    walk_at "om"
  refine ⟨_, rfl, v, s, L, rfl, ih, gs, hL, hsz, fun l ps H1 s1 hl pl sy => ?_⟩
  refine ⟨_, rfl, tv, k, n, rfl, ht.same s1, fun dd H2 s2 hc => ?_⟩
  refine ⟨_, rfl, _, rfl, dd, l, L, ps, rfl, .inr ⟨k, n, hc⟩, s2 _ _ hl, pl, (fun z hz => ⟨(sy z hz).1, (sy z hz).2.same s2⟩), hL, fun H3 s3 => ?_⟩
  refine ⟨_, rfl, _, rfl, l, g, L, ps, rfl, (s2.trans s3) _ _ hl, pl, (fun z hz => ⟨(sy z hz).1, (sy z hz).2.same (s2.trans s3)⟩), hL, (ig.same (s1.trans (s2.trans s3))).has, fun H4 s4 => ?_⟩
  have S4 := s1.trans (s2.trans (s3.trans s4))
  obtain ⟨ta, tc, tw, us, rfl, hta, _⟩ := chain_at ht
  refine ⟨_, rfl, _, rfl, .inr (.inl ⟨ta, _, 0, _, rfl, rfl, SqT.of (S4 _ _ hta), rfl, ?_⟩)⟩
  refine ⟨_, rfl, _, rfl, dd, g, v, s, L, γ, k, n, rfl, kc, n2, n9, hc.same (s3.trans s4), ih.same S4, gs, hL, ig.same S4, d5, fun H5 s5 => q H5 (S4.trans s5)⟩

noncomputable abbrev s_law_parts : Stmt := top 49
theorem sc_law_parts : FnScope ["_law_cell", "_law_sizes", "_law_found", "_law_size", "_law_seed"] ["_law_cell", "_law_sizes"] (defScope s_law_parts) := ⟨rfl, rfl, rfl, by decide +kernel, rfl, by decide +kernel, by decide +kernel⟩
theorem ok_law_parts {P : Program} {w : World} {K : PySem.W.Frag} {mg : Str → Option Value} {base : Heap} {f : Addr} {fd : FuncData} (F : Fun K "_law_parts" "_law_parts" s_law_parts f fd) (gb : Gb mg) {c : Nat → Addr} (cl : Cl K mg c) : FnOk P w K mg base CX0 1 f fd ["_law_cell", "_law_sizes"] spParts := by
  refine F.ok sc_law_parts (fun vs H Q E h => ?_) (fun cdv A outer s H vs Q E hr h => ?_)
  · obtain ⟨c, sz, ns, rfl, _⟩ := h
    rfl
  obtain ⟨c, sz, ns, rfl, hs, hl, hn, q⟩ := h
  refine ⟨_, (@pss_cons _ _ _ _ _ (@ps_set _ _ 2 _ _ _ _ sc_law_parts.nd rfl (Or.inl rfl) (@pe_lst _ _ _ _ (@pa_nil _)) (by rfl) (by first | exact .inl rfl | exact .inr rfl | assumption)) (@pss_cons _ _ _ _ _ (@ps_if _ _ _ _ _ _ _ _ (@PW.pt _ _ _ (@pw_or _ _ _ _ _ _ _ (@pt_cmpR _ _ _ _ _ _ _ _ (@op_lt _) (@pv _ 0 _ _ (by rfl) (by first | exact Or.inl rfl | exact Or.inr (Or.inl rfl) | exact Or.inr (Or.inr rfl)) (by decide) (by decide)) (@pe_int _ _ _ _) (@nomark _ _ (by decide) (by decide))) (@pw_or1 _ _ _ _ (@pt_cmpR _ _ _ _ _ _ _ _ (@op_ge _) (@pv _ 0 _ _ (by rfl) (by first | exact Or.inl rfl | exact Or.inr (Or.inl rfl) | exact Or.inr (Or.inr rfl)) (by decide) (by decide)) (@pe_op _ _ _ _ _ _ _ _ (@op_pow _) (@pe_int _ _ _ _) (@pe_int _ _ _ _)) (@nomark _ _ (by decide) (by decide)))))) (@pss_cons _ _ _ _ _ (@ps_for _ _ _ _ _ _ _ _ PassesOwn.never rfl (@kpi_list _ K _ _ _ (@pv _ 1 _ _ (by rfl) (by first | exact Or.inl rfl | exact Or.inr (Or.inl rfl) | exact Or.inr (Or.inr rfl)) (by decide) (by decide)) (by rfl)) (@pg_name _ _ 3 _ sc_law_parts.nd rfl (Or.inl rfl) (by first | exact .inl rfl | exact .inr rfl | assumption)) (@pss_cons _ _ _ _ _ (@ps_expr _ _ _ _ (@kpe_bm _ K _ _ _ _ _ _ _ _ _ _ _ PySem.F.plainAttrs_list PySem.F.slot_list_append PySem.F.type_list_append (@mt_append _) (@pv _ 2 _ _ (by rfl) (by first | exact Or.inl rfl | exact Or.inr (Or.inl rfl) | exact Or.inr (Or.inr rfl)) (by decide) (by decide)) (@pa_cons _ _ _ _ _ (@pe_op _ _ _ _ _ _ _ _ (@op_mod _) (@pv _ 0 _ _ (by rfl) (by first | exact Or.inl rfl | exact Or.inr (Or.inl rfl) | exact Or.inr (Or.inr rfl)) (by decide) (by decide)) (@pv _ 3 _ _ (by rfl) (by first | exact Or.inl rfl | exact Or.inr (Or.inl rfl) | exact Or.inr (Or.inr rfl)) (by decide) (by decide))) (@pa_nil _) (by rfl)) (by rfl) (by rfl) (by rfl) (by rfl) (by rfl) (by rfl)) (by rfl)) (@pss_one _ _ _ (@ps_set _ _ 0 _ _ _ _ sc_law_parts.nd rfl (Or.inl rfl) (@pe_op _ _ _ _ _ _ _ _ (@op_fdiv _) (@pv _ 0 _ _ (by rfl) (by first | exact Or.inl rfl | exact Or.inr (Or.inl rfl) | exact Or.inr (Or.inr rfl)) (by decide) (by decide)) (@pv _ 3 _ _ (by rfl) (by first | exact Or.inl rfl | exact Or.inr (Or.inl rfl) | exact Or.inr (Or.inr rfl)) (by decide) (by decide))) (by rfl) (by first | exact .inl rfl | exact .inr rfl | assumption)))) (by intro _; rfl)) (@pss_one _ _ _ (@ps_ret _ _ _ _ (@pv _ 2 _ _ (by rfl) (by first | exact Or.inl rfl | exact Or.inr (Or.inl rfl) | exact Or.inr (Or.inr rfl)) (by decide) (by decide))))) (@pss_nil _)) (@pss_cons _ _ _ _ _ (@ps_set _ _ 4 _ _ _ _ sc_law_parts.nd rfl (Or.inl rfl) (@pe_op _ _ _ _ _ _ _ _ (@op_add _) (@pe_op _ _ _ _ _ _ _ _ (@op_mod _) (@pv _ 0 _ _ (by rfl) (by first | exact Or.inl rfl | exact Or.inr (Or.inl rfl) | exact Or.inr (Or.inr rfl)) (by decide) (by decide)) (@pe_int _ _ _ _)) (@pe_int _ _ _ _)) (by rfl) (by first | exact .inl rfl | exact .inr rfl | assumption)) (@pss_cons _ _ _ _ _ (@ps_for _ _ _ _ _ _ _ _ PassesOwn.never rfl (@kpi_list _ K _ _ _ (@pv _ 1 _ _ (by rfl) (by first | exact Or.inl rfl | exact Or.inr (Or.inl rfl) | exact Or.inr (Or.inr rfl)) (by decide) (by decide)) (by rfl)) (@pg_name _ _ 3 _ sc_law_parts.nd rfl (Or.inl rfl) (by first | exact .inl rfl | exact .inr rfl | assumption)) (@pss_cons _ _ _ _ _ (@ps_set _ _ 4 _ _ _ _ sc_law_parts.nd rfl (Or.inl rfl) (@pe_op _ _ _ _ _ _ _ _ (@op_mod _) (@pe_op _ _ _ _ _ _ _ _ (@op_add _) (@pe_op _ _ _ _ _ _ _ _ (@op_mul _) (@pv _ 4 _ _ (by rfl) (by first | exact Or.inl rfl | exact Or.inr (Or.inl rfl) | exact Or.inr (Or.inr rfl)) (by decide) (by decide)) (@pe_int _ _ _ _)) (@pe_int _ _ _ _)) (@pe_int _ _ _ _)) (by rfl) (by first | exact .inl rfl | exact .inr rfl | assumption)) (@pss_one _ _ _ (@ps_expr _ _ _ _ (@kpe_bm _ K _ _ _ _ _ _ _ _ _ _ _ PySem.F.plainAttrs_list PySem.F.slot_list_append PySem.F.type_list_append (@mt_append _) (@pv _ 2 _ _ (by rfl) (by first | exact Or.inl rfl | exact Or.inr (Or.inl rfl) | exact Or.inr (Or.inr rfl)) (by decide) (by decide)) (@pa_cons _ _ _ _ _ (@pe_op _ _ _ _ _ _ _ _ (@op_mod _) (@pe_op _ _ _ _ _ _ _ _ (@op_fdiv _) (@pe_op _ _ _ _ _ _ _ _ (@op_mod _) (@pe_op _ _ _ _ _ _ _ _ (@op_mul _) (@pv _ 4 _ _ (by rfl) (by first | exact Or.inl rfl | exact Or.inr (Or.inl rfl) | exact Or.inr (Or.inr rfl)) (by decide) (by decide)) (@pe_int _ _ _ _)) (@pe_int _ _ _ _)) (@pe_int _ _ _ _)) (@pv _ 3 _ _ (by rfl) (by first | exact Or.inl rfl | exact Or.inr (Or.inl rfl) | exact Or.inr (Or.inr rfl)) (by decide) (by decide))) (@pa_nil _) (by rfl)) (by rfl) (by rfl) (by rfl) (by rfl) (by rfl) (by rfl)) (by rfl)))) (by intro _; rfl)) (@pss_one _ _ _ (@ps_ret _ _ _ _ (@pv _ 2 _ _ (by rfl) (by first | exact Or.inl rfl | exact Or.inr (Or.inl rfl) | exact Or.inr (Or.inr rfl)) (by decide) (by decide)))))))), ?_⟩
  refine ⟨small9 (by show 0 ≤ 1000; decide), fun fd hfd => ?_⟩
  have n1 := same_new hfd (.lst [])
  refine ⟨_, rfl, _, _, rfl, rfl, _, rfl, ite2 (fun c1 => ?_) (fun c1 => ?_)⟩
  · refine ⟨_, rfl, sz, rfl, ⟨_, SqL.of (n1 _ _ hs)⟩, ?_⟩
    refine for_list (xs := ns.map nV) (fun i σ H' => ∃ (cc : Int) (x3 x4 : Option V) (fs : List Nat), σ = [some (.int cc), some (.ref sz), some (.ref fd), x3, x4] ∧ Same H H' ∧ H' fd = some (.lst (fs.map nV)) ∧ fs.length = i ∧ (∀ (j n f : Nat), ns[j]? = some n → fs[j]? = some f → f < n)) ⟨c, none, none, [], rfl, n1, upd_same, rfl, fun j n f _ h => by simp at h⟩ (fun i σ H' _ h => by obtain ⟨_, _, _, _, _, s1, _⟩ := h; exact SqL.of (s1 _ _ hs)) ?_ ?_
    · rintro i x σ H1 hx ⟨cc, x3, x4, fs, rfl, s1, hf, fl, hlt⟩
      rw [List.getElem?_map] at hx
      obtain ⟨n, hni, rfl⟩ := Option.map_eq_some_iff.mp hx
      have hi := (List.getElem?_eq_some_iff.mp hni).1
      obtain ⟨n1', n9⟩ := hn n (List.mem_of_getElem? hni)
      have e0 := Int.emod_nonneg cc (show (n : Int) ≠ 0 by walk_at "om")
      have l0 := Int.emod_lt_of_pos cc (show (0 : Int) < n by walk_at "om")
      refine ⟨_, rfl, .inl ⟨rfl, _, SqL.of hf⟩, _, rfl, _, rfl, _, _, rfl, rfl, (by walk_at "om"), fd, _, _, rfl, rfl, hf, by rw [List.length_map]; exact small1000 (by walk_at "om"), ?_⟩
      refine ⟨_, rfl, _, rfl, _, _, rfl, rfl, ⟨by walk_at "om", by walk_at "om"⟩, cc / n, _, _, fs ++ [(cc % n).toNat], rfl, s1.put hfd, ?_, by rw [List.length_append, fl]; rfl, lt_snoc hlt (by rw [fl]; exact hni) (by walk_at "om")⟩
      rw [upd_same, List.map_append]
      show some (HO.lst (_ ++ [V.int (cc % (n : Int))])) = some (.lst (_ ++ [V.int (((cc % (n : Int)).toNat : Nat) : Int)]))
      rw [Int.toNat_of_nonneg e0]
    · rintro σ H1 ⟨cc, x3, x4, fs, rfl, s1, hf, fl, hlt⟩
      rw [List.length_map] at fl
      exact ⟨_, rfl, q fd fs H1 s1 hf fl hlt⟩
  · walk_at "rd"
    refine ite2 (fun c2 => ?_) (fun c2 => ?_)
    · refine ⟨_, rfl, sz, rfl, ⟨_, SqL.of (n1 _ _ hs)⟩, ?_⟩
      refine for_list (xs := ns.map nV) (fun i σ H' => ∃ (cc : Int) (x3 x4 : Option V) (fs : List Nat), σ = [some (.int cc), some (.ref sz), some (.ref fd), x3, x4] ∧ Same H H' ∧ H' fd = some (.lst (fs.map nV)) ∧ fs.length = i ∧ (∀ (j n f : Nat), ns[j]? = some n → fs[j]? = some f → f < n)) ⟨c, none, none, [], rfl, n1, upd_same, rfl, fun j n f _ h => by simp at h⟩ (fun i σ H' _ h => by obtain ⟨_, _, _, _, _, s1, _⟩ := h; exact SqL.of (s1 _ _ hs)) ?_ ?_
      · rintro i x σ H1 hx ⟨cc, x3, x4, fs, rfl, s1, hf, fl, hlt⟩
        rw [List.getElem?_map] at hx
        obtain ⟨n, hni, rfl⟩ := Option.map_eq_some_iff.mp hx
        have hi := (List.getElem?_eq_some_iff.mp hni).1
        obtain ⟨n1', n9⟩ := hn n (List.mem_of_getElem? hni)
        have e0 := Int.emod_nonneg cc (show (n : Int) ≠ 0 by walk_at "om")
        have l0 := Int.emod_lt_of_pos cc (show (0 : Int) < n by walk_at "om")
        refine ⟨_, rfl, .inl ⟨rfl, _, SqL.of hf⟩, _, rfl, _, rfl, _, _, rfl, rfl, (by walk_at "om"), fd, _, _, rfl, rfl, hf, by rw [List.length_map]; exact small1000 (by walk_at "om"), ?_⟩
        refine ⟨_, rfl, _, rfl, _, _, rfl, rfl, ⟨by walk_at "om", by walk_at "om"⟩, cc / n, _, _, fs ++ [(cc % n).toNat], rfl, s1.put hfd, ?_, by rw [List.length_append, fl]; rfl, lt_snoc hlt (by rw [fl]; exact hni) (by walk_at "om")⟩
        rw [upd_same, List.map_append]
        show some (HO.lst (_ ++ [V.int (cc % (n : Int))])) = some (.lst (_ ++ [V.int (((cc % (n : Int)).toNat : Nat) : Int)]))
        rw [Int.toNat_of_nonneg e0]
      · rintro σ H1 ⟨cc, x3, x4, fs, rfl, s1, hf, fl, hlt⟩
        rw [List.length_map] at fl
        exact ⟨_, rfl, q fd fs H1 s1 hf fl hlt⟩
    · refine ⟨_, rfl, _, _, rfl, rfl, (show (0 : Int) < 2147483629 by decide), _, _, rfl, rfl, ?_⟩
      refine ⟨_, rfl, sz, rfl, ⟨_, SqL.of (n1 _ _ hs)⟩, ?_⟩
      refine for_list (xs := ns.map nV) (fun i σ H' => ∃ (sd : Int) (x3 : Option V) (fs : List Nat), σ = [some (.int c), some (.ref sz), some (.ref fd), x3, some (.int sd)] ∧ 0 ≤ sd ∧ Same H H' ∧ H' fd = some (.lst (fs.map nV)) ∧ fs.length = i ∧ (∀ (j n f : Nat), ns[j]? = some n → fs[j]? = some f → f < n)) ⟨_, none, [], rfl, by have := Int.emod_nonneg c (show (2147483629 : Int) ≠ 0 by decide); walk_at "om", n1, upd_same, rfl, fun j n f _ h => by simp at h⟩ (fun i σ H' _ h => by obtain ⟨_, _, _, _, _, s1, _⟩ := h; exact SqL.of (s1 _ _ hs)) ?_ ?_
      · rintro i x σ H1 hx ⟨sd, x3, fs, rfl, sd0, s1, hf, fl, hlt⟩
        rw [List.getElem?_map] at hx
        obtain ⟨n, hni, rfl⟩ := Option.map_eq_some_iff.mp hx
        have hi := (List.getElem?_eq_some_iff.mp hni).1
        obtain ⟨n1', n9⟩ := hn n (List.mem_of_getElem? hni)
        refine ⟨_, rfl, _, _, rfl, rfl, .inr ⟨by walk_at "om", by walk_at "om"⟩, _, _, rfl, rfl, _, _, rfl, rfl, (by walk_at "om"), ?_⟩
        dsimp only
        have e1 := Int.emod_nonneg (sd * 69069 + 12345) (show (2147483587 : Int) ≠ 0 by decide)
        generalize (sd * 69069 + 12345) % 2147483587 = sd2 at e1
        have e2 := Int.emod_nonneg (sd2 * 40503) (show (2147483563 : Int) ≠ 0 by decide)
        refine ⟨_, rfl, .inl ⟨rfl, _, SqL.of hf⟩, _, rfl, _, _, rfl, rfl, .inr ⟨by walk_at "om", by walk_at "om"⟩, _, _, rfl, rfl, (by walk_at "om"), _, _, rfl, rfl, ⟨by walk_at "om", by walk_at "om"⟩, _, rfl, _, _, rfl, rfl, (by walk_at "om"), fd, _, _, rfl, rfl, hf, by rw [List.length_map]; exact small1000 (by walk_at "om"), ?_⟩
        dsimp only
        generalize sd2 * 40503 % 2147483563 / 11 = sd3
        have e0 := Int.emod_nonneg sd3 (show (n : Int) ≠ 0 by walk_at "om")
        have l0 := Int.emod_lt_of_pos sd3 (show (0 : Int) < n by walk_at "om")
        refine ⟨sd2, _, fs ++ [(sd3 % n).toNat], rfl, e1, s1.put hfd, ?_, by rw [List.length_append, fl]; rfl, lt_snoc hlt (by rw [fl]; exact hni) (by walk_at "om")⟩
        rw [upd_same, List.map_append]
        show some (HO.lst (_ ++ [V.int (sd3 % (n : Int))])) = some (.lst (_ ++ [V.int (((sd3 % (n : Int)).toNat : Nat) : Int)]))
        rw [Int.toNat_of_nonneg e0]
      · rintro σ H1 ⟨sd, x3, fs, rfl, sd0, s1, hf, fl, hlt⟩
        rw [List.length_map] at fl
        exact ⟨_, rfl, q fd fs H1 s1 hf fl hlt⟩


noncomputable abbrev s_law_letters : Stmt := top 51
theorem sc_law_letters : FnScope ["_law_xs", "_law_many", "_law_alphabet", "_law_found", "_law_k", "_law_rest"] ["_law_xs", "_law_many"] (defScope s_law_letters) := ⟨rfl, rfl, rfl, by decide +kernel, rfl, by decide +kernel, by decide +kernel⟩
theorem ok_law_letters {P : Program} {w : World} {K : PySem.W.Frag} {mg : Str → Option Value} {base : Heap} {f : Addr} {fd : FuncData} (F : Fun K "_law_letters" "_law_letters" s_law_letters f fd) (gb : Gb mg) {c : Nat → Addr} (cl : Cl K mg c) : FnOk P w K mg base CX0 1 f fd ["_law_xs", "_law_many"] spLetters := by
  refine F.ok sc_law_letters (fun vs H Q E h => ?_) (fun cdv A outer s H vs Q E hr h => ?_)
  · obtain ⟨l, fs, m, rfl, _⟩ := h
    rfl
  obtain ⟨l, fs, m, rfl, hl, hm, m6, q⟩ := h
  have nd0 : (["_law_sign", "_law_found"] : List Str).Nodup := by decide +kernel
  refine ⟨_, (@pss_cons _ _ _ _ _ (@ps_set _ _ 2 _ _ _ _ sc_law_letters.nd rfl (Or.inl rfl) (@pe_str _ _ _ _) (by rfl) (by first | exact .inl rfl | exact .inr rfl | assumption)) (@pss_cons _ _ _ _ _ (@ps_set _ _ 3 _ _ _ _ sc_law_letters.nd rfl (Or.inr rfl) (@pe_lst _ _ _ _ (@pa_nil _)) (by rfl) (by first | exact .inl rfl | exact .inr rfl | assumption)) (@pss_cons _ _ _ _ _ (@ps_for _ _ _ _ _ _ _ _ PassesOwn.never rfl (@pi_range1 _ _ _ _ _ _ rfl gb.range (@pa_cons _ _ _ _ _ (@pv _ 1 _ _ (by rfl) (by first | exact Or.inl rfl | exact Or.inr (Or.inl rfl) | exact Or.inr (Or.inr rfl)) (by decide) (by decide)) (@pa_nil _) (by rfl)) (by rfl)) (@pg_name _ _ 4 _ sc_law_letters.nd rfl (Or.inl rfl) (by first | exact .inl rfl | exact .inr rfl | assumption)) (@pss_cons _ _ _ _ _ (@ps_setComp _ ["_law_sign", "_law_found"] [none, some 3] _ 5 _ _ _ _ _ _ _ _ _ _ _ _ (by exact (show CompOk ["_law_xs", "_law_many", "_law_alphabet", "_law_found", "_law_k", "_law_rest"] (defScope s_law_letters) ["_law_sign", "_law_found"] [none, some 3] _ from ⟨rfl, by decide +kernel, by decide +kernel, by decide +kernel, by decide +kernel, rfl, by decide +kernel⟩)) rfl (@pi_str _ _ _ _ (@pv _ 2 _ _ (by rfl) (by first | exact Or.inl rfl | exact Or.inr (Or.inl rfl) | exact Or.inr (Or.inr rfl)) (by decide) (by decide))) (fun _ _ _ _ => (@pg_name _ _ 0 _ nd0 rfl (Or.inl rfl) (by first | exact .inl rfl | exact .inr rfl | assumption))) (fun _ _ _ _ => (@pf_one _ _ _ (@pt_cmpR _ _ _ _ _ _ _ _ (@kop_notIn_seq _ K (by rfl)) (@pv _ 0 _ _ (by rfl) (by first | exact Or.inl rfl | exact Or.inr (Or.inl rfl) | exact Or.inr (Or.inr rfl)) (by decide) (by decide)) (@pv _ 1 _ _ (by rfl) (by first | exact Or.inl rfl | exact Or.inr (Or.inl rfl) | exact Or.inr (Or.inr rfl)) (by decide) (by decide)) (by with_unfolding_all rfl)))) (fun _ _ _ _ => (@pv _ 0 _ _ (by rfl) (by first | exact Or.inl rfl | exact Or.inr (Or.inl rfl) | exact Or.inr (Or.inr rfl)) (by decide) (by decide))) sc_law_letters.nd rfl rfl rfl (by intro _; rfl)) (@pss_one _ _ _ (@ps_expr _ _ _ _ (@kpe_bm _ K _ _ _ _ _ _ _ _ _ _ _ PySem.F.plainAttrs_list PySem.F.slot_list_append PySem.F.type_list_append (@mt_append _) (@pv _ 3 _ _ (by rfl) (by first | exact Or.inl rfl | exact Or.inr (Or.inl rfl) | exact Or.inr (Or.inr rfl)) (by decide) (by decide)) (@pa_cons _ _ _ _ _ (@pe_ix _ _ _ _ _ _ _ (@kix_seq _ K (by rfl)) (@pv _ 5 _ _ (by rfl) (by first | exact Or.inl rfl | exact Or.inr (Or.inl rfl) | exact Or.inr (Or.inr rfl)) (by decide) (by decide)) (@pe_op _ _ _ _ _ _ _ _ (@op_mod _) (@pe_ix _ _ _ _ _ _ _ (@kix_seq _ K (by rfl)) (@pv _ 0 _ _ (by rfl) (by first | exact Or.inl rfl | exact Or.inr (Or.inl rfl) | exact Or.inr (Or.inr rfl)) (by decide) (by decide)) (@pv _ 4 _ _ (by rfl) (by first | exact Or.inl rfl | exact Or.inr (Or.inl rfl) | exact Or.inr (Or.inr rfl)) (by decide) (by decide)) (fun _ _ => rfl)) (@pe_callB _ _ _ _ _ _ _ _ _ (@kcall_len _ K (by rfl)) rfl gb.len bt_len (@pa_cons _ _ _ _ _ (@pv _ 5 _ _ (by rfl) (by first | exact Or.inl rfl | exact Or.inr (Or.inl rfl) | exact Or.inr (Or.inr rfl)) (by decide) (by decide)) (@pa_nil _) (by rfl)) (by decide) (by decide) (by rfl) (by rfl))) (fun _ _ => rfl)) (@pa_nil _) (by rfl)) (by rfl) (by rfl) (by rfl) (by rfl) (by rfl) (by rfl)) (by rfl)))) (by intro _; rfl)) (@pss_one _ _ _ (@ps_ret _ _ _ _ (@pv _ 3 _ _ (by rfl) (by first | exact Or.inl rfl | exact Or.inr (Or.inl rfl) | exact Or.inr (Or.inr rfl)) (by decide) (by decide))))))), ?_⟩
  refine ⟨small9 (by show 0 ≤ 1000; decide), fun fd hfd => ?_⟩
  have n1 := same_new hfd (.lst [])
  refine ⟨_, rfl, (m : Int), rfl, by walk_at "om", by walk_at "om", ?_⟩
  rw [Int.toNat_natCast]
  refine for_range (fun i σ H' => ∃ (x4 x5 : Option V) (cs : List Nat), σ = [some (.ref l), some (nV m), some (.str alpha), some (.ref fd), x4, x5] ∧ Same H H' ∧ H' fd = some (.lst (cs.map fun c => V.str (sgn c))) ∧ cs.length = i ∧ ∀ c ∈ cs, Code c) ⟨none, none, [], rfl, n1, upd_same, rfl, fun c h => by cases h⟩ ?_ ?_
  · rintro i σ H1 hi ⟨x4, x5, cs, rfl, s1, hf, cl', hc⟩
    refine ⟨_, rfl, alpha, rfl, fun D hD => ?_⟩
    refine comp_str (fun j ys H' => Same H1 H' ∧ ys = ((AL.take j).filter fun c => !decide (c ∈ cs)).map (fun c => V.str (sgn c)) ∧ ys.length ≤ j) ⟨same_new hD _, rfl, Nat.le_refl _⟩ ?_ ?_
    · rintro j ys H2 c hc2 ⟨s2, rfl, yl⟩ hD2
      have hcA : AL[j]? = some c := by
        rw [← alpha_codes]
        simpa using hc2
      have hj : j < alpha.cps.size := (Array.getElem?_eq_some_iff.mp hc2).1
      have j26 : j < 26 := hj
      refine ⟨_, rfl, _, rfl, fd, _, rfl, .inl (SqL.of (s2 _ _ hf)), rfl, flat_sgn cs, _, rfl, ?_⟩
      dsimp only
      rw [if_pos rfl]
      rw [show inV (V.str (Str.mk #[c])) (cs.map fun c => V.str (sgn c)) = decide (c ∈ cs) from in_sgn c cs]
      by_cases hm : c ∈ cs
      · rw [decide_eq_true hm]
        refine iteF (cno hj rset1 hD2 ⟨s2, ?_, by walk_at "om"⟩)
        rw [take_snoc hcA, List.filter_append, List.map_append]
        simp [hm]
      · rw [decide_eq_false hm]
        refine iteT ⟨_, rfl, cyes hj rset1 hD2 (small1000 (by walk_at "om")) ⟨s2.put hD, ?_, by rw [List.length_append]; exact Nat.succ_le_succ yl⟩⟩
        rw [take_snoc hcA, List.filter_append, List.map_append]
        simp [hm]
        rfl
    · rintro ys H2 ⟨s2, rfl, yl⟩ hD2
      rw [show AL.take alpha.cps.size = AL from rfl] at hD2 yl
      generalize hR : AL.filter (fun c => !decide (c ∈ cs)) = R at hD2 yl
      rw [List.length_map] at yl
      have rp : 0 < R.length := by
        obtain ⟨c, h1, h2⟩ := free_letter (cs := cs) (by walk_at "om")
        rw [← hR]
        exact List.length_pos_of_mem (List.mem_filter.mpr ⟨h1, by rw [decide_eq_false h2]; rfl⟩)
      have rc : ∀ c ∈ R, Code c := fun c h => by
        rw [← hR] at h
        obtain ⟨k, hk, rfl⟩ := List.mem_map.mp (List.mem_filter.mp h).1
        have := List.mem_range.mp hk
        exact ⟨by walk_at "om", by walk_at "om"⟩
      have hlt := Nat.mod_lt (fs.getD i 0) rp
      have hx : R[fs.getD i 0 % R.length]? = some R[fs.getD i 0 % R.length] := List.getElem?_eq_getElem hlt
      have hxc := rc _ (List.mem_of_getElem? hx)
      generalize R[fs.getD i 0 % R.length] = cx at hx hxc
      have ef : atI (fs.map nV) (0 + (i : Int)) = some (nV (fs.getD i 0)) := by rw [Int.zero_add]; exact at_nV (by walk_at "om")
      have er : atI (R.map fun c => V.str (sgn c)) (((fs.getD i 0 : Nat) : Int) % ((R.map fun c => V.str (sgn c)).length : Int)) = some (.str (sgn cx)) := by
        rw [List.length_map, ← Int.natCast_emod]
        exact at_map' hx
      have hf2 := s2 _ _ hf
      refine ⟨_, rfl, .inl ⟨rfl, _, SqL.of hf2⟩, _, rfl, _, rfl, _, rfl, .inl ⟨l, _, _, _, rfl, rfl, SqL.of (s2 _ _ (s1 _ _ hl)), ef, ?_⟩⟩
      refine ⟨_, rfl, _, _, rfl, .inl ⟨_, SqL.of hD2, rfl⟩, _, _, rfl, rfl, (by rw [List.length_map]; walk_at "om"), .inl ⟨D, _, _, _, rfl, rfl, SqL.of hD2, er, ?_⟩⟩
      refine ⟨fd, _, _, rfl, rfl, hf2, by rw [List.length_map]; exact small1000 (by walk_at "om"), _, _, cs ++ [cx], rfl, (s1.trans s2).put hfd, by rw [upd_same, List.map_append]; rfl, by rw [List.length_append, cl']; rfl, fun c h => ?_⟩
      rcases List.mem_append.mp h with h | h
      · exact hc c h
      · rw [List.mem_singleton.mp h]
        exact hxc
  · rintro σ H1 ⟨x4, x5, cs, rfl, s1, hf, cl', hc⟩
    exact ⟨_, rfl, q fd cs H1 s1 hf cl' hc⟩

noncomputable abbrev s_law_saying : Stmt := top 50
theorem sc_law_saying : FnScope ["_law_xs", "_law_at", "_law_deep", "_law_letters_here", "_law_names", "_law_name", "_law_places"] ["_law_xs", "_law_at", "_law_deep", "_law_letters_here"] (defScope s_law_saying) := ⟨rfl, rfl, rfl, by decide +kernel, rfl, by decide +kernel, by decide +kernel⟩
theorem ok_law_saying {P : Program} {w : World} {K : PySem.W.Frag} {mg : Str → Option Value} {base : Heap} {f : Addr} {fd : FuncData} (F : Fun K "_law_saying" "_law_saying" s_law_saying f fd) (gb : Gb mg) {c : Nat → Addr} (cl : Cl K mg c) (j : Nat) (d_law_saying : Def P w K mg base (1 + j) "_law_saying" ["_law_xs", "_law_at", "_law_deep", "_law_letters_here"] (spSaying j)) : FnOk P w K mg base CX0 (1 + j + 1) f fd ["_law_xs", "_law_at", "_law_deep", "_law_letters_here"] (spSaying (j + 1)) := by
  refine F.ok sc_law_saying (fun vs H Q E h => ?_) (fun cdv A outer s H vs Q E hr h => ?_)
  · obtain ⟨l, lt, fs, a, dd, L, rfl, _⟩ := h
    rfl
  obtain ⟨l, lt, fs, a, dd, L, rfl, hl, hlt, l1, l6, hj, d4, a9, hb, q⟩ := h
  have nd0 : (["_law_k", "_law_xs", "_law_at", "_law_deep", "_law_letters_here"] : List Str).Nodup := by decide +kernel
  refine ⟨_, (@pss_cons _ _ _ _ _ (@ps_set _ _ 4 _ _ _ _ sc_law_saying.nd rfl (Or.inl rfl) (@pe_lst _ _ _ _ (@pa_cons _ _ _ _ _ (@pe_tup _ _ _ _ _ (@pa_cons _ _ _ _ _ (@pe_str _ _ _ _) (@pa_cons _ _ _ _ _ (@pe_int _ _ _ _) (@pa_nil _) (by rfl)) (by rfl))) (@pa_cons _ _ _ _ _ (@pe_tup _ _ _ _ _ (@pa_cons _ _ _ _ _ (@pe_str _ _ _ _) (@pa_cons _ _ _ _ _ (@pe_int _ _ _ _) (@pa_nil _) (by rfl)) (by rfl))) (@pa_cons _ _ _ _ _ (@pe_tup _ _ _ _ _ (@pa_cons _ _ _ _ _ (@pe_str _ _ _ _) (@pa_cons _ _ _ _ _ (@pe_int _ _ _ _) (@pa_nil _) (by rfl)) (by rfl))) (@pa_cons _ _ _ _ _ (@pe_tup _ _ _ _ _ (@pa_cons _ _ _ _ _ (@pe_str _ _ _ _) (@pa_cons _ _ _ _ _ (@pe_int _ _ _ _) (@pa_nil _) (by rfl)) (by rfl))) (@pa_cons _ _ _ _ _ (@pe_tup _ _ _ _ _ (@pa_cons _ _ _ _ _ (@pe_str _ _ _ _) (@pa_cons _ _ _ _ _ (@pe_int _ _ _ _) (@pa_nil _) (by rfl)) (by rfl))) (@pa_cons _ _ _ _ _ (@pe_tup _ _ _ _ _ (@pa_cons _ _ _ _ _ (@pe_str _ _ _ _) (@pa_cons _ _ _ _ _ (@pe_int _ _ _ _) (@pa_nil _) (by rfl)) (by rfl))) (@pa_cons _ _ _ _ _ (@pe_tup _ _ _ _ _ (@pa_cons _ _ _ _ _ (@pe_str _ _ _ _) (@pa_cons _ _ _ _ _ (@pe_int _ _ _ _) (@pa_nil _) (by rfl)) (by rfl))) (@pa_cons _ _ _ _ _ (@pe_tup _ _ _ _ _ (@pa_cons _ _ _ _ _ (@pe_str _ _ _ _) (@pa_cons _ _ _ _ _ (@pe_int _ _ _ _) (@pa_nil _) (by rfl)) (by rfl))) (@pa_nil _) (by rfl)) (by rfl)) (by rfl)) (by rfl)) (by rfl)) (by rfl)) (by rfl)) (by rfl))) (by rfl) (by first | exact .inl rfl | exact .inr rfl | assumption)) (@pss_cons _ _ _ _ _ (@ps_if _ _ _ _ _ _ _ _ (@PW.pt _ _ _ (@pw_or _ _ _ _ _ _ _ (@pt_cmpR _ _ _ _ _ _ _ _ (@op_eq _) (@pv _ 2 _ _ (by rfl) (by first | exact Or.inl rfl | exact Or.inr (Or.inl rfl) | exact Or.inr (Or.inr rfl)) (by decide) (by decide)) (@pe_int _ _ _ _) (@nomark _ _ (by decide) (by decide))) (@pw_or1 _ _ _ _ (@pt_cmpR _ _ _ _ _ _ _ _ (@op_eq _) (@pe_op _ _ _ _ _ _ _ _ (@op_mod _) (@pe_ix _ _ _ _ _ _ _ (@kix_seq _ K (by rfl)) (@pv _ 0 _ _ (by rfl) (by first | exact Or.inl rfl | exact Or.inr (Or.inl rfl) | exact Or.inr (Or.inr rfl)) (by decide) (by decide)) (@pv _ 1 _ _ (by rfl) (by first | exact Or.inl rfl | exact Or.inr (Or.inl rfl) | exact Or.inr (Or.inr rfl)) (by decide) (by decide)) (fun _ _ => rfl)) (@pe_int _ _ _ _)) (@pe_int _ _ _ _) (@nomark _ _ (by decide) (by decide)))))) (@pss_one _ _ _ (@ps_ret _ _ _ _ (@pe_ix _ _ _ _ _ _ _ (@kix_seq _ K (by rfl)) (@pv _ 3 _ _ (by rfl) (by first | exact Or.inl rfl | exact Or.inr (Or.inl rfl) | exact Or.inr (Or.inr rfl)) (by decide) (by decide)) (@pe_op _ _ _ _ _ _ _ _ (@op_mod _) (@pe_op _ _ _ _ _ _ _ _ (@op_fdiv _) (@pe_ix _ _ _ _ _ _ _ (@kix_seq _ K (by rfl)) (@pv _ 0 _ _ (by rfl) (by first | exact Or.inl rfl | exact Or.inr (Or.inl rfl) | exact Or.inr (Or.inr rfl)) (by decide) (by decide)) (@pv _ 1 _ _ (by rfl) (by first | exact Or.inl rfl | exact Or.inr (Or.inl rfl) | exact Or.inr (Or.inr rfl)) (by decide) (by decide)) (fun _ _ => rfl)) (@pe_int _ _ _ _)) (@pe_callB _ _ _ _ _ _ _ _ _ (@kcall_len _ K (by rfl)) rfl gb.len bt_len (@pa_cons _ _ _ _ _ (@pv _ 3 _ _ (by rfl) (by first | exact Or.inl rfl | exact Or.inr (Or.inl rfl) | exact Or.inr (Or.inr rfl)) (by decide) (by decide)) (@pa_nil _) (by rfl)) (by decide) (by decide) (by rfl) (by rfl))) (fun _ _ => rfl)))) (@pss_nil _)) (@pss_cons _ _ _ _ _ (@ps_asg _ _ _ _ _ _ (@pe_ix _ _ _ _ _ _ _ (@kix_seq _ K (by rfl)) (@pv _ 4 _ _ (by rfl) (by first | exact Or.inl rfl | exact Or.inr (Or.inl rfl) | exact Or.inr (Or.inr rfl)) (by decide) (by decide)) (@pe_op _ _ _ _ _ _ _ _ (@op_mod _) (@pe_op _ _ _ _ _ _ _ _ (@op_fdiv _) (@pe_ix _ _ _ _ _ _ _ (@kix_seq _ K (by rfl)) (@pv _ 0 _ _ (by rfl) (by first | exact Or.inl rfl | exact Or.inr (Or.inl rfl) | exact Or.inr (Or.inr rfl)) (by decide) (by decide)) (@pv _ 1 _ _ (by rfl) (by first | exact Or.inl rfl | exact Or.inr (Or.inl rfl) | exact Or.inr (Or.inr rfl)) (by decide) (by decide)) (fun _ _ => rfl)) (@pe_int _ _ _ _)) (@pe_int _ _ _ _)) (fun _ _ => rfl)) (@kpg_tup _ K _ _ _ _ 2 rfl (@pgs_cons _ _ _ _ _ (@pg_name _ _ 5 _ sc_law_saying.nd rfl (Or.inl rfl) (by first | exact .inl rfl | exact .inr rfl | assumption)) (@pgs_cons _ _ _ _ _ (@pg_name _ _ 6 _ sc_law_saying.nd rfl (Or.inl rfl) (by first | exact .inl rfl | exact .inr rfl | assumption)) (@pgs_nil _) (by rfl)) (by rfl)) (by rfl) (by rfl) (by rfl)) (by rfl) (by rfl) (by rfl)) (@pss_one _ _ _ (@ps_ret _ _ _ _ (@pe_op _ _ _ _ _ _ _ _ (@op_catA _ K (by rfl)) (@pe_tup _ _ _ _ _ (@pa_cons _ _ _ _ _ (@pv _ 5 _ _ (by rfl) (by first | exact Or.inl rfl | exact Or.inr (Or.inl rfl) | exact Or.inr (Or.inr rfl)) (by decide) (by decide)) (@pa_nil _) (by rfl))) (@pe_callTy _ _ _ _ _ _ _ _ _ (@kcall_tuple_of _ K (by rfl)) rfl gb.tuple bt_tuple (@pa_cons _ _ _ _ _ (@pe_comp _ ["_law_k", "_law_xs", "_law_at", "_law_deep", "_law_letters_here"] [none, some 0, some 1, some 2, some 3] _ _ _ _ _ _ _ _ _ _ (by exact (show CompOk ["_law_xs", "_law_at", "_law_deep", "_law_letters_here", "_law_names", "_law_name", "_law_places"] (defScope s_law_saying) ["_law_k", "_law_xs", "_law_at", "_law_deep", "_law_letters_here"] [none, some 0, some 1, some 2, some 3] _ from ⟨rfl, by decide +kernel, by decide +kernel, by decide +kernel, by decide +kernel, rfl, by decide +kernel⟩)) rfl (@pi_range1 _ _ _ _ _ _ rfl gb.range (@pa_cons _ _ _ _ _ (@pv _ 6 _ _ (by rfl) (by first | exact Or.inl rfl | exact Or.inr (Or.inl rfl) | exact Or.inr (Or.inr rfl)) (by decide) (by decide)) (@pa_nil _) (by rfl)) (by rfl)) (fun _ _ _ _ => (@pg_name _ _ 0 _ nd0 rfl (Or.inl rfl) (by first | exact .inl rfl | exact .inr rfl | assumption))) (fun _ _ _ _ => (@pf_nil _)) (fun _ _ _ _ => (@pe_def _ _ _ _ _ _ _ _ _ _ _ d_law_saying hr (by walk_at "om") rfl (@pa_cons _ _ _ _ _ (@pv _ 1 _ _ (by rfl) (by first | exact Or.inl rfl | exact Or.inr (Or.inl rfl) | exact Or.inr (Or.inr rfl)) (by decide) (by decide)) (@pa_cons _ _ _ _ _ (@pe_op _ _ _ _ _ _ _ _ (@op_add _) (@pe_op _ _ _ _ _ _ _ _ (@op_add _) (@pe_op _ _ _ _ _ _ _ _ (@op_mul _) (@pe_int _ _ _ _) (@pv _ 2 _ _ (by rfl) (by first | exact Or.inl rfl | exact Or.inr (Or.inl rfl) | exact Or.inr (Or.inr rfl)) (by decide) (by decide))) (@pe_int _ _ _ _)) (@pv _ 0 _ _ (by rfl) (by first | exact Or.inl rfl | exact Or.inr (Or.inl rfl) | exact Or.inr (Or.inr rfl)) (by decide) (by decide))) (@pa_cons _ _ _ _ _ (@pe_op _ _ _ _ _ _ _ _ (@op_sub _) (@pv _ 3 _ _ (by rfl) (by first | exact Or.inl rfl | exact Or.inr (Or.inl rfl) | exact Or.inr (Or.inr rfl)) (by decide) (by decide)) (@pe_int _ _ _ _)) (@pa_cons _ _ _ _ _ (@pv _ 4 _ _ (by rfl) (by first | exact Or.inl rfl | exact Or.inr (Or.inl rfl) | exact Or.inr (Or.inr rfl)) (by decide) (by decide)) (@pa_nil _) (by rfl)) (by rfl)) (by rfl)) (by rfl)) (by decide) (by rfl) (by rfl))) (by intro _; rfl)) (@pa_nil _) (by rfl)) (by decide) (by decide) (by rfl) (by rfl)))))))), ?_⟩
  refine ⟨small9 (by show 2 ≤ 1000; decide), fun t0 ht0 => ?_⟩
  have m0 := same_new ht0 (.tup [.str "and", .int 2])
  refine ⟨small9 (by show 2 ≤ 1000; decide), fun t1 ht1 => ?_⟩
  have m1 := same_new ht1 (.tup [.str "or", .int 2])
  refine ⟨small9 (by show 2 ≤ 1000; decide), fun t2 ht2 => ?_⟩
  have m2 := same_new ht2 (.tup [.str "then", .int 2])
  refine ⟨small9 (by show 2 ≤ 1000; decide), fun t3 ht3 => ?_⟩
  have m3 := same_new ht3 (.tup [.str "with", .int 2])
  refine ⟨small9 (by show 2 ≤ 1000; decide), fun t4 ht4 => ?_⟩
  have m4 := same_new ht4 (.tup [.str "not", .int 1])
  refine ⟨small9 (by show 2 ≤ 1000; decide), fun t5 ht5 => ?_⟩
  have m5 := same_new ht5 (.tup [.str "false", .int 0])
  refine ⟨small9 (by show 2 ≤ 1000; decide), fun t6 ht6 => ?_⟩
  have m6 := same_new ht6 (.tup [.str "true", .int 0])
  refine ⟨small9 (by show 2 ≤ 1000; decide), fun t7 ht7 => ?_⟩
  have m7 := same_new ht7 (.tup [.str "then", .int 2])
  refine ⟨small9 (by show 8 ≤ 1000; decide), fun nl hnl => ?_⟩
  have m8 := same_new hnl (.lst [.ref t0, .ref t1, .ref t2, .ref t3, .ref t4, .ref t5, .ref t6, .ref t7])
  have S8 := m0.trans (m1.trans (m2.trans (m3.trans (m4.trans (m5.trans (m6.trans (m7.trans m8)))))))
  have f0 := (m1.trans (m2.trans (m3.trans (m4.trans (m5.trans (m6.trans (m7.trans m8))))))) _ _ upd_same
  have f1 := (m2.trans (m3.trans (m4.trans (m5.trans (m6.trans (m7.trans m8)))))) _ _ upd_same
  have f2 := (m3.trans (m4.trans (m5.trans (m6.trans (m7.trans m8))))) _ _ upd_same
  have f3 := (m4.trans (m5.trans (m6.trans (m7.trans m8)))) _ _ upd_same
  have f4 := (m5.trans (m6.trans (m7.trans m8))) _ _ upd_same
  have f5 := (m6.trans (m7.trans m8)) _ _ upd_same
  have f6 := (m7.trans m8) _ _ upd_same
  have f7 := m8 _ _ upd_same
  have ha : a < fs.length := by
    have h1 : (a + 2) * 1 ≤ (a + 2) * 2 ^ dd := Nat.mul_le_mul_left _ (Nat.pow_pos (by decide))
    walk_at "om"
  have hl8 := S8 _ _ hl
  have hlt8 := S8 _ _ hlt
  have hN : ∀ i, i < 8 → ∃ t nm k, names8[i]? = some (nm, k) ∧ ([.ref t0, .ref t1, .ref t2, .ref t3, .ref t4, .ref t5, .ref t6, .ref t7] : List V)[i]? = some (.ref t) ∧ (upd (upd (upd (upd (upd (upd (upd (upd (upd H t0 (.tup [.str "and", .int 2])) t1 (.tup [.str "or", .int 2])) t2 (.tup [.str "then", .int 2])) t3 (.tup [.str "with", .int 2])) t4 (.tup [.str "not", .int 1])) t5 (.tup [.str "false", .int 0])) t6 (.tup [.str "true", .int 0])) t7 (.tup [.str "then", .int 2])) nl (.lst [.ref t0, .ref t1, .ref t2, .ref t3, .ref t4, .ref t5, .ref t6, .ref t7])) t = some (.tup [.str nm, nV k]) := fun i hi => by
    match i, hi with
    | 0, _ => exact ⟨t0, "and", 2, rfl, rfl, f0⟩
    | 1, _ => exact ⟨t1, "or", 2, rfl, rfl, f1⟩
    | 2, _ => exact ⟨t2, "then", 2, rfl, rfl, f2⟩
    | 3, _ => exact ⟨t3, "with", 2, rfl, rfl, f3⟩
    | 4, _ => exact ⟨t4, "not", 1, rfl, rfl, f4⟩
    | 5, _ => exact ⟨t5, "false", 0, rfl, rfl, f5⟩
    | 6, _ => exact ⟨t6, "true", 0, rfl, rfl, f6⟩
    | 7, _ => exact ⟨t7, "then", 2, rfl, rfl, f7⟩
  have hnl8 : (upd (upd (upd (upd (upd (upd (upd (upd (upd H t0 (.tup [.str "and", .int 2])) t1 (.tup [.str "or", .int 2])) t2 (.tup [.str "then", .int 2])) t3 (.tup [.str "with", .int 2])) t4 (.tup [.str "not", .int 1])) t5 (.tup [.str "false", .int 0])) t6 (.tup [.str "true", .int 0])) t7 (.tup [.str "then", .int 2])) nl (.lst [.ref t0, .ref t1, .ref t2, .ref t3, .ref t4, .ref t5, .ref t6, .ref t7])) nl = some (.lst [.ref t0, .ref t1, .ref t2, .ref t3, .ref t4, .ref t5, .ref t6, .ref t7]) := upd_same
  clear f0 f1 f2 f3 f4 f5 f6 f7 m0 m1 m2 m3 m4 m5 m6 m7 m8
  generalize upd (upd (upd (upd (upd (upd (upd (upd (upd H t0 (.tup [.str "and", .int 2])) t1 (.tup [.str "or", .int 2])) t2 (.tup [.str "then", .int 2])) t3 (.tup [.str "with", .int 2])) t4 (.tup [.str "not", .int 1])) t5 (.tup [.str "false", .int 0])) t6 (.tup [.str "true", .int 0])) t7 (.tup [.str "then", .int 2])) nl (.lst [.ref t0, .ref t1, .ref t2, .ref t3, .ref t4, .ref t5, .ref t6, .ref t7]) = HN at *
  have ef : atI (fs.map nV) (a : Int) = some (nV (fs.getD a 0)) := at_nV ha
  generalize fs.getD a 0 = fa at ef
  obtain ⟨xl, el, hxl⟩ : ∃ x, atI (L.map V.str) (((fa : Int) / 4) % ((L.map V.str).length : Int)) = some (.str x) ∧ x ∈ L := by
    have hlt' := Nat.mod_lt (fa / 4) (show 0 < L.length by walk_at "om")
    have hx : L[fa / 4 % L.length]? = some L[fa / 4 % L.length] := List.getElem?_eq_getElem hlt'
    refine ⟨_, ?_, List.mem_of_getElem? hx⟩
    rw [List.length_map, show (fa : Int) / 4 = ((fa / 4 : Nat) : Int) by rw [Int.natCast_ediv]; rfl, ← Int.natCast_emod]
    exact at_map' hx
  refine ⟨_, rfl, rfl, _, rfl, ?_⟩
  cases dd with
  | zero =>
    refine iteDT rfl ?_
    refine ⟨_, rfl, _, rfl, _, rfl, .inl ⟨l, _, _, _, rfl, rfl, SqL.of hl8, ef, _, _, rfl, rfl, ⟨by decide, by decide⟩, _, rfl, _, _, rfl, .inl ⟨_, SqL.of hlt8, rfl⟩, _, _, rfl, rfl, (by rw [List.length_map]; walk_at "om"), .inl ⟨lt, _, _, _, rfl, rfl, SqL.of hlt8, el, ?_⟩⟩⟩
    exact q _ (.ltr xl) HN S8 rfl hxl (Nat.zero_le _)
  | succ dd =>
    refine iteDF (decide_eq_false fun z => by have := V.int.inj z; walk_at "om") ?_
    refine ⟨_, rfl, _, rfl, .inl ⟨l, _, _, _, rfl, rfl, SqL.of hl8, ef, _, _, rfl, rfl, (show (0 : Int) < 4 by decide), rfl, _, rfl, ite2 (fun c1 => ?_) (fun c1 => ?_)⟩⟩
    · refine ⟨_, rfl, _, rfl, _, rfl, .inl ⟨l, _, _, _, rfl, rfl, SqL.of hl8, ef, _, _, rfl, rfl, ⟨by decide, by decide⟩, _, rfl, _, _, rfl, .inl ⟨_, SqL.of hlt8, rfl⟩, _, _, rfl, rfl, (by rw [List.length_map]; walk_at "om"), .inl ⟨lt, _, _, _, rfl, rfl, SqL.of hlt8, el, ?_⟩⟩⟩
      exact q _ (.ltr xl) HN S8 rfl hxl (Nat.zero_le _)
    · obtain ⟨t, nm, k, hnm, hti, ht⟩ := hN (fa / 4 % 8) (Nat.mod_lt _ (by decide))
      obtain ⟨nm7, ar⟩ := names8_at hnm
      have k2 : k ≤ 2 := by
        have h5 := arity2 nm
        have ar' : arity nm = k := ar
        walk_at "om"
      have en : atI ([.ref t0, .ref t1, .ref t2, .ref t3, .ref t4, .ref t5, .ref t6, .ref t7] : List V) (((fa : Int) / 4) % 8) = some (.ref t) := by
        rw [show ((fa : Int) / 4) % 8 = ((fa / 4 % 8 : Nat) : Int) by rw [Int.natCast_emod, Int.natCast_ediv]; rfl]
        exact atI_nat hti
      refine ⟨_, rfl, _, rfl, _, rfl, .inl ⟨l, _, _, _, rfl, rfl, SqL.of hl8, ef, _, _, rfl, rfl, ⟨by decide, by decide⟩, _, _, rfl, rfl, (show (0 : Int) < 8 by decide), .inl ⟨nl, _, _, _, rfl, rfl, SqL.of hnl8, en, ?_⟩⟩⟩
      refine ⟨t, _, rfl, SqT.of ht, rfl, _, _, rfl, _, _, rfl, rfl, ?_⟩
      refine ⟨_, rfl, small9 (by show 1 ≤ 1000; decide), fun tn htn => ?_⟩
      have n9 := same_new htn (.tup [.str nm])
      refine ⟨_, rfl, (k : Int), rfl, by walk_at "om", by walk_at "om", fun D hD => ?_⟩
      rw [Int.toNat_natCast]
      refine comp_range (fun i ys H' => Same (upd HN tn (.tup [.str nm])) H' ∧ ∃ ss, Paired (IsSy H') ss ys ∧ ss.length = i ∧ ∀ s ∈ ss, GS L s ∧ s.dp ≤ dd) ⟨same_new hD _, [], .nil, rfl, fun s h => by cases h⟩ ?_ ?_
      · rintro i ys H1 hi ⟨s1, ss, hP, sl, hss⟩ hD1
        have S1 := n9.trans s1
        have ea : V.int (2 * (a : Int) + 1 + (0 + (i : Int))) = nV (2 * a + 1 + i) := by
          show V.int _ = V.int _
          congr 1
          walk_at "om"
        have ed : V.int (((dd + 1 : Nat) : Int) - 1) = nV dd := by
          show V.int _ = V.int _
          congr 1
          walk_at "om"
        have hbb : (2 * a + 1 + i + 2) * 2 ^ dd ≤ fs.length + 1 := by
          have h1 : (2 * a + 1 + i + 2) * 2 ^ dd ≤ (2 * a + 4) * 2 ^ dd := Nat.mul_le_mul_right _ (by walk_at "om")
          have h2 : (2 * a + 4) * 2 ^ dd = (a + 2) * 2 ^ (dd + 1) := by rw [Nat.pow_succ]; rw [show 2 * a + 4 = (a + 2) * 2 by walk_at "om", Nat.mul_assoc, Nat.mul_comm 2]
          walk_at "om"
        match j, hj, d_law_saying with
        | 0, hj, _ => exact absurd hj (by walk_at "om")
        | j + 1, hj, _ =>
        refine yes ⟨_, rfl, _, rfl, _, _, rfl, rfl, .inl ⟨by decide, by decide⟩, _, _, rfl, rfl, _, rfl, _, _, rfl, rfl, _, rfl, _, _, rfl, rfl, _, rfl, l, lt, fs, 2 * a + 1 + i, dd, L, by (show [V.ref l, V.int (2 * (a : Int) + 1 + (0 + (i : Int))), V.int (((dd + 1 : Nat) : Int) - 1), V.ref lt] = _; rw [ea, ed]), S1 _ _ hl8, S1 _ _ hlt8, l1, l6, by walk_at "om", by walk_at "om", a9, hbb, fun v s H2 s2 iv gv dv => ?_⟩
        have hyl := Paired.length hP
        have hD2 := s2 _ _ hD1
        refine cyes hi rset1 hD2 (small1000 (by walk_at "om")) ⟨(s1.trans s2).put hD, ss ++ [s], ?_, by rw [List.length_append, sl]; rfl, fun s' hs' => ?_⟩
        · exact same_sy (Tk.put hD2) (snoc_sy (same_sy (Tk.of s2) hP) iv)
        · rcases List.mem_append.mp hs' with h | h
          · exact hss s' h
          · rw [List.mem_singleton.mp h]
            exact ⟨gv, dv⟩
      · rintro ys H1 ⟨s1, ss, hP, sl, hss⟩ hD1
        refine ⟨D, _, rfl, .inl ⟨SqL.of hD1, fun ty hty => ?_⟩⟩
        have n10 := same_new hty (.tup ys)
        have hyl := Paired.length hP
        refine catA_of ((s1.trans n10) _ _ upd_same) upd_same (by show 1 + ys.length ≤ 1000; walk_at "om") fun t H2 s2 ht2 => ?_
        have S2 := n10.trans s2
        refine q _ (Sy.mk nm ss) H2 (S8.trans (n9.trans (s1.trans S2))) (IsSy.of ht2 (same_sy (Tk.of S2) hP) (by walk_at "om")) (GS.of nm7 (by rw [sl]; exact ar.symm) (fun s' hs' => (hss s' hs').1) (by walk_at "om")) (dp_mk fun s' hs' => (hss s' hs').2)

noncomputable abbrev s_law_low : Stmt := top 52
theorem sc_law_low : FnScope ["_law_top", "_law_bottom", "_law_one", "_law_other"] ["_law_top", "_law_bottom"] (defScope s_law_low) := ⟨rfl, rfl, rfl, by decide +kernel, rfl, by decide +kernel, by decide +kernel⟩
theorem ok_law_low {P : Program} {w : World} {K : PySem.W.Frag} {mg : Str → Option Value} {base : Heap} {f : Addr} {fd : FuncData} (F : Fun K "_law_low" "_law_low" s_law_low f fd) (gb : Gb mg) {c : Nat → Addr} (cl : Cl K mg c) : FnOk P w K mg base CX0 1 f fd ["_law_top", "_law_bottom"] (spLow K) := by
  refine F.ok sc_law_low (fun vs H Q E h => ?_) (fun cdv A outer s H vs Q E hr h => ?_)
  · obtain ⟨t, b, n, rfl, _⟩ := h
    rfl
  obtain ⟨t, b, n, rfl, b0, st, sb, hn, q⟩ := h
  refine ⟨_, (@pss_cons _ _ _ _ _ (@ps_set _ _ 2 _ _ _ _ sc_law_low.nd rfl (Or.inl rfl) (@pe_callB _ _ _ _ _ _ _ _ _ (@call_abs _) rfl gb.abs bt_abs (@pa_cons _ _ _ _ _ (@pv _ 0 _ _ (by rfl) (by first | exact Or.inl rfl | exact Or.inr (Or.inl rfl) | exact Or.inr (Or.inr rfl)) (by decide) (by decide)) (@pa_nil _) (by rfl)) (by decide) (by decide) (by rfl) (by rfl)) (by rfl) (by first | exact .inl rfl | exact .inr rfl | assumption)) (@pss_cons _ _ _ _ _ (@ps_set _ _ 3 _ _ _ _ sc_law_low.nd rfl (Or.inl rfl) (@pv _ 1 _ _ (by rfl) (by first | exact Or.inl rfl | exact Or.inr (Or.inl rfl) | exact Or.inr (Or.inr rfl)) (by decide) (by decide)) (by rfl) (by first | exact .inl rfl | exact .inr rfl | assumption)) (@pss_cons _ _ _ _ _ (@ps_while _ _ _ _ _ _ PassesOwn.never (@pt_cmpR _ _ _ _ _ _ _ _ (@op_gt _) (@pv _ 3 _ _ (by rfl) (by first | exact Or.inl rfl | exact Or.inr (Or.inl rfl) | exact Or.inr (Or.inr rfl)) (by decide) (by decide)) (@pe_int _ _ _ _) (@nomark _ _ (by decide) (by decide))) (@pss_one _ _ _ (@ps_par _ _ 2 3 _ _ _ _ _ _ _ _ _ _ _ rfl sc_law_low.nd rfl rfl (by decide) rfl rfl (@pa_cons _ _ _ _ _ (@pv _ 3 _ _ (by rfl) (by first | exact Or.inl rfl | exact Or.inr (Or.inl rfl) | exact Or.inr (Or.inr rfl)) (by decide) (by decide)) (@pa_cons _ _ _ _ _ (@pe_op _ _ _ _ _ _ _ _ (@op_mod _) (@pv _ 2 _ _ (by rfl) (by first | exact Or.inl rfl | exact Or.inr (Or.inl rfl) | exact Or.inr (Or.inr rfl)) (by decide) (by decide)) (@pv _ 3 _ _ (by rfl) (by first | exact Or.inl rfl | exact Or.inr (Or.inl rfl) | exact Or.inr (Or.inr rfl)) (by decide) (by decide))) (@pa_nil _) (by rfl)) (by rfl)) rfl (by rfl)))) (@pss_one _ _ _ (@ps_ret _ _ _ _ (@pe_tup _ _ _ _ _ (@pa_cons _ _ _ _ _ (@pe_op _ _ _ _ _ _ _ _ (@op_fdivM _) (@pv _ 0 _ _ (by rfl) (by first | exact Or.inl rfl | exact Or.inr (Or.inl rfl) | exact Or.inr (Or.inr rfl)) (by decide) (by decide)) (@pv _ 2 _ _ (by rfl) (by first | exact Or.inl rfl | exact Or.inr (Or.inl rfl) | exact Or.inr (Or.inr rfl)) (by decide) (by decide))) (@pa_cons _ _ _ _ _ (@pe_op _ _ _ _ _ _ _ _ (@op_fdivM _) (@pv _ 1 _ _ (by rfl) (by first | exact Or.inl rfl | exact Or.inr (Or.inl rfl) | exact Or.inr (Or.inr rfl)) (by decide) (by decide)) (@pv _ 2 _ _ (by rfl) (by first | exact Or.inl rfl | exact Or.inr (Or.inl rfl) | exact Or.inr (Or.inr rfl)) (by decide) (by decide))) (@pa_nil _) (by rfl)) (by rfl)))))))), ?_⟩
  refine ⟨_, rfl, t, rfl, _, rfl, ?_⟩
  obtain ⟨f1, f2, f3, f4, f5, f6, f7⟩ := Fr.frac (t := t) (show b ≠ 0 by walk_at "om")
  obtain ⟨e1, e2, g6, g7⟩ := Fr.fracR (t := t) (show b ≠ 0 by walk_at "om")
  have sg : Fr.sg t b = (Int.gcd t b : Int) := by
    unfold Fr.sg
    rw [if_pos b0]
  rw [sg] at f1 f2 f3 f4 f5 f6 f7 e1 e2
  refine while_by (fun σ H' => H' = H ∧ ∃ (l s : Int), σ = [some (.int t), some (.int b), some (.int l), some (.int s)] ∧ 0 ≤ l ∧ 0 ≤ s ∧ Int.gcd l s = Int.gcd t b)
    (fun σ _ => match σ with | [_, _, _, some (.int s)] => s.toNat | _ => 0) ⟨rfl, _, _, rfl, by split <;> walk_at "om", by walk_at "om", ?_⟩ ?_ (fun _ _ _ _ k ⟨v, e, i, j, a, b, c, d, q⟩ => ⟨v, e, i, j, a, b, c, d, k _ _ q⟩)
  · unfold Int.gcd
    congr 1
    split <;> walk_at "om"
  · rintro σ H' ⟨rfl, l, s, rfl, l0, s0, hg⟩
    refine ⟨_, rfl, _, _, rfl, rfl, _, rfl, ?_⟩
    refine ite2 (fun c => ?_) (fun c => ?_)
    · have sp : 0 < s := of_decide_eq_true c
      refine ⟨_, rfl, _, rfl, _, rfl, _, _, rfl, rfl, sp, _, _, rfl, ⟨rfl, _, _, rfl, s0, Int.emod_nonneg _ (by walk_at "om"), ?_⟩, ?_⟩
      · rw [← hg]
        exact Fr.gcd_step' l s sp
      · show (l % s).toNat < s.toNat
        have h1 := Int.emod_lt_of_pos l sp
        have h2 := Int.emod_nonneg l (show s ≠ 0 by walk_at "om")
        walk_at "om"
    · have sz : s = 0 := by
        have : ¬ (0 < s) := fun z => c (decide_eq_true z)
        walk_at "om"
      have el : l = (Int.gcd t b : Int) := by
        rw [← hg, sz]
        simp
        walk_at "om"
      have mg : Mid l := by
        rw [el]
        exact (sb.le f5).mid hn
      have l1 : l ≠ 0 := by
        rw [el]
        exact f1
      refine ⟨_, rfl, _, rfl, _, _, rfl, rfl, ⟨l1, mg⟩, _, rfl, _, rfl, _, _, rfl, rfl, ⟨l1, mg⟩, small9 (by show 2 ≤ 1000; decide), fun w hw => ?_⟩
      dsimp only
      rw [el, e1, e2]
      exact q _ _ (same_new hw _) (FR.new (st.le g6) (sb.le g7))

noncomputable abbrev s_law_less : Stmt := top 53
theorem sc_law_less : FnScope ["_law_one", "_law_other"] ["_law_one", "_law_other"] (defScope s_law_less) := ⟨rfl, rfl, rfl, by decide +kernel, rfl, by decide +kernel, by decide +kernel⟩
theorem ok_law_less {P : Program} {w : World} {K : PySem.W.Frag} {mg : Str → Option Value} {base : Heap} {f : Addr} {fd : FuncData} (F : Fun K "_law_less" "_law_less" s_law_less f fd) (gb : Gb mg) {c : Nat → Addr} (cl : Cl K mg c) : FnOk P w K mg base CX0 1 f fd ["_law_one", "_law_other"] (spBelow K) := by
  refine F.ok sc_law_less (fun vs H Q E h => ?_) (fun cdv A outer s H vs Q E hr h => ?_)
  · obtain ⟨a, b, r, s, n, m, rfl, _⟩ := h
    rfl
  obtain ⟨_, _, r, s, n, m, rfl, ⟨pa, rfl, ha, sx, sy⟩, ⟨pb, rfl, hb, su, sv⟩, hn, q⟩ := h
  refine ⟨_, (@pss_one _ _ _ (@ps_ret _ _ _ _ (@pe_cmpR _ _ _ _ _ _ _ _ (@op_lt _) (@pe_op _ _ _ _ _ _ _ _ (@op_mulM _) (@pe_ix _ _ _ _ _ _ _ (@kix_seq _ K (by rfl)) (@pv _ 0 _ _ (by rfl) (by first | exact Or.inl rfl | exact Or.inr (Or.inl rfl) | exact Or.inr (Or.inr rfl)) (by decide) (by decide)) (@pe_int _ _ _ _) (fun _ _ => rfl)) (@pe_ix _ _ _ _ _ _ _ (@kix_seq _ K (by rfl)) (@pv _ 1 _ _ (by rfl) (by first | exact Or.inl rfl | exact Or.inr (Or.inl rfl) | exact Or.inr (Or.inr rfl)) (by decide) (by decide)) (@pe_int _ _ _ _) (fun _ _ => rfl))) (@pe_op _ _ _ _ _ _ _ _ (@op_mulM _) (@pe_ix _ _ _ _ _ _ _ (@kix_seq _ K (by rfl)) (@pv _ 1 _ _ (by rfl) (by first | exact Or.inl rfl | exact Or.inr (Or.inl rfl) | exact Or.inr (Or.inr rfl)) (by decide) (by decide)) (@pe_int _ _ _ _) (fun _ _ => rfl)) (@pe_ix _ _ _ _ _ _ _ (@kix_seq _ K (by rfl)) (@pv _ 0 _ _ (by rfl) (by first | exact Or.inl rfl | exact Or.inr (Or.inl rfl) | exact Or.inr (Or.inr rfl)) (by decide) (by decide)) (@pe_int _ _ _ _) (fun _ _ => rfl))) (@nomark _ _ (by decide) (by decide))))), ?_⟩
  refine ⟨_, rfl, .inr (.inl ⟨pa, _, 0, _, rfl, rfl, ha, rfl, _, rfl, .inr (.inl ⟨pb, _, 1, _, rfl, rfl, hb, rfl, _, _, rfl, rfl, ⟨(sx.mid (by walk_at "om")), (sv.mid (by walk_at "om"))⟩, _, rfl, .inr (.inl ⟨pb, _, 0, _, rfl, rfl, hb, rfl, _, rfl, .inr (.inl ⟨pa, _, 1, _, rfl, rfl, ha, rfl, _, _, rfl, rfl, ⟨(su.mid (by walk_at "om")), (sy.mid (by walk_at "om"))⟩, _, _, rfl, rfl, ?_⟩)⟩)⟩)⟩)⟩
  have e : decide (r.num * s.den < s.num * r.den) = decide (r < s) := decide_eq_decide.mpr (Fr.ratlt r s)
  dsimp only
  rw [e]
  exact q

noncomputable abbrev s_law_joined : Stmt := top 54
theorem sc_law_joined : FnScope ["_law_kind", "_law_name", "_law_grades", "_law_one", "_law_other", "_law_top"] ["_law_kind", "_law_name", "_law_grades"] (defScope s_law_joined) := ⟨rfl, rfl, rfl, by decide +kernel, rfl, by decide +kernel, by decide +kernel⟩
theorem ok_law_joined {P : Program} {w : World} {K : PySem.W.Frag} {mg : Str → Option Value} {base : Heap} {f : Addr} {fd : FuncData} (F : Fun K "_law_joined" "_law_joined" s_law_joined f fd) (gb : Gb mg) {c : Nat → Addr} (cl : Cl K mg c) (d_law_low : Def P w K mg base 1 "_law_low" ["_law_top", "_law_bottom"] (spLow K)) (d_law_less : Def P w K mg base 1 "_law_less" ["_law_one", "_law_other"] (spBelow K)) : FnOk P w K mg base CX0 2 f fd ["_law_kind", "_law_name", "_law_grades"] (spConn K) := by
  refine F.ok sc_law_joined (fun vs H Q E h => ?_) (fun cdv A outer s H vs Q E hr h => ?_)
  · obtain ⟨k, nm, g, zs, n, rfl, _⟩ := h
    rfl
  obtain ⟨k, nm, g, zs, n, rfl, kd, hm, hl, hg, fz, z0, hn, q⟩ := h
  refine ⟨_, (@pss_cons _ _ _ _ _ (@ps_if _ _ _ _ _ _ _ _ (@pt_cmpR _ _ _ _ _ _ _ _ (@op_eq _) (@pv _ 1 _ _ (by rfl) (by first | exact Or.inl rfl | exact Or.inr (Or.inl rfl) | exact Or.inr (Or.inr rfl)) (by decide) (by decide)) (@pe_str _ _ _ _) (@nomark _ _ (by decide) (by decide))) (@pss_one _ _ _ (@ps_ret _ _ _ _ (@pe_tup _ _ _ _ _ (@pa_cons _ _ _ _ _ (@pe_int _ _ _ _) (@pa_cons _ _ _ _ _ (@pe_int _ _ _ _) (@pa_nil _) (by rfl)) (by rfl))))) (@pss_nil _)) (@pss_cons _ _ _ _ _ (@ps_if _ _ _ _ _ _ _ _ (@pt_cmpR _ _ _ _ _ _ _ _ (@op_eq _) (@pv _ 1 _ _ (by rfl) (by first | exact Or.inl rfl | exact Or.inr (Or.inl rfl) | exact Or.inr (Or.inr rfl)) (by decide) (by decide)) (@pe_str _ _ _ _) (@nomark _ _ (by decide) (by decide))) (@pss_one _ _ _ (@ps_ret _ _ _ _ (@pe_tup _ _ _ _ _ (@pa_cons _ _ _ _ _ (@pe_int _ _ _ _) (@pa_cons _ _ _ _ _ (@pe_int _ _ _ _) (@pa_nil _) (by rfl)) (by rfl))))) (@pss_nil _)) (@pss_cons _ _ _ _ _ (@ps_set _ _ 3 _ _ _ _ sc_law_joined.nd rfl (Or.inl rfl) (@pe_ix _ _ _ _ _ _ _ (@kix_seq _ K (by rfl)) (@pv _ 2 _ _ (by rfl) (by first | exact Or.inl rfl | exact Or.inr (Or.inl rfl) | exact Or.inr (Or.inr rfl)) (by decide) (by decide)) (@pe_int _ _ _ _) (fun _ _ => rfl)) (by rfl) (by first | exact .inl rfl | exact .inr rfl | assumption)) (@pss_cons _ _ _ _ _ (@ps_set _ _ 4 _ _ _ _ sc_law_joined.nd rfl (Or.inl rfl) (@pe_tup _ _ _ _ _ (@pa_cons _ _ _ _ _ (@pe_int _ _ _ _) (@pa_cons _ _ _ _ _ (@pe_int _ _ _ _) (@pa_nil _) (by rfl)) (by rfl))) (by rfl) (by first | exact .inl rfl | exact .inr rfl | assumption)) (@pss_cons _ _ _ _ _ (@ps_if _ _ _ _ _ _ _ _ (@pt_cmpR _ _ _ _ _ _ _ _ (@op_ne _) (@pv _ 1 _ _ (by rfl) (by first | exact Or.inl rfl | exact Or.inr (Or.inl rfl) | exact Or.inr (Or.inr rfl)) (by decide) (by decide)) (@pe_str _ _ _ _) (@nomark _ _ (by decide) (by decide))) (@pss_one _ _ _ (@ps_set _ _ 4 _ _ _ _ sc_law_joined.nd rfl (Or.inl rfl) (@pe_ix _ _ _ _ _ _ _ (@kix_seq _ K (by rfl)) (@pv _ 2 _ _ (by rfl) (by first | exact Or.inl rfl | exact Or.inr (Or.inl rfl) | exact Or.inr (Or.inr rfl)) (by decide) (by decide)) (@pe_int _ _ _ _) (fun _ _ => rfl)) (by rfl) (by first | exact .inl rfl | exact .inr rfl | assumption))) (@pss_nil _)) (@pss_cons _ _ _ _ _ (@ps_if _ _ _ _ _ _ _ _ (@PW.pt _ _ _ (@pw_or _ _ _ _ _ _ _ (@pt_cmpR _ _ _ _ _ _ _ _ (@op_eq _) (@pv _ 1 _ _ (by rfl) (by first | exact Or.inl rfl | exact Or.inr (Or.inl rfl) | exact Or.inr (Or.inr rfl)) (by decide) (by decide)) (@pe_str _ _ _ _) (@nomark _ _ (by decide) (by decide))) (@pw_or1 _ _ _ _ (@PW.pt _ _ _ (@pw_and _ _ _ _ _ _ _ (@pt_cmpR _ _ _ _ _ _ _ _ (@op_eq _) (@pv _ 1 _ _ (by rfl) (by first | exact Or.inl rfl | exact Or.inr (Or.inl rfl) | exact Or.inr (Or.inr rfl)) (by decide) (by decide)) (@pe_str _ _ _ _) (@nomark _ _ (by decide) (by decide))) (@pw_and1 _ _ _ _ (@pt_cmpR _ _ _ _ _ _ _ _ (@op_eq _) (@pv _ 0 _ _ (by rfl) (by first | exact Or.inl rfl | exact Or.inr (Or.inl rfl) | exact Or.inr (Or.inr rfl)) (by decide) (by decide)) (@pe_str _ _ _ _) (@nomark _ _ (by decide) (by decide))))))))) (@pss_one _ _ _ (@ps_ret _ _ _ _ (@pe_ix _ _ _ _ _ _ _ (@kix_seq _ K (by rfl)) (@pe_lst _ _ _ _ (@pa_cons _ _ _ _ _ (@pv _ 3 _ _ (by rfl) (by first | exact Or.inl rfl | exact Or.inr (Or.inl rfl) | exact Or.inr (Or.inr rfl)) (by decide) (by decide)) (@pa_cons _ _ _ _ _ (@pv _ 4 _ _ (by rfl) (by first | exact Or.inl rfl | exact Or.inr (Or.inl rfl) | exact Or.inr (Or.inr rfl)) (by decide) (by decide)) (@pa_nil _) (by rfl)) (by rfl))) (@pe_callTy _ _ _ _ _ _ _ _ _ (@call_int1 _) rfl gb.int bt_int (@pa_cons _ _ _ _ _ (@pe_def _ _ _ _ _ _ _ _ _ _ _ d_law_less hr (by walk_at "om") rfl (@pa_cons _ _ _ _ _ (@pv _ 4 _ _ (by rfl) (by first | exact Or.inl rfl | exact Or.inr (Or.inl rfl) | exact Or.inr (Or.inr rfl)) (by decide) (by decide)) (@pa_cons _ _ _ _ _ (@pv _ 3 _ _ (by rfl) (by first | exact Or.inl rfl | exact Or.inr (Or.inl rfl) | exact Or.inr (Or.inr rfl)) (by decide) (by decide)) (@pa_nil _) (by rfl)) (by rfl)) (by decide) (by rfl) (by rfl)) (@pa_nil _) (by rfl)) (by decide) (by decide) (by rfl) (by rfl)) (fun _ _ => rfl)))) (@pss_nil _)) (@pss_cons _ _ _ _ _ (@ps_if _ _ _ _ _ _ _ _ (@pt_cmpR _ _ _ _ _ _ _ _ (@op_eq _) (@pv _ 1 _ _ (by rfl) (by first | exact Or.inl rfl | exact Or.inr (Or.inl rfl) | exact Or.inr (Or.inr rfl)) (by decide) (by decide)) (@pe_str _ _ _ _) (@nomark _ _ (by decide) (by decide))) (@pss_one _ _ _ (@ps_ret _ _ _ _ (@pe_ix _ _ _ _ _ _ _ (@kix_seq _ K (by rfl)) (@pe_lst _ _ _ _ (@pa_cons _ _ _ _ _ (@pv _ 3 _ _ (by rfl) (by first | exact Or.inl rfl | exact Or.inr (Or.inl rfl) | exact Or.inr (Or.inr rfl)) (by decide) (by decide)) (@pa_cons _ _ _ _ _ (@pv _ 4 _ _ (by rfl) (by first | exact Or.inl rfl | exact Or.inr (Or.inl rfl) | exact Or.inr (Or.inr rfl)) (by decide) (by decide)) (@pa_nil _) (by rfl)) (by rfl))) (@pe_callTy _ _ _ _ _ _ _ _ _ (@call_int1 _) rfl gb.int bt_int (@pa_cons _ _ _ _ _ (@pe_def _ _ _ _ _ _ _ _ _ _ _ d_law_less hr (by walk_at "om") rfl (@pa_cons _ _ _ _ _ (@pv _ 3 _ _ (by rfl) (by first | exact Or.inl rfl | exact Or.inr (Or.inl rfl) | exact Or.inr (Or.inr rfl)) (by decide) (by decide)) (@pa_cons _ _ _ _ _ (@pv _ 4 _ _ (by rfl) (by first | exact Or.inl rfl | exact Or.inr (Or.inl rfl) | exact Or.inr (Or.inr rfl)) (by decide) (by decide)) (@pa_nil _) (by rfl)) (by rfl)) (by decide) (by rfl) (by rfl)) (@pa_nil _) (by rfl)) (by decide) (by decide) (by rfl) (by rfl)) (fun _ _ => rfl)))) (@pss_nil _)) (@pss_cons _ _ _ _ _ (@ps_if _ _ _ _ _ _ _ _ (@PW.pt _ _ _ (@pw_and _ _ _ _ _ _ _ (@pt_cmpR _ _ _ _ _ _ _ _ (@op_eq _) (@pv _ 1 _ _ (by rfl) (by first | exact Or.inl rfl | exact Or.inr (Or.inl rfl) | exact Or.inr (Or.inr rfl)) (by decide) (by decide)) (@pe_str _ _ _ _) (@nomark _ _ (by decide) (by decide))) (@pw_and1 _ _ _ _ (@pt_cmpR _ _ _ _ _ _ _ _ (@op_eq _) (@pv _ 0 _ _ (by rfl) (by first | exact Or.inl rfl | exact Or.inr (Or.inl rfl) | exact Or.inr (Or.inr rfl)) (by decide) (by decide)) (@pe_str _ _ _ _) (@nomark _ _ (by decide) (by decide)))))) (@pss_cons _ _ _ _ _ (@ps_set _ _ 5 _ _ _ _ sc_law_joined.nd rfl (Or.inl rfl) (@pe_op _ _ _ _ _ _ _ _ (@op_sub _) (@pe_op _ _ _ _ _ _ _ _ (@op_add _) (@pe_op _ _ _ _ _ _ _ _ (@op_mulM _) (@pe_ix _ _ _ _ _ _ _ (@kix_seq _ K (by rfl)) (@pv _ 3 _ _ (by rfl) (by first | exact Or.inl rfl | exact Or.inr (Or.inl rfl) | exact Or.inr (Or.inr rfl)) (by decide) (by decide)) (@pe_int _ _ _ _) (fun _ _ => rfl)) (@pe_ix _ _ _ _ _ _ _ (@kix_seq _ K (by rfl)) (@pv _ 4 _ _ (by rfl) (by first | exact Or.inl rfl | exact Or.inr (Or.inl rfl) | exact Or.inr (Or.inr rfl)) (by decide) (by decide)) (@pe_int _ _ _ _) (fun _ _ => rfl))) (@pe_op _ _ _ _ _ _ _ _ (@op_mulM _) (@pe_ix _ _ _ _ _ _ _ (@kix_seq _ K (by rfl)) (@pv _ 4 _ _ (by rfl) (by first | exact Or.inl rfl | exact Or.inr (Or.inl rfl) | exact Or.inr (Or.inr rfl)) (by decide) (by decide)) (@pe_int _ _ _ _) (fun _ _ => rfl)) (@pe_ix _ _ _ _ _ _ _ (@kix_seq _ K (by rfl)) (@pv _ 3 _ _ (by rfl) (by first | exact Or.inl rfl | exact Or.inr (Or.inl rfl) | exact Or.inr (Or.inr rfl)) (by decide) (by decide)) (@pe_int _ _ _ _) (fun _ _ => rfl)))) (@pe_op _ _ _ _ _ _ _ _ (@op_mulM _) (@pe_ix _ _ _ _ _ _ _ (@kix_seq _ K (by rfl)) (@pv _ 3 _ _ (by rfl) (by first | exact Or.inl rfl | exact Or.inr (Or.inl rfl) | exact Or.inr (Or.inr rfl)) (by decide) (by decide)) (@pe_int _ _ _ _) (fun _ _ => rfl)) (@pe_ix _ _ _ _ _ _ _ (@kix_seq _ K (by rfl)) (@pv _ 4 _ _ (by rfl) (by first | exact Or.inl rfl | exact Or.inr (Or.inl rfl) | exact Or.inr (Or.inr rfl)) (by decide) (by decide)) (@pe_int _ _ _ _) (fun _ _ => rfl)))) (by rfl) (by first | exact .inl rfl | exact .inr rfl | assumption)) (@pss_one _ _ _ (@ps_ret _ _ _ _ (@pe_def _ _ _ _ _ _ _ _ _ _ _ d_law_low hr (by walk_at "om") rfl (@pa_cons _ _ _ _ _ (@pe_callB _ _ _ _ _ _ _ _ _ (@kcall_max2 _ K rfl) rfl gb.max bt_max (@pa_cons _ _ _ _ _ (@pe_int _ _ _ _) (@pa_cons _ _ _ _ _ (@pv _ 5 _ _ (by rfl) (by first | exact Or.inl rfl | exact Or.inr (Or.inl rfl) | exact Or.inr (Or.inr rfl)) (by decide) (by decide)) (@pa_nil _) (by rfl)) (by rfl)) (by decide) (by decide) (by rfl) (by rfl)) (@pa_cons _ _ _ _ _ (@pe_op _ _ _ _ _ _ _ _ (@op_mulM _) (@pe_ix _ _ _ _ _ _ _ (@kix_seq _ K (by rfl)) (@pv _ 3 _ _ (by rfl) (by first | exact Or.inl rfl | exact Or.inr (Or.inl rfl) | exact Or.inr (Or.inr rfl)) (by decide) (by decide)) (@pe_int _ _ _ _) (fun _ _ => rfl)) (@pe_ix _ _ _ _ _ _ _ (@kix_seq _ K (by rfl)) (@pv _ 4 _ _ (by rfl) (by first | exact Or.inl rfl | exact Or.inr (Or.inl rfl) | exact Or.inr (Or.inr rfl)) (by decide) (by decide)) (@pe_int _ _ _ _) (fun _ _ => rfl))) (@pa_nil _) (by rfl)) (by rfl)) (by decide) (by rfl) (by rfl))))) (@pss_nil _)) (@pss_cons _ _ _ _ _ (@ps_if _ _ _ _ _ _ _ _ (@pt_cmpR _ _ _ _ _ _ _ _ (@op_eq _) (@pv _ 1 _ _ (by rfl) (by first | exact Or.inl rfl | exact Or.inr (Or.inl rfl) | exact Or.inr (Or.inr rfl)) (by decide) (by decide)) (@pe_str _ _ _ _) (@nomark _ _ (by decide) (by decide))) (@pss_one _ _ _ (@ps_ret _ _ _ _ (@pe_def _ _ _ _ _ _ _ _ _ _ _ d_law_low hr (by walk_at "om") rfl (@pa_cons _ _ _ _ _ (@pe_op _ _ _ _ _ _ _ _ (@op_mulM _) (@pe_ix _ _ _ _ _ _ _ (@kix_seq _ K (by rfl)) (@pv _ 3 _ _ (by rfl) (by first | exact Or.inl rfl | exact Or.inr (Or.inl rfl) | exact Or.inr (Or.inr rfl)) (by decide) (by decide)) (@pe_int _ _ _ _) (fun _ _ => rfl)) (@pe_ix _ _ _ _ _ _ _ (@kix_seq _ K (by rfl)) (@pv _ 4 _ _ (by rfl) (by first | exact Or.inl rfl | exact Or.inr (Or.inl rfl) | exact Or.inr (Or.inr rfl)) (by decide) (by decide)) (@pe_int _ _ _ _) (fun _ _ => rfl))) (@pa_cons _ _ _ _ _ (@pe_op _ _ _ _ _ _ _ _ (@op_mulM _) (@pe_ix _ _ _ _ _ _ _ (@kix_seq _ K (by rfl)) (@pv _ 3 _ _ (by rfl) (by first | exact Or.inl rfl | exact Or.inr (Or.inl rfl) | exact Or.inr (Or.inr rfl)) (by decide) (by decide)) (@pe_int _ _ _ _) (fun _ _ => rfl)) (@pe_ix _ _ _ _ _ _ _ (@kix_seq _ K (by rfl)) (@pv _ 4 _ _ (by rfl) (by first | exact Or.inl rfl | exact Or.inr (Or.inl rfl) | exact Or.inr (Or.inr rfl)) (by decide) (by decide)) (@pe_int _ _ _ _) (fun _ _ => rfl))) (@pa_nil _) (by rfl)) (by rfl)) (by decide) (by rfl) (by rfl)))) (@pss_nil _)) (@pss_cons _ _ _ _ _ (@ps_if _ _ _ _ _ _ _ _ (@pt_not _ _ _ _ (@pt_val _ _ _ (@pe_def _ _ _ _ _ _ _ _ _ _ _ d_law_less hr (by walk_at "om") rfl (@pa_cons _ _ _ _ _ (@pv _ 4 _ _ (by rfl) (by first | exact Or.inl rfl | exact Or.inr (Or.inl rfl) | exact Or.inr (Or.inr rfl)) (by decide) (by decide)) (@pa_cons _ _ _ _ _ (@pv _ 3 _ _ (by rfl) (by first | exact Or.inl rfl | exact Or.inr (Or.inl rfl) | exact Or.inr (Or.inr rfl)) (by decide) (by decide)) (@pa_nil _) (by rfl)) (by rfl)) (by decide) (by rfl) (by rfl)) (by intro _; rfl))) (@pss_one _ _ _ (@ps_ret _ _ _ _ (@pe_tup _ _ _ _ _ (@pa_cons _ _ _ _ _ (@pe_int _ _ _ _) (@pa_cons _ _ _ _ _ (@pe_int _ _ _ _) (@pa_nil _) (by rfl)) (by rfl))))) (@pss_nil _)) (@pss_cons _ _ _ _ _ (@ps_if _ _ _ _ _ _ _ _ (@pt_cmpR _ _ _ _ _ _ _ _ (@op_eq _) (@pv _ 0 _ _ (by rfl) (by first | exact Or.inl rfl | exact Or.inr (Or.inl rfl) | exact Or.inr (Or.inr rfl)) (by decide) (by decide)) (@pe_str _ _ _ _) (@nomark _ _ (by decide) (by decide))) (@pss_one _ _ _ (@ps_ret _ _ _ _ (@pv _ 4 _ _ (by rfl) (by first | exact Or.inl rfl | exact Or.inr (Or.inl rfl) | exact Or.inr (Or.inr rfl)) (by decide) (by decide)))) (@pss_nil _)) (@pss_cons _ _ _ _ _ (@ps_if _ _ _ _ _ _ _ _ (@pt_cmpR _ _ _ _ _ _ _ _ (@op_eq _) (@pv _ 0 _ _ (by rfl) (by first | exact Or.inl rfl | exact Or.inr (Or.inl rfl) | exact Or.inr (Or.inr rfl)) (by decide) (by decide)) (@pe_str _ _ _ _) (@nomark _ _ (by decide) (by decide))) (@pss_one _ _ _ (@ps_ret _ _ _ _ (@pe_def _ _ _ _ _ _ _ _ _ _ _ d_law_low hr (by walk_at "om") rfl (@pa_cons _ _ _ _ _ (@pe_op _ _ _ _ _ _ _ _ (@op_add _) (@pe_op _ _ _ _ _ _ _ _ (@op_sub _) (@pe_op _ _ _ _ _ _ _ _ (@op_mulM _) (@pe_ix _ _ _ _ _ _ _ (@kix_seq _ K (by rfl)) (@pv _ 3 _ _ (by rfl) (by first | exact Or.inl rfl | exact Or.inr (Or.inl rfl) | exact Or.inr (Or.inr rfl)) (by decide) (by decide)) (@pe_int _ _ _ _) (fun _ _ => rfl)) (@pe_ix _ _ _ _ _ _ _ (@kix_seq _ K (by rfl)) (@pv _ 4 _ _ (by rfl) (by first | exact Or.inl rfl | exact Or.inr (Or.inl rfl) | exact Or.inr (Or.inr rfl)) (by decide) (by decide)) (@pe_int _ _ _ _) (fun _ _ => rfl))) (@pe_op _ _ _ _ _ _ _ _ (@op_mulM _) (@pe_ix _ _ _ _ _ _ _ (@kix_seq _ K (by rfl)) (@pv _ 3 _ _ (by rfl) (by first | exact Or.inl rfl | exact Or.inr (Or.inl rfl) | exact Or.inr (Or.inr rfl)) (by decide) (by decide)) (@pe_int _ _ _ _) (fun _ _ => rfl)) (@pe_ix _ _ _ _ _ _ _ (@kix_seq _ K (by rfl)) (@pv _ 4 _ _ (by rfl) (by first | exact Or.inl rfl | exact Or.inr (Or.inl rfl) | exact Or.inr (Or.inr rfl)) (by decide) (by decide)) (@pe_int _ _ _ _) (fun _ _ => rfl)))) (@pe_op _ _ _ _ _ _ _ _ (@op_mulM _) (@pe_ix _ _ _ _ _ _ _ (@kix_seq _ K (by rfl)) (@pv _ 4 _ _ (by rfl) (by first | exact Or.inl rfl | exact Or.inr (Or.inl rfl) | exact Or.inr (Or.inr rfl)) (by decide) (by decide)) (@pe_int _ _ _ _) (fun _ _ => rfl)) (@pe_ix _ _ _ _ _ _ _ (@kix_seq _ K (by rfl)) (@pv _ 3 _ _ (by rfl) (by first | exact Or.inl rfl | exact Or.inr (Or.inl rfl) | exact Or.inr (Or.inr rfl)) (by decide) (by decide)) (@pe_int _ _ _ _) (fun _ _ => rfl)))) (@pa_cons _ _ _ _ _ (@pe_op _ _ _ _ _ _ _ _ (@op_mulM _) (@pe_ix _ _ _ _ _ _ _ (@kix_seq _ K (by rfl)) (@pv _ 3 _ _ (by rfl) (by first | exact Or.inl rfl | exact Or.inr (Or.inl rfl) | exact Or.inr (Or.inr rfl)) (by decide) (by decide)) (@pe_int _ _ _ _) (fun _ _ => rfl)) (@pe_ix _ _ _ _ _ _ _ (@kix_seq _ K (by rfl)) (@pv _ 4 _ _ (by rfl) (by first | exact Or.inl rfl | exact Or.inr (Or.inl rfl) | exact Or.inr (Or.inr rfl)) (by decide) (by decide)) (@pe_int _ _ _ _) (fun _ _ => rfl))) (@pa_nil _) (by rfl)) (by rfl)) (by decide) (by rfl) (by rfl)))) (@pss_nil _)) (@pss_one _ _ _ (@ps_ret _ _ _ _ (@pe_def _ _ _ _ _ _ _ _ _ _ _ d_law_low hr (by walk_at "om") rfl (@pa_cons _ _ _ _ _ (@pe_op _ _ _ _ _ _ _ _ (@op_mulM _) (@pe_ix _ _ _ _ _ _ _ (@kix_seq _ K (by rfl)) (@pv _ 4 _ _ (by rfl) (by first | exact Or.inl rfl | exact Or.inr (Or.inl rfl) | exact Or.inr (Or.inr rfl)) (by decide) (by decide)) (@pe_int _ _ _ _) (fun _ _ => rfl)) (@pe_ix _ _ _ _ _ _ _ (@kix_seq _ K (by rfl)) (@pv _ 3 _ _ (by rfl) (by first | exact Or.inl rfl | exact Or.inr (Or.inl rfl) | exact Or.inr (Or.inr rfl)) (by decide) (by decide)) (@pe_int _ _ _ _) (fun _ _ => rfl))) (@pa_cons _ _ _ _ _ (@pe_op _ _ _ _ _ _ _ _ (@op_mulM _) (@pe_ix _ _ _ _ _ _ _ (@kix_seq _ K (by rfl)) (@pv _ 4 _ _ (by rfl) (by first | exact Or.inl rfl | exact Or.inr (Or.inl rfl) | exact Or.inr (Or.inr rfl)) (by decide) (by decide)) (@pe_int _ _ _ _) (fun _ _ => rfl)) (@pe_ix _ _ _ _ _ _ _ (@kix_seq _ K (by rfl)) (@pv _ 3 _ _ (by rfl) (by first | exact Or.inl rfl | exact Or.inr (Or.inl rfl) | exact Or.inr (Or.inr rfl)) (by decide) (by decide)) (@pe_int _ _ _ _) (fun _ _ => rfl))) (@pa_nil _) (by rfl)) (by rfl)) (by decide) (by rfl) (by rfl)))))))))))))))), ?_⟩
  unfold names7 at hm
  simp only [List.mem_cons, List.not_mem_nil, or_false] at hm
  rcases hm with rfl | rfl | rfl | rfl | rfl | rfl | rfl
  · obtain ⟨z1, z2, rfl⟩ : ∃ z1 z2, zs = [z1, z2] := two hl
    simp only [List.map_cons, List.map_nil] at hg q
    walk_at "ds"
    refine ⟨_, rfl, .inl ⟨g, _, 0, _, rfl, rfl, SqL.of hg, rfl, ?_⟩⟩
    refine ⟨small9 (by show 2 ≤ 1000; decide), fun t0 ht0 => ?_⟩
    have S1 := same_new ht0 (.tup [.int 0, .int 1])
    refine ⟨_, rfl, rfl, _, rfl, iteNT (by decide +kernel) ?_⟩
    refine ⟨_, rfl, .inl ⟨g, _, 1, _, rfl, rfl, SqL.of (S1 _ _ hg), rfl, ?_⟩⟩
    obtain ⟨va, r⟩ := z1
    obtain ⟨vb, s⟩ := z2
    have fa := ((fz (va, r) (by simp)).same S1).mono (show n ≤ n + 1 by walk_at "om")
    have fb := ((fz (vb, s) (by simp)).same S1).mono (show n ≤ n + 1 by walk_at "om")
    have s0 : 0 ≤ s := z0 (vb, s) (by simp)
    dsimp only at fa fb hg
    generalize upd H t0 (.tup [.int 0, .int 1]) = H1 at *
    have qq : ∀ v H', Same H H' → FR K H' v (lessR r s) (2 * n + 12) → Q v H' := by rw [← c_and k r s]; exact q
    walk_at "ds"
    refine ⟨_, rfl, _, rfl, small9 (by show 2 ≤ 1000; decide), fun l hl' => ?_⟩
    have S2 := same_new hl' (.lst [va, vb])
    replace fa := fa.same S2
    replace fb := fb.same S2
    refine ⟨_, rfl, _, rfl, vb, va, s, r, n + 1, n + 1, rfl, fb, fa, by walk_at "om", .inr ⟨_, rfl, ?_⟩⟩
    by_cases h : s < r
    · rw [decide_eq_true h]
      refine .inl ⟨l, _, _, _, rfl, rfl, SqL.of upd_same, atI_nat (j := 1) rfl, qq _ _ (S1.trans S2) ?_⟩
      unfold lessR
      rw [if_pos h]
      exact fb.mono (by walk_at "om")
    · rw [decide_eq_false h]
      refine .inl ⟨l, _, _, _, rfl, rfl, SqL.of upd_same, atI_nat (j := 0) rfl, qq _ _ (S1.trans S2) ?_⟩
      unfold lessR
      rw [if_neg h]
      exact fa.mono (by walk_at "om")
  · obtain ⟨z1, z2, rfl⟩ : ∃ z1 z2, zs = [z1, z2] := two hl
    simp only [List.map_cons, List.map_nil] at hg q
    walk_at "ds"
    refine ⟨_, rfl, .inl ⟨g, _, 0, _, rfl, rfl, SqL.of hg, rfl, ?_⟩⟩
    refine ⟨small9 (by show 2 ≤ 1000; decide), fun t0 ht0 => ?_⟩
    have S1 := same_new ht0 (.tup [.int 0, .int 1])
    refine ⟨_, rfl, rfl, _, rfl, iteNT (by decide +kernel) ?_⟩
    refine ⟨_, rfl, .inl ⟨g, _, 1, _, rfl, rfl, SqL.of (S1 _ _ hg), rfl, ?_⟩⟩
    obtain ⟨va, r⟩ := z1
    obtain ⟨vb, s⟩ := z2
    have fa := ((fz (va, r) (by simp)).same S1).mono (show n ≤ n + 1 by walk_at "om")
    have fb := ((fz (vb, s) (by simp)).same S1).mono (show n ≤ n + 1 by walk_at "om")
    have s0 : 0 ≤ s := z0 (vb, s) (by simp)
    dsimp only at fa fb hg
    generalize upd H t0 (.tup [.int 0, .int 1]) = H1 at *
    have qq : ∀ v H', Same H H' → FR K H' v (greatR r s) (2 * n + 12) → Q v H' := by rw [← c_or k r s]; exact q
    walk_at "ds"
    refine ⟨_, rfl, _, rfl, small9 (by show 2 ≤ 1000; decide), fun l hl' => ?_⟩
    have S2 := same_new hl' (.lst [va, vb])
    replace fa := fa.same S2
    replace fb := fb.same S2
    refine ⟨_, rfl, _, rfl, va, vb, r, s, n + 1, n + 1, rfl, fa, fb, by walk_at "om", .inr ⟨_, rfl, ?_⟩⟩
    by_cases h : r < s
    · rw [decide_eq_true h]
      refine .inl ⟨l, _, _, _, rfl, rfl, SqL.of upd_same, atI_nat (j := 1) rfl, qq _ _ (S1.trans S2) ?_⟩
      unfold greatR
      rw [if_pos h]
      exact fb.mono (by walk_at "om")
    · rw [decide_eq_false h]
      refine .inl ⟨l, _, _, _, rfl, rfl, SqL.of upd_same, atI_nat (j := 0) rfl, qq _ _ (S1.trans S2) ?_⟩
      unfold greatR
      rw [if_neg h]
      exact fa.mono (by walk_at "om")
  · obtain ⟨z1, z2, rfl⟩ : ∃ z1 z2, zs = [z1, z2] := two hl
    simp only [List.map_cons, List.map_nil] at hg q
    walk_at "ds"
    refine ⟨_, rfl, .inl ⟨g, _, 0, _, rfl, rfl, SqL.of hg, rfl, ?_⟩⟩
    refine ⟨small9 (by show 2 ≤ 1000; decide), fun t0 ht0 => ?_⟩
    have S1 := same_new ht0 (.tup [.int 0, .int 1])
    refine ⟨_, rfl, rfl, _, rfl, iteNT (by decide +kernel) ?_⟩
    refine ⟨_, rfl, .inl ⟨g, _, 1, _, rfl, rfl, SqL.of (S1 _ _ hg), rfl, ?_⟩⟩
    obtain ⟨va, r⟩ := z1
    obtain ⟨vb, s⟩ := z2
    have fa := ((fz (va, r) (by simp)).same S1).mono (show n ≤ n + 1 by walk_at "om")
    have fb := ((fz (vb, s) (by simp)).same S1).mono (show n ≤ n + 1 by walk_at "om")
    have s0 : 0 ≤ s := z0 (vb, s) (by simp)
    dsimp only at fa fb hg
    generalize upd H t0 (.tup [.int 0, .int 1]) = H1 at *
    rcases kd with rfl | rfl | rfl
    · have qq : ∀ v H', Same H H' → FR K H' v (thenR "least" r s) (2 * n + 12) → Q v H' := by rw [← c_then "least" r s]; exact q
      walk_at "ds"
      refine ⟨_, rfl, _, rfl, _, _, s, r, n + 1, n + 1, rfl, fb, fa, by walk_at "om", _, rfl, ?_⟩
      by_cases h : s < r
      · rw [decide_eq_true h]
        refine iteF ?_
        walk_at "ds"
        exact ⟨_, rfl, qq _ _ S1 (by rw [t_least h]; exact fb.mono (by walk_at "om"))⟩
      · rw [decide_eq_false h]
        refine iteT ?_
        refine ⟨small9 (by show 2 ≤ 1000; decide), fun t9 ht9 => qq _ _ (S1.trans (same_new ht9 _)) ?_⟩
        rw [t_no h]
        exact FR1.mono (by walk_at "om")
    · have qq : ∀ v H', Same H H' → FR K H' v (thenR "cut" r s) (2 * n + 12) → Q v H' := by rw [← c_then "cut" r s]; exact q
      walk_at "ds"
      refine ⟨_, rfl, _, rfl, _, _, s, r, n + 1, n + 1, rfl, fb, fa, by walk_at "om", _, rfl, ?_⟩
      by_cases h : s < r
      · rw [decide_eq_true h]
        refine iteF ?_
        walk_at "ds"
        obtain ⟨pa, rfl, ha, sx, sy⟩ := fa
        obtain ⟨pb, rfl, hb, su, sv⟩ := fb
        refine ⟨_, rfl, .inr (.inl ⟨pa, _, 1, _, rfl, rfl, ha, rfl, ?_⟩)⟩
        refine ⟨_, rfl, .inr (.inl ⟨pb, _, 1, _, rfl, rfl, hb, rfl, ?_⟩)⟩
        refine ⟨_, _, rfl, rfl, ⟨sy.mid (by walk_at "om"), sv.mid (by walk_at "om")⟩, ?_⟩
        refine ⟨_, rfl, .inr (.inl ⟨pa, _, 0, _, rfl, rfl, ha, rfl, ?_⟩)⟩
        refine ⟨_, rfl, .inr (.inl ⟨pb, _, 1, _, rfl, rfl, hb, rfl, ?_⟩)⟩
        refine ⟨_, _, rfl, rfl, ⟨sx.mid (by walk_at "om"), sv.mid (by walk_at "om")⟩, ?_⟩
        refine ⟨_, _, rfl, rfl, ?_⟩
        refine ⟨_, rfl, .inr (.inl ⟨pb, _, 0, _, rfl, rfl, hb, rfl, ?_⟩)⟩
        refine ⟨_, rfl, .inr (.inl ⟨pa, _, 1, _, rfl, rfl, ha, rfl, ?_⟩)⟩
        refine ⟨_, _, rfl, rfl, ⟨su.mid (by walk_at "om"), sy.mid (by walk_at "om")⟩, ?_⟩
        refine ⟨_, _, rfl, rfl, ?_⟩
        refine ⟨_, rfl, .inr (.inl ⟨pa, _, 1, _, rfl, rfl, ha, rfl, ?_⟩)⟩
        refine ⟨_, rfl, .inr (.inl ⟨pb, _, 1, _, rfl, rfl, hb, rfl, ?_⟩)⟩
        refine ⟨_, _, rfl, rfl, ⟨sy.mid (by walk_at "om"), sv.mid (by walk_at "om")⟩, ?_⟩
        refine ⟨_, _, (n + 1 + (n + 1) + 3), rfl, Int.mul_pos (Fr.denp r) (Fr.denp s), (((sy.mul sv).mono (show _ ≤ n + 1 + (n + 1) + 1 by walk_at "om")).sub ((sx.mul sv).mono (show _ ≤ n + 1 + (n + 1) + 1 by walk_at "om")) |>.mono (show _ ≤ n + 1 + (n + 1) + 2 by walk_at "om")).add ((su.mul sy).mono (show _ ≤ n + 1 + (n + 1) + 2 by walk_at "om")), ((sy.mul sv).mono (show _ ≤ n + 1 + (n + 1) + 3 by walk_at "om")), by walk_at "om", fun v H2 s2 f2 => qq _ _ (S1.trans s2) ?_⟩
        rw [t_cut h, ← cutT]
        exact f2.mono (by walk_at "om")
      · rw [decide_eq_false h]
        refine iteT ?_
        refine ⟨small9 (by show 2 ≤ 1000; decide), fun t9 ht9 => qq _ _ (S1.trans (same_new ht9 _)) ?_⟩
        rw [t_no h]
        exact FR1.mono (by walk_at "om")
    · have qq : ∀ v H', Same H H' → FR K H' v (thenR "times" r s) (2 * n + 12) → Q v H' := by rw [← c_then "times" r s]; exact q
      walk_at "ds"
      refine ⟨_, rfl, _, rfl, _, _, s, r, n + 1, n + 1, rfl, fb, fa, by walk_at "om", _, rfl, ?_⟩
      by_cases h : s < r
      · rw [decide_eq_true h]
        refine iteF ?_
        walk_at "ds"
        obtain ⟨pa, rfl, ha, sx, sy⟩ := fa
        obtain ⟨pb, rfl, hb, su, sv⟩ := fb
        refine ⟨_, rfl, .inr (.inl ⟨pb, _, 0, _, rfl, rfl, hb, rfl, ?_⟩)⟩
        refine ⟨_, rfl, .inr (.inl ⟨pa, _, 1, _, rfl, rfl, ha, rfl, ?_⟩)⟩
        refine ⟨_, _, rfl, rfl, ⟨su.mid (by walk_at "om"), sy.mid (by walk_at "om")⟩, ?_⟩
        refine ⟨_, rfl, .inr (.inl ⟨pb, _, 1, _, rfl, rfl, hb, rfl, ?_⟩)⟩
        refine ⟨_, rfl, .inr (.inl ⟨pa, _, 0, _, rfl, rfl, ha, rfl, ?_⟩)⟩
        refine ⟨_, _, rfl, rfl, ⟨sv.mid (by walk_at "om"), sx.mid (by walk_at "om")⟩, ?_⟩
        have r0 : 0 < r.num := pos_of s0 h
        refine ⟨_, _, (n + 1 + (n + 1) + 3), rfl, Int.mul_pos (Fr.denp s) r0, ((su.mul sy).mono (show _ ≤ n + 1 + (n + 1) + 3 by walk_at "om")), ((sv.mul sx).mono (show _ ≤ n + 1 + (n + 1) + 3 by walk_at "om")), by walk_at "om", fun v H2 s2 f2 => qq _ _ (S1.trans s2) ?_⟩
        rw [t_times h, ← Fr.ratdiv s r]
        exact f2.mono (by walk_at "om")
      · rw [decide_eq_false h]
        refine iteT ?_
        refine ⟨small9 (by show 2 ≤ 1000; decide), fun t9 ht9 => qq _ _ (S1.trans (same_new ht9 _)) ?_⟩
        rw [t_no h]
        exact FR1.mono (by walk_at "om")
  · obtain ⟨z1, z2, rfl⟩ : ∃ z1 z2, zs = [z1, z2] := two hl
    simp only [List.map_cons, List.map_nil] at hg q
    walk_at "ds"
    refine ⟨_, rfl, .inl ⟨g, _, 0, _, rfl, rfl, SqL.of hg, rfl, ?_⟩⟩
    refine ⟨small9 (by show 2 ≤ 1000; decide), fun t0 ht0 => ?_⟩
    have S1 := same_new ht0 (.tup [.int 0, .int 1])
    refine ⟨_, rfl, rfl, _, rfl, iteNT (by decide +kernel) ?_⟩
    refine ⟨_, rfl, .inl ⟨g, _, 1, _, rfl, rfl, SqL.of (S1 _ _ hg), rfl, ?_⟩⟩
    obtain ⟨va, r⟩ := z1
    obtain ⟨vb, s⟩ := z2
    have fa := ((fz (va, r) (by simp)).same S1).mono (show n ≤ n + 1 by walk_at "om")
    have fb := ((fz (vb, s) (by simp)).same S1).mono (show n ≤ n + 1 by walk_at "om")
    have s0 : 0 ≤ s := z0 (vb, s) (by simp)
    dsimp only at fa fb hg
    generalize upd H t0 (.tup [.int 0, .int 1]) = H1 at *
    rcases kd with rfl | rfl | rfl
    · have qq : ∀ v H', Same H H' → FR K H' v (withR "least" r s) (2 * n + 12) → Q v H' := by rw [← c_with "least" r s]; exact q
      walk_at "ds"
      rw [w_least] at qq
      refine ⟨_, rfl, _, rfl, small9 (by show 2 ≤ 1000; decide), fun l hl' => ?_⟩
      have S2 := same_new hl' (.lst [va, vb])
      replace fa := fa.same S2
      replace fb := fb.same S2
      refine ⟨_, rfl, _, rfl, vb, va, s, r, n + 1, n + 1, rfl, fb, fa, by walk_at "om", .inr ⟨_, rfl, ?_⟩⟩
      by_cases h : s < r
      · rw [decide_eq_true h]
        refine .inl ⟨l, _, _, _, rfl, rfl, SqL.of upd_same, atI_nat (j := 1) rfl, qq _ _ (S1.trans S2) ?_⟩
        unfold lessR
        rw [if_pos h]
        exact fb.mono (by walk_at "om")
      · rw [decide_eq_false h]
        refine .inl ⟨l, _, _, _, rfl, rfl, SqL.of upd_same, atI_nat (j := 0) rfl, qq _ _ (S1.trans S2) ?_⟩
        unfold lessR
        rw [if_neg h]
        exact fa.mono (by walk_at "om")
    · have qq : ∀ v H', Same H H' → FR K H' v (withR "cut" r s) (2 * n + 12) → Q v H' := by rw [← c_with "cut" r s]; exact q
      walk_at "ds"
      obtain ⟨pa, rfl, ha, sx, sy⟩ := fa
      obtain ⟨pb, rfl, hb, su, sv⟩ := fb
      refine ⟨_, rfl, .inr (.inl ⟨pa, _, 0, _, rfl, rfl, ha, rfl, ?_⟩)⟩
      refine ⟨_, rfl, .inr (.inl ⟨pb, _, 1, _, rfl, rfl, hb, rfl, ?_⟩)⟩
      refine ⟨_, _, rfl, rfl, ⟨sx.mid (by walk_at "om"), sv.mid (by walk_at "om")⟩, ?_⟩
      refine ⟨_, rfl, .inr (.inl ⟨pb, _, 0, _, rfl, rfl, hb, rfl, ?_⟩)⟩
      refine ⟨_, rfl, .inr (.inl ⟨pa, _, 1, _, rfl, rfl, ha, rfl, ?_⟩)⟩
      refine ⟨_, _, rfl, rfl, ⟨su.mid (by walk_at "om"), sy.mid (by walk_at "om")⟩, ?_⟩
      refine ⟨_, _, rfl, rfl, ?_⟩
      refine ⟨_, rfl, .inr (.inl ⟨pa, _, 1, _, rfl, rfl, ha, rfl, ?_⟩)⟩
      refine ⟨_, rfl, .inr (.inl ⟨pb, _, 1, _, rfl, rfl, hb, rfl, ?_⟩)⟩
      refine ⟨_, _, rfl, rfl, ⟨sy.mid (by walk_at "om"), sv.mid (by walk_at "om")⟩, ?_⟩
      refine ⟨_, _, rfl, rfl, ?_⟩
      refine ⟨_, rfl, _, _, rfl, ?_⟩
      refine ⟨_, rfl, .inr (.inl ⟨pa, _, 1, _, rfl, rfl, ha, rfl, ?_⟩)⟩
      refine ⟨_, rfl, .inr (.inl ⟨pb, _, 1, _, rfl, rfl, hb, rfl, ?_⟩)⟩
      refine ⟨_, _, rfl, rfl, ⟨sy.mid (by walk_at "om"), sv.mid (by walk_at "om")⟩, ?_⟩
      have st : Sz (n + 1 + (n + 1) + 3) (r.num * s.den + s.num * r.den - r.den * s.den) := (((sx.mul sv).mono (show _ ≤ n + 1 + (n + 1) + 1 by walk_at "om")).add ((su.mul sy).mono (show _ ≤ n + 1 + (n + 1) + 1 by walk_at "om"))).sub ((sy.mul sv).mono (show _ ≤ n + 1 + (n + 1) + 2 by walk_at "om"))
      refine ⟨_, _, (n + 1 + (n + 1) + 3), rfl, Int.mul_pos (Fr.denp r) (Fr.denp s), ?_, ((sy.mul sv).mono (show _ ≤ n + 1 + (n + 1) + 3 by walk_at "om")), by walk_at "om", fun v H2 s2 f2 => qq _ _ (S1.trans s2) ?_⟩
      · split
        · exact st
        · exact sz0.mono (by walk_at "om")
      rw [w_cut, ← cutW]
      exact f2.mono (by walk_at "om")
    · have qq : ∀ v H', Same H H' → FR K H' v (withR "times" r s) (2 * n + 12) → Q v H' := by rw [← c_with "times" r s]; exact q
      walk_at "ds"
      obtain ⟨pa, rfl, ha, sx, sy⟩ := fa
      obtain ⟨pb, rfl, hb, su, sv⟩ := fb
      refine ⟨_, rfl, .inr (.inl ⟨pa, _, 0, _, rfl, rfl, ha, rfl, ?_⟩)⟩
      refine ⟨_, rfl, .inr (.inl ⟨pb, _, 0, _, rfl, rfl, hb, rfl, ?_⟩)⟩
      refine ⟨_, _, rfl, rfl, ⟨sx.mid (by walk_at "om"), su.mid (by walk_at "om")⟩, ?_⟩
      refine ⟨_, rfl, .inr (.inl ⟨pa, _, 1, _, rfl, rfl, ha, rfl, ?_⟩)⟩
      refine ⟨_, rfl, .inr (.inl ⟨pb, _, 1, _, rfl, rfl, hb, rfl, ?_⟩)⟩
      refine ⟨_, _, rfl, rfl, ⟨sy.mid (by walk_at "om"), sv.mid (by walk_at "om")⟩, ?_⟩
      refine ⟨_, _, (n + 1 + (n + 1) + 3), rfl, Int.mul_pos (Fr.denp r) (Fr.denp s), ((sx.mul su).mono (show _ ≤ n + 1 + (n + 1) + 3 by walk_at "om")), ((sy.mul sv).mono (show _ ≤ n + 1 + (n + 1) + 3 by walk_at "om")), by walk_at "om", fun v H2 s2 f2 => qq _ _ (S1.trans s2) ?_⟩
      rw [w_times, ← Fr.ratmul r s]
      exact f2.mono (by walk_at "om")
  · obtain ⟨z1, rfl⟩ : ∃ z1, zs = [z1] := one1 hl
    simp only [List.map_cons, List.map_nil] at hg q
    walk_at "ds"
    refine ⟨_, rfl, .inl ⟨g, _, 0, _, rfl, rfl, SqL.of hg, rfl, ?_⟩⟩
    refine ⟨small9 (by show 2 ≤ 1000; decide), fun t0 ht0 => ?_⟩
    have S1 := same_new ht0 (.tup [.int 0, .int 1])
    refine ⟨_, rfl, rfl, _, rfl, iteNF rfl ?_⟩
    obtain ⟨va, r⟩ := z1
    have fa := ((fz (va, r) (by simp)).same S1).mono (show n ≤ n + 1 by walk_at "om")
    have fb : FR K (upd H t0 (.tup [.int 0, .int 1])) (.ref t0) 0 (n + 1) := FR0.mono (by walk_at "om")
    obtain ⟨s, hs⟩ : ∃ s : Rat, s = 0 := ⟨0, rfl⟩
    rw [← hs] at fb
    have s0 : 0 ≤ s := by rw [hs]; exact Rat.le_refl
    dsimp only at fa hg
    generalize upd H t0 (.tup [.int 0, .int 1]) = H1 at *
    generalize (.ref t0 : V) = vb at *
    rcases kd with rfl | rfl | rfl
    · have qq : ∀ v H', Same H H' → FR K H' v (thenR "least" r s) (2 * n + 12) → Q v H' := by rw [hs, ← c_not "least" r]; exact q
      walk_at "ds"
      refine ⟨_, rfl, _, rfl, _, _, s, r, n + 1, n + 1, rfl, fb, fa, by walk_at "om", _, rfl, ?_⟩
      by_cases h : s < r
      · rw [decide_eq_true h]
        refine iteF ?_
        walk_at "ds"
        exact ⟨_, rfl, qq _ _ S1 (by rw [t_least h]; exact fb.mono (by walk_at "om"))⟩
      · rw [decide_eq_false h]
        refine iteT ?_
        refine ⟨small9 (by show 2 ≤ 1000; decide), fun t9 ht9 => qq _ _ (S1.trans (same_new ht9 _)) ?_⟩
        rw [t_no h]
        exact FR1.mono (by walk_at "om")
    · have qq : ∀ v H', Same H H' → FR K H' v (thenR "cut" r s) (2 * n + 12) → Q v H' := by rw [hs, ← c_not "cut" r]; exact q
      walk_at "ds"
      refine ⟨_, rfl, _, rfl, _, _, s, r, n + 1, n + 1, rfl, fb, fa, by walk_at "om", _, rfl, ?_⟩
      by_cases h : s < r
      · rw [decide_eq_true h]
        refine iteF ?_
        walk_at "ds"
        obtain ⟨pa, rfl, ha, sx, sy⟩ := fa
        obtain ⟨pb, rfl, hb, su, sv⟩ := fb
        refine ⟨_, rfl, .inr (.inl ⟨pa, _, 1, _, rfl, rfl, ha, rfl, ?_⟩)⟩
        refine ⟨_, rfl, .inr (.inl ⟨pb, _, 1, _, rfl, rfl, hb, rfl, ?_⟩)⟩
        refine ⟨_, _, rfl, rfl, ⟨sy.mid (by walk_at "om"), sv.mid (by walk_at "om")⟩, ?_⟩
        refine ⟨_, rfl, .inr (.inl ⟨pa, _, 0, _, rfl, rfl, ha, rfl, ?_⟩)⟩
        refine ⟨_, rfl, .inr (.inl ⟨pb, _, 1, _, rfl, rfl, hb, rfl, ?_⟩)⟩
        refine ⟨_, _, rfl, rfl, ⟨sx.mid (by walk_at "om"), sv.mid (by walk_at "om")⟩, ?_⟩
        refine ⟨_, _, rfl, rfl, ?_⟩
        refine ⟨_, rfl, .inr (.inl ⟨pb, _, 0, _, rfl, rfl, hb, rfl, ?_⟩)⟩
        refine ⟨_, rfl, .inr (.inl ⟨pa, _, 1, _, rfl, rfl, ha, rfl, ?_⟩)⟩
        refine ⟨_, _, rfl, rfl, ⟨su.mid (by walk_at "om"), sy.mid (by walk_at "om")⟩, ?_⟩
        refine ⟨_, _, rfl, rfl, ?_⟩
        refine ⟨_, rfl, .inr (.inl ⟨pa, _, 1, _, rfl, rfl, ha, rfl, ?_⟩)⟩
        refine ⟨_, rfl, .inr (.inl ⟨pb, _, 1, _, rfl, rfl, hb, rfl, ?_⟩)⟩
        refine ⟨_, _, rfl, rfl, ⟨sy.mid (by walk_at "om"), sv.mid (by walk_at "om")⟩, ?_⟩
        refine ⟨_, _, (n + 1 + (n + 1) + 3), rfl, Int.mul_pos (Fr.denp r) (Fr.denp s), (((sy.mul sv).mono (show _ ≤ n + 1 + (n + 1) + 1 by walk_at "om")).sub ((sx.mul sv).mono (show _ ≤ n + 1 + (n + 1) + 1 by walk_at "om")) |>.mono (show _ ≤ n + 1 + (n + 1) + 2 by walk_at "om")).add ((su.mul sy).mono (show _ ≤ n + 1 + (n + 1) + 2 by walk_at "om")), ((sy.mul sv).mono (show _ ≤ n + 1 + (n + 1) + 3 by walk_at "om")), by walk_at "om", fun v H2 s2 f2 => qq _ _ (S1.trans s2) ?_⟩
        rw [t_cut h, ← cutT]
        exact f2.mono (by walk_at "om")
      · rw [decide_eq_false h]
        refine iteT ?_
        refine ⟨small9 (by show 2 ≤ 1000; decide), fun t9 ht9 => qq _ _ (S1.trans (same_new ht9 _)) ?_⟩
        rw [t_no h]
        exact FR1.mono (by walk_at "om")
    · have qq : ∀ v H', Same H H' → FR K H' v (thenR "times" r s) (2 * n + 12) → Q v H' := by rw [hs, ← c_not "times" r]; exact q
      walk_at "ds"
      refine ⟨_, rfl, _, rfl, _, _, s, r, n + 1, n + 1, rfl, fb, fa, by walk_at "om", _, rfl, ?_⟩
      by_cases h : s < r
      · rw [decide_eq_true h]
        refine iteF ?_
        walk_at "ds"
        obtain ⟨pa, rfl, ha, sx, sy⟩ := fa
        obtain ⟨pb, rfl, hb, su, sv⟩ := fb
        refine ⟨_, rfl, .inr (.inl ⟨pb, _, 0, _, rfl, rfl, hb, rfl, ?_⟩)⟩
        refine ⟨_, rfl, .inr (.inl ⟨pa, _, 1, _, rfl, rfl, ha, rfl, ?_⟩)⟩
        refine ⟨_, _, rfl, rfl, ⟨su.mid (by walk_at "om"), sy.mid (by walk_at "om")⟩, ?_⟩
        refine ⟨_, rfl, .inr (.inl ⟨pb, _, 1, _, rfl, rfl, hb, rfl, ?_⟩)⟩
        refine ⟨_, rfl, .inr (.inl ⟨pa, _, 0, _, rfl, rfl, ha, rfl, ?_⟩)⟩
        refine ⟨_, _, rfl, rfl, ⟨sv.mid (by walk_at "om"), sx.mid (by walk_at "om")⟩, ?_⟩
        have r0 : 0 < r.num := pos_of s0 h
        refine ⟨_, _, (n + 1 + (n + 1) + 3), rfl, Int.mul_pos (Fr.denp s) r0, ((su.mul sy).mono (show _ ≤ n + 1 + (n + 1) + 3 by walk_at "om")), ((sv.mul sx).mono (show _ ≤ n + 1 + (n + 1) + 3 by walk_at "om")), by walk_at "om", fun v H2 s2 f2 => qq _ _ (S1.trans s2) ?_⟩
        rw [t_times h, ← Fr.ratdiv s r]
        exact f2.mono (by walk_at "om")
      · rw [decide_eq_false h]
        refine iteT ?_
        refine ⟨small9 (by show 2 ≤ 1000; decide), fun t9 ht9 => qq _ _ (S1.trans (same_new ht9 _)) ?_⟩
        rw [t_no h]
        exact FR1.mono (by walk_at "om")
  · walk_at "ds"
    refine ⟨small9 (by show 2 ≤ 1000; decide), fun t9 ht9 => q _ _ (same_new ht9 _) ?_⟩
    obtain rfl : zs = [] := List.eq_nil_of_length_eq_zero hl
    rw [show connR k "false" (List.map Prod.snd ([] : List (V × Rat))) = 0 from c_false k]
    exact FR0.mono (by walk_at "om")
  · walk_at "ds"
    refine ⟨small9 (by show 2 ≤ 1000; decide), fun t9 ht9 => q _ _ (same_new ht9 _) ?_⟩
    obtain rfl : zs = [] := List.eq_nil_of_length_eq_zero hl
    rw [show connR k "true" (List.map Prod.snd ([] : List (V × Rat))) = 1 from c_true k]
    exact FR1.mono (by walk_at "om")

noncomputable abbrev s_law_grade : Stmt := top 55
theorem sc_law_grade : FnScope ["_law_kind", "_law_saying_here", "_law_grading"] ["_law_kind", "_law_saying_here", "_law_grading"] (defScope s_law_grade) := ⟨rfl, rfl, rfl, by decide +kernel, rfl, by decide +kernel, by decide +kernel⟩
theorem ok_law_grade {P : Program} {w : World} {K : PySem.W.Frag} {mg : Str → Option Value} {base : Heap} {f : Addr} {fd : FuncData} (F : Fun K "_law_grade" "_law_grade" s_law_grade f fd) (gb : Gb mg) {c : Nat → Addr} (cl : Cl K mg c) (d_law_joined : Def P w K mg base 2 "_law_joined" ["_law_kind", "_law_name", "_law_grades"] (spConn K)) (j : Nat) (d_law_grade : Def P w K mg base (3 + j) "_law_grade" ["_law_kind", "_law_saying_here", "_law_grading"] ((spGraded K) j)) : FnOk P w K mg base CX0 (3 + j + 1) f fd ["_law_kind", "_law_saying_here", "_law_grading"] ((spGraded K) (j + 1)) := by
  refine F.ok sc_law_grade (fun vs H Q E h => ?_) (fun cdv A outer s H vs Q E hr h => ?_)
  · obtain ⟨k, v, s, g, L, ρ, rfl, _⟩ := h
    rfl
  obtain ⟨k, v, s, g, L, ρ, rfl, kd, ih, gs, hL, ig, hj, d5, q⟩ := h
  have nd0 : (["_law_part", "_law_kind", "_law_grading"] : List Str).Nodup := by decide +kernel
  refine ⟨_, (@pss_cons _ _ _ _ _ (@ps_if _ _ _ _ _ _ _ _ (@pt_val _ _ _ (@pe_callB _ _ _ _ _ _ _ _ _ (@kcall_isiT _ K (by rfl)) rfl gb.isinstance bt_isinstance (@pa_cons _ _ _ _ _ (@pv _ 1 _ _ (by rfl) (by first | exact Or.inl rfl | exact Or.inr (Or.inl rfl) | exact Or.inr (Or.inr rfl)) (by decide) (by decide)) (@pa_cons _ _ _ _ _ (@pe_bltn _ _ (.ty "str") _ _ rfl gb.str bt_str rfl (by decide) (by decide)) (@pa_nil _) (by rfl)) (by rfl)) (by decide) (by decide) (by rfl) (by rfl)) (by intro _; rfl)) (@pss_one _ _ _ (@ps_ret _ _ _ _ (@pe_kget _ _ _ _ _ _ (@pv _ 2 _ _ (by rfl) (by first | exact Or.inl rfl | exact Or.inr (Or.inl rfl) | exact Or.inr (Or.inr rfl)) (by decide) (by decide)) (@pv _ 1 _ _ (by rfl) (by first | exact Or.inl rfl | exact Or.inr (Or.inl rfl) | exact Or.inr (Or.inr rfl)) (by decide) (by decide)) (fun _ _ => rfl)))) (@pss_nil _)) (@pss_one _ _ _ (@ps_ret _ _ _ _ (@pe_def _ _ _ _ _ _ _ _ _ _ _ d_law_joined hr (by walk_at "om") rfl (@pa_cons _ _ _ _ _ (@pv _ 0 _ _ (by rfl) (by first | exact Or.inl rfl | exact Or.inr (Or.inl rfl) | exact Or.inr (Or.inr rfl)) (by decide) (by decide)) (@pa_cons _ _ _ _ _ (@pe_ix _ _ _ _ _ _ _ (@kix_seq _ K (by rfl)) (@pv _ 1 _ _ (by rfl) (by first | exact Or.inl rfl | exact Or.inr (Or.inl rfl) | exact Or.inr (Or.inr rfl)) (by decide) (by decide)) (@pe_int _ _ _ _) (fun _ _ => rfl)) (@pa_cons _ _ _ _ _ (@pe_comp _ ["_law_part", "_law_kind", "_law_grading"] [none, some 0, some 2] _ _ _ _ _ _ _ _ _ _ (by exact (show CompOk ["_law_kind", "_law_saying_here", "_law_grading"] (defScope s_law_grade) ["_law_part", "_law_kind", "_law_grading"] [none, some 0, some 2] _ from ⟨rfl, by decide +kernel, by decide +kernel, by decide +kernel, by decide +kernel, rfl, by decide +kernel⟩)) rfl (@kpi_tup _ K _ _ _ (@pe_slice _ _ _ _ _ _ _ _ _ _ (@kslT _ K (by rfl)) (@pv _ 1 _ _ (by rfl) (by first | exact Or.inl rfl | exact Or.inr (Or.inl rfl) | exact Or.inr (Or.inr rfl)) (by decide) (by decide)) (@po_some _ _ _ (@pe_int _ _ _ _)) (@po_none _)) (by rfl)) (fun _ _ _ _ => (@pg_name _ _ 0 _ nd0 rfl (Or.inl rfl) (by first | exact .inl rfl | exact .inr rfl | assumption))) (fun _ _ _ _ => (@pf_nil _)) (fun _ _ _ _ => (@pe_def _ _ _ _ _ _ _ _ _ _ _ d_law_grade hr (by walk_at "om") rfl (@pa_cons _ _ _ _ _ (@pv _ 1 _ _ (by rfl) (by first | exact Or.inl rfl | exact Or.inr (Or.inl rfl) | exact Or.inr (Or.inr rfl)) (by decide) (by decide)) (@pa_cons _ _ _ _ _ (@pv _ 0 _ _ (by rfl) (by first | exact Or.inl rfl | exact Or.inr (Or.inl rfl) | exact Or.inr (Or.inr rfl)) (by decide) (by decide)) (@pa_cons _ _ _ _ _ (@pv _ 2 _ _ (by rfl) (by first | exact Or.inl rfl | exact Or.inr (Or.inl rfl) | exact Or.inr (Or.inr rfl)) (by decide) (by decide)) (@pa_nil _) (by rfl)) (by rfl)) (by rfl)) (by decide) (by rfl) (by rfl))) (by intro _; rfl)) (@pa_nil _) (by rfl)) (by rfl)) (by rfl)) (by decide) (by rfl) (by rfl))))), ?_⟩
  have s1 : Same H H := Same.refl H
  cases hs : s.isL with
  | true =>
    have ev := ih.letter hs
    obtain ⟨kvs, hk, hv⟩ := ig.dk
    obtain ⟨u, e, fu⟩ := hv _ (gs.letter hs)
    refine ⟨_, rfl, _, _, _, true, rfl, by rw [ev]; exact .str _, kit_same "str", _, rfl, iteT ⟨_, rfl, _, rfl, g, kvs, Sum.inr s.nm, u, rfl, s1 _ _ hk, by rw [ev]; rfl, e, q u H s1 ?_⟩⟩
    rw [gr_letter hs]
    exact (fu.same s1).mono (show bt 0 ≤ bt s.dp from bt_mono (Nat.zero_le _))
  | false =>
    obtain ⟨t, us, ev, ht, hP⟩ := ih.node hs
    obtain ⟨nm7, pl, gps⟩ := gs.node hs
    have hul := Paired.length hP
    have a2 := arity2 s.nm
    have ht1 := s1 _ _ ht
    rw [ev]
    refine ⟨_, rfl, _, _, _, false, rfl, .tup ht, kit_str (K := K) (.tup []), _, rfl, iteF ?_⟩
    refine ⟨_, rfl, _, rfl, .inr (.inl ⟨t, _, _, _, rfl, rfl, SqT.of ht1, at0, _, rfl, _, rfl, ?_⟩)⟩
    refine slT_of ht1 fun t2 H2 s2 ht2 => ?_
    rw [cut_drop1 (by simp)] at ht2
    refine ⟨t2, rfl, ⟨_, SqT.of ht2⟩, fun D hD => ?_⟩
    have dpos : 0 < s.dp := by
      cases hs' : s with
      | ltr x => rw [hs'] at hs; cases hs
      | n0 n => exact Nat.zero_lt_one
      | n1 n a => exact Nat.succ_pos _
      | n2 n a b => exact Nat.succ_pos _
    obtain ⟨dd, hdd⟩ : ∃ dd, s.dp = dd + 1 := ⟨s.dp - 1, by walk_at "om"⟩
    refine comp_tup (xs := us) (fun i ys H' => Same H2 H' ∧ ∃ zs : List (V × Rat), ys = zs.map Prod.fst ∧ zs.map Prod.snd = (s.ps.take i).map (gr k ρ) ∧ FRs K H' zs (bt dd)) ⟨same_new hD _, [], rfl, rfl, fun z hz => by cases hz⟩ (fun i ys H' h _ => SqT.of (h.1 _ _ ht2)) ?_ ?_
    · rintro i ys H3 x hx ⟨s3, zs, rfl, hz, fz⟩ hD3
      have hi : i < us.length := (List.getElem?_eq_some_iff.mp hx).1
      have ha : s.ps[i]? = some s.ps[i] := List.getElem?_eq_getElem (by walk_at "om")
      generalize s.ps[i] = a at ha
      have hia := Paired.at hP i _ _ ha hx
      have ham := List.mem_of_getElem? ha
      have hda := Sy.dp_lt ham
      match j, hj, d_law_grade with
      | 0, hj, _ => exact absurd hj (by walk_at "om")
      | j + 1, hj, _ =>
      refine yes ⟨_, rfl, _, rfl, _, rfl, k, x, a, g, L, ρ, rfl, kd, hia.same (s1.trans (s2.trans s3)), gps a ham, hL, ig.same (s1.trans (s2.trans s3)), by walk_at "om", by walk_at "om", fun w H4 s4 f4 => ?_⟩
      have hzl := congrArg List.length hz
      rw [List.length_map, List.length_map, List.length_take] at hzl
      refine cyes hi rset1 (s4 _ _ hD3) (by rw [List.length_map]; exact small1000 (by walk_at "om")) ⟨(s3.trans s4).put hD, zs ++ [(w, gr k ρ a)], by rw [List.map_append]; rfl, by rw [List.map_append, hz, take_snoc ha, List.map_append]; rfl, ?_⟩
      intro z hz'
      rcases List.mem_append.mp hz' with h | h
      · exact ((fz z h).same s4).put (s4 _ _ hD3)
      · rw [List.mem_singleton.mp h]
        exact (f4.mono (bt_mono (by walk_at "om"))).put (s4 _ _ hD3)
    · rintro ys H3 ⟨s3, zs, rfl, hz, fz⟩ hD3
      rw [← hul, List.take_length] at hz
      have hzl := congrArg List.length hz
      rw [List.length_map, List.length_map] at hzl
      have nn : ∀ z ∈ zs, 0 ≤ z.2 := fun z hz' => by
        have : z.2 ∈ zs.map Prod.snd := List.mem_map.mpr ⟨z, hz', rfl⟩
        rw [hz] at this
        obtain ⟨a, ha, e⟩ := List.mem_map.mp this
        rw [← e]
        exact (gr_u ig.u (gps a ha)).1
      refine ⟨k, s.nm, D, zs, bt dd, rfl, kd, nm7, by walk_at "om", hD3, fz, nn, ?_, fun u H4 s4 f4 => q u H4 (s1.trans (s2.trans (s3.trans s4))) ?_⟩
      · have := bt4 (d := dd) (by walk_at "om")
        walk_at "om"
      · rw [gr_node hs, ← hz, hdd]
        exact f4

noncomputable abbrev s_law : Stmt := top 56
theorem sc_law : FnScope ["_law_script", "_law_cell", "_law_xs", "_law_some", "_law_saying_here", "_law_kind", "_law_top", "_law_steps", "_law_fractions", "_law_k", "_law_found", "_law_told"] ["_law_script"] (defScope s_law) := ⟨rfl, rfl, rfl, by decide +kernel, rfl, by decide +kernel, by decide +kernel⟩
theorem ok_law {P : Program} {w : World} {K : PySem.W.Frag} {mg : Str → Option Value} {base : Heap} {f : Addr} {fd : FuncData} (F : Fun K "law" "law" s_law f fd) (gb : Gb mg) {c : Nat → Addr} (cl : Cl K mg c) (d_law_parts : Def P w K mg base 1 "_law_parts" ["_law_cell", "_law_sizes"] spParts) (d_law_letters : Def P w K mg base 1 "_law_letters" ["_law_xs", "_law_many"] spLetters) (d_law_low : Def P w K mg base 1 "_law_low" ["_law_top", "_law_bottom"] (spLow K)) (d_chain : Def P w K mg base 7 "chain" ["kind", "many"] spChainQ) (d_grade : Def P w K mg base 10 "grade" ["T", "S", "grading"] spGrade) (d_grade_by : Def P w K mg base 13 "grade_by" ["kind", "S", "grading"] (spGB K)) (d_law_saying : Def P w K mg base 6 "_law_saying" ["_law_xs", "_law_at", "_law_deep", "_law_letters_here"] (spSaying 5)) (d_law_grade : Def P w K mg base 9 "_law_grade" ["_law_kind", "_law_saying_here", "_law_grading"] ((spGraded K) 6)) : FnOk P w K mg base CX0 15 f fd ["_law_script"] (spLaw K) := by
  refine F.ok sc_law (fun vs H Q E h => ?_) (fun cdv A outer s H vs Q E hr h => ?_)
  · obtain ⟨a, ns, rfl, _⟩ := h
    rfl
  obtain ⟨a, ns, rfl, hS, hn, q⟩ := h
  refine ⟨_, (@pss_cons _ _ _ _ _ (@ps_for _ _ _ _ _ _ _ _ PassesOwn.never rfl (@kpi_list _ K _ _ _ (@pe_op _ _ _ _ _ _ _ _ (@op_cat _) (@pe_callTy _ _ _ _ _ _ _ _ _ (@kcall_list_of _ K (by rfl)) rfl gb.list bt_list (@pa_cons _ _ _ _ _ (@pe_slice _ _ _ _ _ _ _ _ _ _ (@ksl_any _ K (by rfl)) (@pv _ 0 _ _ (by rfl) (by first | exact Or.inl rfl | exact Or.inr (Or.inl rfl) | exact Or.inr (Or.inr rfl)) (by decide) (by decide)) (@po_none _) (@po_some _ _ _ (@pe_int _ _ _ _))) (@pa_nil _) (by rfl)) (by decide) (by decide) (by rfl) (by rfl)) (@pe_lst _ _ _ _ (@pa_cons _ _ _ _ _ (@pe_int _ _ _ _) (@pa_nil _) (by rfl)))) (by rfl)) (@pg_name _ _ 1 _ sc_law.nd rfl (Or.inl rfl) (by first | exact .inl rfl | exact .inr rfl | assumption)) (@pss_cons _ _ _ _ _ (@ps_set _ _ 2 _ _ _ _ sc_law.nd rfl (Or.inl rfl) (@pe_def _ _ _ _ _ _ _ _ _ _ _ d_law_parts hr (by walk_at "om") rfl (@pa_cons _ _ _ _ _ (@pv _ 1 _ _ (by rfl) (by first | exact Or.inl rfl | exact Or.inr (Or.inl rfl) | exact Or.inr (Or.inr rfl)) (by decide) (by decide)) (@pa_cons _ _ _ _ _ (@pe_op _ _ _ _ _ _ _ _ (@op_cat _) (@pe_op _ _ _ _ _ _ _ _ (@op_cat _) (@pe_op _ _ _ _ _ _ _ _ (@op_cat _) (@pe_op _ _ _ _ _ _ _ _ (@op_repL _ K) (@pe_lst _ _ _ _ (@pa_cons _ _ _ _ _ (@pe_int _ _ _ _) (@pa_nil _) (by rfl))) (@pe_int _ _ _ _)) (@pe_op _ _ _ _ _ _ _ _ (@op_repL _ K) (@pe_lst _ _ _ _ (@pa_cons _ _ _ _ _ (@pe_int _ _ _ _) (@pa_nil _) (by rfl))) (@pe_int _ _ _ _))) (@pe_lst _ _ _ _ (@pa_cons _ _ _ _ _ (@pe_int _ _ _ _) (@pa_cons _ _ _ _ _ (@pe_int _ _ _ _) (@pa_cons _ _ _ _ _ (@pe_int _ _ _ _) (@pa_nil _) (by rfl)) (by rfl)) (by rfl)))) (@pe_op _ _ _ _ _ _ _ _ (@op_repL _ K) (@pe_lst _ _ _ _ (@pa_cons _ _ _ _ _ (@pe_int _ _ _ _) (@pa_nil _) (by rfl))) (@pe_int _ _ _ _))) (@pa_nil _) (by rfl)) (by rfl)) (by decide) (by rfl) (by rfl)) (by rfl) (by first | exact .inl rfl | exact .inr rfl | assumption)) (@pss_cons _ _ _ _ _ (@ps_set _ _ 3 _ _ _ _ sc_law.nd rfl (Or.inl rfl) (@pe_def _ _ _ _ _ _ _ _ _ _ _ d_law_letters hr (by walk_at "om") rfl (@pa_cons _ _ _ _ _ (@pe_slice _ _ _ _ _ _ _ _ _ _ (@ksl_any _ K (by rfl)) (@pv _ 2 _ _ (by rfl) (by first | exact Or.inl rfl | exact Or.inr (Or.inl rfl) | exact Or.inr (Or.inr rfl)) (by decide) (by decide)) (@po_some _ _ _ (@pe_int _ _ _ _)) (@po_none _)) (@pa_cons _ _ _ _ _ (@pe_int _ _ _ _) (@pa_nil _) (by rfl)) (by rfl)) (by decide) (by rfl) (by rfl)) (by rfl) (by first | exact .inl rfl | exact .inr rfl | assumption)) (@pss_cons _ _ _ _ _ (@ps_set _ _ 4 _ _ _ _ sc_law.nd rfl (Or.inl rfl) (@pe_def _ _ _ _ _ _ _ _ _ _ _ d_law_saying hr (by walk_at "om") rfl (@pa_cons _ _ _ _ _ (@pv _ 2 _ _ (by rfl) (by first | exact Or.inl rfl | exact Or.inr (Or.inl rfl) | exact Or.inr (Or.inr rfl)) (by decide) (by decide)) (@pa_cons _ _ _ _ _ (@pe_int _ _ _ _) (@pa_cons _ _ _ _ _ (@pe_int _ _ _ _) (@pa_cons _ _ _ _ _ (@pe_slice _ _ _ _ _ _ _ _ _ _ (@ksl_any _ K (by rfl)) (@pv _ 3 _ _ (by rfl) (by first | exact Or.inl rfl | exact Or.inr (Or.inl rfl) | exact Or.inr (Or.inr rfl)) (by decide) (by decide)) (@po_none _) (@po_some _ _ _ (@pe_op _ _ _ _ _ _ _ _ (@op_add _) (@pe_int _ _ _ _) (@pe_ix _ _ _ _ _ _ _ (@kix_seq _ K (by rfl)) (@pv _ 2 _ _ (by rfl) (by first | exact Or.inl rfl | exact Or.inr (Or.inl rfl) | exact Or.inr (Or.inr rfl)) (by decide) (by decide)) (@pe_int _ _ _ _) (fun _ _ => rfl))))) (@pa_nil _) (by rfl)) (by rfl)) (by rfl)) (by rfl)) (by decide) (by rfl) (by rfl)) (by rfl) (by first | exact .inl rfl | exact .inr rfl | assumption)) (@pss_cons _ _ _ _ _ (@ps_set _ _ 5 _ _ _ _ sc_law.nd rfl (Or.inl rfl) (@pe_ix _ _ _ _ _ _ _ (@kix_seq _ K (by rfl)) (@pe_lst _ _ _ _ (@pa_cons _ _ _ _ _ (@pe_str _ _ _ _) (@pa_cons _ _ _ _ _ (@pe_str _ _ _ _) (@pa_nil _) (by rfl)) (by rfl))) (@pe_ix _ _ _ _ _ _ _ (@kix_seq _ K (by rfl)) (@pv _ 2 _ _ (by rfl) (by first | exact Or.inl rfl | exact Or.inr (Or.inl rfl) | exact Or.inr (Or.inr rfl)) (by decide) (by decide)) (@pe_int _ _ _ _) (fun _ _ => rfl)) (fun _ _ => rfl)) (by rfl) (by first | exact .inl rfl | exact .inr rfl | assumption)) (@pss_cons _ _ _ _ _ (@ps_set _ _ 6 _ _ _ _ sc_law.nd rfl (Or.inl rfl) (@pe_op _ _ _ _ _ _ _ _ (@op_add _) (@pe_int _ _ _ _) (@pe_ix _ _ _ _ _ _ _ (@kix_seq _ K (by rfl)) (@pv _ 2 _ _ (by rfl) (by first | exact Or.inl rfl | exact Or.inr (Or.inl rfl) | exact Or.inr (Or.inr rfl)) (by decide) (by decide)) (@pe_int _ _ _ _) (fun _ _ => rfl))) (by rfl) (by first | exact .inl rfl | exact .inr rfl | assumption)) (@pss_cons _ _ _ _ _ (@ps_set _ _ 7 _ _ _ _ sc_law.nd rfl (Or.inl rfl) (@pe_dnewK _ _) (by rfl) (by first | exact .inl rfl | exact .inr rfl | assumption)) (@pss_cons _ _ _ _ _ (@ps_set _ _ 8 _ _ _ _ sc_law.nd rfl (Or.inl rfl) (@pe_dnewK _ _) (by rfl) (by first | exact .inl rfl | exact .inr rfl | assumption)) (@pss_cons _ _ _ _ _ (@ps_for _ _ _ _ _ _ _ _ PassesOwn.never rfl (@pi_range1 _ _ _ _ _ _ rfl gb.range (@pa_cons _ _ _ _ _ (@pe_int _ _ _ _) (@pa_nil _) (by rfl)) (by rfl)) (@pg_name _ _ 9 _ sc_law.nd rfl (Or.inl rfl) (by first | exact .inl rfl | exact .inr rfl | assumption)) (@pss_cons _ _ _ _ _ (@ps_kput _ _ _ _ _ _ _ _ _ _ hr (@pv _ 7 _ _ (by rfl) (by first | exact Or.inl rfl | exact Or.inr (Or.inl rfl) | exact Or.inr (Or.inr rfl)) (by decide) (by decide)) (@pe_ix _ _ _ _ _ _ _ (@kix_seq _ K (by rfl)) (@pv _ 3 _ _ (by rfl) (by first | exact Or.inl rfl | exact Or.inr (Or.inl rfl) | exact Or.inr (Or.inr rfl)) (by decide) (by decide)) (@pv _ 9 _ _ (by rfl) (by first | exact Or.inl rfl | exact Or.inr (Or.inl rfl) | exact Or.inr (Or.inr rfl)) (by decide) (by decide)) (fun _ _ => rfl)) (@pe_op _ _ _ _ _ _ _ _ (@op_mod _) (@pe_ix _ _ _ _ _ _ _ (@kix_seq _ K (by rfl)) (@pv _ 2 _ _ (by rfl) (by first | exact Or.inl rfl | exact Or.inr (Or.inl rfl) | exact Or.inr (Or.inr rfl)) (by decide) (by decide)) (@pe_op _ _ _ _ _ _ _ _ (@op_add _) (@pe_int _ _ _ _) (@pv _ 9 _ _ (by rfl) (by first | exact Or.inl rfl | exact Or.inr (Or.inl rfl) | exact Or.inr (Or.inr rfl)) (by decide) (by decide))) (fun _ _ => rfl)) (@pe_op _ _ _ _ _ _ _ _ (@op_add _) (@pv _ 6 _ _ (by rfl) (by first | exact Or.inl rfl | exact Or.inr (Or.inl rfl) | exact Or.inr (Or.inr rfl)) (by decide) (by decide)) (@pe_int _ _ _ _))) rfl) (@pss_one _ _ _ (@ps_kput _ _ _ _ _ _ _ _ _ _ hr (@pv _ 8 _ _ (by rfl) (by first | exact Or.inl rfl | exact Or.inr (Or.inl rfl) | exact Or.inr (Or.inr rfl)) (by decide) (by decide)) (@pe_ix _ _ _ _ _ _ _ (@kix_seq _ K (by rfl)) (@pv _ 3 _ _ (by rfl) (by first | exact Or.inl rfl | exact Or.inr (Or.inl rfl) | exact Or.inr (Or.inr rfl)) (by decide) (by decide)) (@pv _ 9 _ _ (by rfl) (by first | exact Or.inl rfl | exact Or.inr (Or.inl rfl) | exact Or.inr (Or.inr rfl)) (by decide) (by decide)) (fun _ _ => rfl)) (@pe_def _ _ _ _ _ _ _ _ _ _ _ d_law_low hr (by walk_at "om") rfl (@pa_cons _ _ _ _ _ (@pe_op _ _ _ _ _ _ _ _ (@op_mod _) (@pe_ix _ _ _ _ _ _ _ (@kix_seq _ K (by rfl)) (@pv _ 2 _ _ (by rfl) (by first | exact Or.inl rfl | exact Or.inr (Or.inl rfl) | exact Or.inr (Or.inr rfl)) (by decide) (by decide)) (@pe_op _ _ _ _ _ _ _ _ (@op_add _) (@pe_int _ _ _ _) (@pv _ 9 _ _ (by rfl) (by first | exact Or.inl rfl | exact Or.inr (Or.inl rfl) | exact Or.inr (Or.inr rfl)) (by decide) (by decide))) (fun _ _ => rfl)) (@pe_op _ _ _ _ _ _ _ _ (@op_add _) (@pv _ 6 _ _ (by rfl) (by first | exact Or.inl rfl | exact Or.inr (Or.inl rfl) | exact Or.inr (Or.inr rfl)) (by decide) (by decide)) (@pe_int _ _ _ _))) (@pa_cons _ _ _ _ _ (@pv _ 6 _ _ (by rfl) (by first | exact Or.inl rfl | exact Or.inr (Or.inl rfl) | exact Or.inr (Or.inr rfl)) (by decide) (by decide)) (@pa_nil _) (by rfl)) (by rfl)) (by decide) (by rfl) (by rfl)) rfl))) (by intro _; rfl)) (@pss_cons _ _ _ _ _ (@ps_set _ _ 10 _ _ _ _ sc_law.nd rfl (Or.inl rfl) (@pe_def _ _ _ _ _ _ _ _ _ _ _ d_grade hr (by walk_at "om") rfl (@pa_cons _ _ _ _ _ (@pe_def _ _ _ _ _ _ _ _ _ _ _ d_chain hr (by walk_at "om") rfl (@pa_cons _ _ _ _ _ (@pv _ 5 _ _ (by rfl) (by first | exact Or.inl rfl | exact Or.inr (Or.inl rfl) | exact Or.inr (Or.inr rfl)) (by decide) (by decide)) (@pa_cons _ _ _ _ _ (@pe_op _ _ _ _ _ _ _ _ (@op_add _) (@pv _ 6 _ _ (by rfl) (by first | exact Or.inl rfl | exact Or.inr (Or.inl rfl) | exact Or.inr (Or.inr rfl)) (by decide) (by decide)) (@pe_int _ _ _ _)) (@pa_nil _) (by rfl)) (by rfl)) (by decide) (by rfl) (by rfl)) (@pa_cons _ _ _ _ _ (@pv _ 4 _ _ (by rfl) (by first | exact Or.inl rfl | exact Or.inr (Or.inl rfl) | exact Or.inr (Or.inr rfl)) (by decide) (by decide)) (@pa_cons _ _ _ _ _ (@pv _ 7 _ _ (by rfl) (by first | exact Or.inl rfl | exact Or.inr (Or.inl rfl) | exact Or.inr (Or.inr rfl)) (by decide) (by decide)) (@pa_nil _) (by rfl)) (by rfl)) (by rfl)) (by decide) (by rfl) (by rfl)) (by rfl) (by first | exact .inl rfl | exact .inr rfl | assumption)) (@pss_cons _ _ _ _ _ (@ps_set _ _ 11 _ _ _ _ sc_law.nd rfl (Or.inl rfl) (@pe_def _ _ _ _ _ _ _ _ _ _ _ d_grade_by hr (by walk_at "om") rfl (@pa_cons _ _ _ _ _ (@pv _ 5 _ _ (by rfl) (by first | exact Or.inl rfl | exact Or.inr (Or.inl rfl) | exact Or.inr (Or.inr rfl)) (by decide) (by decide)) (@pa_cons _ _ _ _ _ (@pv _ 4 _ _ (by rfl) (by first | exact Or.inl rfl | exact Or.inr (Or.inl rfl) | exact Or.inr (Or.inr rfl)) (by decide) (by decide)) (@pa_cons _ _ _ _ _ (@pv _ 8 _ _ (by rfl) (by first | exact Or.inl rfl | exact Or.inr (Or.inl rfl) | exact Or.inr (Or.inr rfl)) (by decide) (by decide)) (@pa_nil _) (by rfl)) (by rfl)) (by rfl)) (by decide) (by rfl) (by rfl)) (by rfl) (by first | exact .inl rfl | exact .inr rfl | assumption)) (@pss_one _ _ _ (@ps_if _ _ _ _ _ _ _ _ (@PW.pt _ _ _ (@pw_or _ _ _ _ _ _ _ (@pt_not _ _ _ _ (@pt_val _ _ _ (@pe_callB _ _ _ _ _ _ _ _ _ (@kcall_isiT _ K (by rfl)) rfl gb.isinstance bt_isinstance (@pa_cons _ _ _ _ _ (@pv _ 10 _ _ (by rfl) (by first | exact Or.inl rfl | exact Or.inr (Or.inl rfl) | exact Or.inr (Or.inr rfl)) (by decide) (by decide)) (@pa_cons _ _ _ _ _ (@pe_bltn _ _ (.ty "int") _ _ rfl gb.int bt_int rfl (by decide) (by decide)) (@pa_nil _) (by rfl)) (by rfl)) (by decide) (by decide) (by rfl) (by rfl)) (by intro _; rfl))) (@pw_or _ _ _ _ _ _ _ (@pt_cmpR _ _ _ _ _ _ _ _ (@op_neT _ K _ hr (by rfl)) (@pe_def _ _ _ _ _ _ _ _ _ _ _ d_law_low hr (by walk_at "om") rfl (@pa_cons _ _ _ _ _ (@pv _ 10 _ _ (by rfl) (by first | exact Or.inl rfl | exact Or.inr (Or.inl rfl) | exact Or.inr (Or.inr rfl)) (by decide) (by decide)) (@pa_cons _ _ _ _ _ (@pv _ 6 _ _ (by rfl) (by first | exact Or.inl rfl | exact Or.inr (Or.inl rfl) | exact Or.inr (Or.inr rfl)) (by decide) (by decide)) (@pa_nil _) (by rfl)) (by rfl)) (by decide) (by rfl) (by rfl)) (@pv _ 11 _ _ (by rfl) (by first | exact Or.inl rfl | exact Or.inr (Or.inl rfl) | exact Or.inr (Or.inr rfl)) (by decide) (by decide)) (@nomark _ _ (by decide) (by decide))) (@pw_or1 _ _ _ _ (@pt_cmpR _ _ _ _ _ _ _ _ (@op_neT _ K _ hr (by rfl)) (@pv _ 11 _ _ (by rfl) (by first | exact Or.inl rfl | exact Or.inr (Or.inl rfl) | exact Or.inr (Or.inr rfl)) (by decide) (by decide)) (@pe_def _ _ _ _ _ _ _ _ _ _ _ d_law_grade hr (by walk_at "om") rfl (@pa_cons _ _ _ _ _ (@pv _ 5 _ _ (by rfl) (by first | exact Or.inl rfl | exact Or.inr (Or.inl rfl) | exact Or.inr (Or.inr rfl)) (by decide) (by decide)) (@pa_cons _ _ _ _ _ (@pv _ 4 _ _ (by rfl) (by first | exact Or.inl rfl | exact Or.inr (Or.inl rfl) | exact Or.inr (Or.inr rfl)) (by decide) (by decide)) (@pa_cons _ _ _ _ _ (@pv _ 8 _ _ (by rfl) (by first | exact Or.inl rfl | exact Or.inr (Or.inl rfl) | exact Or.inr (Or.inr rfl)) (by decide) (by decide)) (@pa_nil _) (by rfl)) (by rfl)) (by rfl)) (by decide) (by rfl) (by rfl)) (@nomark _ _ (by decide) (by decide))))))) (@pss_one _ _ _ (@ps_ret _ _ _ _ (@pe_bl _ _ _ _))) (@pss_nil _))))))))))))) (by intro _; rfl)) (@pss_one _ _ _ (@ps_ret _ _ _ _ (@pe_bl _ _ _ _)))), ?_⟩
  obtain ⟨cs, ec, hc⟩ := cut_ints (f := V.int) ns none (some 12)
  refine ⟨_, rfl, _, rfl, .inl ⟨a, _, rfl, hS, fun p0 hp0 => ?_⟩⟩
  rw [ec]
  have m0 := same_new hp0 (.lst (cs.map V.int))
  refine ⟨p0, _, rfl, .inl (SqL.of upd_same), fun p1 hp1 => ?_⟩
  have m1 := same_new hp1 (.lst (cs.map V.int))
  refine ⟨small9 (by show 1 ≤ 1000; decide), fun p2 hp2 => ?_⟩
  have m2 := same_new hp2 (.lst [V.int 0])
  refine ⟨p1, p2, _, _, rfl, rfl, m2 _ _ upd_same, upd_same, by rw [List.length_map]; exact small9 (by show _ + 1 ≤ 1000; walk_at "om"), fun p3 hp3 => ?_⟩
  have m3 := same_new hp3 (.lst (cs.map V.int ++ [V.int 0]))
  have hl3 : (upd (upd (upd (upd H p0 (.lst (cs.map V.int))) p1 (.lst (cs.map V.int))) p2 (.lst [V.int 0])) p3 (.lst (cs.map V.int ++ [V.int 0]))) p3 = some (.lst ((cs ++ [0]).map V.int)) := by rw [upd_same, List.map_append]; rfl
  generalize upd (upd (upd (upd H p0 (.lst (cs.map V.int))) p1 (.lst (cs.map V.int))) p2 (.lst [V.int 0])) p3 (.lst (cs.map V.int ++ [V.int 0])) = H3 at hl3 ⊢
  refine ⟨p3, rfl, ⟨_, SqL.of hl3⟩, ?_⟩
  refine for_list (xs := (cs ++ [0]).map V.int) (fun i σ H' => (∃ x1 x2 x3 x4 x5 x6 x7 x8 x9 x10 x11, σ = [some (.ref a), x1, x2, x3, x4, x5, x6, x7, x8, x9, x10, x11]) ∧ Same H3 H') ⟨⟨_, _, _, _, _, _, _, _, _, _, _, rfl⟩, Same.refl _⟩ (fun i σ H' _ h => SqL.of (h.2 _ _ hl3)) ?_ (fun σ H' h => q H')
  rintro i x σ H4 hx ⟨⟨x1, x2, x3, x4, x5, x6, x7, x8, x9, x10, x11, rfl⟩, S4⟩
  rw [List.getElem?_map] at hx
  obtain ⟨ci, hci, rfl⟩ := Option.map_eq_some_iff.mp hx
  refine ⟨_, rfl, small9 (by show 1 ≤ 1000; decide), fun a0 ha0 => ?_⟩
  refine ⟨a0, _, 15, rfl, rfl, upd_same, by decide, by decide, by decide, fun b0 hb0 => ?_⟩
  have k0 := (same_new ha0 (.lst [V.int 720720])).trans (same_new hb0 (.lst (List.replicate (15 : Int).toNat [V.int 720720]).flatten))
  have e0 : (upd (upd H4 a0 (.lst [V.int 720720])) b0 (.lst (List.replicate (15 : Int).toNat [V.int 720720]).flatten)) b0 = some (.lst ((List.replicate 15 720720).map nV)) := by rw [upd_same]; exact congrArg (fun z => some (HO.lst z)) (rep_nV 15 720720)
  generalize upd (upd H4 a0 (.lst [V.int 720720])) b0 (.lst (List.replicate (15 : Int).toNat [V.int 720720]).flatten) = HZ0 at *
  refine ⟨small9 (by show 1 ≤ 1000; decide), fun a1 ha1 => ?_⟩
  refine ⟨a1, _, 6, rfl, rfl, upd_same, by decide, by decide, by decide, fun b1 hb1 => ?_⟩
  have k1 := (same_new ha1 (.lst [V.int 26])).trans (same_new hb1 (.lst (List.replicate (6 : Int).toNat [V.int 26]).flatten))
  have e1 : (upd (upd HZ0 a1 (.lst [V.int 26])) b1 (.lst (List.replicate (6 : Int).toNat [V.int 26]).flatten)) b1 = some (.lst ((List.replicate 6 26).map nV)) := by rw [upd_same]; exact congrArg (fun z => some (HO.lst z)) (rep_nV 6 26)
  replace e0 := k1 _ _ e0
  generalize upd (upd HZ0 a1 (.lst [V.int 26])) b1 (.lst (List.replicate (6 : Int).toNat [V.int 26]).flatten) = HZ1 at *
  refine ⟨b0, b1, _, _, rfl, rfl, e0, e1, by simp only [List.length_map, List.length_append, List.length_replicate]; exact small9 (by decide), fun c1 hc1 => ?_⟩
  have kk1 := same_new hc1 (.lst ((List.replicate 15 720720).map nV ++ (List.replicate 6 26 : List Nat).map nV))
  have ee1 : (upd HZ1 c1 (.lst ((List.replicate 15 720720).map nV ++ (List.replicate 6 26 : List Nat).map nV))) c1 = some (.lst ((List.replicate 15 720720 ++ List.replicate 6 26).map nV)) := by rw [upd_same, List.map_append (l₁ := List.replicate 15 720720)]
  generalize upd HZ1 c1 (.lst ((List.replicate 15 720720).map nV ++ (List.replicate 6 26 : List Nat).map nV)) = HY1 at *
  refine ⟨small9 (by show 3 ≤ 1000; decide), fun b2 hb2 => ?_⟩
  have k2 := same_new hb2 (.lst [V.int 4, V.int 2, V.int 8])
  have e2 : (upd HY1 b2 (.lst [V.int 4, V.int 2, V.int 8])) b2 = some (.lst (([4, 2, 8] : List Nat).map nV)) := upd_same
  replace ee1 := k2 _ _ ee1
  generalize upd HY1 b2 (.lst [V.int 4, V.int 2, V.int 8]) = HZ2 at *
  refine ⟨c1, b2, _, _, rfl, rfl, ee1, e2, by simp only [List.length_map, List.length_append, List.length_replicate]; exact small9 (by decide), fun c2 hc2 => ?_⟩
  have kk2 := same_new hc2 (.lst ((List.replicate 15 720720 ++ List.replicate 6 26).map nV ++ ([4, 2, 8] : List Nat).map nV))
  have ee2 : (upd HZ2 c2 (.lst ((List.replicate 15 720720 ++ List.replicate 6 26).map nV ++ ([4, 2, 8] : List Nat).map nV))) c2 = some (.lst ((List.replicate 15 720720 ++ List.replicate 6 26 ++ [4, 2, 8]).map nV)) := by rw [upd_same, List.map_append (l₁ := List.replicate 15 720720 ++ List.replicate 6 26)]
  generalize upd HZ2 c2 (.lst ((List.replicate 15 720720 ++ List.replicate 6 26).map nV ++ ([4, 2, 8] : List Nat).map nV)) = HY2 at *
  refine ⟨small9 (by show 1 ≤ 1000; decide), fun a3 ha3 => ?_⟩
  refine ⟨a3, _, 6, rfl, rfl, upd_same, by decide, by decide, by decide, fun b3 hb3 => ?_⟩
  have k3 := (same_new ha3 (.lst [V.int 720720])).trans (same_new hb3 (.lst (List.replicate (6 : Int).toNat [V.int 720720]).flatten))
  have e3 : (upd (upd HY2 a3 (.lst [V.int 720720])) b3 (.lst (List.replicate (6 : Int).toNat [V.int 720720]).flatten)) b3 = some (.lst ((List.replicate 6 720720).map nV)) := by rw [upd_same]; exact congrArg (fun z => some (HO.lst z)) (rep_nV 6 720720)
  replace ee2 := k3 _ _ ee2
  generalize upd (upd HY2 a3 (.lst [V.int 720720])) b3 (.lst (List.replicate (6 : Int).toNat [V.int 720720]).flatten) = HZ3 at *
  refine ⟨c2, b3, _, _, rfl, rfl, ee2, e3, by simp only [List.length_map, List.length_append, List.length_replicate]; exact small9 (by decide), fun c3 hc3 => ?_⟩
  have kk3 := same_new hc3 (.lst ((List.replicate 15 720720 ++ List.replicate 6 26 ++ [4, 2, 8]).map nV ++ (List.replicate 6 720720 : List Nat).map nV))
  have ee3 : (upd HZ3 c3 (.lst ((List.replicate 15 720720 ++ List.replicate 6 26 ++ [4, 2, 8]).map nV ++ (List.replicate 6 720720 : List Nat).map nV))) c3 = some (.lst ((List.replicate 15 720720 ++ List.replicate 6 26 ++ [4, 2, 8] ++ List.replicate 6 720720).map nV)) := by rw [upd_same, List.map_append (l₁ := List.replicate 15 720720 ++ List.replicate 6 26 ++ [4, 2, 8])]
  generalize upd HZ3 c3 (.lst ((List.replicate 15 720720 ++ List.replicate 6 26 ++ [4, 2, 8]).map nV ++ (List.replicate 6 720720 : List Nat).map nV)) = HY3 at *
  have S9 : Same H3 HY3 := S4.trans (k0.trans (k1.trans (kk1.trans (k2.trans (kk2.trans (k3.trans (kk3)))))))
  clear S4 k0 k1 kk1 k2 kk2 k3 kk3
  have NSb : ∀ n ∈ List.replicate 15 720720 ++ List.replicate 6 26 ++ [4, 2, 8] ++ List.replicate 6 720720, 1 ≤ n ∧ n ≤ 10000000 := by decide +kernel
  refine ⟨ci, c3, List.replicate 15 720720 ++ List.replicate 6 26 ++ [4, 2, 8] ++ List.replicate 6 720720, rfl, ee3, by decide, NSb, fun xs fs HA SA hxs fl flt => ?_⟩
  replace fl : fs.length = 30 := fl
  have f7 : ∀ f ∈ fs, f ≤ 10000000 := fun f hf => by
    obtain ⟨j, hj, e⟩ := List.getElem_of_mem hf
    have hj2 : j < (List.replicate 15 720720 ++ List.replicate 6 26 ++ [4, 2, 8] ++ List.replicate 6 720720).length := by
      show j < 30
      walk_at "om"
    have hn := List.getElem?_eq_getElem hj2
    have h2 := flt j _ f hn (by rw [List.getElem?_eq_getElem hj, e])
    have h3 := (NSb _ (List.mem_of_getElem? hn)).2
    walk_at "om"
  clear NSb
  have SA3 := S9.trans SA
  have f21 : fs.getD 21 0 < 4 := flt 21 4 _ rfl (by rw [List.getD_eq_getElem?_getD, List.getElem?_eq_getElem (by walk_at "om")]; rfl)
  have f22 : fs.getD 22 0 < 2 := flt 22 2 _ rfl (by rw [List.getD_eq_getElem?_getD, List.getElem?_eq_getElem (by walk_at "om")]; rfl)
  have f23 : fs.getD 23 0 < 8 := flt 23 8 _ rfl (by rw [List.getD_eq_getElem?_getD, List.getElem?_eq_getElem (by walk_at "om")]; rfl)
  have e21 : atI (fs.map nV) 21 = some (nV (fs.getD 21 0)) := at_nV (i := 21) (by walk_at "om")
  have e22 : atI (fs.map nV) 22 = some (nV (fs.getD 22 0)) := at_nV (i := 22) (by walk_at "om")
  have e23 : atI (fs.map nV) 23 = some (nV (fs.getD 23 0)) := at_nV (i := 23) (by walk_at "om")
  generalize fs.getD 21 0 = g21 at f21 e21
  generalize fs.getD 22 0 = g22 at f22 e22
  generalize fs.getD 23 0 = g23 at f23 e23
  clear flt
  -- the letters
  refine ⟨_, rfl, _, rfl, .inl ⟨xs, _, rfl, SqL.of hxs, fun xd hxd => ?_⟩⟩
  rw [show cutV (fs.map nV) (some 15) none = (fs.drop 15).map nV from cut_from (k := 15) (by walk_at "om")]
  have nd := same_new hxd (.lst ((fs.drop 15).map nV))
  refine ⟨xd, fs.drop 15, 6, rfl, upd_same, by rw [List.length_drop]; walk_at "om", by decide, fun lt ls HB SB hlt ll lc => ?_⟩
  have SB3 := SA3.trans (nd.trans SB)
  have hxsB := (nd.trans SB) _ _ hxs
  have hltB : HB lt = some (.lst ((ls.map sgn).map V.str)) := by rw [List.map_map]; exact hlt
  have hL : Ls (ls.map sgn) := fun x hx => by
    obtain ⟨c, hc, rfl⟩ := List.mem_map.mp hx
    exact sgn_ltr (lc c hc)
  have hLl : (ls.map sgn).length = 6 := by rw [List.length_map]; exact ll
  clear hlt
  generalize ls.map sgn = L at hltB hL hLl
  -- the saying
  refine ⟨_, rfl, _, rfl, _, rfl, .inl ⟨xs, _, _, _, rfl, rfl, SqL.of hxsB, e21, _, _, rfl, rfl, _, rfl, .inl ⟨lt, _, rfl, SqL.of hltB, fun lu hlu => ?_⟩⟩⟩
  dsimp only
  rw [show cutV (L.map V.str) none (some (1 + (g21 : Int))) = (L.take (1 + g21)).map V.str by rw [show 1 + (g21 : Int) = ((1 + g21 : Nat) : Int) by walk_at "om"]; exact cut_upto]
  have nu := same_new hlu (.lst ((L.take (1 + g21)).map V.str))
  have hM : ∀ x ∈ L.take (1 + g21), x ∈ L := fun x hx => List.mem_of_mem_take hx
  have hMl : (L.take (1 + g21)).length = 1 + g21 := by rw [List.length_take]; walk_at "om"
  have hLM : Ls (L.take (1 + g21)) := fun x hx => hL x (hM x hx)
  refine ⟨xs, lu, fs, 0, 3, L.take (1 + g21), rfl, nu _ _ hxsB, upd_same, by walk_at "om", by walk_at "om", by decide, by decide, by walk_at "om", by walk_at "om", fun v s HC SC iv gv dv => ?_⟩
  have SC3 := SB3.trans (nu.trans SC)
  have hxsC := (nu.trans SC) _ _ hxsB
  have hltC := (nu.trans SC) _ _ hltB
  clear hltB hxsB hxs hxd hlu
  generalize L.take (1 + g21) = M at *
  -- the kind
  obtain ⟨k, ek, kc⟩ : ∃ k : Str, atI [V.str "least", V.str "cut"] (g22 : Int) = some (.str k) ∧ Kc k := by
    match g22, f22 with
    | 0, _ => exact ⟨"least", atI_nat (j := 0) rfl, .inl rfl⟩
    | 1, _ => exact ⟨"cut", atI_nat (j := 1) rfl, .inr rfl⟩
  refine ⟨small9 (by show 2 ≤ 1000; decide), fun kl hkl => ?_⟩
  have nk := same_new hkl (.lst [V.str "least", V.str "cut"])
  refine ⟨_, rfl, .inl ⟨xs, _, _, _, rfl, rfl, SqL.of (nk _ _ hxsC), e22, .inl ⟨kl, _, _, _, rfl, rfl, SqL.of upd_same, ek, ?_⟩⟩⟩
  refine ⟨_, rfl, .inl ⟨xs, _, _, _, rfl, rfl, SqL.of (nk _ _ hxsC), e23, _, _, rfl, rfl, ?_⟩⟩
  dsimp only
  obtain ⟨t, et, t1, t8⟩ : ∃ t : Int, 1 + (g23 : Int) = t ∧ 1 ≤ t ∧ t ≤ 8 := ⟨_, rfl, by walk_at "om", by walk_at "om"⟩
  rw [et]
  replace SC3 := SC3.trans nk
  replace iv := iv.same nk
  replace hxsC := nk _ _ hxsC
  replace hltC := nk _ _ hltC
  generalize upd HC kl (.lst [V.str "least", V.str "cut"]) = HC at *
  -- the dicts
  refine fun g hg => ?_
  have ng := same_new hg (.dK [])
  refine fun f hf => ?_
  have nf := same_new hf (.dK [])
  have gf : g ≠ f := ne_of_none upd_same hf
  refine ⟨6, rfl, by decide, by decide, ?_⟩
  refine for_range (n := 6) (fun i σ H' => (∃ x9 x10 x11, σ = [some (.ref a), some (.int ci), some (.ref xs), some (.ref lt), some v, some (.str k), some (.int t), some (.ref g), some (.ref f), x9, x10, x11]) ∧ Same HC H' ∧ Both K H' g f L t i) ⟨⟨_, _, _, rfl⟩, ng.trans nf, ⟨[], [], nf _ _ upd_same, upd_same, Nat.le_refl _, Nat.le_refl _, fun x hx => by cases hx⟩⟩ ?_ ?_
  · rintro i σ H1 hi ⟨⟨x9, x10, x11, rfl⟩, s1', ks, kf, hk, hkf, kl1, kl2, hd⟩
    have ex24 : atI (fs.map nV) (24 + (0 + (i : Int))) = some (nV (fs.getD (24 + i) 0)) := by
      rw [show 24 + (0 + (i : Int)) = ((24 + i : Nat) : Int) by walk_at "om"]
      exact at_nV (by walk_at "om")
    have e0 := Int.emod_nonneg (fs.getD (24 + i) 0 : Int) (show t + 1 ≠ 0 by walk_at "om")
    have l0 := Int.emod_lt_of_pos (fs.getD (24 + i) 0 : Int) (show 0 < t + 1 by walk_at "om")
    generalize fs.getD (24 + i) 0 = gx at ex24 e0 l0
    have hx1 : L[i]? = some L[i] := List.getElem?_eq_getElem (by walk_at "om")
    generalize L[i] = x at hx1
    have ex : atI (L.map V.str) (0 + (i : Int)) = some (.str x) := by rw [Int.zero_add]; exact at_map' hx1
    refine ⟨_, rfl, _, rfl, _, _, rfl, rfl, .inl ⟨xs, _, _, _, rfl, rfl, SqL.of (s1' _ _ hxsC), ex24, ?_⟩⟩
    refine ⟨_, rfl, _, _, rfl, rfl, _, _, rfl, rfl, (show 0 < t + 1 by walk_at "om"), ?_⟩
    refine ⟨_, rfl, _, rfl, _, rfl, .inl ⟨lt, _, _, _, rfl, rfl, SqL.of (s1' _ _ hltC), ex, ?_⟩⟩
    refine ⟨g, ks, Sum.inr x, rfl, rfl, hk, small1000 (by walk_at "om"), ?_⟩
    obtain ⟨zz, hzz⟩ : ∃ zz, (gx : Int) % (t + 1) = zz := ⟨_, rfl⟩
    dsimp only
    rw [hzz] at e0 l0 ⊢
    have T1 : Same HC (upd H1 g (.dK (putK ks (Sum.inr x) (.int zz)))) := s1'.put hg
    have hkf1 : (upd H1 g (.dK (putK ks (Sum.inr x) (.int zz)))) f = some (.dK kf) := by rw [upd_ne (Ne.symm gf)]; exact hkf
    have hkg1 : (upd H1 g (.dK (putK ks (Sum.inr x) (.int zz)))) g = some (.dK (putK ks (Sum.inr x) (.int zz))) := upd_same
    have hd1 : ∀ y ∈ L.take i, ∃ v z, valV ks (Sum.inr y) = some (.int z) ∧ 0 ≤ z ∧ z ≤ t ∧ valV kf (Sum.inr y) = some v ∧ FR K (upd H1 g (.dK (putK ks (Sum.inr x) (.int zz)))) v (Rat.divInt z t) 100 := by
      intro y hy
      obtain ⟨w, z, a', b', c', d', e'⟩ := hd y hy
      exact ⟨w, z, a', b', c', d', FR_putD e' hk⟩
    generalize upd H1 g (.dK (putK ks (Sum.inr x) (.int zz))) = H2 at *
    refine ⟨_, rfl, _, rfl, _, _, rfl, rfl, .inl ⟨xs, _, _, _, rfl, rfl, SqL.of (T1 _ _ hxsC), ex24, ?_⟩⟩
    refine ⟨_, rfl, _, _, rfl, rfl, _, _, rfl, rfl, (show 0 < t + 1 by walk_at "om"), ?_⟩
    dsimp only
    rw [hzz]
    refine ⟨_, rfl, _, _, 100, rfl, by walk_at "om", ?_, ?_, by decide, fun v' H3' s3' fv => ?_⟩
    · unfold Sz
      have : (2 : Nat) ^ 100 = 1267650600228229401496703205376 := by decide
      walk_at "om"
    · unfold Sz
      have : (2 : Nat) ^ 100 = 1267650600228229401496703205376 := by decide
      walk_at "om"
    refine ⟨_, rfl, _, rfl, _, rfl, .inl ⟨lt, _, _, _, rfl, rfl, SqL.of (s3' _ _ (T1 _ _ hltC)), ex, ?_⟩⟩
    refine ⟨f, kf, Sum.inr x, rfl, rfl, s3' _ _ hkf1, small1000 (by walk_at "om"), ⟨_, _, _, rfl⟩, (T1.trans s3').put (ng.free hf), ?_⟩
    refine Both.step (z := zz) gf hx1 (s3' _ _ hkg1) (s3' _ _ hkf1) kl1 kl2 e0 (by walk_at "om") (fun y hy => ?_) fv
    obtain ⟨w, z, a', b', c', d', e'⟩ := hd1 y hy
    exact ⟨w, z, a', b', c', d', e'.same s3'⟩
  rintro σ HD ⟨⟨x9, x10, x11, rfl⟩, SD, hb⟩
  obtain ⟨γ, igi, igr⟩ := hb.gr (by walk_at "om") t1
  replace igi := igi.sub hM
  replace igr := igr.sub hM
  replace iv := iv.same SD
  have SD3 := SC3.trans SD
  refine ⟨_, rfl, _, rfl, _, _, rfl, rfl, k, t + 1, rfl, kc, by walk_at "om", by walk_at "om", fun tv H1 s1' htv => ?_⟩
  refine ⟨_, rfl, _, rfl, tv, v, s, g, M, γ, k, t + 1, rfl, htv, kc, by walk_at "om", by walk_at "om", iv.same s1', gv, hLM, igi.same s1', by walk_at "om", fun H2 s2' => ?_⟩
  have S2 := s1'.trans s2'
  refine ⟨_, rfl, _, rfl, _, rfl, k, v, s, f, M, _, rfl, kc.kd, iv.same S2, gv, hLM, igr.same S2, by walk_at "om", fun p H3' s3' hp3 f3 => ?_⟩
  have S3' := S2.trans s3'
  obtain ⟨gi0, gi1, gie⟩ := gi_gr kc (show 2 ≤ t + 1 by walk_at "om") (show t + 1 ≤ 9 by walk_at "om") (fun x hx => by obtain ⟨kvs, _, h⟩ := igi; exact (h x hx).2) gv
  rw [show t + 1 - 1 = t by walk_at "om"] at gie
  refine ⟨_, rfl, _, _, _, true, rfl, .int _, kit_same "int", _, rfl, iteF ?_⟩
  refine ⟨_, rfl, _, rfl, _, _, 100, rfl, by walk_at "om", ?_, ?_, by decide, fun u H4' s4' f4 => ?_⟩
  · unfold Sz
    have : (2 : Nat) ^ 100 = 1267650600228229401496703205376 := by decide
    walk_at "om"
  · unfold Sz
    have : (2 : Nat) ^ 100 = 1267650600228229401496703205376 := by decide
    walk_at "om"
  rw [gie] at f4
  obtain ⟨pu, rfl, hpu, _, _⟩ := f4
  refine ⟨_, rfl, pu, p, _, _, rfl, rfl, hpu, SqT.of (s4' _ _ hp3), rfl, rfl, rfl, _, rfl, neT rfl ?_⟩
  refine ⟨_, rfl, _, rfl, _, rfl, _, rfl, k, v, s, f, M, _, rfl, kc.kd, iv.same (S3'.trans s4'), gv, hLM, igr.same (S3'.trans s4'), (show s.dp ≤ 5 by walk_at "om"), by walk_at "om", fun w H5' s5' f5 => ?_⟩
  obtain ⟨pw, rfl, hpw, _, _⟩ := f5
  refine ⟨p, pw, _, _, rfl, rfl, SqT.of (s5' _ _ (s4' _ _ hp3)), hpw, rfl, rfl, rfl, _, rfl, neT rfl ?_⟩
  exact ⟨⟨_, _, _, _, _, _, _, _, _, _, _, rfl⟩, SD3.trans (S3'.trans (s4'.trans s5'))⟩

theorem lenK1 {α : Type} : ∀ {us : List α}, us.length = 1 → ∃ x0, us = [x0]
  | [x0], _ => ⟨x0, rfl⟩
theorem lenK2 {α : Type} : ∀ {us : List α}, us.length = 2 → ∃ x0 x1, us = [x0, x1]
  | [x0, x1], _ => ⟨x0, x1, rfl⟩
theorem lenK3 {α : Type} : ∀ {us : List α}, us.length = 3 → ∃ x0 x1 x2, us = [x0, x1, x2]
  | [x0, x1, x2], _ => ⟨x0, x1, x2, rfl⟩
theorem lenK4 {α : Type} : ∀ {us : List α}, us.length = 4 → ∃ x0 x1 x2 x3, us = [x0, x1, x2, x3]
  | [x0, x1, x2, x3], _ => ⟨x0, x1, x2, x3, rfl⟩
theorem all_mk {l : PySem.W.OpenLaw} {w : World} {K : PySem.W.Frag} {h : Heap} {mg : Str → Option Value} {fa f0 f1 f2 f3 f4 f5 f6 f7 f8 f9 f10 f11 f12 f13 f14 f15 f16 f17 f18 f19 f20 f21 f22 f23 f24 f25 f26 f27 f28 f29 f30 f31 f32 f33 f34 f35 : Addr} (X : K.In h) (G : h.Ns mainGlobals mg) (hfa : mg "law" = some (.ref fa))
    {od0 an0 od1 an1 od2 an2 od3 an3 od4 an4 od5 an5 od6 an6 od7 an7 od8 an8 od9 an9 od10 an10 od11 an11 od12 an12 od13 an13 od14 an14 od15 an15 od16 an16 od17 an17 od18 an18 od19 an19 od20 an20 od21 an21 od22 an22 od23 an23 od24 an24 od25 an25 od26 an26 od27 an27 od28 an28 od29 an29 od30 an30 od31 an31 od32 an32 od33 an33 od34 an34 od35 an35 : Option Addr} {sl0 sl1 sl2 sl3 sl4 sl5 sl6 sl7 sl8 sl9 sl10 sl11 sl12 sl13 sl14 sl15 sl16 sl17 sl18 sl19 sl20 sl21 sl22 sl23 sl24 sl25 sl26 sl27 sl28 sl29 sl30 sl31 sl32 sl33 sl34 sl35 : Array (Option Value)} {oc0 kV0 dc0 pm0 cd0 ct0 oc1 kV1 dc1 pm1 cd1 ct1 oc2 kV2 dc2 pm2 cd2 ct2 oc3 kV3 dc3 pm3 cd3 ct3 oc4 kV4 dc4 pm4 cd4 ct4 oc5 kV5 dc5 pm5 cd5 ct5 oc6 kV6 dc6 pm6 cd6 ct6 oc7 kV7 dc7 pm7 cd7 ct7 oc8 kV8 dc8 pm8 cd8 ct8 oc9 kV9 dc9 pm9 cd9 ct9 oc10 kV10 dc10 pm10 cd10 ct10 oc11 kV11 dc11 pm11 cd11 ct11 oc12 kV12 dc12 pm12 cd12 ct12 oc13 kV13 dc13 pm13 cd13 ct13 oc14 kV14 dc14 pm14 cd14 ct14 oc15 kV15 dc15 pm15 cd15 ct15 oc16 kV16 dc16 pm16 cd16 ct16 oc17 kV17 dc17 pm17 cd17 ct17 oc18 kV18 dc18 pm18 cd18 ct18 oc19 kV19 dc19 pm19 cd19 ct19 oc20 kV20 dc20 pm20 cd20 ct20 oc21 kV21 dc21 pm21 cd21 ct21 oc22 kV22 dc22 pm22 cd22 ct22 oc23 kV23 dc23 pm23 cd23 ct23 oc24 kV24 dc24 pm24 cd24 ct24 oc25 kV25 dc25 pm25 cd25 ct25 oc26 kV26 dc26 pm26 cd26 ct26 oc27 kV27 dc27 pm27 cd27 ct27 oc28 kV28 dc28 pm28 cd28 ct28 oc29 kV29 dc29 pm29 cd29 ct29 oc30 kV30 dc30 pm30 cd30 ct30 oc31 kV31 dc31 pm31 cd31 ct31 oc32 kV32 dc32 pm32 cd32 ct32 oc33 kV33 dc33 pm33 cd33 ct33 oc34 kV34 dc34 pm34 cd34 ct34 oc35 kV35 dc35 pm35 cd35 ct35 : Value}
    (a0 : PySem.W.nsIn K mainGlobals "is_whole" = some (some (.ref f0))) (l0 : K.lookup f0 = some ⟨oc0, od0, .func (PySem.W.fnOf "is_whole" "is_whole" (defArgs s_is_whole) (defBody s_is_whole) (defScope s_is_whole) .none kV0 dc0 pm0 an0 cd0 ct0), sl0⟩) (c0 : PySem.W.codeIn K cd0 "is_whole" = true) (k0 : PySem.W.keepIn K (.ref f0) = true)
    (a1 : PySem.W.nsIn K mainGlobals "shared_part" = some (some (.ref f1))) (l1 : K.lookup f1 = some ⟨oc1, od1, .func (PySem.W.fnOf "shared_part" "shared_part" (defArgs s_shared_part) (defBody s_shared_part) (defScope s_shared_part) .none kV1 dc1 pm1 an1 cd1 ct1), sl1⟩) (c1 : PySem.W.codeIn K cd1 "shared_part" = true) (k1 : PySem.W.keepIn K (.ref f1) = true)
    (a2 : PySem.W.nsIn K mainGlobals "fraction" = some (some (.ref f2))) (l2 : K.lookup f2 = some ⟨oc2, od2, .func (PySem.W.fnOf "fraction" "fraction" (defArgs s_fraction) (defBody s_fraction) (defScope s_fraction) .none kV2 dc2 pm2 an2 cd2 ct2), sl2⟩) (c2 : PySem.W.codeIn K cd2 "fraction" = true) (k2 : PySem.W.keepIn K (.ref f2) = true)
    (a3 : PySem.W.nsIn K mainGlobals "plus" = some (some (.ref f3))) (l3 : K.lookup f3 = some ⟨oc3, od3, .func (PySem.W.fnOf "plus" "plus" (defArgs s_plus) (defBody s_plus) (defScope s_plus) .none kV3 dc3 pm3 an3 cd3 ct3), sl3⟩) (c3 : PySem.W.codeIn K cd3 "plus" = true) (k3 : PySem.W.keepIn K (.ref f3) = true)
    (a4 : PySem.W.nsIn K mainGlobals "minus" = some (some (.ref f4))) (l4 : K.lookup f4 = some ⟨oc4, od4, .func (PySem.W.fnOf "minus" "minus" (defArgs s_minus) (defBody s_minus) (defScope s_minus) .none kV4 dc4 pm4 an4 cd4 ct4), sl4⟩) (c4 : PySem.W.codeIn K cd4 "minus" = true) (k4 : PySem.W.keepIn K (.ref f4) = true)
    (a5 : PySem.W.nsIn K mainGlobals "times" = some (some (.ref f5))) (l5 : K.lookup f5 = some ⟨oc5, od5, .func (PySem.W.fnOf "times" "times" (defArgs s_times) (defBody s_times) (defScope s_times) .none kV5 dc5 pm5 an5 cd5 ct5), sl5⟩) (c5 : PySem.W.codeIn K cd5 "times" = true) (k5 : PySem.W.keepIn K (.ref f5) = true)
    (a6 : PySem.W.nsIn K mainGlobals "over" = some (some (.ref f6))) (l6 : K.lookup f6 = some ⟨oc6, od6, .func (PySem.W.fnOf "over" "over" (defArgs s_over) (defBody s_over) (defScope s_over) .none kV6 dc6 pm6 an6 cd6 ct6), sl6⟩) (c6 : PySem.W.codeIn K cd6 "over" = true) (k6 : PySem.W.keepIn K (.ref f6) = true)
    (a7 : PySem.W.nsIn K mainGlobals "below" = some (some (.ref f7))) (l7 : K.lookup f7 = some ⟨oc7, od7, .func (PySem.W.fnOf "below" "below" (defArgs s_below) (defBody s_below) (defScope s_below) .none kV7 dc7 pm7 an7 cd7 ct7), sl7⟩) (c7 : PySem.W.codeIn K cd7 "below" = true) (k7 : PySem.W.keepIn K (.ref f7) = true)
    (a8 : PySem.W.nsIn K mainGlobals "lesser" = some (some (.ref f8))) (l8 : K.lookup f8 = some ⟨oc8, od8, .func (PySem.W.fnOf "lesser" "lesser" (defArgs s_lesser) (defBody s_lesser) (defScope s_lesser) .none kV8 dc8 pm8 an8 cd8 ct8), sl8⟩) (c8 : PySem.W.codeIn K cd8 "lesser" = true) (k8 : PySem.W.keepIn K (.ref f8) = true)
    (a9 : PySem.W.nsIn K mainGlobals "greater" = some (some (.ref f9))) (l9 : K.lookup f9 = some ⟨oc9, od9, .func (PySem.W.fnOf "greater" "greater" (defArgs s_greater) (defBody s_greater) (defScope s_greater) .none kV9 dc9 pm9 an9 cd9 ct9), sl9⟩) (c9 : PySem.W.codeIn K cd9 "greater" = true) (k9 : PySem.W.keepIn K (.ref f9) = true)
    (a10 : PySem.W.nsIn K mainGlobals "connected_then" = some (some (.ref f10))) (l10 : K.lookup f10 = some ⟨oc10, od10, .func (PySem.W.fnOf "connected_then" "connected_then" (defArgs s_connected_then) (defBody s_connected_then) (defScope s_connected_then) .none kV10 dc10 pm10 an10 cd10 ct10), sl10⟩) (c10 : PySem.W.codeIn K cd10 "connected_then" = true) (k10 : PySem.W.keepIn K (.ref f10) = true)
    (a11 : PySem.W.nsIn K mainGlobals "connected_with" = some (some (.ref f11))) (l11 : K.lookup f11 = some ⟨oc11, od11, .func (PySem.W.fnOf "connected_with" "connected_with" (defArgs s_connected_with) (defBody s_connected_with) (defScope s_connected_with) .none kV11 dc11 pm11 an11 cd11 ct11), sl11⟩) (c11 : PySem.W.codeIn K cd11 "connected_with" = true) (k11 : PySem.W.keepIn K (.ref f11) = true)
    (a12 : PySem.W.nsIn K mainGlobals "connected" = some (some (.ref f12))) (l12 : K.lookup f12 = some ⟨oc12, od12, .func (PySem.W.fnOf "connected" "connected" (defArgs s_connected) (defBody s_connected) (defScope s_connected) .none kV12 dc12 pm12 an12 cd12 ct12), sl12⟩) (c12 : PySem.W.codeIn K cd12 "connected" = true) (k12 : PySem.W.keepIn K (.ref f12) = true)
    (a13 : PySem.W.nsIn K mainGlobals "has_small_letters_alone" = some (some (.ref f13))) (l13 : K.lookup f13 = some ⟨oc13, od13, .func (PySem.W.fnOf "has_small_letters_alone" "has_small_letters_alone" (defArgs s_has_small_letters_alone) (defBody s_has_small_letters_alone) (defScope s_has_small_letters_alone) .none kV13 dc13 pm13 an13 cd13 ct13), sl13⟩) (c13 : PySem.W.codeIn K cd13 "has_small_letters_alone" = true) (k13 : PySem.W.keepIn K (.ref f13) = true)
    (a14 : PySem.W.nsIn K mainGlobals "is_letter" = some (some (.ref f14))) (l14 : K.lookup f14 = some ⟨oc14, od14, .func (PySem.W.fnOf "is_letter" "is_letter" (defArgs s_is_letter) (defBody s_is_letter) (defScope s_is_letter) .none kV14 dc14 pm14 an14 cd14 ct14), sl14⟩) (c14 : PySem.W.codeIn K cd14 "is_letter" = true) (k14 : PySem.W.keepIn K (.ref f14) = true)
    (a15 : PySem.W.nsIn K mainGlobals "check_kind" = some (some (.ref f15))) (l15 : K.lookup f15 = some ⟨oc15, od15, .func (PySem.W.fnOf "check_kind" "check_kind" (defArgs s_check_kind) (defBody s_check_kind) (defScope s_check_kind) .none kV15 dc15 pm15 an15 cd15 ct15), sl15⟩) (c15 : PySem.W.codeIn K cd15 "check_kind" = true) (k15 : PySem.W.keepIn K (.ref f15) = true)
    (a16 : PySem.W.nsIn K mainGlobals "written_parts" = some (some (.ref f16))) (l16 : K.lookup f16 = some ⟨oc16, od16, .func (PySem.W.fnOf "written_parts" "written_parts" (defArgs s_written_parts) (defBody s_written_parts) (defScope s_written_parts) .none kV16 dc16 pm16 an16 cd16 ct16), sl16⟩) (c16 : PySem.W.codeIn K cd16 "written_parts" = true) (k16 : PySem.W.keepIn K (.ref f16) = true)
    (a17 : PySem.W.nsIn K mainGlobals "check_names" = some (some (.ref f17))) (l17 : K.lookup f17 = some ⟨oc17, od17, .func (PySem.W.fnOf "check_names" "check_names" (defArgs s_check_names) (defBody s_check_names) (defScope s_check_names) .none kV17 dc17 pm17 an17 cd17 ct17), sl17⟩) (c17 : PySem.W.codeIn K cd17 "check_names" = true) (k17 : PySem.W.keepIn K (.ref f17) = true)
    (a18 : PySem.W.nsIn K mainGlobals "check_letters" = some (some (.ref f18))) (l18 : K.lookup f18 = some ⟨oc18, od18, .func (PySem.W.fnOf "check_letters" "check_letters" (defArgs s_check_letters) (defBody s_check_letters) (defScope s_check_letters) .none kV18 dc18 pm18 an18 cd18 ct18), sl18⟩) (c18 : PySem.W.codeIn K cd18 "check_letters" = true) (k18 : PySem.W.keepIn K (.ref f18) = true)
    (a19 : PySem.W.nsIn K mainGlobals "graded" = some (some (.ref f19))) (l19 : K.lookup f19 = some ⟨oc19, od19, .func (PySem.W.fnOf "graded" "graded" (defArgs s_graded) (defBody s_graded) (defScope s_graded) .none kV19 dc19 pm19 an19 cd19 ct19), sl19⟩) (c19 : PySem.W.codeIn K cd19 "graded" = true) (k19 : PySem.W.keepIn K (.ref f19) = true)
    (a20 : PySem.W.nsIn K mainGlobals "grade_by" = some (some (.ref f20))) (l20 : K.lookup f20 = some ⟨oc20, od20, .func (PySem.W.fnOf "grade_by" "grade_by" (defArgs s_grade_by) (defBody s_grade_by) (defScope s_grade_by) .none kV20 dc20 pm20 an20 cd20 ct20), sl20⟩) (c20 : PySem.W.codeIn K cd20 "grade_by" = true) (k20 : PySem.W.keepIn K (.ref f20) = true)
    (a21 : PySem.W.nsIn K mainGlobals "power" = some (some (.ref f21))) (l21 : K.lookup f21 = some ⟨oc21, od21, .func (PySem.W.fnOf "power" "power" (defArgs s_power) (defBody s_power) (defScope s_power) .none kV21 dc21 pm21 an21 cd21 ct21), sl21⟩) (c21 : PySem.W.codeIn K cd21 "power" = true) (k21 : PySem.W.keepIn K (.ref f21) = true)
    (a22 : PySem.W.nsIn K mainGlobals "grades_at" = some (some (.ref f22))) (l22 : K.lookup f22 = some ⟨oc22, od22, .func (PySem.W.fnOf "grades_at" "grades_at" (defArgs s_grades_at) (defBody s_grades_at) (defScope s_grades_at) .none kV22 dc22 pm22 an22 cd22 ct22), sl22⟩) (c22 : PySem.W.codeIn K cd22 "grades_at" = true) (k22 : PySem.W.keepIn K (.ref f22) = true)
    (a23 : PySem.W.nsIn K mainGlobals "chain_cells" = some (some (.ref f23))) (l23 : K.lookup f23 = some ⟨oc23, od23, .func (PySem.W.fnOf "chain_cells" "chain_cells" (defArgs s_chain_cells) (defBody s_chain_cells) (defScope s_chain_cells) .none kV23 dc23 pm23 an23 cd23 ct23), sl23⟩) (c23 : PySem.W.codeIn K cd23 "chain_cells" = true) (k23 : PySem.W.keepIn K (.ref f23) = true)
    (a24 : PySem.W.nsIn K mainGlobals "chain" = some (some (.ref f24))) (l24 : K.lookup f24 = some ⟨oc24, od24, .func (PySem.W.fnOf "chain" "chain" (defArgs s_chain) (defBody s_chain) (defScope s_chain) .none kV24 dc24 pm24 an24 cd24 ct24), sl24⟩) (c24 : PySem.W.codeIn K cd24 "chain" = true) (k24 : PySem.W.keepIn K (.ref f24) = true)
    (a25 : PySem.W.nsIn K mainGlobals "cells_by_name" = some (some (.ref f25))) (l25 : K.lookup f25 = some ⟨oc25, od25, .func (PySem.W.fnOf "cells_by_name" "cells_by_name" (defArgs s_cells_by_name) (defBody s_cells_by_name) (defScope s_cells_by_name) .none kV25 dc25 pm25 an25 cd25 ct25), sl25⟩) (c25 : PySem.W.codeIn K cd25 "cells_by_name" = true) (k25 : PySem.W.keepIn K (.ref f25) = true)
    (a26 : PySem.W.nsIn K mainGlobals "grade_within" = some (some (.ref f26))) (l26 : K.lookup f26 = some ⟨oc26, od26, .func (PySem.W.fnOf "grade_within" "grade_within" (defArgs s_grade_within) (defBody s_grade_within) (defScope s_grade_within) .none kV26 dc26 pm26 an26 cd26 ct26), sl26⟩) (c26 : PySem.W.codeIn K cd26 "grade_within" = true) (k26 : PySem.W.keepIn K (.ref f26) = true)
    (a27 : PySem.W.nsIn K mainGlobals "grade" = some (some (.ref f27))) (l27 : K.lookup f27 = some ⟨oc27, od27, .func (PySem.W.fnOf "grade" "grade" (defArgs s_grade) (defBody s_grade) (defScope s_grade) .none kV27 dc27 pm27 an27 cd27 ct27), sl27⟩) (c27 : PySem.W.codeIn K cd27 "grade" = true) (k27 : PySem.W.keepIn K (.ref f27) = true)
    (a28 : PySem.W.nsIn K mainGlobals "_law_parts" = some (some (.ref f28))) (l28 : K.lookup f28 = some ⟨oc28, od28, .func (PySem.W.fnOf "_law_parts" "_law_parts" (defArgs s_law_parts) (defBody s_law_parts) (defScope s_law_parts) .none kV28 dc28 pm28 an28 cd28 ct28), sl28⟩) (c28 : PySem.W.codeIn K cd28 "_law_parts" = true) (k28 : PySem.W.keepIn K (.ref f28) = true)
    (a29 : PySem.W.nsIn K mainGlobals "_law_letters" = some (some (.ref f29))) (l29 : K.lookup f29 = some ⟨oc29, od29, .func (PySem.W.fnOf "_law_letters" "_law_letters" (defArgs s_law_letters) (defBody s_law_letters) (defScope s_law_letters) .none kV29 dc29 pm29 an29 cd29 ct29), sl29⟩) (c29 : PySem.W.codeIn K cd29 "_law_letters" = true) (k29 : PySem.W.keepIn K (.ref f29) = true)
    (a30 : PySem.W.nsIn K mainGlobals "_law_saying" = some (some (.ref f30))) (l30 : K.lookup f30 = some ⟨oc30, od30, .func (PySem.W.fnOf "_law_saying" "_law_saying" (defArgs s_law_saying) (defBody s_law_saying) (defScope s_law_saying) .none kV30 dc30 pm30 an30 cd30 ct30), sl30⟩) (c30 : PySem.W.codeIn K cd30 "_law_saying" = true) (k30 : PySem.W.keepIn K (.ref f30) = true)
    (a31 : PySem.W.nsIn K mainGlobals "_law_low" = some (some (.ref f31))) (l31 : K.lookup f31 = some ⟨oc31, od31, .func (PySem.W.fnOf "_law_low" "_law_low" (defArgs s_law_low) (defBody s_law_low) (defScope s_law_low) .none kV31 dc31 pm31 an31 cd31 ct31), sl31⟩) (c31 : PySem.W.codeIn K cd31 "_law_low" = true) (k31 : PySem.W.keepIn K (.ref f31) = true)
    (a32 : PySem.W.nsIn K mainGlobals "_law_less" = some (some (.ref f32))) (l32 : K.lookup f32 = some ⟨oc32, od32, .func (PySem.W.fnOf "_law_less" "_law_less" (defArgs s_law_less) (defBody s_law_less) (defScope s_law_less) .none kV32 dc32 pm32 an32 cd32 ct32), sl32⟩) (c32 : PySem.W.codeIn K cd32 "_law_less" = true) (k32 : PySem.W.keepIn K (.ref f32) = true)
    (a33 : PySem.W.nsIn K mainGlobals "_law_joined" = some (some (.ref f33))) (l33 : K.lookup f33 = some ⟨oc33, od33, .func (PySem.W.fnOf "_law_joined" "_law_joined" (defArgs s_law_joined) (defBody s_law_joined) (defScope s_law_joined) .none kV33 dc33 pm33 an33 cd33 ct33), sl33⟩) (c33 : PySem.W.codeIn K cd33 "_law_joined" = true) (k33 : PySem.W.keepIn K (.ref f33) = true)
    (a34 : PySem.W.nsIn K mainGlobals "_law_grade" = some (some (.ref f34))) (l34 : K.lookup f34 = some ⟨oc34, od34, .func (PySem.W.fnOf "_law_grade" "_law_grade" (defArgs s_law_grade) (defBody s_law_grade) (defScope s_law_grade) .none kV34 dc34 pm34 an34 cd34 ct34), sl34⟩) (c34 : PySem.W.codeIn K cd34 "_law_grade" = true) (k34 : PySem.W.keepIn K (.ref f34) = true)
    (a35 : PySem.W.nsIn K mainGlobals "law" = some (some (.ref f35))) (l35 : K.lookup f35 = some ⟨oc35, od35, .func (PySem.W.fnOf "law" "law" (defArgs s_law) (defBody s_law) (defScope s_law) .none kV35 dc35 pm35 an35 cd35 ct35), sl35⟩) (c35 : PySem.W.codeIn K cd35 "law" = true) (k35 : PySem.W.keepIn K (.ref f35) = true)
    (z0 : PySem.W.nsIn K mainGlobals "abs" = some none)
    (z1 : PySem.W.nsIn K mainGlobals "range" = some none)
    (z2 : PySem.W.nsIn K mainGlobals "tuple" = some none)
    (z3 : PySem.W.nsIn K mainGlobals "list" = some none)
    (z4 : PySem.W.nsIn K mainGlobals "isinstance" = some none)
    (z5 : PySem.W.nsIn K mainGlobals "int" = some none)
    (z6 : PySem.W.nsIn K mainGlobals "bool" = some none)
    (z7 : PySem.W.nsIn K mainGlobals "len" = some none)
    (z8 : PySem.W.nsIn K mainGlobals "str" = some none)
    (z9 : PySem.W.nsIn K mainGlobals "all" = some none)
    (z10 : PySem.W.nsIn K mainGlobals "reversed" = some none)
    (z11 : PySem.W.nsIn K mainGlobals "max" = some none)
    (z12 : PySem.W.nsIn K mainGlobals "dict" = some none)
    {yt0 : Tok} (y0 : PySem.W.nsIn K mainGlobals "MOST_GRADES" = some (some (.int 9 yt0)))
    {yt1 : Tok} (y1 : PySem.W.nsIn K mainGlobals "LEAST_STEPS" = some (some (.int 2 yt1)))
    (g0 : PySem.W.nsIn K mainGlobals "GradeError" = some (some (.ref cc0)))
    (g1 : PySem.W.nsIn K mainGlobals "NoFraction" = some (some (.ref cc1)))
    (g2 : PySem.W.nsIn K mainGlobals "NoName" = some (some (.ref cc2)))
    (g3 : PySem.W.nsIn K mainGlobals "NoKind" = some (some (.ref cc3)))
    (g4 : PySem.W.nsIn K mainGlobals "NoLetter" = some (some (.ref cc4)))
    (g5 : PySem.W.nsIn K mainGlobals "KINDS" = some (some (.ref cc5)))
    (g6 : PySem.W.nsIn K mainGlobals "SHAPES" = some (some (.ref cc6)))
    (g7 : PySem.W.nsIn K mainGlobals "NOUGHT" = some (some (.ref cc7)))
    (g8 : PySem.W.nsIn K mainGlobals "ONE" = some (some (.ref cc8)))
    (w0 : PySem.W.excIn K cc1 [.type "ValueError", .type "Exception", .type "BaseException", .type "object"] "ValueError.__new__" = true)
    {q0_d : Option Addr} {q0_n : Nat} {q0_s : Array (Option Value)} {q0_k0 q0_k1 q0_k2 : Tok}  (q0_h : K.lookup cc5 = some ⟨.type "tuple", q0_d, .seq #[(.str "least" q0_k0), (.str "cut" q0_k1), (.str "times" q0_k2)] q0_n, q0_s⟩)
    {q1_d : Option Addr} {q1_n : Nat} {q1_s : Array (Option Value)} {q1_a0 q1_a1 q1_a2 q1_a3 q1_a4 q1_a5 q1_a6 : Addr} (q1_h : K.lookup cc6 = some ⟨.type "tuple", q1_d, .seq #[(.ref q1_a0), (.ref q1_a1), (.ref q1_a2), (.ref q1_a3), (.ref q1_a4), (.ref q1_a5), (.ref q1_a6)] q1_n, q1_s⟩)
    {q1_0_d : Option Addr} {q1_0_n : Nat} {q1_0_s : Array (Option Value)} {q1_0_k0 q1_0_k1 : Tok}  (q1_0_h : K.lookup q1_a0 = some ⟨.type "tuple", q1_0_d, .seq #[(.str "and" q1_0_k0), (.int 2 q1_0_k1)] q1_0_n, q1_0_s⟩)
    {q1_1_d : Option Addr} {q1_1_n : Nat} {q1_1_s : Array (Option Value)} {q1_1_k0 q1_1_k1 : Tok}  (q1_1_h : K.lookup q1_a1 = some ⟨.type "tuple", q1_1_d, .seq #[(.str "or" q1_1_k0), (.int 2 q1_1_k1)] q1_1_n, q1_1_s⟩)
    {q1_2_d : Option Addr} {q1_2_n : Nat} {q1_2_s : Array (Option Value)} {q1_2_k0 q1_2_k1 : Tok}  (q1_2_h : K.lookup q1_a2 = some ⟨.type "tuple", q1_2_d, .seq #[(.str "then" q1_2_k0), (.int 2 q1_2_k1)] q1_2_n, q1_2_s⟩)
    {q1_3_d : Option Addr} {q1_3_n : Nat} {q1_3_s : Array (Option Value)} {q1_3_k0 q1_3_k1 : Tok}  (q1_3_h : K.lookup q1_a3 = some ⟨.type "tuple", q1_3_d, .seq #[(.str "with" q1_3_k0), (.int 2 q1_3_k1)] q1_3_n, q1_3_s⟩)
    {q1_4_d : Option Addr} {q1_4_n : Nat} {q1_4_s : Array (Option Value)} {q1_4_k0 q1_4_k1 : Tok}  (q1_4_h : K.lookup q1_a4 = some ⟨.type "tuple", q1_4_d, .seq #[(.str "not" q1_4_k0), (.int 1 q1_4_k1)] q1_4_n, q1_4_s⟩)
    {q1_5_d : Option Addr} {q1_5_n : Nat} {q1_5_s : Array (Option Value)} {q1_5_k0 q1_5_k1 : Tok}  (q1_5_h : K.lookup q1_a5 = some ⟨.type "tuple", q1_5_d, .seq #[(.str "false" q1_5_k0), (.int 0 q1_5_k1)] q1_5_n, q1_5_s⟩)
    {q1_6_d : Option Addr} {q1_6_n : Nat} {q1_6_s : Array (Option Value)} {q1_6_k0 q1_6_k1 : Tok}  (q1_6_h : K.lookup q1_a6 = some ⟨.type "tuple", q1_6_d, .seq #[(.str "true" q1_6_k0), (.int 0 q1_6_k1)] q1_6_n, q1_6_s⟩)
    {q2_d : Option Addr} {q2_n : Nat} {q2_s : Array (Option Value)} {q2_k0 q2_k1 : Tok}  (q2_h : K.lookup cc7 = some ⟨.type "tuple", q2_d, .seq #[(.int 0 q2_k0), (.int 1 q2_k1)] q2_n, q2_s⟩)
    {q3_d : Option Addr} {q3_n : Nat} {q3_s : Array (Option Value)} {q3_k0 q3_k1 : Tok}  (q3_h : K.lookup cc8 = some ⟨.type "tuple", q3_d, .seq #[(.int 1 q3_k0), (.int 1 q3_k1)] q3_n, q3_s⟩)
    : ∃ fd : FuncData, (∀ (s : Shared) (v : Value), BindsTo s fd ⟨[v], []⟩ [("_law_script", v)]) ∧ ∀ base : Heap, K.In base → base.Ns mainGlobals mg → FnOk l.prog w K mg base CX0 15 fa fd ["_law_script"] (spLaw K) := by
  have e := hfa.symm.trans (PySem.W.mg_of X G a35)
  cases e
  have F0 := fun_mk (st := s_is_whole) l0 c0 k0
  have b0 := F0.binds (ps := ["thing"]) fun _ _ _ _ _ _ us hl => by obtain ⟨z0_, rfl⟩ := lenK1 hl; rfl
  have F1 := fun_mk (st := s_shared_part) l1 c1 k1
  have b1 := F1.binds (ps := ["one", "other"]) fun _ _ _ _ _ _ us hl => by obtain ⟨z0_, z1_, rfl⟩ := lenK2 hl; rfl
  have F2 := fun_mk (st := s_fraction) l2 c2 k2
  have b2 := F2.binds (ps := ["top", "bottom"]) fun _ _ _ _ _ _ us hl => by obtain ⟨z0_, z1_, rfl⟩ := lenK2 hl; rfl
  have F3 := fun_mk (st := s_plus) l3 c3 k3
  have b3 := F3.binds (ps := ["a", "b"]) fun _ _ _ _ _ _ us hl => by obtain ⟨z0_, z1_, rfl⟩ := lenK2 hl; rfl
  have F4 := fun_mk (st := s_minus) l4 c4 k4
  have b4 := F4.binds (ps := ["a", "b"]) fun _ _ _ _ _ _ us hl => by obtain ⟨z0_, z1_, rfl⟩ := lenK2 hl; rfl
  have F5 := fun_mk (st := s_times) l5 c5 k5
  have b5 := F5.binds (ps := ["a", "b"]) fun _ _ _ _ _ _ us hl => by obtain ⟨z0_, z1_, rfl⟩ := lenK2 hl; rfl
  have F6 := fun_mk (st := s_over) l6 c6 k6
  have b6 := F6.binds (ps := ["a", "b"]) fun _ _ _ _ _ _ us hl => by obtain ⟨z0_, z1_, rfl⟩ := lenK2 hl; rfl
  have F7 := fun_mk (st := s_below) l7 c7 k7
  have b7 := F7.binds (ps := ["a", "b"]) fun _ _ _ _ _ _ us hl => by obtain ⟨z0_, z1_, rfl⟩ := lenK2 hl; rfl
  have F8 := fun_mk (st := s_lesser) l8 c8 k8
  have b8 := F8.binds (ps := ["a", "b"]) fun _ _ _ _ _ _ us hl => by obtain ⟨z0_, z1_, rfl⟩ := lenK2 hl; rfl
  have F9 := fun_mk (st := s_greater) l9 c9 k9
  have b9 := F9.binds (ps := ["a", "b"]) fun _ _ _ _ _ _ us hl => by obtain ⟨z0_, z1_, rfl⟩ := lenK2 hl; rfl
  have F10 := fun_mk (st := s_connected_then) l10 c10 k10
  have b10 := F10.binds (ps := ["kind", "a", "b"]) fun _ _ _ _ _ _ us hl => by obtain ⟨z0_, z1_, z2_, rfl⟩ := lenK3 hl; rfl
  have F11 := fun_mk (st := s_connected_with) l11 c11 k11
  have b11 := F11.binds (ps := ["kind", "a", "b"]) fun _ _ _ _ _ _ us hl => by obtain ⟨z0_, z1_, z2_, rfl⟩ := lenK3 hl; rfl
  have F12 := fun_mk (st := s_connected) l12 c12 k12
  have b12 := F12.binds (ps := ["kind", "name", "grades"]) fun _ _ _ _ _ _ us hl => by obtain ⟨z0_, z1_, z2_, rfl⟩ := lenK3 hl; rfl
  have F13 := fun_mk (st := s_has_small_letters_alone) l13 c13 k13
  have b13 := F13.binds (ps := ["text"]) fun _ _ _ _ _ _ us hl => by obtain ⟨z0_, rfl⟩ := lenK1 hl; rfl
  have F14 := fun_mk (st := s_is_letter) l14 c14 k14
  have b14 := F14.binds (ps := ["thing"]) fun _ _ _ _ _ _ us hl => by obtain ⟨z0_, rfl⟩ := lenK1 hl; rfl
  have F15 := fun_mk (st := s_check_kind) l15 c15 k15
  have b15 := F15.binds (ps := ["kind"]) fun _ _ _ _ _ _ us hl => by obtain ⟨z0_, rfl⟩ := lenK1 hl; rfl
  have F16 := fun_mk (st := s_written_parts) l16 c16 k16
  have b16 := F16.binds (ps := ["S"]) fun _ _ _ _ _ _ us hl => by obtain ⟨z0_, rfl⟩ := lenK1 hl; rfl
  have F17 := fun_mk (st := s_check_names) l17 c17 k17
  have b17 := F17.binds (ps := ["shapes", "parts"]) fun _ _ _ _ _ _ us hl => by obtain ⟨z0_, z1_, rfl⟩ := lenK2 hl; rfl
  have F18 := fun_mk (st := s_check_letters) l18 c18 k18
  have b18 := F18.binds (ps := ["parts", "known"]) fun _ _ _ _ _ _ us hl => by obtain ⟨z0_, z1_, rfl⟩ := lenK2 hl; rfl
  have F19 := fun_mk (st := s_graded) l19 c19 k19
  have b19 := F19.binds (ps := ["kind", "S", "grading"]) fun _ _ _ _ _ _ us hl => by obtain ⟨z0_, z1_, z2_, rfl⟩ := lenK3 hl; rfl
  have F20 := fun_mk (st := s_grade_by) l20 c20 k20
  have b20 := F20.binds (ps := ["kind", "S", "grading"]) fun _ _ _ _ _ _ us hl => by obtain ⟨z0_, z1_, z2_, rfl⟩ := lenK3 hl; rfl
  have F21 := fun_mk (st := s_power) l21 c21 k21
  have b21 := F21.binds (ps := ["base", "exponent"]) fun _ _ _ _ _ _ us hl => by obtain ⟨z0_, z1_, rfl⟩ := lenK2 hl; rfl
  have F22 := fun_mk (st := s_grades_at) l22 c22 k22
  have b22 := F22.binds (ps := ["place", "many", "places"]) fun _ _ _ _ _ _ us hl => by obtain ⟨z0_, z1_, z2_, rfl⟩ := lenK3 hl; rfl
  have F23 := fun_mk (st := s_chain_cells) l23 c23 k23
  have b23 := F23.binds (ps := ["kind", "many", "name", "places"]) fun _ _ _ _ _ _ us hl => by obtain ⟨z0_, z1_, z2_, z3_, rfl⟩ := lenK4 hl; rfl
  have F24 := fun_mk (st := s_chain) l24 c24 k24
  have b24 := F24.binds (ps := ["kind", "many"]) fun _ _ _ _ _ _ us hl => by obtain ⟨z0_, z1_, rfl⟩ := lenK2 hl; rfl
  have F25 := fun_mk (st := s_cells_by_name) l25 c25 k25
  have b25 := F25.binds (ps := ["H"]) fun _ _ _ _ _ _ us hl => by obtain ⟨z0_, rfl⟩ := lenK1 hl; rfl
  have F26 := fun_mk (st := s_grade_within) l26 c26 k26
  have b26 := F26.binds (ps := ["cells", "many", "S", "grading"]) fun _ _ _ _ _ _ us hl => by obtain ⟨z0_, z1_, z2_, z3_, rfl⟩ := lenK4 hl; rfl
  have F27 := fun_mk (st := s_grade) l27 c27 k27
  have b27 := F27.binds (ps := ["T", "S", "grading"]) fun _ _ _ _ _ _ us hl => by obtain ⟨z0_, z1_, z2_, rfl⟩ := lenK3 hl; rfl
  have F28 := fun_mk (st := s_law_parts) l28 c28 k28
  have b28 := F28.binds (ps := ["_law_cell", "_law_sizes"]) fun _ _ _ _ _ _ us hl => by obtain ⟨z0_, z1_, rfl⟩ := lenK2 hl; rfl
  have F29 := fun_mk (st := s_law_letters) l29 c29 k29
  have b29 := F29.binds (ps := ["_law_xs", "_law_many"]) fun _ _ _ _ _ _ us hl => by obtain ⟨z0_, z1_, rfl⟩ := lenK2 hl; rfl
  have F30 := fun_mk (st := s_law_saying) l30 c30 k30
  have b30 := F30.binds (ps := ["_law_xs", "_law_at", "_law_deep", "_law_letters_here"]) fun _ _ _ _ _ _ us hl => by obtain ⟨z0_, z1_, z2_, z3_, rfl⟩ := lenK4 hl; rfl
  have F31 := fun_mk (st := s_law_low) l31 c31 k31
  have b31 := F31.binds (ps := ["_law_top", "_law_bottom"]) fun _ _ _ _ _ _ us hl => by obtain ⟨z0_, z1_, rfl⟩ := lenK2 hl; rfl
  have F32 := fun_mk (st := s_law_less) l32 c32 k32
  have b32 := F32.binds (ps := ["_law_one", "_law_other"]) fun _ _ _ _ _ _ us hl => by obtain ⟨z0_, z1_, rfl⟩ := lenK2 hl; rfl
  have F33 := fun_mk (st := s_law_joined) l33 c33 k33
  have b33 := F33.binds (ps := ["_law_kind", "_law_name", "_law_grades"]) fun _ _ _ _ _ _ us hl => by obtain ⟨z0_, z1_, z2_, rfl⟩ := lenK3 hl; rfl
  have F34 := fun_mk (st := s_law_grade) l34 c34 k34
  have b34 := F34.binds (ps := ["_law_kind", "_law_saying_here", "_law_grading"]) fun _ _ _ _ _ _ us hl => by obtain ⟨z0_, z1_, z2_, rfl⟩ := lenK3 hl; rfl
  have F35 := fun_mk (st := s_law) l35 c35 k35
  have b35 := F35.binds (ps := ["_law_script"]) fun _ _ _ _ _ _ us hl => by obtain ⟨z0_, rfl⟩ := lenK1 hl; rfl
  have gb : Gb mg := ⟨PySem.W.mg_none_of X G z0, PySem.W.mg_none_of X G z1, PySem.W.mg_none_of X G z2, PySem.W.mg_none_of X G z3, PySem.W.mg_none_of X G z4, PySem.W.mg_none_of X G z5, PySem.W.mg_none_of X G z6, PySem.W.mg_none_of X G z7, PySem.W.mg_none_of X G z8, PySem.W.mg_none_of X G z9, PySem.W.mg_none_of X G z10, PySem.W.mg_none_of X G z11, PySem.W.mg_none_of X G z12, ⟨_, PySem.W.mg_of X G y0, _, rfl⟩, ⟨_, PySem.W.mg_of X G y1, _, rfl⟩⟩
  obtain ⟨c, cl⟩ : ∃ c : Nat → Addr, Cl K mg c := ⟨fun i => [cc0, cc1, cc2, cc3, cc4, cc5, cc6, cc7, cc8].getD i 0, ⟨PySem.W.mg_of X G g0, PySem.W.mg_of X G g1, PySem.W.mg_of X G g2, PySem.W.mg_of X G g3, PySem.W.mg_of X G g4, PySem.W.mg_of X G g5, PySem.W.mg_of X G g6, PySem.W.mg_of X G g7, PySem.W.mg_of X G g8, w0, ⟨_, _, _, q0_h, rfl, rfl, small9 (by show 3 ≤ 1000; decide), .cons (⟨_, rfl⟩) (.cons (⟨_, rfl⟩) (.cons (⟨_, rfl⟩) (.nil)))⟩, ⟨_, _, _, _, _, _, _, ⟨_, _, _, q1_h, rfl, rfl, small9 (by show 7 ≤ 1000; decide), .cons (rfl) (.cons (rfl) (.cons (rfl) (.cons (rfl) (.cons (rfl) (.cons (rfl) (.cons (rfl) (.nil)))))))⟩, ⟨_, _, _, q1_0_h, rfl, rfl, small9 (by show 2 ≤ 1000; decide), .cons (⟨_, rfl⟩) (.cons (⟨_, rfl⟩) (.nil))⟩, ⟨_, _, _, q1_1_h, rfl, rfl, small9 (by show 2 ≤ 1000; decide), .cons (⟨_, rfl⟩) (.cons (⟨_, rfl⟩) (.nil))⟩, ⟨_, _, _, q1_2_h, rfl, rfl, small9 (by show 2 ≤ 1000; decide), .cons (⟨_, rfl⟩) (.cons (⟨_, rfl⟩) (.nil))⟩, ⟨_, _, _, q1_3_h, rfl, rfl, small9 (by show 2 ≤ 1000; decide), .cons (⟨_, rfl⟩) (.cons (⟨_, rfl⟩) (.nil))⟩, ⟨_, _, _, q1_4_h, rfl, rfl, small9 (by show 2 ≤ 1000; decide), .cons (⟨_, rfl⟩) (.cons (⟨_, rfl⟩) (.nil))⟩, ⟨_, _, _, q1_5_h, rfl, rfl, small9 (by show 2 ≤ 1000; decide), .cons (⟨_, rfl⟩) (.cons (⟨_, rfl⟩) (.nil))⟩, ⟨_, _, _, q1_6_h, rfl, rfl, small9 (by show 2 ≤ 1000; decide), .cons (⟨_, rfl⟩) (.cons (⟨_, rfl⟩) (.nil))⟩⟩, ⟨_, _, _, q2_h, rfl, rfl, small9 (by show 2 ≤ 1000; decide), .cons (⟨_, rfl⟩) (.cons (⟨_, rfl⟩) (.nil))⟩, ⟨_, _, _, q3_h, rfl, rfl, small9 (by show 2 ≤ 1000; decide), .cons (⟨_, rfl⟩) (.cons (⟨_, rfl⟩) (.nil))⟩⟩⟩
  refine ⟨PySem.W.fnOf "law" "law" (defArgs s_law) (defBody s_law) (defScope s_law) .none kV35 dc35 pm35 an35 cd35 ct35, fun s v => .of_eq rfl, fun base _ _ => ?_⟩
  have d_is_whole : Def l.prog w K mg base 1 "is_whole" ["thing"] spWholeT := ⟨f0, _, ok_is_whole F0 gb cl, PySem.W.mg_of X G a0, k0, b0⟩
  have d_shared_part : Def l.prog w K mg base 1 "shared_part" ["one", "other"] spShared := ⟨f1, _, ok_shared_part F1 gb cl, PySem.W.mg_of X G a1, k1, b1⟩
  have d_fraction : Def1 l.prog w K mg base 2 "fraction" ["top", "bottom"] (spFrac (c 1)) := ⟨f2, _, ok_fraction F2 gb cl d_is_whole d_shared_part, PySem.W.mg_of X G a2, k2, b2⟩
  have d_plus : Def l.prog w K mg base 3 "plus" ["a", "b"] (spR K (fun r s => r + s)) := ⟨f3, _, ok_plus F3 gb cl d_fraction, PySem.W.mg_of X G a3, k3, b3⟩
  have d_minus : Def l.prog w K mg base 3 "minus" ["a", "b"] (spR K (fun r s => r - s)) := ⟨f4, _, ok_minus F4 gb cl d_fraction, PySem.W.mg_of X G a4, k4, b4⟩
  have d_times : Def l.prog w K mg base 3 "times" ["a", "b"] (spR K (fun r s => r * s)) := ⟨f5, _, ok_times F5 gb cl d_fraction, PySem.W.mg_of X G a5, k5, b5⟩
  have d_over : Def l.prog w K mg base 3 "over" ["a", "b"] (spOverR K) := ⟨f6, _, ok_over F6 gb cl d_fraction, PySem.W.mg_of X G a6, k6, b6⟩
  have d_below : Def l.prog w K mg base 1 "below" ["a", "b"] (spBelow K) := ⟨f7, _, ok_below F7 gb cl, PySem.W.mg_of X G a7, k7, b7⟩
  have d_lesser : Def l.prog w K mg base 2 "lesser" ["a", "b"] (spLG K lessR) := ⟨f8, _, ok_lesser F8 gb cl d_below, PySem.W.mg_of X G a8, k8, b8⟩
  have d_greater : Def l.prog w K mg base 2 "greater" ["a", "b"] (spLG K greatR) := ⟨f9, _, ok_greater F9 gb cl d_below, PySem.W.mg_of X G a9, k9, b9⟩
  have d_connected_then : Def l.prog w K mg base 4 "connected_then" ["kind", "a", "b"] (spThen K thenR) := ⟨f10, _, ok_connected_then F10 gb cl d_below d_plus d_minus d_over, PySem.W.mg_of X G a10, k10, b10⟩
  have d_connected_with : Def l.prog w K mg base 4 "connected_with" ["kind", "a", "b"] (spThen K withR) := ⟨f11, _, ok_connected_with F11 gb cl d_lesser d_greater d_minus d_plus d_times, PySem.W.mg_of X G a11, k11, b11⟩
  have d_connected : Def l.prog w K mg base 5 "connected" ["kind", "name", "grades"] (spConn K) := ⟨f12, _, ok_connected F12 gb cl d_connected_then d_connected_with d_greater d_lesser, PySem.W.mg_of X G a12, k12, b12⟩
  have d_has_small_letters_alone : Def l.prog w K mg base 1 "has_small_letters_alone" ["text"] spSmall := ⟨f13, _, ok_has_small_letters_alone F13 gb cl, PySem.W.mg_of X G a13, k13, b13⟩
  have d_is_letter : Def l.prog w K mg base 2 "is_letter" ["thing"] spIsL := ⟨f14, _, ok_is_letter F14 gb cl d_has_small_letters_alone, PySem.W.mg_of X G a14, k14, b14⟩
  have d_check_kind : Def l.prog w K mg base 1 "check_kind" ["kind"] spKindQ := ⟨f15, _, ok_check_kind F15 gb cl, PySem.W.mg_of X G a15, k15, b15⟩
  have d_written_parts : Def l.prog w K mg base 3 "written_parts" ["S"] spWritten := ⟨f16, _, ok_written_parts F16 gb cl d_is_letter, PySem.W.mg_of X G a16, k16, b16⟩
  have d_check_names : Def l.prog w K mg base 3 "check_names" ["shapes", "parts"] (spChkN2 (c 6)) := ⟨f17, _, ok_check_names F17 gb cl d_is_letter, PySem.W.mg_of X G a17, k17, b17⟩
  have d_check_letters : Def l.prog w K mg base 3 "check_letters" ["parts", "known"] spChkL2 := ⟨f18, _, ok_check_letters F18 gb cl d_is_letter, PySem.W.mg_of X G a18, k18, b18⟩
  have r_graded : ∀ j, Def l.prog w K mg base (6 + j) "graded" ["kind", "S", "grading"] ((spGraded K) j) := fun j => by
    induction j with
    | zero => exact ⟨f19, _, ⟨fun _ _ _ _ h => False.elim h, fun _ _ _ _ _ _ _ _ _ _ _ _ _ h => False.elim h⟩, PySem.W.mg_of X G a19, k19, b19⟩
    | succ j ih => exact ⟨f19, _, ok_graded F19 gb cl d_is_letter d_connected j ih, PySem.W.mg_of X G a19, k19, b19⟩
  have d_graded := r_graded 6
  have d_grade_by : Def l.prog w K mg base 13 "grade_by" ["kind", "S", "grading"] (spGB K) := ⟨f20, _, ok_grade_by F20 gb cl d_check_kind d_written_parts d_check_names d_check_letters d_graded, PySem.W.mg_of X G a20, k20, b20⟩
  have d_power : Def l.prog w K mg base 1 "power" ["base", "exponent"] spPower := ⟨f21, _, ok_power F21 gb cl, PySem.W.mg_of X G a21, k21, b21⟩
  have r_grades_at : ∀ j, Def l.prog w K mg base (1 + j) "grades_at" ["place", "many", "places"] (spGA j) := fun j => by
    induction j with
    | zero => exact ⟨f22, _, ⟨fun _ _ _ _ h => False.elim h, fun _ _ _ _ _ _ _ _ _ _ _ _ _ h => False.elim h⟩, PySem.W.mg_of X G a22, k22, b22⟩
    | succ j ih => exact ⟨f22, _, ok_grades_at F22 gb cl j ih, PySem.W.mg_of X G a22, k22, b22⟩
  have d_grades_at := r_grades_at 3
  have d_chain_cells : Def l.prog w K mg base 6 "chain_cells" ["kind", "many", "name", "places"] spCells := ⟨f23, _, ok_chain_cells F23 gb cl d_power d_fraction d_connected d_grades_at, PySem.W.mg_of X G a23, k23, b23⟩
  have d_chain : Def l.prog w K mg base 7 "chain" ["kind", "many"] spChainQ := ⟨f24, _, ok_chain F24 gb cl d_check_kind d_is_whole d_chain_cells, PySem.W.mg_of X G a24, k24, b24⟩
  have d_cells_by_name : Def l.prog w K mg base 1 "cells_by_name" ["H"] spCBN := ⟨f25, _, ok_cells_by_name F25 gb cl, PySem.W.mg_of X G a25, k25, b25⟩
  have r_grade_within : ∀ j, Def l.prog w K mg base (3 + j) "grade_within" ["cells", "many", "S", "grading"] (spGW j) := fun j => by
    induction j with
    | zero => exact ⟨f26, _, ⟨fun _ _ _ _ h => False.elim h, fun _ _ _ _ _ _ _ _ _ _ _ _ _ h => False.elim h⟩, PySem.W.mg_of X G a26, k26, b26⟩
    | succ j ih => exact ⟨f26, _, ok_grade_within F26 gb cl d_is_letter j ih, PySem.W.mg_of X G a26, k26, b26⟩
  have d_grade_within := r_grade_within 6
  have d_grade : Def l.prog w K mg base 10 "grade" ["T", "S", "grading"] spGrade := ⟨f27, _, ok_grade F27 gb cl d_written_parts d_cells_by_name d_check_names d_check_letters d_grade_within, PySem.W.mg_of X G a27, k27, b27⟩
  have d_law_parts : Def l.prog w K mg base 1 "_law_parts" ["_law_cell", "_law_sizes"] spParts := ⟨f28, _, ok_law_parts F28 gb cl, PySem.W.mg_of X G a28, k28, b28⟩
  have d_law_letters : Def l.prog w K mg base 1 "_law_letters" ["_law_xs", "_law_many"] spLetters := ⟨f29, _, ok_law_letters F29 gb cl, PySem.W.mg_of X G a29, k29, b29⟩
  have r_law_saying : ∀ j, Def l.prog w K mg base (1 + j) "_law_saying" ["_law_xs", "_law_at", "_law_deep", "_law_letters_here"] (spSaying j) := fun j => by
    induction j with
    | zero => exact ⟨f30, _, ⟨fun _ _ _ _ h => False.elim h, fun _ _ _ _ _ _ _ _ _ _ _ _ _ h => False.elim h⟩, PySem.W.mg_of X G a30, k30, b30⟩
    | succ j ih => exact ⟨f30, _, ok_law_saying F30 gb cl j ih, PySem.W.mg_of X G a30, k30, b30⟩
  have d_law_saying := r_law_saying 5
  have d_law_low : Def l.prog w K mg base 1 "_law_low" ["_law_top", "_law_bottom"] (spLow K) := ⟨f31, _, ok_law_low F31 gb cl, PySem.W.mg_of X G a31, k31, b31⟩
  have d_law_less : Def l.prog w K mg base 1 "_law_less" ["_law_one", "_law_other"] (spBelow K) := ⟨f32, _, ok_law_less F32 gb cl, PySem.W.mg_of X G a32, k32, b32⟩
  have d_law_joined : Def l.prog w K mg base 2 "_law_joined" ["_law_kind", "_law_name", "_law_grades"] (spConn K) := ⟨f33, _, ok_law_joined F33 gb cl d_law_low d_law_less, PySem.W.mg_of X G a33, k33, b33⟩
  have r_law_grade : ∀ j, Def l.prog w K mg base (3 + j) "_law_grade" ["_law_kind", "_law_saying_here", "_law_grading"] ((spGraded K) j) := fun j => by
    induction j with
    | zero => exact ⟨f34, _, ⟨fun _ _ _ _ h => False.elim h, fun _ _ _ _ _ _ _ _ _ _ _ _ _ h => False.elim h⟩, PySem.W.mg_of X G a34, k34, b34⟩
    | succ j ih => exact ⟨f34, _, ok_law_grade F34 gb cl d_law_joined j ih, PySem.W.mg_of X G a34, k34, b34⟩
  have d_law_grade := r_law_grade 6
  exact ok_law F35 gb cl d_law_parts d_law_letters d_law_low d_chain d_grade d_grade_by d_law_saying d_law_grade
theorem walk {l : PySem.W.OpenLaw} {q : Program} {loose : List Str} {XP : (Str → Option Value) → Heap → Prop} {YP : World → Heap → Prop} {d : DefRec} {K : Params → PySem.W.Frag} (hn : l.most = some 63) (hdf : d.params.defaults = [])
    (hY : ∀ (w : World) (h : Heap), YP w h → (K w.params).In h)
    (F : ∀ (w : World) (mg : Str → Option Value) (fa : Addr) (h : Heap), (K w.params).In h → h.Ns mainGlobals mg → mg d.name = some (.ref fa) →
      ∃ fd : FuncData, (∀ (s : Shared) (u : Value), BindsTo s fd ⟨[u], []⟩ [("_law_script", u)]) ∧ ∀ base : Heap, (K w.params).In base → base.Ns mainGlobals mg → FnOk l.prog w (K w.params) mg base CX0 15 fa fd ["_law_script"] (spLaw (K w.params))) :
    PySem.W.WalkO q loose XP YP l.row.toRowW d [] (fun f vs => PySem.call f vs) :=
  L2.walk_of (n := 63) (k := 15) (x := "_law_script") (CX := fun _ => CX0) (sp := fun w => spLaw (K w.params)) hn (by decide) hdf ⟨rfl, by decide, by decide⟩ hY F (fun _ _ a ns hl _ hS => ⟨a, ns, rfl, hS, hl, fun _ => rfl⟩) fun _ _ _ _ _ z => z
end K44
open PySem PySem.W PyProof.Rows
-- This name is taken so that no faster copy of the heap's constant is laid by the head: nothing in the proof uses
-- that copy, and with it the compiled file has over 64 MB. The proof does not use the name either.
theorem PySem.W.Fast.tw17891237349124391931 : True := trivial
set_option maxRecDepth 100000 in
set_option maxHeartbeats 0 in
theorem PySem.Challenge.cw_truthgrades_k44_whole_chains_in_steps_holds : PySem.Challenge.rw_truthgrades_k44_whole_chains_in_steps.Holds := by
  w_on; o_law; k_head; (case hw => w_witness2)
  k_fill
  refine K44.walk (l := PySem.Challenge.rw_truthgrades_k44_whole_chains_in_steps) rfl rfl (fun w h Y => PySem.W.kIn_of Y) ?F
  case F =>
    intro w mg fa h KX G hmg
    refine' K44.all_mk KX G hmg ?a0 ?l0 ?c0 ?k0 ?a1 ?l1 ?c1 ?k1 ?a2 ?l2 ?c2 ?k2 ?a3 ?l3 ?c3 ?k3 ?a4 ?l4 ?c4 ?k4 ?a5 ?l5 ?c5 ?k5 ?a6 ?l6 ?c6 ?k6 ?a7 ?l7 ?c7 ?k7 ?a8 ?l8 ?c8 ?k8 ?a9 ?l9 ?c9 ?k9 ?a10 ?l10 ?c10 ?k10 ?a11 ?l11 ?c11 ?k11 ?a12 ?l12 ?c12 ?k12 ?a13 ?l13 ?c13 ?k13 ?a14 ?l14 ?c14 ?k14 ?a15 ?l15 ?c15 ?k15 ?a16 ?l16 ?c16 ?k16 ?a17 ?l17 ?c17 ?k17 ?a18 ?l18 ?c18 ?k18 ?a19 ?l19 ?c19 ?k19 ?a20 ?l20 ?c20 ?k20 ?a21 ?l21 ?c21 ?k21 ?a22 ?l22 ?c22 ?k22 ?a23 ?l23 ?c23 ?k23 ?a24 ?l24 ?c24 ?k24 ?a25 ?l25 ?c25 ?k25 ?a26 ?l26 ?c26 ?k26 ?a27 ?l27 ?c27 ?k27 ?a28 ?l28 ?c28 ?k28 ?a29 ?l29 ?c29 ?k29 ?a30 ?l30 ?c30 ?k30 ?a31 ?l31 ?c31 ?k31 ?a32 ?l32 ?c32 ?k32 ?a33 ?l33 ?c33 ?k33 ?a34 ?l34 ?c34 ?k34 ?a35 ?l35 ?c35 ?k35 ?z0 ?z1 ?z2 ?z3 ?z4 ?z5 ?z6 ?z7 ?z8 ?z9 ?z10 ?z11 ?z12 ?y0 ?y1 ?gg0 ?gg1 ?gg2 ?gg3 ?gg4 ?gg5 ?gg6 ?gg7 ?gg8 ?ww0 ?hh0 ?hh1 ?hh2 ?hh3 ?hh4 ?hh5 ?hh6 ?hh7 ?hh8 ?hh9 ?hh10
    (case a0 => k_is); (case l0 => k_is); (case c0 => k_is); (case k0 => k_is)
    (case a1 => k_is); (case l1 => k_is); (case c1 => k_is); (case k1 => k_is)
    (case a2 => k_is); (case l2 => k_is); (case c2 => k_is); (case k2 => k_is)
    (case a3 => k_is); (case l3 => k_is); (case c3 => k_is); (case k3 => k_is)
    (case a4 => k_is); (case l4 => k_is); (case c4 => k_is); (case k4 => k_is)
    (case a5 => k_is); (case l5 => k_is); (case c5 => k_is); (case k5 => k_is)
    (case a6 => k_is); (case l6 => k_is); (case c6 => k_is); (case k6 => k_is)
    (case a7 => k_is); (case l7 => k_is); (case c7 => k_is); (case k7 => k_is)
    (case a8 => k_is); (case l8 => k_is); (case c8 => k_is); (case k8 => k_is)
    (case a9 => k_is); (case l9 => k_is); (case c9 => k_is); (case k9 => k_is)
    (case a10 => k_is); (case l10 => k_is); (case c10 => k_is); (case k10 => k_is)
    (case a11 => k_is); (case l11 => k_is); (case c11 => k_is); (case k11 => k_is)
    (case a12 => k_is); (case l12 => k_is); (case c12 => k_is); (case k12 => k_is)
    (case a13 => k_is); (case l13 => k_is); (case c13 => k_is); (case k13 => k_is)
    (case a14 => k_is); (case l14 => k_is); (case c14 => k_is); (case k14 => k_is)
    (case a15 => k_is); (case l15 => k_is); (case c15 => k_is); (case k15 => k_is)
    (case a16 => k_is); (case l16 => k_is); (case c16 => k_is); (case k16 => k_is)
    (case a17 => k_is); (case l17 => k_is); (case c17 => k_is); (case k17 => k_is)
    (case a18 => k_is); (case l18 => k_is); (case c18 => k_is); (case k18 => k_is)
    (case a19 => k_is); (case l19 => k_is); (case c19 => k_is); (case k19 => k_is)
    (case a20 => k_is); (case l20 => k_is); (case c20 => k_is); (case k20 => k_is)
    (case a21 => k_is); (case l21 => k_is); (case c21 => k_is); (case k21 => k_is)
    (case a22 => k_is); (case l22 => k_is); (case c22 => k_is); (case k22 => k_is)
    (case a23 => k_is); (case l23 => k_is); (case c23 => k_is); (case k23 => k_is)
    (case a24 => k_is); (case l24 => k_is); (case c24 => k_is); (case k24 => k_is)
    (case a25 => k_is); (case l25 => k_is); (case c25 => k_is); (case k25 => k_is)
    (case a26 => k_is); (case l26 => k_is); (case c26 => k_is); (case k26 => k_is)
    (case a27 => k_is); (case l27 => k_is); (case c27 => k_is); (case k27 => k_is)
    (case a28 => k_is); (case l28 => k_is); (case c28 => k_is); (case k28 => k_is)
    (case a29 => k_is); (case l29 => k_is); (case c29 => k_is); (case k29 => k_is)
    (case a30 => k_is); (case l30 => k_is); (case c30 => k_is); (case k30 => k_is)
    (case a31 => k_is); (case l31 => k_is); (case c31 => k_is); (case k31 => k_is)
    (case a32 => k_is); (case l32 => k_is); (case c32 => k_is); (case k32 => k_is)
    (case a33 => k_is); (case l33 => k_is); (case c33 => k_is); (case k33 => k_is)
    (case a34 => k_is); (case l34 => k_is); (case c34 => k_is); (case k34 => k_is)
    (case a35 => k_is); (case l35 => k_is); (case c35 => k_is); (case k35 => k_is)
    (case z0 => k_is)
    (case z1 => k_is)
    (case z2 => k_is)
    (case z3 => k_is)
    (case z4 => k_is)
    (case z5 => k_is)
    (case z6 => k_is)
    (case z7 => k_is)
    (case z8 => k_is)
    (case z9 => k_is)
    (case z10 => k_is)
    (case z11 => k_is)
    (case z12 => k_is)
    (case y0 => k_is)
    (case y1 => k_is)
    (case gg0 => k_is)
    (case gg1 => k_is)
    (case gg2 => k_is)
    (case gg3 => k_is)
    (case gg4 => k_is)
    (case gg5 => k_is)
    (case gg6 => k_is)
    (case gg7 => k_is)
    (case gg8 => k_is)
    (case ww0 => first | k_is | kit_is | kernel_rfl)
    (case hh0 => k_is)
    (case hh1 => k_is)
    (case hh2 => k_is)
    (case hh3 => k_is)
    (case hh4 => k_is)
    (case hh5 => k_is)
    (case hh6 => k_is)
    (case hh7 => k_is)
    (case hh8 => k_is)
    (case hh9 => k_is)
    (case hh10 => k_is)
